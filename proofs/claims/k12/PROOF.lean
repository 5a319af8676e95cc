import PyProof.Rows.All
import Wide.All
import OpenK.AllK
import Wide.FinOn
import PyProof.ReprRoads
import HandS.ForMost
import HandS.DeepEq
import HandS.Ends
import HandS.Wide
import HandS.Codes
import KE.KEqNest
import HandS.IsInst
import HandS.TupAny
import HandS.Conv
import KE.SortData
import HandS.DictTup
import PyProof.DictUpdate
import KE.KItemsList
import KE.KDictSum
import HandS.Strs
import HandS.SetFor
import HandS.SortInts
import KE.GoesMore
import KE.GoesEnum
import HandS.Iter
import HandS.Walk
import KE.GoesNew
import HandS.Zip
import HandS.Sort
import PyProof.SumWalkG
import HandS.TupMul
import HandS.More
import HandS.Text
import PyProof.SliceList
import HandS.SetTxt0
import HandS.Set
import HandS.SetKeys
import HandS.Style
import PySem.Challenge.RW_nightstairs_k12_greatest_throughs
set_option Elab.async false
set_option linter.all false
set_option maxRecDepth 100000
set_option pp.maxSteps 150
set_option pp.deepTerms false
set_option maxHeartbeats 8000000
/-! NsA: data as a whole over the abstract heap; its repr; its ==. -/
namespace Ns
open PySem PySem.Spec PyProof.Rows L2

/-- a key as data -/
def kD : Key → PyData
  | .inl i => .int i
  | .inr x => .str x

mutual
/-- the value x is the datum d -/
inductive DatV (K : PySem.W.Frag) (H : Hp) : V → PyData → Prop
  | non : DatV K H .non .none
  | bl (b : Bool) : DatV K H (.bl b) (.bool b)
  | int (i : Int) : DatV K H (.int i) (.int i)
  | str (x : Str) : DatV K H (.str x) (.str x)
  | lst {a : Addr} {xs : List V} {ds : List PyData} : SqL K H a xs → DatA K H xs ds → DatV K H (.ref a) (.list ds)
  | tup {a : Addr} {xs : List V} {ds : List PyData} : SqT K H a xs → DatA K H xs ds → DatV K H (.ref a) (.tuple ds)
  | dic {a : Addr} {kvs : List (Key × V)} {ds : List PyData} : H a = some (.dK kvs) → DatA K H (kvs.map (·.2)) ds → DatV K H (.ref a) (.dict ((kvs.map fun p => kD p.1).zip ds))
inductive DatA (K : PySem.W.Frag) (H : Hp) : List V → List PyData → Prop
  | nil : DatA K H [] []
  | cons {x : V} {d : PyData} {xs : List V} {ds : List PyData} : DatV K H x d → DatA K H xs ds → DatA K H (x :: xs) (d :: ds)
end

theorem DatA.len {K : PySem.W.Frag} {H : Hp} : ∀ {xs : List V} {ds : List PyData}, DatA K H xs ds → xs.length = ds.length
  | _, _, .nil => rfl
  | _, _, .cons _ t => by rw [List.length_cons, List.length_cons, t.len]

mutual
/-- what stood stands: the datum too -/
theorem DatV.more {K : PySem.W.Frag} {H H' : Hp} (m : Same H H') : ∀ {x : V} {d : PyData}, DatV K H x d → DatV K H' x d
  | _, _, .non => .non
  | _, _, .bl b => .bl b
  | _, _, .int i => .int i
  | _, _, .str x => .str x
  | _, _, .lst h t => .lst (m.seq h) (t.more m)
  | _, _, .tup h t => .tup (h.elim (fun z => .inl (z.elim (fun z => .inl (m _ _ z)) fun ⟨o, z⟩ => .inr ⟨o, m _ _ z⟩)) .inr) (t.more m)
  | _, _, .dic h t => .dic (m _ _ h) (t.more m)
theorem DatA.more {K : PySem.W.Frag} {H H' : Hp} (m : Same H H') : ∀ {xs : List V} {ds : List PyData}, DatA K H xs ds → DatA K H' xs ds
  | _, _, .nil => .nil
  | _, _, .cons h t => .cons (h.more m) (t.more m)
end

theorem map_fst_zip {α β : Type} : ∀ {as : List α} {bs : List β}, as.length = bs.length → (as.zip bs).map (·.1) = as
  | [], [], _ => rfl
  | a :: as, b :: bs, h => by
    have h' : as.length = bs.length := by simpa using h
    simp [map_fst_zip h']
theorem map_snd_zip {α β : Type} : ∀ {as : List α} {bs : List β}, as.length = bs.length → (as.zip bs).map (·.2) = bs
  | [], [], _ => rfl
  | a :: as, b :: bs, h => by
    have h' : as.length = bs.length := by simpa using h
    simp [map_snd_zip h']

section
variable {X : Cx} {pins : List (Addr × Obj)} {σ : L2.St} {H : Hp} {s : Shared}

/-- the keys of a dict's entries are read -/
theorem keys_read {h : Heap} {P : Program} {w : World} : ∀ {es : List DictEntry} {vs : List (Key × Value)}, Pairs (mixKind P w) es vs → ReadsAll h (es.map (·.key)) (vs.map fun p => kD p.1) []
  | _, _, .nil => .nil
  | e :: es, kv :: vs, .cons h1 _ t => by
    have q : Reads h e.key (kD kv.1) [] := by
      rcases keyIs_shape (show keyIs kv.1 e.key = true from h1) with ⟨i, t, ek, ev⟩ | ⟨x, t, ek, ev⟩
      · rw [ek, ev]; exact .int i t
      · rw [ek, ev]; exact .str x t
    exact ReadsAll.cons (as := []) (bs := []) q (keys_read t)
theorem pairs_vals {P : Program} {w : World} : ∀ {es : List DictEntry} {vs : List (Key × Value)}, Pairs (mixKind P w) es vs → es.map (·.val) = vs.map (·.2)
  | _, _, .nil => rfl
  | e :: es, kv :: vs, .cons _ h2 t => by
    rw [List.map_cons, List.map_cons, h2, pairs_vals t]
theorem kv_fst : ∀ {ks : List (Key × V)} {vs : List (Key × Value)}, KV ks vs → vs.map (fun p => kD p.1) = ks.map fun p => kD p.1
  | _, _, .nil => rfl
  | _, _, .cons h t => by rw [List.map_cons, List.map_cons, h.1, kv_fst t]
theorem kv_vals : ∀ {ks : List (Key × V)} {vs : List (Key × Value)}, KV ks vs → Vals (ks.map (·.2)) (vs.map (·.2))
  | _, _, .nil => .nil
  | _, _, .cons h t => .cons h.2 (kv_vals t)

mutual
/-- what the heap reads of it -/
theorem reads_of (I : Inv X pins σ H s) : ∀ {x : V} {d : PyData}, DatV X.K H x d → ∀ {v : Value}, RelV x v → ∃ as, Reads s.heap v d as
  | _, _, .non, v, r => by cases (show v = Value.none from r); exact ⟨_, .none⟩
  | _, _, .bl b, v, r => by cases (show v = Value.bool b from r); exact ⟨_, .bool b⟩
  | _, _, .int i, v, r => by obtain ⟨t, rfl⟩ := (show ∃ t, v = Value.int i t from r); exact ⟨_, .int i t⟩
  | _, _, .str x, v, r => by obtain ⟨t, rfl⟩ := (show ∃ t, v = Value.str x t from r); exact ⟨_, .str x t⟩
  | _, _, .lst (a := a) h t, v, r => by
    cases (show v = Value.ref a from r)
    obtain ⟨its, rv, ⟨o, n, h1, h2, h3, h4⟩, _⟩ := I.list h
    obtain ⟨as, q⟩ := readsA_of I t rv
    exact ⟨_, .list h1 h2 (by first | exact h3 | exact h4) (by simpa using q)⟩
  | _, _, .tup (a := a) h t, v, r => by
    cases (show v = Value.ref a from r)
    obtain ⟨its, rv, ⟨o, h1, h2, n, h3⟩, _⟩ := I.tuple h
    obtain ⟨as, q⟩ := readsA_of I t rv
    exact ⟨_, .tuple h1 h2 h3 (by simpa using q)⟩
  | _, _, .dic (a := a) (kvs := kvs) (ds := ds) h t, v, r => by
    cases (show v = Value.ref a from r)
    obtain ⟨_, _, vs, rv, o, es, ep, h1, h2, h3, _, h5, _⟩ := (show ObjOk X.prog X.w H s.heap a (.dK kvs) from I.hok a _ h)
    obtain ⟨as, q⟩ := readsA_of I t (kv_vals rv)
    have hl : (kvs.map fun p => kD p.1).length = ds.length := by
      have z := t.len
      rw [List.length_map] at z ⊢
      exact z
    refine ⟨_, Reads.dict (as := []) (bs := as) h1 h2.1 h3 ?_ ?_⟩
    · rw [map_fst_zip hl, ← kv_fst rv]
      exact keys_read h5
    · rw [map_snd_zip hl, pairs_vals h5]
      exact q
theorem readsA_of (I : Inv X pins σ H s) : ∀ {xs : List V} {ds : List PyData}, DatA X.K H xs ds → ∀ {us : List Value}, Vals xs us → ∃ as, ReadsAll s.heap us ds as
  | _, _, .nil, us, r => by cases r; exact ⟨_, .nil⟩
  | _, _, .cons h t, us, r => by
    cases r with
    | cons r1 r2 =>
      obtain ⟨as, q⟩ := reads_of I h r1
      obtain ⟨bs, q2⟩ := readsA_of I t r2
      exact ⟨_, .cons q q2⟩
end
end
end Ns

/-! NsB: repr of data. -/
namespace Ns
open PySem PySem.Spec PyProof.Rows L2
section
variable {X : Cx} {pins : List (Addr × Obj)} {σ : L2.St} {H : Hp} {s : Shared}

theorem zip_kv : ∀ {as : List Key} {ds : List PyData}, as.length = ds.length → ((as.map kD).zip ds).map (·.1) = as.map kD := fun {as ds} h => map_fst_zip (by rw [List.length_map]; exact h)

theorem kv_of_zip {α : Type} {f : α → PyData} {l : List α} {ds : List PyData} (h : l.length = ds.length) : (((l.map f).zip ds).map (·.1) = l.map f) ∧ (((l.map f).zip ds).map (·.2) = ds) :=
  ⟨map_fst_zip (by rw [List.length_map]; exact h), map_snd_zip (by rw [List.length_map]; exact h)⟩

/-- keys show themselves, whatever stands -/
theorem keys_shown {P : Program} {w : World} {h : Heap} {n : Nat} : ∀ {es : List DictEntry} {vs : List (Key × Value)}, Pairs (mixKind P w) es vs → (∀ p ∈ vs, (kD p.1).showable = true ∧ (kD p.1).shown.length ≤ sizeLine) →
    ReprAllK P w [] h n (es.map (·.key)) (PyData.shownAll (vs.map fun p => kD p.1))
  | _, _, .nil, _ => by simp only [List.map_nil, PyData.shownAll]; exact .nil
  | e :: es, kv :: vs, .cons h1 _ t, hz => by
    rw [List.map_cons, List.map_cons, PyData.shownAll_cons]
    obtain ⟨z1, z2⟩ := hz kv List.mem_cons_self
    refine .cons (ReprK.of_is ?_ _ _ _) (keys_shown t fun p hp => hz p (List.mem_cons_of_mem _ hp))
    rcases keyIs_shape (show keyIs kv.1 e.key = true from h1) with ⟨i, tk, ek, ev⟩ | ⟨x, tk, ek, ev⟩
    · rw [ek] at z1 ⊢
      rw [ev]
      show ReprIs P w _ (PyData.int i).shown
      rw [PyData.shown_int]
      exact ReprIs.int tk (of_decide_eq_true (by simpa [kD, PyData.showable] using z1))
    · rw [ek] at z2 ⊢
      rw [ev]
      show ReprIs P w _ (PyData.str x).shown
      have z2' : (PyData.str x).shown.length ≤ sizeLine := z2
      rw [PyData.shown_str] at z2' ⊢
      exact ReprIs.str x tk z2'

theorem all_of : ∀ {l : List PyData}, PyData.showableAll l = true → ∀ d ∈ l, d.showable = true
  | [], _, _, hd => nomatch hd
  | x :: l, h, d, hd => by
    have h' : x.showable = true ∧ PyData.showableAll l = true := by simpa [PyData.showableAll] using h
    rcases List.mem_cons.mp hd with e | e
    · rw [e]; exact h'.1
    · exact all_of h'.2 d e
theorem shown_mem : ∀ {l : List PyData} {d : PyData}, d ∈ l → d.shown ∈ PyData.shownAll l
  | [], _, h => nomatch h
  | x :: l, d, h => by
    rw [PyData.shownAll_cons]
    rcases List.mem_cons.mp h with e | e
    · rw [e]; exact List.mem_cons_self
    · exact List.mem_cons_of_mem _ (shown_mem e)

mutual
theorem reprK_of (I : Inv X pins σ H s) : ∀ {x : V} {d : PyData}, DatV X.K H x d → ∀ {v : Value}, RelV x v → d.showable = true → d.shown.length ≤ sizeLine →
    ∃ bs, ReadAtMost s.heap d.depth bs ∧ ReprK X.prog X.w bs s.heap d.depth v d.shown
  | _, _, .non, v, r, _, _ => by
    cases (show v = Value.none from r)
    exact ⟨[], (fun _ z => nomatch z), by rw [PyData.shown_none]; exact .of_is ReprIs.none _ _ _⟩
  | _, _, .bl b, v, r, _, _ => by
    cases (show v = Value.bool b from r)
    refine ⟨[], (fun _ z => nomatch z), ?_⟩
    simp only [PyData.shown]
    exact .of_is (ReprIs.bool b) _ _ _
  | _, _, .int i, v, r, hs, _ => by
    obtain ⟨t, rfl⟩ := (show ∃ t, v = Value.int i t from r)
    refine ⟨[], (fun _ z => nomatch z), ?_⟩
    rw [PyData.shown_int]
    exact .of_is (ReprIs.int t (by simpa [PyData.showable] using hs)) _ _ _
  | _, _, .str x, v, r, _, hz => by
    obtain ⟨t, rfl⟩ := (show ∃ t, v = Value.str x t from r)
    refine ⟨[], (fun _ z => nomatch z), ?_⟩
    rw [PyData.shown_str] at hz ⊢
    exact .of_is (ReprIs.str x t hz) _ _ _
  | _, _, .lst (a := a) (ds := ds) h t, v, r, hs, hz => by
    cases (show v = Value.ref a from r)
    have hz1 : (listText (PyData.shownAll ds)).length ≤ sizeLine := by simpa only [PyData.shown] using hz
    have hs1 : PyData.showableAll ds = true := by simpa [PyData.showable] using hs
    obtain ⟨as, rd⟩ := reads_of I (.lst h t) (v := .ref a) rfl
    obtain ⟨its, rv, ⟨o, n, h1, h2, h3, h4⟩, _⟩ := I.list h
    have h5 : o.data = .seq its.toArray n := by first | exact h3 | exact h4
    obtain ⟨bs, hb, hk⟩ := reprA_of I t rv hs1 fun u hu => Nat.le_trans (listText_mem_le hu) hz1
    have dp : (PyData.list ds).depth = PyData.depthAll ds + 1 := by simp only [PyData.depth] <;> omega
    have hna : a ∉ bs := not_mem_of_deeper rd (by rw [dp]; omega) hb
    refine ⟨a :: bs, ReadAtMost.cons rd (by rw [dp]; omega) hb, ?_⟩
    rw [dp]
    simp only [PyData.shown]
    cases its with
    | nil =>
      have e0 : PyData.shownAll ds = [] := List.length_eq_zero_iff.mp (by simpa using hk.length_eq)
      rw [e0, listText_nil]
      exact ReprK.listEmpty h1 h2 h5
    | cons y l => exact ReprK.list h1 h2 h5 hna (by simpa using hk.length_eq) fun i u e => hk.item i u (by simpa using e)
  | _, _, .tup (a := a) (ds := ds) h t, v, r, hs, hz => by
    cases (show v = Value.ref a from r)
    have hz1 : (tupleText (PyData.shownAll ds)).length ≤ sizeLine := by simpa only [PyData.shown] using hz
    have hs1 : PyData.showableAll ds = true := by simpa [PyData.showable] using hs
    obtain ⟨as, rd⟩ := reads_of I (.tup h t) (v := .ref a) rfl
    obtain ⟨its, rv, ⟨o, h1, h2, n, h3⟩, _⟩ := I.tuple h
    obtain ⟨bs, hb, hk⟩ := reprA_of I t rv hs1 fun u hu => Nat.le_trans (tupleText_mem_le hu) hz1
    have dp : (PyData.tuple ds).depth = PyData.depthAll ds + 1 := by simp only [PyData.depth] <;> omega
    have hna : a ∉ bs := not_mem_of_deeper rd (by rw [dp]; omega) hb
    refine ⟨a :: bs, ReadAtMost.cons rd (by rw [dp]; omega) hb, ?_⟩
    rw [dp]
    simp only [PyData.shown]
    exact ReprK.tuple h1 h2 h3 hna (by simpa using hk)
  | _, _, .dic (a := a) (kvs := kvs) (ds := ds) h t, v, r, hs, hz => by
    cases (show v = Value.ref a from r)
    have hl : kvs.length = ds.length := by
      have z := t.len
      rw [List.length_map] at z
      exact z
    obtain ⟨e1, e2⟩ := kv_of_zip (f := fun p : Key × V => kD p.1) (l := kvs) hl
    have hz1 : (dictText (PyData.shownKv ((kvs.map fun p => kD p.1).zip ds))).length ≤ sizeLine := by simpa only [PyData.shown] using hz
    have hs1 : PyData.showableKv ((kvs.map fun p => kD p.1).zip ds) = true := by simpa [PyData.showable] using hs
    obtain ⟨s1, s2⟩ := PyData.showableKv_split _ hs1
    rw [e1] at s1
    rw [e2] at s2
    obtain ⟨as, rd⟩ := reads_of I (.dic h t) (v := .ref a) rfl
    obtain ⟨_, hsy, vs, rv, o, es, ep, h1, h2, h3, _, h5, _⟩ := (show ObjOk X.prog X.w H s.heap a (.dK kvs) from I.hok a _ h)
    have vl : ∀ u ∈ PyData.shownAll ds, u.length ≤ sizeLine := fun u hu => by
      obtain ⟨p, hp, hq⟩ := PyData.shownKv_val_le _ u (by rw [e2]; exact hu)
      exact Nat.le_trans hq (Nat.le_trans (dictText_mem_le hp) hz1)
    have kl : ∀ u ∈ PyData.shownAll (kvs.map fun p => kD p.1), u.length ≤ sizeLine := fun u hu => by
      obtain ⟨p, hp, hq⟩ := PyData.shownKv_key_le _ u (by rw [e1]; exact hu)
      exact Nat.le_trans hq (Nat.le_trans (dictText_mem_le hp) hz1)
    obtain ⟨bs, hb, hk⟩ := reprA_of I t (kv_vals rv) s2 vl
    have kk : ReprAllK X.prog X.w [] s.heap (PyData.depthKv ((kvs.map fun p => kD p.1).zip ds)) (es.toList.map (·.key)) (PyData.shownAll (kvs.map fun p => kD p.1)) := by
      rw [← kv_fst rv]
      refine keys_shown h5 fun p hp => ?_
      have hm : kD p.1 ∈ kvs.map fun p => kD p.1 := by
        rw [← kv_fst rv]
        exact List.mem_map.mpr ⟨p, hp, rfl⟩
      exact ⟨all_of s1 _ hm, kl _ (shown_mem hm)⟩
    have dv : PyData.depthAll ds ≤ PyData.depthKv ((kvs.map fun p => kD p.1).zip ds) := by
      have z := PyData.depthAll_vals_le ((kvs.map fun p => kD p.1).zip ds)
      rw [e2] at z
      exact z
    have hb2 : ReadAtMost s.heap (PyData.depthKv ((kvs.map fun p => kD p.1).zip ds)) bs := hb.mono dv
    have dp : (PyData.dict ((kvs.map fun p => kD p.1).zip ds)).depth = PyData.depthKv ((kvs.map fun p => kD p.1).zip ds) + 1 := by simp only [PyData.depth] <;> omega
    have hna : a ∉ bs := not_mem_of_deeper rd (by rw [dp]; omega) hb2
    refine ⟨a :: bs, ReadAtMost.cons rd (by rw [dp]; omega) hb2, ?_⟩
    rw [dp]
    simp only [PyData.shown, PyData.shownKv_eq]
    rw [e1, e2]
    refine ReprK.dict h1 h2.1 h3 hsy hna (ReprEntriesK.of_two es.toList _ _ (kk.more_le (fun b z => absurd z List.not_mem_nil) (Nat.le_refl _)) ?_)
    rw [pairs_vals h5]
    exact hk.more_le (fun b z => z) dv
theorem reprA_of (I : Inv X pins σ H s) : ∀ {xs : List V} {ds : List PyData}, DatA X.K H xs ds → ∀ {us : List Value}, Vals xs us → PyData.showableAll ds = true → (∀ t ∈ PyData.shownAll ds, t.length ≤ sizeLine) →
    ∃ bs, ReadAtMost s.heap (PyData.depthAll ds) bs ∧ ReprAllK X.prog X.w bs s.heap (PyData.depthAll ds) us (PyData.shownAll ds)
  | _, _, .nil, us, r, _, _ => by
    cases r
    exact ⟨[], (fun _ z => nomatch z), by simp only [PyData.shownAll]; exact .nil⟩
  | _, _, .cons (d := d) (ds := ds) h t, us, r, hs, hz => by
    cases r with
    | cons r1 r2 =>
      have hs1 : d.showable = true ∧ PyData.showableAll ds = true := by simpa [PyData.showableAll] using hs
      rw [PyData.shownAll_cons] at hz ⊢
      obtain ⟨b1, g1, k1⟩ := reprK_of I h r1 hs1.1 (hz _ List.mem_cons_self)
      obtain ⟨b2, g2, k2⟩ := reprA_of I t r2 hs1.2 fun u hu => hz u (List.mem_cons_of_mem _ hu)
      have dp : PyData.depthAll (d :: ds) = max d.depth (PyData.depthAll ds) := by simp only [PyData.depthAll]
      refine ⟨b1 ++ b2, ?_, ?_⟩
      · rw [dp]
        exact (g1.mono (Nat.le_max_left _ _)).append (g2.mono (Nat.le_max_right _ _))
      · rw [dp]
        exact .cons ((k1.more fun b z => List.mem_append_left _ z).level_le (Nat.le_max_left _ _)) (k2.more_le (fun b z => List.mem_append_right _ z) (Nat.le_max_right _ _))
end
theorem dict_entries (I : Inv X pins σ H s) {a : Addr} {kvs : List (Key × V)} {ds : List PyData} {vs : List (Key × Value)} {o : Obj} {es : Array DictEntry} {ep : Nat} (h : H a = some (.dK kvs)) (t : DatA X.K H (kvs.map (·.2)) ds)
    (hs : (PyData.dict ((kvs.map fun p => kD p.1).zip ds)).showable = true) (hz : (PyData.dict ((kvs.map fun p => kD p.1).zip ds)).shown.length ≤ sizeLine) (h1 : s.heap.get? a = some o) (h3 : o.data = .dict es ep)
    (h5 : Pairs (mixKind X.prog X.w) es.toList vs) (rv : KV kvs vs) :
    ∃ n bs, a ∉ bs ∧ ReprEntriesK X.prog X.w bs s.heap n es.toList (PyData.shownKv ((kvs.map fun p => kD p.1).zip ds)) ∧ n + 1 ≤ (PyData.dict ((kvs.map fun p => kD p.1).zip ds)).depth := by
  have hl : kvs.length = ds.length := by
    have z := t.len
    rw [List.length_map] at z
    exact z
  obtain ⟨e1, e2⟩ := kv_of_zip (f := fun p : Key × V => kD p.1) (l := kvs) hl
  have hz1 : (dictText (PyData.shownKv ((kvs.map fun p => kD p.1).zip ds))).length ≤ sizeLine := by simpa only [PyData.shown] using hz
  have hs1 : PyData.showableKv ((kvs.map fun p => kD p.1).zip ds) = true := by simpa [PyData.showable] using hs
  obtain ⟨s1, s2⟩ := PyData.showableKv_split _ hs1
  rw [e1] at s1
  rw [e2] at s2
  obtain ⟨as, rd⟩ := reads_of I (.dic h t) (v := .ref a) rfl
  obtain ⟨bs, hb, hk⟩ := reprA_of I t (kv_vals rv) s2 fun u hu => by
    obtain ⟨p, hp, hq⟩ := PyData.shownKv_val_le _ u (by rw [e2]; exact hu)
    exact Nat.le_trans hq (Nat.le_trans (dictText_mem_le hp) hz1)
  have kk : ReprAllK X.prog X.w [] s.heap (PyData.depthKv ((kvs.map fun p => kD p.1).zip ds)) (es.toList.map (·.key)) (PyData.shownAll (kvs.map fun p => kD p.1)) := by
    rw [← kv_fst rv]
    refine keys_shown h5 fun p hp => ?_
    have hm : kD p.1 ∈ kvs.map fun p => kD p.1 := by
      rw [← kv_fst rv]
      exact List.mem_map.mpr ⟨p, hp, rfl⟩
    obtain ⟨y, hy, hq⟩ := PyData.shownKv_key_le _ _ (by rw [e1]; exact shown_mem hm)
    exact ⟨all_of s1 _ hm, Nat.le_trans hq (Nat.le_trans (dictText_mem_le hy) hz1)⟩
  have dv : PyData.depthAll ds ≤ PyData.depthKv ((kvs.map fun p => kD p.1).zip ds) := by
    have z := PyData.depthAll_vals_le ((kvs.map fun p => kD p.1).zip ds)
    rw [e2] at z
    exact z
  have dp : (PyData.dict ((kvs.map fun p => kD p.1).zip ds)).depth = PyData.depthKv ((kvs.map fun p => kD p.1).zip ds) + 1 := by simp only [PyData.depth] <;> omega
  have hna : a ∉ bs := not_mem_of_deeper rd (by rw [dp]; omega) (hb.mono dv)
  refine ⟨_, bs, hna, ?_, Nat.le_of_eq dp.symm⟩
  rw [PyData.shownKv_eq, e1, e2]
  refine ReprEntriesK.of_two es.toList _ _ (kk.more_le (fun b z => absurd z List.not_mem_nil) (Nat.le_refl _)) ?_
  rw [pairs_vals h5]
  exact hk.more_le (fun b z => z) dv
end
end Ns

/-! NsC: the call of repr; == of equal data. -/
namespace Ns
open PySem PySem.Spec PyProof.Rows L2
section
variable {X : Cx} {pins : List (Addr × Obj)} {σ : L2.St} {H : Hp} {s : Shared}

theorem repr_run (I : Inv X pins σ H s) {A : Around} (hg : A.guards = some []) {x : V} {d : PyData} (D : DatV X.K H x d) {v : Value} (r : RelV x v) (hs : d.showable = true) (hz : d.shown.length ≤ sizeLine) (hu : A.units + (d.depth + 2) < cLine)
    {E Q : Value → Shared → Prop} (q : ∀ h' u tk, (∀ b o, s.heap.get? b = some o → h'.get? b = some o) → Q (.str d.shown u) { s with heap := h', toks := tk }) :
    wpAny (model X.prog X.w) A (call (.builtin "repr") [v]) Q E s := by
  cases D with
  | non =>
    cases (show v = Value.none from r)
    rw [PyData.shown_none] at q
    exact PySem.P.repr_of_none (q s.heap _ _ fun _ _ e => e)
  | bl b =>
    cases (show v = Value.bool b from r)
    rw [PyData.shown_bool] at q
    exact PySem.P.repr_of_bool (q s.heap _ _ fun _ _ e => e)
  | int i =>
    obtain ⟨t, rfl⟩ := (show ∃ t, v = Value.int i t from r)
    rw [PyData.shown_int] at q
    exact PySem.P.repr_of_int (of_decide_eq_true (by simpa [PyData.showable] using hs)) (q s.heap _ _ fun _ _ e => e)
  | str y =>
    obtain ⟨t, rfl⟩ := (show ∃ t, v = Value.str y t from r)
    rw [PyData.shown_str] at q hz
    exact PySem.P.repr_of_str (q s.heap _ _ fun _ _ e => e) hz
  | @lst a xs ds h t =>
    cases (show v = Value.ref a from r)
    have hz1 : (listText (PyData.shownAll ds)).length ≤ sizeLine := by simpa only [PyData.shown] using hz
    have hs1 : PyData.showableAll ds = true := by simpa [PyData.showable] using hs
    obtain ⟨as, rd⟩ := reads_of I (.lst h t) (v := .ref a) rfl
    obtain ⟨its, rv, ⟨o, n, h1, h2, h3, h4⟩, _⟩ := I.list h
    have h5 : o.data = .seq its.toArray n := by first | exact h3 | exact h4
    obtain ⟨bs, hb, hk⟩ := reprA_of I t rv hs1 fun u hu => Nat.le_trans (listText_mem_le hu) hz1
    have dp : (PyData.list ds).depth = PyData.depthAll ds + 1 := by simp only [PyData.depth] <;> omega
    have hna : a ∉ bs := not_mem_of_deeper rd (by rw [dp]; omega) hb
    simp only [PyData.shown] at q
    rw [dp] at hu
    refine call_repr_slot (by omega) ⟨o, h1, h2⟩ F.slot_list_repr.toG ?_
    cases its with
    | nil =>
      have e0 : PyData.shownAll ds = [] := List.length_eq_zero_iff.mp (by simpa using hk.length_eq)
      rw [e0, listText_nil] at q
      exact call_list_repr_empty ⟨o, h1, h2⟩ h1 h5 ⟨_, _, rfl, q s.heap _ _ fun _ _ e => e⟩
    | cons y l =>
      exact call_list_reprK (A := A.in1) (g := []) h1 h2 h5 hna (by simpa using hk.length_eq) (fun i u e => hk.item i u (by simpa using e)) hg (fun b _ => Clear.nil b) (by show A.units + 1 + _ < _; omega) (fun _ _ e => e)
        (fun h' u tk k => ⟨_, _, rfl, q h' u tk k⟩) hz1
  | @tup a xs ds h t =>
    cases (show v = Value.ref a from r)
    have hz1 : (tupleText (PyData.shownAll ds)).length ≤ sizeLine := by simpa only [PyData.shown] using hz
    have hs1 : PyData.showableAll ds = true := by simpa [PyData.showable] using hs
    obtain ⟨as, rd⟩ := reads_of I (.tup h t) (v := .ref a) rfl
    obtain ⟨its, rv, ⟨o, h1, h2, n, h3⟩, _⟩ := I.tuple h
    obtain ⟨bs, hb, hk⟩ := reprA_of I t rv hs1 fun u hu => Nat.le_trans (tupleText_mem_le hu) hz1
    have dp : (PyData.tuple ds).depth = PyData.depthAll ds + 1 := by simp only [PyData.depth] <;> omega
    have hna : a ∉ bs := not_mem_of_deeper rd (by rw [dp]; omega) hb
    simp only [PyData.shown] at q
    rw [dp] at hu
    refine call_repr_slot (by omega) ⟨o, h1, h2⟩ F.slot_tuple_repr ?_
    exact call_tuple_reprK (A := A.in1) (g := []) h1 h2 h3 hna (by simpa using hk) hg (fun b _ => Clear.nil b) (by show A.units + 1 + _ < _; omega) (fun _ _ e => e)
      (fun h' u tk k => ⟨_, _, rfl, q h' u tk k⟩) hz1
  | @dic a kvs ds h t =>
    cases (show v = Value.ref a from r)
    obtain ⟨_, hsy, vs, rv, o, es, ep, h1, h2, h3, _, h5, _⟩ := (show ObjOk X.prog X.w H s.heap a (.dK kvs) from I.hok a _ h)
    obtain ⟨n, bs, hna, hE, hd⟩ := dict_entries I h t hs hz h1 h3 h5 rv
    simp only [PyData.shown] at q hz
    refine call_repr_slot (by omega) ⟨o, h1, h2.1⟩ F.slot_dict_repr ?_
    exact call_dict_reprK (A := A.in1) (g := []) h1 h2.1 h3 hsy hna hE hg (fun b _ => Clear.nil b) (by show A.units + 1 + _ < _; omega) (fun _ _ e => e)
      (fun h' u tk k => ⟨_, _, rfl, q h' u tk k⟩) hz

/-- repr(x), x data -/
def rRep (K : PySem.W.Frag) : List V → Hp → VK → Prop := fun xs H Q => ∃ x d, xs = [x] ∧ DatV K H x d ∧ d.showable = true ∧ d.shown.length ≤ sizeLine ∧ d.depth ≤ 60 ∧ Q (.str d.shown) H
theorem call_reprD (hg : X.A.guards = some []) (hu : X.A.units + 64 < cLine) : CallR X (.builtin "repr") (rRep X.K) := by
  intro pins s σ H xs us Q I r h
  obtain ⟨x, d, rfl, D, hs, hz, hd, q⟩ := h
  obtain ⟨u, rfl, r1⟩ := vals1 r
  exact repr_run I hg D r1 hs hz (by omega) fun h' u tk k => ⟨.str d.shown, H, I.kept (t' := tk) k, ⟨u, rfl⟩, q⟩
end
end Ns

/-! NsG: defs that are called where no repr is under way (the guards are known to be none); xs[i] op= e of a list; the end of a law over such a def. -/
namespace Ns
open PySem PySem.Spec PyProof.Rows L2

/-- as FnOk, for calls with no guard around -/
structure GnOk (P : Program) (w : World) (K : PySem.W.Frag) (mg : Str → Option Value) (base : Heap) (k : Nat) (f : Addr) (fd : FuncData) (ps : List Str) (sp : Sp) : Prop where
  glen : ∀ as H Q E, sp as H Q E → as.length = ps.length
  grun : ∀ (A : Around) (outer : List Env) (s : Shared) (H : Hp) (args : Args) (us : List Value) (as : List V) (Q : VK) (E : XK), Room k A → A.guards = some [] → Env0 P w K mg base A outer s H →
    BindsTo s fd args (ps.zip us) → Vals as us → sp as H Q E → codeAny (model P w) A (.call (.ref f) args) (CR CX0 outer P w H s Q E) s
theorem FnOk.guarded {P : Program} {w : World} {K : PySem.W.Frag} {mg : Str → Option Value} {base : Heap} {k : Nat} {f : Addr} {fd : FuncData} {ps : List Str} {sp : Sp} (F : FnOk P w K mg base CX0 k f fd ps sp) : GnOk P w K mg base k f fd ps sp :=
  ⟨F.len, fun A outer s H args us as Q E hr _ e b v h => F.run A outer s H args us as Q E hr e b v h⟩

section
variable {X : Cx} {k : Nat} {f : Addr} {fd : FuncData} {ps : List Str} {sp : Sp} {x : Str} {p pos : Pos} {e : Expr} {es : List Expr} {t : TA}
theorem run_g {pins : List (Addr × Obj)} {σ : L2.St} {H : Hp} {s : Shared} {Q : VK} {us : List Value} {as : List V} (F : GnOk X.prog X.w X.K X.mg X.base k f fd ps sp) (hr : Room k X.A) (hgd : X.A.guards = some []) (hb : Binds X.K fd ps [])
    (I : Inv X pins σ H s) (r : Vals as us) (h : sp as H Q E0) : wpAny (model X.prog X.w) X.A (call (.ref f) us) (EP X pins σ Q) X.xe s := by
  have hl : us.length = ps.length := r.length.symm.trans (F.glen _ _ _ _ h)
  have bb := hb s us I.kIn (by rw [List.append_nil]; exact hl)
  rw [List.append_nil] at bb
  refine wpAny_call (codeAny_mono (F.grun X.A X.stack s H ⟨us, []⟩ us as Q E0 hr hgd I.env0 bb r h) fun z s' hz => ?_)
  match z, hz with
  | .error _, hz => exact (show False from hz).elim
  | .ok (.ret u), hz => exact I.after hz
  | .ok .next, hz => exact (show False from hz).elim
  | .ok .brk, hz => exact (show False from hz).elim
  | .ok .cont, hz => exact (show False from hz).elim
theorem pe_callG (F : GnOk X.prog X.w X.K X.mg X.base k f fd ps sp) (hr : Room k X.A) (hgd : X.A.guards = some []) (hg : Gl X x) (hm : X.mg x = some (.ref f)) (hk : PySem.W.keepIn X.K (.ref f) = true) (hb : Binds X.K fd ps [])
    (ha : PA X (e :: es) t) (hdb : (x == ("__debug__" : Str)) = false := by decide) (he : starEach (e :: es) X.env = (false, eval e X.env) :: starEach es X.env := by rfl) (hpl : (backTo pos (starEach es X.env)).any (·.1) = false := by rfl) :
    PE X (.Call (.Name x p) (e :: es) [] pos) (tCall sp [] E0 t) :=
  ⟨fun pins s σ H Q I h => wpAny_Call_Name_kw (ld_glob I hg hm (PySem.W.callWith_K (h₀ := X.base) I.ok.mod.kin hk (thn (ha.run pos pins s σ H _ I h) fun us s1 ⟨as, H1, I1, r, q⟩ => ⟨I1.kIn, run_g F hr hgd hb I1 r (by have q' : sp (as ++ []) H1 Q E0 := q; rw [List.append_nil] at q'; exact q')⟩) he hpl) hdb)⟩
end

/-- the def by its body: the guards are known within -/
theorem Fun.okG {P : Program} {w : World} {K : PySem.W.Frag} {mg : Str → Option Value} {base : Heap} {x qual : Str} {st : Stmt} {f : Addr} {fd : FuncData} {N ps : List Str} {k : Nat} {sp : Sp} (F : Fun K x qual st f fd) (S : FnScope N ps (defScope st))
    (len : ∀ as H Q E, sp as H Q E → as.length = ps.length)
    (body : ∀ (cdv : Value) (A : Around) (outer : List Env) (s : Shared) (H : Hp) (as : List V) (Q : VK) (E : XK), Room k (A.deeper (envOfC qual (defScope st) s.heap.objs.size f cdv)) → (A.deeper (envOfC qual (defScope st) s.heap.objs.size f cdv)).guards = some [] → sp as H Q E →
      ∃ t, PSs (cxOf CX0 P w K mg base N qual (defScope st) f cdv A outer s H E).nox (defBody st) t ∧ t { nx := fun _ H' => Q .non H', rt := Q } (start N as) H) : GnOk P w K mg base (k + 1) f fd ps sp := by
  obtain ⟨oc, od, kV, doc, pm, an, cdv, ct, osl, rfl, lk, hcd⟩ := F.ex
  refine ⟨len, fun A outer s H args us as Q E hr hgd e0 hb r hsp => ?_⟩
  have old : ∀ b o, base.get? b = some o → s.heap.get? b = some o := fun b o z => (e0.bs b o z).1
  have kin : K.In s.heap := e0.mod.kin.keeps old
  refine codeAny_call_function hr.depth (kin _ _ lk) rfl S.co S.gen rfl (PySem.W.codeRec_of kin hcd) (hb _ _ _ _ (wpAny_newFunctionEnv_cells S.kind (fun y hy => ?_) fun env he s1 x => ?_))
  · have hm := (List.of_mem_zip (show (y.1, y.2) ∈ ps.zip us from hy)).1
    exact (S.par y.1 hm).imp (fun z => z) fun z => ⟨z, PySem.W.cellsFrom_some _ _ _ (.inl z)⟩
  · cases he
    refine ⟨(e0.mod.nolimit.keeps old).keeps x.toInCall.keep, codeAny_func ?_⟩
    obtain ⟨t, ht, hq⟩ := body cdv A outer s H as Q E (hr.deeper _) hgd hsp
    have J := inv_start (CX := CX0) (E := E) S hr.hd e0 (len _ _ _ _ hsp) r x
    refine wpAny_mono (ht.nox.run [] s1 (start N as) H _ J hq) (fun fl s' hs => ?_) fun e s' hs => hs
    match fl, hs with
    | .ret u, ⟨v, _, H', J', rv, q⟩ => exact ⟨v, H', J'.os, J'.bare, J'.base, J'.hok, rv, q⟩
    | .next, ⟨_, H', J', q⟩ => exact ⟨V.non, H', J'.os, J'.bare, J'.base, J'.hok, rfl, q⟩
    | .brk, ⟨_, _, _, q⟩ => exact (show False from q).elim
    | .cont, ⟨_, _, _, q⟩ => exact (show False from q).elim
end Ns

/-! NsH: the end of a law over a guarded def; xs[i] op= e. -/
namespace Ns
open PySem PySem.Spec PyProof.Rows L2

/-- what a law's def promises: of a list of ints, True -/
def spTop (K : PySem.W.Frag) : Sp := fun as H Q _ => ∃ (a : Addr) (ns : List Int), as = [.ref a] ∧ SqL K H a (ns.map V.int) ∧ ns.length ≤ 63 ∧ ∀ H', Q (.bl true) H'

/-- the abstract heap at the entry: the script at a alone, unless it is a written object -/
theorem entry_core {P : Program} {w : World} {K : PySem.W.Frag} {mg mb : Str → Option Value} {k : Nat} {fa a : Addr} {fd : FuncData} {s : Shared} {vs : List Value} {ns : List Int} (kin : K.In s.heap) (gl : s.heap.Ns mainGlobals mg)
    (bl : s.heap.Ns builtinsNs mb) (bb : ∀ x : Str, x ≠ "__name__" → mb x = bootBuiltins x) (nl : s.heap.NoLimit) (ge : s.gens = #[]) (sc : s.heap.get? a = some { cls := .type "list", data := .seq vs.toArray }) (l63 : ns.length ≤ 63)
    (hr : Room k callerA) (F : ∀ base : Heap, K.In base → base.Ns mainGlobals mg → GnOk P w K mg base k fa fd ["script"] (spTop K)) (bd : ∀ (z : Shared) (u : Value), BindsTo z fd ⟨[u], []⟩ [("script", u)])
    (H : Hp) (only : ∀ b o, H b = some o → b = a ∧ ∃ ob xs, o = .frz ob (.lst xs)) (free : H a ≠ none → K.lookup a = none) (hok : HOk P w H s.heap) (sq : SqL K H a (ns.map V.int)) :
    codeAny (model P w) callerA (.call (.ref fa) ⟨[.ref a], []⟩) (fun r s' => r = .ok (.ret (.bool true)) ∧ OldK s.heap s'.heap ∧ s'.os = s.os ∧ AllBare s'.gens) s := by
  have noD : ∀ {b : Addr} {o : Obj} {es : Array DictEntry} {n : Nat}, s.heap.get? b = some o → o.data = .dict es n → H b = none := by
    intro b o es n e d
    cases q : H b with
    | none => rfl
    | some u =>
      obtain ⟨rfl, _⟩ := only b u q
      rw [sc] at e
      cases e
      cases d
  have ns' : ∀ {b : Addr} {m : Str → Option Value}, s.heap.Ns b m → (hidT s.heap H).Ns b m := by
    rintro b m ⟨o, es, n, e, d, r⟩
    exact ⟨o, es, n, hidT_get e (noD e d), d, r⟩
  have kin' : K.In (hidT s.heap H) := by
    intro b o e
    refine hidT_get (kin b o e) ?_
    cases q : H b with
    | none => rfl
    | some u =>
      obtain ⟨rfl, _⟩ := only b u q
      rw [free (by rw [q]; exact fun z => nomatch z)] at e
      cases e
  have md : Mod K mg (hidT s.heap H) := by
    obtain ⟨mc, n1, n2⟩ := nl
    exact { kin := kin', glob := ns' gl, blt := ⟨mb, ns' bl, bb⟩, nolimit := ⟨mc, ns' n1, n2⟩ }
  have e0 : Env0 P w K mg (hidT s.heap H) callerA [] s H :=
    { frames := rfl, mod := md, bs := fun b o e => of_hidT e, bsz := Nat.le_of_eq (hidT_size _ _), funs := trivial, frf := fun b hb => (List.not_mem_nil hb).elim, hok := hok, bare := .of_eq ge }
  have run := (F _ kin' (ns' gl)).grun callerA [] s H ⟨[.ref a], []⟩ [.ref a] [.ref a] (fun v _ => v = .bl true) E0 hr rfl e0 (bd s (.ref a)) (.cons rfl .nil) ⟨a, ns, rfl, sq, l63, fun _ => rfl⟩
  refine codeAny_mono run fun r s' h => ?_
  match r, h with
  | .error _, h => exact (show False from h).elim
  | .ok .next, h => exact (show False from h).elim
  | .ok .brk, h => exact (show False from h).elim
  | .ok .cont, h => exact (show False from h).elim
  | .ok (.ret u), ⟨v, H', o', bare, un, hok', rv, q⟩ =>
    have q' : v = .bl true := q
    rw [q'] at rv
    have eu : u = Value.bool true := rv
    rw [eu]
    refine ⟨rfl, OldK.of_keep fun b o e => ?_, o', bare⟩
    cases z : H b with
    | none => exact un.keep b o e z (fun y => List.not_mem_nil y) List.not_mem_nil
    | some u' =>
      obtain ⟨_, ob, xs, rfl⟩ := only b u' z
      have h1 : s.heap.get? b = some ob := (hok b _ z).1
      have h2 : s'.heap.get? b = some ob := (hok' b _ (un.frzs b ob _ z)).1
      rw [e] at h1
      cases h1
      exact h2

theorem walk_ofG {l : PySem.W.OpenLaw} {k : Nat} {q : Program} {loose : List Str} {XP : (Str → Option Value) → Heap → Prop} {YP : World → Heap → Prop} {d : DefRec} {K : Params → PySem.W.Frag} (hn : l.most = some 63) (hdf : d.params.defaults = []) (hr : Room k callerA)
    (hY : ∀ (w : World) (h : Heap), YP w h → (K w.params).In h)
    (F : ∀ (w : World) (mg : Str → Option Value) (fa : Addr) (h : Heap), (K w.params).In h → h.Ns mainGlobals mg → mg d.name = some (.ref fa) →
      ∃ fd : FuncData, (∀ (z : Shared) (u : Value), BindsTo z fd ⟨[u], []⟩ [("script", u)]) ∧ ∀ base : Heap, (K w.params).In base → base.Ns mainGlobals mg → GnOk l.prog w (K w.params) mg base k fa fd ["script"] (spTop (K w.params))) :
    PySem.W.WalkO q loose XP YP l.row.toRowW d [] (fun f vs => PySem.call f vs) := by
  refine Att.attach_call hn hdf ?_
  intro w s0 s mg mb fa o pm cd doc a vs ns G Y ho hd hcd hmg hobj hints hlen hg
  obtain ⟨fd, bd, hF⟩ := F w mg fa _ (hY w _ Y) G.T.g hmg
  have rv := vals_ints hints
  have hz : (ns.map V.int).length ≤ sizeLine := by
    rw [List.length_map]
    exact Nat.le_trans hlen (by decide)
  have go := entry_core (P := l.prog) (w := w) (a := a) (ns := ns) (hY w _ Y) G.T.g G.T.b G.T.builtins G.T.nolimit hg hobj hlen hr hF bd
  cases hk : (K w.params).lookup a with
  | some ok =>
    have e := hY w _ Y a ok hk
    rw [hobj] at e
    cases e
    refine go (fun _ => none) (fun b o z => nomatch z) (fun z => absurd rfl z) (fun b u z => nomatch z) (.inr ⟨_, vs.toArray, _, hk, rfl, rfl, rfl, ?_, by simpa using rv⟩)
    rw [List.size_toArray, ← rv.length]
    exact hz
  | none =>
    have at_a : (fun b => if b = a then some (HO.frz { cls := .type "list", data := .seq vs.toArray } (.lst (ns.map V.int))) else none) a = some (HO.frz { cls := .type "list", data := .seq vs.toArray } (.lst (ns.map V.int))) := if_pos rfl
    have un_a : ∀ (b : Addr) (u : HO), (if b = a then some (HO.frz { cls := .type "list", data := .seq vs.toArray } (.lst (ns.map V.int))) else none) = some u → b = a ∧ u = HO.frz { cls := .type "list", data := .seq vs.toArray } (.lst (ns.map V.int)) := by
      intro b u z
      by_cases hb : b = a
      · rw [if_pos hb] at z
        exact ⟨hb, (Option.some.inj z).symm⟩
      · rw [if_neg hb] at z
        cases z
    refine go (fun b => if b = a then some (HO.frz { cls := .type "list", data := .seq vs.toArray } (.lst (ns.map V.int))) else none) (fun b u z => ?_) (fun _ => hk) (fun b u z => ?_) (.inl (.inr ⟨_, at_a⟩))
    · obtain ⟨e1, e2⟩ := un_a b u z
      exact ⟨e1, _, _, e2⟩
    · obtain ⟨e1, e2⟩ := un_a b u z
      subst e1
      subst e2
      exact ⟨hobj, hz, vs, _, rv, hobj⟩

/-- o[i] of a list, by values -/
theorem get_list {X : Cx} : PGet X (rIxL X.K) := by
  intro pins s σ H o i ov iv Q I ro ri h
  obtain ⟨p, xs, j, v, rfl, rfl, hS, hat, q⟩ := h
  cases (show ov = Value.ref p from ro)
  obtain ⟨t, rfl⟩ := (show ∃ t, iv = Value.int j t from ri)
  obtain ⟨its, rv, pl, hz⟩ := I.list hS
  obtain ⟨n, h1, h2, h3, h4, h5⟩ := atI_get hat
  obtain ⟨u, eu, ru⟩ := rv.get h2
  have ln := rv.length
  have l63 := line63
  have done : EP X pins σ Q u s := ⟨v, H, I, ru, q⟩
  rcases Int.lt_or_le j 0 with c | c
  · refine wpAny_getItem_list_neg pl.isList (by omega) (by rw [List.size_toArray]; omega) (by omega) ?_ done
    have e : (j + (its.toArray.size : Int)).toNat = n := by
      rw [seqIndex_neg (by omega) h4] at h1
      rw [List.size_toArray, ← ln]
      exact Option.some.inj h1
    rw [e]
    simpa using eu
  · refine wpAny_getItem_list pl.isList c (by omega) ?_ done
    have e : j.toNat = n := by
      rw [seqIndex_of c h5] at h1
      exact Option.some.inj h1
    rw [e]
    simpa using eu
end Ns

/-! the tops of the text -/
namespace Y
open PySem PySem.Spec PyProof.Rows L2 Ns
def top (i : Nat) : Stmt := PySem.Challenge.pw_nightstairs_k12_greatest_throughs.main.body.getD i (.Pass ⟨0, 0, 0, 0⟩)
abbrev sIsInteger : Stmt := top 1
abbrev sIsCount : Stmt := top 2
abbrev sMostThrough : Stmt := top 4
abbrev sGrown : Stmt := top 5
abbrev sValueOf : Stmt := top 6
abbrev sIsThrough : Stmt := top 7
abbrev sSourceSide : Stmt := top 8
abbrev sSurplus : Stmt := top 9
abbrev sRooms : Stmt := top 10
abbrev sEnds : Stmt := top 11
abbrev sWays : Stmt := top 12
abbrev sLevels : Stmt := top 13
abbrev sFill : Stmt := top 14
abbrev sAdd : Stmt := top 15
abbrev sBag : Stmt := top 17
abbrev sTake : Stmt := top 18
abbrev sSome : Stmt := top 19
abbrev sMixed : Stmt := top 20
abbrev sAlike : Stmt := top 21
abbrev sSize : Stmt := top 22
abbrev sWhole : Stmt := top 23
abbrev sNet : Stmt := top 24
abbrev sPlanted : Stmt := top 25
abbrev sValue : Stmt := top 26
abbrev sLIsThrough : Stmt := top 27
abbrev sRoom : Stmt := top 28
abbrev sSide : Stmt := top 29
abbrev sWay : Stmt := top 30
abbrev sLed : Stmt := top 31
abbrev sPart : Stmt := top 32
abbrev sOutOf : Stmt := top 33
abbrev sIsSideRight : Stmt := top 34
abbrev sGrows : Stmt := top 35
abbrev sLaw : Stmt := top 36
end Y

/-! the bag over the heap -/
namespace Y
open PySem PySem.Spec PyProof.Rows L2 Ns
/-- the heap but for b -/
def wo (H : Hp) (b : Addr) : Hp := fun c => if c = b then none else H c
theorem wo_ne {H : Hp} {b c : Addr} (h : c ≠ b) : wo H b c = H c := if_neg h
theorem wo_at {H : Hp} {b : Addr} : wo H b b = none := if_pos rfl
theorem wo_of {H : Hp} {b c : Addr} {o : HO} (h : wo H b c = some o) : c ≠ b ∧ H c = some o := by
  by_cases e : c = b
  · rw [e, wo_at] at h
    cases h
  · exact ⟨e, (wo_ne e).symm.trans h⟩
theorem wo_sub (H : Hp) (b : Addr) : Same (wo H b) H := fun _ _ h => (wo_of h).2
/-- all but b stands; b keeps its row of numbers -/
def Sb (b : Addr) (H H' : Hp) : Prop := Same (wo H b) (wo H' b) ∧ ∀ (n0 n1 n2 : Int) (l : Addr), H b = some (.lst [.int n0, .int n1, .int n2, .ref l]) → ∃ m0 m1 m2 : Int, H' b = some (.lst [.int m0, .int m1, .int m2, .ref l])
theorem Sb.refl (b : Addr) (H : Hp) : Sb b H H := ⟨Same.refl _, fun n0 n1 n2 _ h => ⟨n0, n1, n2, h⟩⟩
theorem Sb.trans {b : Addr} {H H1 H2 : Hp} (h : Sb b H H1) (g : Sb b H1 H2) : Sb b H H2 := ⟨Same.trans h.1 g.1, fun n0 n1 n2 l e => by
  obtain ⟨m0, m1, m2, e1⟩ := h.2 n0 n1 n2 l e
  exact g.2 _ _ _ _ e1⟩
theorem Sb.get {b c : Addr} {H H' : Hp} {o : HO} (h : Sb b H H') (e : H c = some o) (n : c ≠ b) : H' c = some o := (wo_of (h.1 c o ((wo_ne n).trans e))).2
theorem Sb.new {b p : Addr} {H H' : Hp} {o : HO} (h : Sb b H H') (n : H' p = none) : Sb b H (upd H' p o) := ⟨fun c u e => by
  have q := h.1 c u e
  obtain ⟨q1, q2⟩ := wo_of q
  rw [wo_ne q1, upd_ne (ne_of_none q2 n)]
  exact q2, fun n0 n1 n2 l e => by
  obtain ⟨m0, m1, m2, e1⟩ := h.2 n0 n1 n2 l e
  exact ⟨m0, m1, m2, by rw [upd_ne (ne_of_none e1 n)]; exact e1⟩⟩
theorem Sb.put {b l : Addr} {H H' : Hp} {n0 n1 n2 m0 m1 m2 : Int} (h : Sb b H H') (e0 : H' b = some (.lst [.int n0, .int n1, .int n2, .ref l])) : Sb b H (upd H' b (.lst [.int m0, .int m1, .int m2, .ref l])) := ⟨fun c u e => by
  obtain ⟨q1, q2⟩ := wo_of (h.1 c u e)
  rw [wo_ne q1, upd_ne q1]
  exact q2, fun k0 k1 k2 l' e => by
  obtain ⟨j0, j1, j2, e1⟩ := h.2 _ _ _ _ e
  rw [e0] at e1
  cases e1
  exact ⟨m0, m1, m2, upd_same⟩⟩
theorem Sb.same {b : Addr} {H H' H2 : Hp} (h : Sb b H H') (m : Same H' H2) : Sb b H H2 := ⟨fun c u e => by
  obtain ⟨q1, q2⟩ := wo_of (h.1 c u e)
  rw [wo_ne q1]
  exact m _ _ q2, fun n0 n1 n2 l e => by
  obtain ⟨m0, m1, m2, e1⟩ := h.2 n0 n1 n2 l e
  exact ⟨m0, m1, m2, m _ _ e1⟩⟩
/-- the bag at b -/
def Bag (H : Hp) (b : Addr) : Prop := ∃ (n0 n1 n2 : Int) (l : Addr) (ns : List Int), H b = some (.lst [.int n0, .int n1, .int n2, .ref l]) ∧ H l = some (.lst (ns.map V.int)) ∧ l ≠ b ∧ 0 ≤ n0 ∧ 0 ≤ n1 ∧ n1 < 2147483647 ∧ 0 ≤ n2 ∧ (∀ n ∈ ns, 0 ≤ n) ∧ ns.length ≤ 63
theorem Bag.new {H : Hp} {b p : Addr} {o : HO} (h : Bag H b) (n : H p = none) : Bag (upd H p o) b := by
  obtain ⟨n0, n1, n2, l, ns, h1, h2, r⟩ := h
  exact ⟨n0, n1, n2, l, ns, by rw [upd_ne (ne_of_none h1 n)]; exact h1, by rw [upd_ne (ne_of_none h2 n)]; exact h2, r⟩
theorem Bag.keep {H H' : Hp} {b : Addr} (h : Bag H b) (m : Same H H') : Bag H' b := by
  obtain ⟨n0, n1, n2, l, ns, h1, h2, r⟩ := h
  exact ⟨n0, n1, n2, l, ns, m _ _ h1, m _ _ h2, r⟩
theorem Bag.ne {H : Hp} {b p : Addr} (h : Bag H b) (n : H p = none) : p ≠ b := fun e => by
  obtain ⟨_, _, _, _, _, h1, _⟩ := h
  rw [e, h1] at n
  cases n
/-- a place that was free at first is written: the bag stands -/
theorem Bag.wr {H H' : Hp} {b p : Addr} {o : HO} (h : Bag H b) (n : H p = none) (s : Sb b H H') (g : Bag H' b) : Bag (upd H' p o) b := by
  obtain ⟨n0, n1, n2, l, ns, h1, h2, h3, _⟩ := id h
  obtain ⟨k0, k1, k2, l', ns', g1, g2, r⟩ := g
  obtain ⟨m0, m1, m2, e⟩ := s.2 _ _ _ _ h1
  rw [g1] at e
  cases e
  exact ⟨_, _, _, _, ns', by rw [upd_ne (h.ne n).symm]; exact g1, by rw [upd_ne (ne_of_none h2 n)]; exact g2, r⟩
theorem Sb.wr {b p : Addr} {H H' : Hp} {o : HO} (s : Sb b H H') (n : H p = none) : Sb b H (upd H' p o) := ⟨fun c u e => by
  obtain ⟨q1, q2⟩ := wo_of (s.1 c u e)
  rw [wo_ne q1, upd_ne (ne_of_none (wo_of e).2 n)]
  exact q2, fun n0 n1 n2 l e => by
  obtain ⟨m0, m1, m2, e1⟩ := s.2 n0 n1 n2 l e
  exact ⟨m0, m1, m2, by rw [upd_ne (ne_of_none e n)]; exact e1⟩⟩
theorem Sb.free {b p : Addr} {H H' : Hp} (h : Sb b H H') (hp : H' p = none) (n : p ≠ b) : H p = none := by
  cases e : H p with
  | none => rfl
  | some o => rw [h.get e n] at hp; cases hp
/-- what stood but for the bag: lists, tuples -/
theorem Sb.sl {K : PySem.W.Frag} {b a : Addr} {H H' : Hp} {xs : List V} (s : Sb b H H') (h : SqL K (wo H b) a xs) : SqL K (wo H' b) a xs := Same.seq s.1 h
theorem wo_same {H H' : Hp} {b : Addr} (m : Same H H') : Same (wo H b) (wo H' b) := fun c o e => by
  obtain ⟨q1, q2⟩ := wo_of e
  rw [wo_ne q1]
  exact m _ _ q2
theorem ints_at {ns : List Int} {i : Nat} {v : V} (h : (ns.map V.int)[i]? = some v) : ∃ z, ns[i]? = some z ∧ v = .int z := by
  rw [List.getElem?_map] at h
  obtain ⟨z, e, q⟩ := Option.map_eq_some_iff.mp h
  exact ⟨z, e, q.symm⟩
theorem cut_ints (ns : List Int) (lo hi : Option Int) : ∃ ms : List Int, cutV (ns.map V.int) lo hi = ms.map V.int ∧ (∀ n ∈ ms, n ∈ ns) ∧ ms.length ≤ ns.length := by
  refine ⟨(ns.drop (HT.sIx (ns.map V.int).length 0 lo)).take (HT.sIx (ns.map V.int).length (ns.map V.int).length hi - HT.sIx (ns.map V.int).length 0 lo), ?_, fun n h => List.mem_of_mem_drop (List.mem_of_mem_take h), ?_⟩
  · unfold cutV
    rw [List.map_take, List.map_drop]
  · rw [List.length_take, List.length_drop]
    omega
theorem same_new {H H' : Hp} {p : Addr} {o : HO} (h : Same H H') (n : H' p = none) : Same H (upd H' p o) := fun c u e => by
  rw [upd_ne (ne_of_none (h c u e) n)]
  exact h c u e
theorem same_put {H H' : Hp} {p : Addr} {o : HO} (h : Same H H') (n : H p = none) : Same H (upd H' p o) := fun c u e => by
  rw [upd_ne (ne_of_none e n)]
  exact h c u e
/-- a thing put amid is among -/
theorem put_perm {α : Type} {xs ys : List α} {x : α} {i j : Nat} (h : ys.Perm (xs.take i)) (hx : xs[i]? = some x) : (ys.take j ++ [x] ++ ys.drop j).Perm (xs.take (i + 1)) := by
  have e : xs.take (i + 1) = xs.take i ++ [x] := by rw [List.take_succ, hx]; rfl
  rw [e]
  have p1 : (ys.take j ++ [x] ++ ys.drop j).Perm (x :: ys) := by
    rw [List.append_assoc, List.singleton_append]
    refine List.perm_middle.trans ?_
    rw [List.take_append_drop]
  exact p1.trans ((h.cons x).trans (List.perm_append_singleton x (xs.take i)).symm)
/-- what the top has left of the built-in names -/
structure Nat0 (mg : Str → Option Value) : Prop where
  abs : mg "abs" = none
  int : mg "int" = none
  len : mg "len" = none
  repr : mg "repr" = none
  isi : mg "isinstance" = none
  range : mg "range" = none
  sorted : mg "sorted" = none
  tuple : mg "tuple" = none
  list_ : mg "list" = none
  dict : mg "dict" = none
  set_ : mg "set" = none
  sum : mg "sum" = none
  max : mg "max" = none
  min : mg "min" = none
  str : mg "str" = none
  all : mg "all" = none
  any : mg "any" = none
  zip : mg "zip" = none
end Y

namespace Y
open PySem PySem.Spec PyProof.Rows L2 Ns
open C8 (pss_cut)
def spBag (K : PySem.W.Frag) : Sp := fun as H Q _ => ∃ (a : Addr) (ns : List Int), as = [.ref a] ∧ SqL K H a (ns.map V.int) ∧ ns.length ≤ 63 ∧ ∀ (b : Addr) (H' : Hp), Bag H' b → H b = none → Same H H' → Q (.ref b) H'
def spTake : Sp := fun as H Q _ => ∃ (b : Addr) (m : Int), as = [.ref b, .int m] ∧ Bag H b ∧ 0 < m ∧ m.natAbs < 2 ^ 200 ∧ ∀ (v : Int) (H' : Hp), 0 ≤ v → v < m → Bag H' b → Sb b H H' → Q (.int v) H'
section
variable {P : Program} {w : World} {K : PySem.W.Frag} {mg : Str → Option Value} {base : Heap}
theorem scB : FnScope ["script", "cell"] ["script"] (defScope sBag) := ⟨rfl, rfl, rfl, by decide +kernel, rfl, by decide +kernel, by decide +kernel⟩
theorem ok_bag {f : Addr} {fd : FuncData} (F : Fun K "_law_bag" "_law_bag" sBag f fd) (T : Nat0 mg) : FnOk P w K mg base CX0 1 f fd ["script"] (spBag K) := by
  refine F.ok scB (fun as H Q E h => ?_) (fun cdv A outer s H as Q E hr h => ?_)
  · obtain ⟨a, ns, rfl, _⟩ := h
    rfl
  · obtain ⟨a, ns, rfl, hS, hl, k⟩ := h
    refine ⟨_, pss_one (ps_ret (pe_lst (pa_cons pe_int (pa_cons pe_int (pa_cons pe_int (pa_cons
      (pe_lc (own := [("cell", 1)]) (g := gName 1) (tt := tYes) rfl scB.nd (pi_list (pe_slice sl_list (pv 0) po_none (po_some pe_int))) (blkOk_by (N := ["script", "cell"]) (sc := defScope sBag) (by decide +kernel)) (fun _ _ _ _ _ => pg_name (i := 1) scB.nd rfl (Or.inl rfl)) (fun _ _ _ _ _ => pts_nil)
        (fun _ _ _ _ _ => pe_callB call_abs (by rfl) T.abs (by decide +kernel) (pa_cons (pv 1) pa_nil))) pa_nil)))))), ?_⟩
    obtain ⟨ms, ec, hin, hlm⟩ := cut_ints ns none (some 63)
    refine ⟨_, rfl, _, rfl, a, _, rfl, hS, fun p hp => ?_⟩
    rw [ec]
    have lm : ms.length ≤ 63 := Nat.le_trans hlm hl
    refine ⟨p, rfl, ⟨_, .inl (.inl upd_same)⟩, fun D hD => ?_⟩
    refine lc_list (K := K) (a := p) (xs := ms.map V.int) (fun i H' => ∃ ks : List Int, H' D = some (.lst (ks.map V.int)) ∧ ks.length = i ∧ (∀ n ∈ ks, 0 ≤ n) ∧ H' p = some (.lst (ms.map V.int)) ∧ Same H H') ?_ ?_ ?_ ?_
    · have npd : p ≠ D := fun e => by rw [← e, upd_same] at hD; cases hD
      refine ⟨[], upd_same, rfl, (fun _ z => nomatch z), by rw [upd_ne npd, upd_same], fun c o e => ?_⟩
      have hD' : H D = none := by rw [upd_ne npd.symm] at hD; exact hD
      rw [upd_ne (ne_of_none e hD'), upd_ne (ne_of_none e hp)]
      exact e
    · rintro i H' hi ⟨ks, _, _, _, h, _⟩
      exact .inl (.inl h)
    · rintro i x H' hx ⟨ks, h1, h2, h3, h4, h5⟩
      obtain ⟨z, hz, rfl⟩ := ints_at hx
      have hi : i < ms.length := (List.getElem?_eq_some_iff.mp hz).1
      refine ⟨rfl, _, rfl, z, rfl, ks.map V.int, h1, by rw [List.length_map, h2]; exact small1000 (by omega), ks ++ [if z < 0 then -z else z], ?_, ?_, ?_, ?_, ?_⟩
      · rw [upd_same, List.map_append]
        rfl
      · rw [List.length_append, h2]
        rfl
      · intro n hn
        rcases List.mem_append.mp hn with q | q
        · exact h3 n q
        · rw [List.mem_singleton] at q
          subst q
          split <;> omega
      · have npd : p ≠ D := fun e => by rw [← e, upd_same] at hD; cases hD
        rw [upd_ne npd]
        exact h4
      · intro c o e
        have hD' : H D = none := by
          have npd : p ≠ D := fun e => by rw [← e, upd_same] at hD; cases hD
          rw [upd_ne npd.symm] at hD
          exact hD
        rw [upd_ne (ne_of_none e hD')]
        exact h5 c o e
    · rintro H' ⟨ks, h1, h2, h3, h4, h5⟩
      rw [List.length_map] at h2
      refine ⟨by show 4 ≤ sizeLine; decide, fun b hb => ?_⟩
      refine k b _ ⟨0, 1234567891, 0, D, ks, upd_same, by rw [upd_ne (ne_of_none h1 hb)]; exact h1, ne_of_none h1 hb, by decide, by decide, by decide, by decide, h3, by omega⟩ (h5.free hb) fun c o e => ?_
      rw [upd_ne (ne_of_none (h5 c o e) hb)]
      exact h5 c o e
end
section
variable {P : Program} {w : World} {K : PySem.W.Frag} {mg : Str → Option Value} {base : Heap}
theorem scT : FnScope ["bag", "many", "cell", "stirred", "value", "begin", "second"] ["bag", "many"] (defScope sTake) := ⟨rfl, rfl, rfl, by decide +kernel, rfl, by decide +kernel, by decide +kernel⟩
theorem at0 {α : Type} {x : α} {xs : List α} : atI (x :: xs) (0 : Int) = some x := atI_nat (j := 0) rfl
theorem at1 {α : Type} {x y : α} {xs : List α} : atI (x :: y :: xs) (1 : Int) = some y := atI_nat (j := 1) rfl
theorem at2 {α : Type} {x y z : α} {xs : List α} : atI (x :: y :: z :: xs) (2 : Int) = some z := atI_nat (j := 2) rfl
theorem at3 {α : Type} {x y z u : α} {xs : List α} : atI (x :: y :: z :: u :: xs) (3 : Int) = some u := atI_nat (j := 3) rfl
theorem fm {x m : Int} (h : 0 < m) : 0 ≤ x.fmod m ∧ x.fmod m < m := by
  rw [Int.fmod_eq_emod_of_nonneg x (by omega)]
  exact ⟨Int.emod_nonneg _ (by omega), Int.emod_lt_of_pos _ h⟩
theorem head_int {ms : List Int} (h : ∀ n ∈ ms, 0 ≤ n) : ∃ z : Int, 0 ≤ z ∧ atI (ms.map V.int ++ [V.int 0]) (0 : Int) = some (.int z) := by
  cases ms with
  | nil => exact ⟨0, by decide, at0⟩
  | cons n ms => exact ⟨n, h n List.mem_cons_self, at0⟩
theorem ok_take {f : Addr} {fd : FuncData} (F : Fun K "_law_take" "_law_take" sTake f fd) (T : Nat0 mg) : FnOk P w K mg base CX0 1 f fd ["bag", "many"] spTake := by
  refine F.ok scT (fun as H Q E h => ?_) (fun cdv A outer s H as Q E hr h => ?_)
  · obtain ⟨b, m, rfl, _⟩ := h
    rfl
  · obtain ⟨b, m, rfl, hB, hm, hmz, k⟩ := h
    refine ⟨_, pss_cut (ps_if (pt_cmpR op_eq (pe_ix ix_list (pv 0) pe_int (fun _ _ => rfl)) pe_int (nomark _))
        (pss_cons (ps_set (i := 2) scT.nd rfl (.inl rfl) (pe_ix ix_list (pe_op op_cat (pe_slice sl_list (pe_ix ix_list (pv 0) pe_int (fun _ _ => rfl)) (po_some (pe_ix ix_list (pv 0) pe_int (fun _ _ => rfl))) po_none) (pe_lst (pa_cons pe_int pa_nil))) pe_int (fun _ _ => rfl)))
        (pss_cons (ps_augS (pv 0) pe_int get_list pe_int ip_add set_list)
        (pss_cut (ps_if (pt_cmpR op_ge (pv 2) (pe_op op_pow pe_int pe_int) (nomark _)) (pss_one (ps_asg (pv 2) (pg_sub (pv 0) pe_int set_list))) pss_nil)
        (pss_cons (ps_set (i := 3) scT.nd rfl (.inl rfl) (pe_op op_add (pe_op op_add (pe_op op_mul (pe_ix ix_list (pv 0) pe_int (fun _ _ => rfl)) pe_int)
            (pe_op op_modN (pe_callTy call_int1 (by rfl) T.int (by decide +kernel) (pa_cons (pv 2) pa_nil)) pe_int)) (pe_op op_mul pe_int (pe_ix ix_list (pv 0) pe_int (fun _ _ => rfl)))))
        (pss_one (ps_asg (pe_op op_modN (pe_callTy call_int1 (by rfl) T.int (by decide +kernel) (pa_cons (pv 3) pa_nil)) pe_int) (pg_sub (pv 0) pe_int set_list))))))) pss_nil)
      (pss_cons (ps_if (pt_cmpR op_gt (pe_ix ix_list (pv 0) pe_int (fun _ _ => rfl)) pe_int (nomark _))
        (pss_cons (ps_set (i := 4) scT.nd rfl (.inl rfl) (pe_op op_modN (pe_callTy call_int1 (by rfl) T.int (by decide +kernel) (pa_cons (pe_ix ix_list (pv 0) pe_int (fun _ _ => rfl)) pa_nil)) (pv 1)))
        (pss_cons (ps_asg (pe_op op_fdivW (pe_callTy call_int1 (by rfl) T.int (by decide +kernel) (pa_cons (pe_ix ix_list (pv 0) pe_int (fun _ _ => rfl)) pa_nil)) (pv 1)) (pg_sub (pv 0) pe_int set_list))
        (pss_one (ps_ret (pv 4))))) pss_nil)
      (pss_cons (ps_set (i := 5) scT.nd rfl (.inl rfl) (pe_op op_modN (pe_callTy call_int1 (by rfl) T.int (by decide +kernel) (pa_cons (pe_op op_mul (pe_op op_add (pe_ix ix_list (pv 0) pe_int (fun _ _ => rfl)) pe_int) pe_int) pa_nil)) pe_int))
      (pss_cons (ps_set (i := 6) scT.nd rfl (.inl rfl) (pe_op op_modN (pe_callTy call_int1 (by rfl) T.int (by decide +kernel) (pa_cons (pe_op op_mul (pe_op op_modN (pe_callTy call_int1 (by rfl) T.int (by decide +kernel) (pa_cons (pe_op op_mul (pv 5) (pv 5)) pa_nil)) pe_int) pe_int) pa_nil)) pe_int))
      (pss_one (ps_ret (pe_op op_modN (pe_callTy call_int1 (by rfl) T.int (by decide +kernel) (pa_cons (pe_op op_fdivN (pv 6) pe_int) pa_nil)) (pv 1))))))), ?_⟩
    refine ⟨fun σ' H' => ∃ c s : Option V, σ' = [some (.ref b), some (.int m), c, s, none, none, none] ∧ Bag H' b ∧ Sb b H H', ?_, ?_⟩
    · obtain ⟨n0, n1, n2, l, ns, h1, h2, hlb, z0, z1, z1', z2, hn, hlen⟩ := id hB
      refine ⟨_, rfl, b, _, _, _, rfl, rfl, SqL.of h1, at0, rfl, _, rfl, ?_⟩
      refine ite2 (fun c => ?_) (fun c => ⟨none, none, rfl, hB, Sb.refl _ _⟩)
      obtain ⟨ms, ec, hin, hlm⟩ := cut_ints ns (some n2) none
      refine ⟨_, rfl, b, _, _, _, rfl, rfl, SqL.of h1, at3, _, rfl, b, _, _, _, rfl, rfl, SqL.of h1, at2, n2, rfl, l, _, rfl, SqL.of h2, fun p hp => ?_⟩
      rw [ec]
      refine ⟨by show 1 ≤ sizeLine; decide, fun q hq => ?_⟩
      have npq : p ≠ q := fun e => by rw [← e, upd_same] at hq; cases hq
      have lmz : (ms.map V.int).length + [V.int 0].length ≤ sizeLine := by
        rw [List.length_map]
        exact Nat.le_of_lt (small1000 (show ms.length + 1 ≤ 1000 by omega))
      refine ⟨p, q, _, _, rfl, rfl, by rw [upd_ne npq, upd_same], upd_same, lmz, fun r hr => ?_⟩
      obtain ⟨z, hz, hat⟩ := head_int (ms := ms) fun n h => hn n (hin n h)
      refine ⟨r, _, _, _, rfl, rfl, SqL.of upd_same, hat, ?_⟩
      have hb3 : upd (upd (upd H p (.lst (ms.map V.int))) q (.lst [V.int 0])) r (.lst (ms.map V.int ++ [V.int 0])) b = some (.lst [.int n0, .int n1, .int n2, .ref l]) := by
        have e1 : upd H p (.lst (ms.map V.int)) b = some (.lst [.int n0, .int n1, .int n2, .ref l]) := by rw [upd_ne (ne_of_none h1 hp)]; exact h1
        have e2 : upd (upd H p (.lst (ms.map V.int))) q (.lst [V.int 0]) b = some (.lst [.int n0, .int n1, .int n2, .ref l]) := by rw [upd_ne (ne_of_none e1 hq)]; exact e1
        rw [upd_ne (ne_of_none e2 hr)]
        exact e2
      have hl3 : upd (upd (upd H p (.lst (ms.map V.int))) q (.lst [V.int 0])) r (.lst (ms.map V.int ++ [V.int 0])) l = some (.lst (ns.map V.int)) := by
        have e1 : upd H p (.lst (ms.map V.int)) l = some (.lst (ns.map V.int)) := by rw [upd_ne (ne_of_none h2 hp)]; exact h2
        have e2 : upd (upd H p (.lst (ms.map V.int))) q (.lst [V.int 0]) l = some (.lst (ns.map V.int)) := by rw [upd_ne (ne_of_none e1 hq)]; exact e1
        rw [upd_ne (ne_of_none e2 hr)]
        exact e2
      have sb3 : Sb b H (upd (upd (upd H p (.lst (ms.map V.int))) q (.lst [V.int 0])) r (.lst (ms.map V.int ++ [V.int 0]))) := (((Sb.refl b H).new hp).new hq).new hr
      generalize upd (upd (upd H p (.lst (ms.map V.int))) q (.lst [V.int 0])) r (.lst (ms.map V.int ++ [V.int 0])) = H3 at hb3 hl3 sb3 ⊢
      refine ⟨_, rfl, b, _, _, _, rfl, rfl, SqL.of hb3, at2, n2, 1, rfl, rfl, b, _, _, 2, rfl, rfl, hb3, rfl, ?_⟩
      refine ⟨fun σ' H' => ∃ n0' : Int, σ' = [some (.ref b), some (.int m), some (.int z), none, none, none, none] ∧ H' b = some (.lst [.int n0', .int n1, .int (n2 + 1), .ref l]) ∧ H' l = some (.lst (ns.map V.int)) ∧ 0 ≤ n0' ∧ Sb b H H', ?_, ?_⟩
      · have hb4 : upd H3 b (.lst (([.int n0, .int n1, .int n2, .ref l] : List V).set 2 (.int (n2 + 1)))) b = some (.lst [.int n0, .int n1, .int (n2 + 1), .ref l]) := upd_same
        have hl4 : upd H3 b (.lst (([.int n0, .int n1, .int n2, .ref l] : List V).set 2 (.int (n2 + 1)))) l = some (.lst (ns.map V.int)) := by rw [upd_ne hlb]; exact hl3
        have sb4 : Sb b H (upd H3 b (.lst (([.int n0, .int n1, .int n2, .ref l] : List V).set 2 (.int (n2 + 1))))) := sb3.put hb3
        generalize upd H3 b (.lst (([.int n0, .int n1, .int n2, .ref l] : List V).set 2 (.int (n2 + 1)))) = H4 at hb4 hl4 sb4 ⊢
        refine ⟨_, rfl, 10, 18, rfl, rfl, ⟨by decide, by decide, by decide⟩, z, _, rfl, rfl, _, rfl, ?_⟩
        refine ite2 (fun _ => ?_) (fun _ => ⟨n0, rfl, hb4, hl4, z0, sb4⟩)
        exact ⟨_, rfl, _, rfl, b, _, _, 0, rfl, rfl, hb4, rfl, z, rfl, upd_same, by rw [upd_ne hlb]; exact hl4, hz, sb4.put hb4⟩
      · rintro σ' H' ⟨n0', rfl, hb5, hl5, z0', sb5⟩
        refine ⟨_, rfl, b, _, _, _, rfl, rfl, SqL.of hb5, at1, n1, _, rfl, rfl, .inl ⟨by omega, by omega⟩, _, rfl, .inl ⟨z, rfl, z, _, rfl, rfl, (show (2147483647 : Int) ≠ 0 by decide), _, _, rfl, rfl, _, rfl, b, _, _, _, rfl, rfl, SqL.of hb5, at2, 7919, _, rfl, rfl, .inl ⟨by decide, by decide⟩, _, _, rfl, rfl, ?_⟩⟩
        refine ⟨_, rfl, .inl ⟨_, rfl, _, _, rfl, rfl, (show (2147483647 : Int) ≠ 0 by decide), _, rfl, b, _, _, 1, rfl, rfl, hb5, rfl, ?_⟩⟩
        exact ⟨_, _, rfl, ⟨n0', _, n2 + 1, l, ns, upd_same, by rw [upd_ne hlb]; exact hl5, hlb, z0', (fm (by decide)).1, (fm (by decide)).2, by omega, hn, hlen⟩, sb5.put hb5⟩
    · rintro σ' H' ⟨c, s', rfl, hB', sb⟩
      obtain ⟨n0, n1, n2, l, ns, h1, h2, hlb, z0, z1, z1', z2, hn, hlen⟩ := id hB'
      refine ⟨_, rfl, b, _, _, _, rfl, rfl, SqL.of h1, at0, _, _, rfl, rfl, _, rfl, ?_⟩
      refine ite2 (fun _ => ?_) (fun _ => ?_)
      · refine ⟨_, rfl, b, _, _, _, rfl, rfl, SqL.of h1, at0, .inl ⟨n0, rfl, _, rfl, n0, m, rfl, rfl, by omega, ?_⟩⟩
        refine ⟨_, rfl, b, _, _, _, rfl, rfl, SqL.of h1, at0, .inl ⟨n0, rfl, _, rfl, n0, m, rfl, rfl, wide_div hm hmz (by decide) (by decide), _, rfl, b, _, _, 0, rfl, rfl, h1, rfl, ?_⟩⟩
        refine ⟨_, rfl, k _ _ (fm hm).1 (fm hm).2 ⟨n0 / m, n1, n2, l, ns, upd_same, by rw [upd_ne hlb]; exact h2, hlb, Int.ediv_nonneg z0 (by omega), z1, z1', z2, hn, hlen⟩ (sb.put h1)⟩
      · have b1 := fm (x := (n1 + 1) * 39373) (m := 1000000007) (by decide)
        refine ⟨_, rfl, b, _, _, _, rfl, rfl, SqL.of h1, at1, n1, 1, rfl, rfl, n1 + 1, _, rfl, rfl, .inl ⟨by omega, by omega⟩, .inl ⟨_, rfl, _, _, rfl, rfl, (show (1000000007 : Int) ≠ 0 by decide), ?_⟩⟩
        have b2 := fm (x := ((n1 + 1) * 39373).fmod 1000000007 * ((n1 + 1) * 39373).fmod 1000000007) (m := 998244353) (by decide)
        refine ⟨_, rfl, _, rfl, _, _, rfl, rfl, .inl ⟨by omega, by omega⟩, .inl ⟨_, rfl, _, _, rfl, rfl, (show (998244353 : Int) ≠ 0 by decide), _, _, rfl, rfl, .inl ⟨by omega, by omega⟩, .inl ⟨_, rfl, _, _, rfl, rfl, (show (998244353 : Int) ≠ 0 by decide), ?_⟩⟩⟩
        exact ⟨_, rfl, _, _, rfl, rfl, ⟨by decide, by decide⟩, .inl ⟨_, rfl, _, rfl, _, m, rfl, rfl, by omega, k _ _ (fm hm).1 (fm hm).2 hB' sb⟩⟩
end
end Y

namespace Y
open PySem PySem.Spec PyProof.Rows L2 Ns
open C8 (pss_cut)
def spSome (K : PySem.W.Frag) : Sp := fun as H Q _ => ∃ (b a : Addr) (xs : List V), as = [.ref b, .ref a] ∧ Bag H b ∧ SqL K (wo H b) a xs ∧ xs ≠ [] ∧ xs.length ≤ 1000000 ∧ ∀ (x : V) (H' : Hp), x ∈ xs → Bag H' b → Sb b H H' → Q x H'
section
variable {P : Program} {w : World} {K : PySem.W.Frag} {mg : Str → Option Value} {base : Heap}
theorem scS : FnScope ["bag", "things"] ["bag", "things"] (defScope sSome) := ⟨rfl, rfl, rfl, by decide +kernel, rfl, by decide +kernel, by decide +kernel⟩
theorem ok_some {f fT : Addr} {fd fdT : FuncData} (F : Fun K "_law_some" "_law_some" sSome f fd) (T : Nat0 mg) (FT : Fun K "_law_take" "_law_take" sTake fT fdT) (mT : mg "_law_take" = some (.ref fT)) (bT : Binds K fdT ["bag", "many"] []) :
    FnOk P w K mg base CX0 2 f fd ["bag", "things"] (spSome K) := by
  have GT : FnOk P w K mg base CX0 1 fT fdT ["bag", "many"] spTake := ok_take FT T
  refine F.ok scS (fun as H Q E h => ?_) (fun cdv A outer s H as Q E hr h => ?_)
  · obtain ⟨b, a, xs, rfl, _⟩ := h
    rfl
  · obtain ⟨b, a, xs, rfl, hB, hS, hne, hl, k⟩ := h
    have pos : 0 < xs.length := List.length_pos_iff.mpr hne
    refine ⟨_, pss_one (ps_ret (pe_ix ix_list (pv 1) (pe_call GT hr rfl mT FT.kp bT .nil pass0 (pa_cons (pv 0) (pa_cons (pe_callB call_len_seq (by rfl) T.len PySem.boot_len (pa_cons (pv 1) pa_nil)) pa_nil))) (fun _ _ => rfl))), ?_⟩
    refine ⟨_, rfl, _, rfl, _, rfl, a, _, rfl, .inl ((wo_sub H b).seq hS), b, _, rfl, hB, by omega, ?_, fun v H' h0 h1 hB' sb => ?_⟩
    · exact Nat.lt_of_le_of_lt (show ((xs.length : Int)).natAbs ≤ 1000000 by omega) (by decide)
    · have hi : v.toNat < xs.length := by omega
      have e : v = ((v.toNat : Nat) : Int) := by omega
      have hx : xs[v.toNat]? = some xs[v.toNat] := List.getElem?_eq_getElem hi
      obtain ⟨x, ex⟩ : ∃ x, xs[v.toNat]? = some x := ⟨_, hx⟩
      exact ⟨a, xs, v, x, rfl, rfl, (wo_sub H' b).seq (sb.sl hS), by rw [e]; exact atI_nat ex, k _ _ (List.mem_of_getElem? ex) hB' sb⟩
end
end Y

/-! NsD: how long the text of data is. -/
namespace Ns
open PySem PySem.Spec PyProof.Rows L2
/-- shown in at most m signs, nested at most k deep -/
def Fit (m k : Nat) (d : PyData) : Prop := d.showable = true ∧ d.shown.length ≤ m ∧ d.depth ≤ k
theorem Fit.mono {m m' k k' : Nat} {d : PyData} (h : Fit m k d) (hm : m ≤ m') (hk : k ≤ k') : Fit m' k' d := ⟨h.1, Nat.le_trans h.2.1 hm, Nat.le_trans h.2.2 hk⟩
theorem sum_le {m : Nat} : ∀ {l : List Nat}, (∀ n ∈ l, n ≤ m) → l.sum ≤ l.length * m
  | [], _ => Nat.zero_le _
  | n :: l, h => by
    have h1 := h n List.mem_cons_self
    have h2 := sum_le (l := l) fun k hk => h k (List.mem_cons_of_mem _ hk)
    rw [List.sum_cons, List.length_cons, Nat.succ_mul]
    omega
theorem depthAll_le {k : Nat} : ∀ {ds : List PyData}, (∀ d ∈ ds, d.depth ≤ k) → PyData.depthAll ds ≤ k
  | [], _ => by simp [PyData.depthAll]
  | d :: ds, h => by
    simp only [PyData.depthAll]
    exact Nat.max_le.mpr ⟨h d List.mem_cons_self, depthAll_le fun e he => h e (List.mem_cons_of_mem _ he)⟩
theorem mem_shown : ∀ {ds : List PyData} {t : Str}, t ∈ PyData.shownAll ds → ∃ d ∈ ds, t = d.shown
  | [], t, h => by rw [PyData.shownAll_nil] at h; exact nomatch h
  | d :: ds, t, h => by
    rw [PyData.shownAll_cons] at h
    rcases List.mem_cons.mp h with e | e
    · exact ⟨d, List.mem_cons_self, e⟩
    · obtain ⟨d', h1, h2⟩ := mem_shown e
      exact ⟨d', List.mem_cons_of_mem _ h1, h2⟩
theorem lens_le {m k : Nat} {ds : List PyData} (h : ∀ d ∈ ds, Fit m k d) : ((PyData.shownAll ds).map (·.length)).sum ≤ ds.length * m := by
  have e : ((PyData.shownAll ds).map (·.length)).length = ds.length := by rw [List.length_map, PyData.shownAll_length]
  have z := sum_le (l := (PyData.shownAll ds).map (·.length)) (m := m) fun n hn => by
    obtain ⟨t, ht, rfl⟩ := List.mem_map.mp hn
    obtain ⟨d, hd, rfl⟩ := mem_shown ht
    exact (h d hd).2.1
  rw [e] at z
  exact z
theorem fit_list {m k : Nat} {ds : List PyData} (h : ∀ d ∈ ds, Fit m k d) : Fit (ds.length * (m + 2) + 3) (k + 1) (.list ds) := by
  refine ⟨?_, ?_, ?_⟩
  · simp only [PyData.showable]
    exact showableAll_of fun d hd => (h d hd).1
  · simp only [PyData.shown]
    have z1 := listText_len_le (PyData.shownAll ds)
    have z2 := lens_le h
    rw [PyData.shownAll_length] at z1
    rw [Nat.mul_add]
    omega
  · have e : (PyData.list ds).depth = PyData.depthAll ds + 1 := by simp only [PyData.depth] <;> omega
    rw [e]
    exact Nat.succ_le_succ (depthAll_le fun d hd => (h d hd).2.2)
theorem fit_tuple {m k : Nat} {ds : List PyData} (h : ∀ d ∈ ds, Fit m k d) : Fit (ds.length * (m + 2) + 3) (k + 1) (.tuple ds) := by
  refine ⟨?_, ?_, ?_⟩
  · simp only [PyData.showable]
    exact showableAll_of fun d hd => (h d hd).1
  · simp only [PyData.shown]
    have z1 := tupleText_len_le (PyData.shownAll ds)
    have z2 := lens_le h
    rw [PyData.shownAll_length] at z1
    rw [Nat.mul_add]
    omega
  · have e : (PyData.tuple ds).depth = PyData.depthAll ds + 1 := by simp only [PyData.depth] <;> omega
    rw [e]
    exact Nat.succ_le_succ (depthAll_le fun d hd => (h d hd).2.2)
theorem kvs_le {m k : Nat} : ∀ {kvs : List (PyData × PyData)}, (∀ p ∈ kvs, Fit m k p.1 ∧ Fit m k p.2) → ((PyData.shownKv kvs).map (·.length)).sum ≤ kvs.length * (2 * m + 2) ∧ PyData.depthKv kvs ≤ k
  | [], _ => by simp [PyData.shownKv, PyData.depthKv]
  | (a, b) :: r, h => by
    obtain ⟨h1, h2⟩ := h (a, b) List.mem_cons_self
    obtain ⟨z1, z2⟩ := kvs_le (kvs := r) fun p hp => h p (List.mem_cons_of_mem _ hp)
    have e : (a.shown ++ ": " ++ b.shown).length = a.shown.length + 2 + b.shown.length := by
      rw [strLen_append, strLen_append]
      rfl
    have y1 := h1.2.1
    have y2 := h2.2.1
    refine ⟨?_, ?_⟩
    · rw [PyData.shownKv_cons, List.map_cons, List.sum_cons, List.length_cons, Nat.succ_mul, e]
      have y1' : a.shown.length ≤ m := y1
      have y2' : b.shown.length ≤ m := y2
      omega
    · have y3 : a.depth ≤ k := h1.2.2
      have y4 : b.depth ≤ k := h2.2.2
      simp only [PyData.depthKv]
      omega
theorem fit_dict {m k : Nat} {kvs : List (PyData × PyData)} (h : ∀ p ∈ kvs, Fit m k p.1 ∧ Fit m k p.2) : Fit (kvs.length * (2 * m + 4) + 3) (k + 1) (.dict kvs) := by
  obtain ⟨z1, z2⟩ := kvs_le h
  refine ⟨?_, ?_, ?_⟩
  · simp only [PyData.showable]
    exact showableKv_of fun p hp => ⟨(h p hp).1.1, (h p hp).2.1⟩
  · simp only [PyData.shown]
    have y := dictText_len_le (PyData.shownKv kvs)
    rw [PyData.shownKv_length] at y
    have e : kvs.length * (2 * m + 4) = kvs.length * (2 * m + 2) + 2 * kvs.length := by
      rw [Nat.mul_add, Nat.mul_add]
      omega
    omega
  · have e : (PyData.dict kvs).depth = PyData.depthKv kvs + 1 := by simp only [PyData.depth] <;> omega
    omega
theorem fit_int {i : Int} {n : Nat} (h0 : 0 < n) (h : i.natAbs < 10 ^ n) (hn : n ≤ 500) : Fit (n + 1) 0 (.int i) := by
  have z : (10 : Nat) ^ n < 2 ^ 1920 := Nat.lt_of_le_of_lt (Nat.pow_le_pow_right (by decide) hn) (by decide +kernel)
  refine ⟨decide_eq_true (log2_small (Nat.lt_trans h z)), ?_, by simp [PyData.depth]⟩
  rw [PyData.shown_int, PySem.ofString_length]
  exact int_text_length_le10 h0 h
/-- a datum is equal to itself -/
theorem eqv_self {K : PySem.W.Frag} {H : Hp} {x : V} {d : PyData} (D : DatV K H x d) (n : Nat) : EqV K H (n + 1) x x := by
  cases D with
  | non => exact .inl ⟨rfl, rfl⟩
  | bl b => exact .inl ⟨rfl, rfl⟩
  | int i => exact .inl ⟨rfl, rfl⟩
  | str y => exact .inl ⟨rfl, rfl⟩
  | lst _ _ => exact .inr (.inl ⟨_, rfl, rfl⟩)
  | tup _ _ => exact .inr (.inl ⟨_, rfl, rfl⟩)
  | dic _ _ => exact .inr (.inl ⟨_, rfl, rfl⟩)
theorem paired_rep {α β : Type} {F : α → β → Prop} {a : α} {b : β} (h : F a b) : ∀ n : Nat, Paired F (List.replicate n a) (List.replicate n b)
  | 0 => .nil
  | n + 1 => .cons h (paired_rep h n)
theorem datA_rep {K : PySem.W.Frag} {H : Hp} {x : V} {d : PyData} (D : DatV K H x d) : ∀ n : Nat, DatA K H (List.replicate n x) (List.replicate n d)
  | 0 => .nil
  | n + 1 => .cons D (datA_rep D n)
end Ns

/-! NsE: == of equal nested lists, tuples and dicts. -/
namespace Ns
open PySem PySem.Spec PyProof.Rows L2
/-- two tuples of equal items -/
def EqU (K : PySem.W.Frag) (H : Hp) (E : V → V → Prop) (x y : V) : Prop := ∃ a b xs ys, x = .ref a ∧ y = .ref b ∧ SqT K H a xs ∧ SqT K H b ys ∧ Paired E xs ys
/-- equal, of nesting below n, tuples too -/
def EqT (K : PySem.W.Frag) (H : Hp) : Nat → V → V → Prop
  | 0 => fun _ _ => False
  | n + 1 => fun x y => (x = y ∧ flatB x = true) ∨ (∃ a, x = .ref a ∧ y = .ref a) ∨ EqR K H (EqT K H n) x y ∨ EqU K H (EqT K H n) x y
section
variable {X : Cx} {pins : List (Addr × Obj)} {σ : L2.St} {H : Hp} {s : Shared}
theorem eqU_run (I : Inv X pins σ H s) {A : Around} {F : V → V → Prop} (hu : A.units < cLine) (ih : ∀ x y v u, F x y → RelV x v → RelV y u → SeqAt.EqP X.prog X.w A.in1 s v u true) {x y : V} {v u : Value} (h : EqU X.K H F x y) (rx : RelV x v) (ry : RelV y u)
    (E Q : Value → Shared → Prop) (q : Q (.bool true) s) : wpAny (model X.prog X.w) A (richCompare .Eq v u) Q E s := by
  obtain ⟨a, b, xs, ys, rfl, rfl, ha, hb, hp⟩ := h
  cases (show v = Value.ref a from rx)
  cases (show u = Value.ref b from ry)
  obtain ⟨us, r1, ⟨o1, h1, h2, n1, h3⟩, _⟩ := I.tuple ha
  obtain ⟨ws, r2, ⟨o2, g1, g2, n2, g3⟩, _⟩ := I.tuple hb
  have hsz : us.toArray.size = ws.toArray.size := by
    rw [List.size_toArray, List.size_toArray, ← r1.length, ← r2.length]
    exact Paired.length hp
  refine SeqAt.rcIn_tuples (e := fun _ => true) ⟨o1, h1, h2, n1, h3⟩ ⟨o2, g1, g2, n2, g3⟩ hu (fun j h1 h2 => ?_) ?_
  · have k := items_run ih hp r1 r2 j (by simpa using h1) (by simpa using h2)
    simp only [List.getElem_toArray]
    exact fun E Q q => k E Q q
  · rw [hsz, show ((List.range (min ws.toArray.size ws.toArray.size)).all fun _ => true) = true from List.all_eq_true.mpr fun _ _ => rfl]
    simpa using q
theorem eqT_run (I : Inv X pins σ H s) : ∀ (n : Nat) (A : Around), A.units + n < cLine → ∀ (x y : V) (v u : Value), EqT X.K H n x y → RelV x v → RelV y u → SeqAt.EqP X.prog X.w A s v u true
  | 0, _, _, _, _, _, _, h, _, _ => (show False from h).elim
  | n + 1, A, hu, x, y, v, u, h, rx, ry => by
    have ih := eqT_run I n A.in1 (by show A.units + 1 + n < cLine; omega)
    rcases h with ⟨rfl, f⟩ | ⟨a, rfl, rfl⟩ | h | h
    · exact (eqAt_same rx ry f).eqP
    · cases (show v = Value.ref a from rx)
      cases (show u = Value.ref a from ry)
      exact (SeqAt.EqAt.same _).eqP
    · have step := eqR_run I (A := A) (by omega) ih h rx ry
      obtain ⟨a, b, rfl, rfl⟩ : ∃ a b, x = .ref a ∧ y = .ref b := by
        rcases h with ⟨a, b, _, _, e1, e2, _⟩ | ⟨a, b, _, _, e1, e2, _⟩
        · exact ⟨a, b, e1, e2⟩
        · exact ⟨a, b, e1, e2⟩
      cases (show v = Value.ref a from rx)
      cases (show u = Value.ref b from ry)
      by_cases e : a = b
      · subst e
        exact (SeqAt.EqAt.same _).eqP
      · exact SeqAt.eqP_refs e step
    · have step := eqU_run I (A := A) (by omega) ih h rx ry
      obtain ⟨a, b, _, _, rfl, rfl, _⟩ := h
      cases (show v = Value.ref a from rx)
      cases (show u = Value.ref b from ry)
      by_cases e : a = b
      · subst e
        exact (SeqAt.EqAt.same _).eqP
      · exact SeqAt.eqP_refs e step
end
/-- flat, or a list, a tuple, a dict, the two of them equal -/
def EqS (K : PySem.W.Frag) (H : Hp) (n : Nat) (x y : V) : Prop := EqR K H (EqT K H n) x y ∨ EqU K H (EqT K H n) x y
section
variable {X : Cx}
/-- a == b, equal: flat ones, or lists, tuples, dicts -/
def rEqT (K : PySem.W.Frag) : R2 := fun x y H Q => ((x = y ∧ ((∃ i, x = .int i) ∨ (∃ z, x = .str z) ∨ x = .non ∨ ∃ b, x = .bl b)) ∨ ∃ n, n ≤ 60 ∧ EqS K H n x y) ∧ Q (.bl true) H
theorem op_eqT (hu : X.A.units + 64 < cLine) : OpR X (compareOp .Eq) (rEqT X.K) := by
  intro pins s σ H x y v u Q I rx ry h
  obtain ⟨h, q⟩ := h
  have qq : EP X pins σ Q (Value.bool true) s := ⟨.bl true, H, I, rfl, q⟩
  rcases h with ⟨rfl, ⟨i, rfl⟩ | ⟨z, rfl⟩ | rfl | ⟨b, rfl⟩⟩ | ⟨n, hn, h | h⟩
  · obtain ⟨t, rfl⟩ := (show ∃ t, v = Value.int i t from rx)
    obtain ⟨t', rfl⟩ := (show ∃ t, u = Value.int i t from ry)
    exact SeqAt.RcAt.int_int i t i t' _ _ _ _ (by rw [beq_self_eq_true]; exact qq)
  · obtain ⟨t, rfl⟩ := (show ∃ t, v = Value.str z t from rx)
    obtain ⟨t', rfl⟩ := (show ∃ t, u = Value.str z t from ry)
    exact SeqAt.RcAt.str_str z t z t' _ _ _ _ (by rw [beq_self_eq_true]; exact qq)
  · cases (show v = Value.none from rx)
    cases (show u = Value.none from ry)
    exact SeqAt.RcAt.none_none _ _ _ _ qq
  · cases (show v = Value.bool b from rx)
    cases (show u = Value.bool b from ry)
    exact SeqAt.RcAt.bool_bool b b _ _ _ _ (by rw [beq_self_eq_true]; exact qq)
  · exact eqR_run I (A := X.A) (by omega) (eqT_run I n X.A.in1 (by show X.A.units + 1 + n < cLine; omega)) h rx ry _ _ qq
  · exact eqU_run I (A := X.A) (by omega) (eqT_run I n X.A.in1 (by show X.A.units + 1 + n < cLine; omega)) h rx ry _ _ qq
end
end Ns

namespace Y
open PySem PySem.Spec PyProof.Rows L2 Ns
/-- equal data: True -/
def spAlike (K : PySem.W.Frag) : Sp := fun as H Q _ => ∃ (x y : V) (d : PyData), as = [x, y] ∧ ((x = y ∧ ((∃ i, x = .int i) ∨ (∃ z, x = .str z) ∨ x = .non ∨ ∃ b, x = .bl b)) ∨ ∃ n, n ≤ 60 ∧ EqS K H n x y) ∧ DatV K H x d ∧ DatV K H y d ∧ d.showable = true ∧ d.shown.length ≤ sizeLine ∧ d.depth ≤ 60 ∧ Q (.bl true) H
section
variable {P : Program} {w : World} {K : PySem.W.Frag} {mg : Str → Option Value} {base : Heap}
theorem scA : FnScope ["found", "due"] ["found", "due"] (defScope sAlike) := ⟨rfl, rfl, rfl, by decide +kernel, rfl, by decide +kernel, by decide +kernel⟩
theorem ok_alike {f : Addr} {fd : FuncData} (F : Fun K "_law_alike" "_law_alike" sAlike f fd) (T : Nat0 mg) : GnOk P w K mg base 1 f fd ["found", "due"] (spAlike K) := by
  refine Fun.okG F scA (fun as H Q E h => ?_) (fun cdv A outer s H as Q E hr hgd h => ?_)
  · obtain ⟨x, y, d, rfl, _⟩ := h
    rfl
  · obtain ⟨x, y, d, rfl, he, dx, dy, hs, hz, hd, k⟩ := h
    have hu : (A.deeper (envOfC "_law_alike" (defScope sAlike) s.heap.objs.size f cdv)).units + 64 < cLine := hr.units
    refine ⟨_, pss_one (ps_ret (pe_and (pe_cmpR (op_eqT hu) (pv 0) (pv 1) (nomark _)) (pe_one (pe_cmpR op_eq
      (pe_callB (call_reprD hgd hu) (by rfl) T.repr (by decide +kernel) (pa_cons (pv 0) pa_nil)) (pe_callB (call_reprD hgd hu) (by rfl) T.repr (by decide +kernel) (pa_cons (pv 1) pa_nil)) (nomark _))))), ?_⟩
    refine ⟨_, rfl, _, rfl, he, true, rfl, ?_⟩
    refine iteT ?_
    refine ⟨_, rfl, x, d, rfl, dx, hs, hz, hd, _, rfl, y, d, rfl, dy, hs, hz, hd, rfl, ?_⟩
    rw [decide_eq_true rfl]
    exact k
end
end Y

/-! NsS: sorted(xs) of data that are alike; sorted(d), d with pairs of texts as keys. -/
namespace Ns
open PySem PySem.Spec PyProof.Rows L2
open PySem.W (dataLe AllAlike Sortable EachIs)
section
variable {X : Cx}
theorem each_vals {bs : List (V × PyData)} : ∀ {out : List Value}, EachIs (fun v (b : V × PyData) => RelV b.1 v) out bs → Vals (bs.map (·.1)) out
  | _, .nil => .nil
  | _, .cons h t => .cons h (each_vals t)
theorem vals_each {bs : List (V × PyData)} : ∀ {us : List Value}, Vals (bs.map (·.1)) us → EachIs (fun v (b : V × PyData) => RelV b.1 v) us bs := by
  induction bs with
  | nil => intro us r; cases r; exact .nil
  | cons b bs ih => intro us r; cases r with
    | cons h t => exact .cons h (ih t)
theorem each_and {α β : Type} {R S : α → β → Prop} : ∀ {as : List α} {bs : List β}, EachIs R as bs → (∀ b ∈ bs, ∀ a, R a b → S a b) → EachIs S as bs
  | _, _, .nil, _ => .nil
  | _, _, .cons h t, k => .cons (k _ List.mem_cons_self _ h) (each_and t fun b hb => k b (List.mem_cons_of_mem _ hb))
/-- sorted(xs): alike data in Python's order -/
def rSortG (K : PySem.W.Frag) : List V → Hp → VK → Prop := fun vs H Q => ∃ (a : Addr) (bs : List (V × PyData)), vs = [V.ref a] ∧ SqL K H a (bs.map (·.1)) ∧ (∀ p ∈ bs, DatV K H p.1 p.2 ∧ p.2.depth ≤ 60) ∧ AllAlike (bs.map (·.2)) ∧ Sortable (bs.map (·.2)) ∧ bs.length ≤ sizeLine ∧
  ∀ p, H p = none → Q (.ref p) (upd H p (.lst ((bs.mergeSort (dataLe false (·.2))).map (·.1))))
theorem cr_sortG (hu : X.A.units + 64 < cLine) : CallR X (.builtin "sorted") (rSortG X.K) := by
  intro pins s σ H vs us Q I r h
  obtain ⟨a, bs, rfl, hs, hD, ha, hk, hz, q⟩ := h
  obtain ⟨its, rv, hl, _⟩ := I.list hs
  rw [Vals.ref1 r]
  have e := vals_each rv
  refine PySem.W.sorted_data (enc := fun b : V × PyData => b.2) hl.isList e (each_and e fun b hb v rb => reads_of I (hD b hb).1 rb) ha hk hz (fun b hb => by have := (hD b hb).2; omega) fun out hlo ho => ?_
  obtain ⟨ep, he'⟩ := PyProof.Rows.sortedAll_at s.heap its out.toArray
  have hlen : ((bs.mergeSort (dataLe false (·.2))).map (·.1)).length ≤ sizeLine := by rw [List.length_map, List.length_mergeSort]; exact hz
  exact ⟨.ref _, upd H (s.heap.objs.size + 1) (.lst ((bs.mergeSort (dataLe false (·.2))).map (·.1))), I.laid (t' := s.toks) (fun _ _ => PyProof.Rows.sortedAll_old) (Nat.le_succ _) ⟨hlen, out, ep, each_vals ho, by simpa using he'⟩, rfl, q _ (I.hok.fresh (Nat.le_succ _))⟩
/-- two rows of one length that agree at each place -/
theorem rows_same {α β : Type} {f : α → β} : ∀ {xs : List β} {ks : List α}, xs.length = ks.length → (∀ (j : Nat) (v : β) (b : α), xs[j]? = some v → ks[j]? = some b → v = f b) → xs = ks.map f
  | [], [], _, _ => rfl
  | v :: xs, b :: ks, hl, h => by
    rw [List.map_cons, h 0 v b rfl rfl, rows_same (Nat.succ.inj hl) fun j u c h1 h2 => h (j + 1) u c h1 h2]
/-- a pair of texts as data -/
def pD (k : Str × Str) : PyData := .tuple [.str k.1, .str k.2]
def pK (k : Str × Str) : List Key := [.inr k.1, .inr k.2]
/-- sorted(d), d with pairs of texts as keys: the keys' own tuples -/
def rSortDT : List V → Hp → VK → Prop := fun vs H Q => ∃ (a : Addr) (kvs : List (List Key × V)) (ks : List (Str × Str)), vs = [V.ref a] ∧ Rd H a (.dT kvs) ∧ kvs.map (·.1) = ks.map pK ∧ ks.length ≤ 1000 ∧
  ∀ (p : Addr) (qs : List Addr), H p = none → Paired (fun (q : Addr) (k : Str × Str) => H q = some (.tup [.str k.1, .str k.2])) qs (ks.mergeSort (dataLe false pD)) → Q (.ref p) (upd H p (.lst (qs.map V.ref)))
theorem isKeys_pairs {H : Hp} : ∀ {kvs : List (List Key × V)} {bs : List Addr} {ks : List (Str × Str)}, IsKeys H kvs bs → kvs.map (·.1) = ks.map pK → Paired (fun (q : Addr) (k : Str × Str) => H q = some (.tup [.str k.1, .str k.2])) bs ks
  | [], _, [], .nil, _ => .nil
  | [], _, _ :: _, _, e => by cases e
  | _ :: _, _, [], _, e => by cases e
  | kv :: kvs, _, k :: ks, .cons h t, e => by
    injection e with e1 e2
    refine .cons ?_ (isKeys_pairs t e2)
    rw [show kv.1 = pK k from e1] at h
    exact h
theorem pair_each {R : Addr → Str × Str → Prop} : ∀ {qs : List Addr} {ks : List (Str × Str)}, Paired R qs ks → EachIs (fun v k => ∃ q, v = Value.ref q ∧ R q k) (qs.map Value.ref) ks
  | _, _, .nil => .nil
  | _, _, .cons h t => .cons ⟨_, rfl, h⟩ (pair_each t)
theorem each_pair {R : Addr → Str × Str → Prop} : ∀ {out : List Value} {ks : List (Str × Str)}, EachIs (fun v k => ∃ q, v = Value.ref q ∧ R q k) out ks → ∃ qs : List Addr, out = qs.map Value.ref ∧ Paired R qs ks
  | _, _, .nil => ⟨[], rfl, .nil⟩
  | _, _, .cons ⟨q, e, h⟩ t => by
    obtain ⟨qs, e2, p⟩ := each_pair t
    exact ⟨q :: qs, by rw [e, e2]; rfl, .cons h p⟩
theorem alike_pD (ks : List (Str × Str)) : AllAlike (ks.map pD) := AllAlike.of fun _ _ => by simp [PySem.W.alike, PySem.W.alikeAll, pD]
theorem sortable_pD (ks : List (Str × Str)) : Sortable (ks.map pD) := Sortable.tuples fun _ => ⟨_, _, rfl⟩
theorem cr_sortDT (hc : X.calm = true) (hu : X.A.units + 64 < cLine) : CallR X (.builtin "sorted") rSortDT := by
  intro pins s σ H xs us Q I r h
  obtain ⟨d, kvs, kk, rfl, hd, hkk, h1000, q⟩ := h
  obtain ⟨u, rfl, rx⟩ := r.one
  cases rx
  obtain ⟨z, hs, ks, pr, o, es, ep, ho, hx, hdt, he, hn⟩ := (show ObjOk X.prog X.w H s.heap d (.dT kvs) from hd.ok I.hok)
  have l1 : es.size = ks.length := size_of_entries he
  have l2 : kvs.length = ks.length := Paired.length pr
  have l3 : kvs.length = kk.length := by
    have := congrArg List.length hkk
    rw [List.length_map, List.length_map] at this
    exact this
  have z16 : sizeLine = 16777216 := sizeLine_eq
  refine Calls.call_function_entry PyProof.Rows.kind_sorted PyProof.Rows.plain_sorted PyProof.Rows.entry_sorted (PyProof.Rows.args_sorted1 _) ?_
  unfold Builtin.«sorted»
  refine wpAny_bind (m := checkCount "sorted" 1 1 _) (wpAny_pure ?_)
  refine wpAny_bind (PySem.W.kdu_collect (A := X.A.in1) (kdl_raw hs hx hdt) (I.ok.hd hc) ho (by omega) fun h' tk acc hk it => ?_)
  have hsz : acc.toList.length = ks.length := (Array.length_toList).trans (it.1.trans l1)
  have ea : acc.toList = ks.map fun x => Value.ref x.2.1 := by
    refine rows_same hsz fun j v b hv hb => ?_
    obtain ⟨en, hen, rfl⟩ := it.2 j v ((Array.getElem?_toList).symm.trans hv)
    have q := (entry_at he j).symm.trans hen
    rw [hb] at q
    cases q
    rfl
  have eb : acc.toList = (ks.map fun x => x.2.1).map Value.ref := by rw [ea, List.map_map]; all_goals rfl
  have hP := isKeys_pairs (isKeys_of pr) hkk
  have hal : acc.toList.length = kk.length := by rw [Array.length_toList, it.1, l1, ← l2, l3]
  have I1 : Inv X pins σ H { s with heap := h', toks := tk } := I.kept hk
  refine wpAny_bind (wpAny_newList ?_ (by rw [hal]; omega))
  have hoL : (h'.push (seqObj "list" acc.toList.toArray 0)).get? h'.objs.size = some (seqObj "list" acc.toList.toArray 0) := Heap.get?_push_size _ rfl
  show wpAny _ _ _ _ _ { s with heap := h'.push (seqObj "list" acc.toList.toArray 0), toks := tk }
  have e0 : EachIs (fun v (k : Str × Str) => ∃ q, v = Value.ref q ∧ H q = some (.tup [.str k.1, .str k.2])) acc.toList kk := by
    rw [eb]
    exact pair_each hP
  refine wpAny_bind (wpAny_holding (PySem.W.list_sort_data (enc := pD) (s := { s with heap := h'.push (seqObj "list" acc.toList.toArray 0), toks := tk }) hoL e0 (each_and e0 fun k _ v rv => ?_) (alike_pD kk) (sortable_pD kk) (by omega) (fun k _ => ?_) fun out hlo hO => ?_))
  · obtain ⟨q, rfl, hq⟩ := rv
    obtain ⟨_, its, rv2, ot, hot, hct, nt, hdtt⟩ := (show ObjOk X.prog X.w H h' q (.tup [.str k.1, .str k.2]) from I1.hok q _ hq)
    obtain ⟨u1, u2, rfl, r1, r2⟩ := rv2.two
    obtain ⟨t1, rfl⟩ := r1
    obtain ⟨t2, rfl⟩ := r2
    refine ⟨[], Reads.tuple (Heap.get?_push_of_some _ hot) hct hdtt ?_, fun z => nomatch z⟩
    exact ReadsAll.cons (as := []) (bs := []) (.str _ _) (ReadsAll.cons (as := []) (bs := []) (.str _ _) .nil)
  · have : (pD k).depth = 1 := by simp [pD, PyData.depth, PyData.depthAll]
    show X.A.units + 1 + 1 + _ < _
    omega
  · obtain ⟨qs, eo, pq⟩ := each_pair hO
    obtain ⟨e', he'⟩ := PyProof.Rows.sortedHeap_at (vs := acc.toList) (out := out.toArray) hoL
    have hlen : (qs.map V.ref).length ≤ sizeLine := by
      have : out.length = qs.length := by rw [eo, List.length_map]
      rw [List.length_map]
      omega
    refine wpAny_pure ⟨_, rfl, .ref h'.objs.size, upd H h'.objs.size (.lst (qs.map V.ref)), I1.laid (t' := tk) (fun b u e => ?_) (Nat.le_refl _)
      (show ObjOk X.prog X.w _ _ _ (.lst (qs.map V.ref)) from ⟨hlen, out, e', by rw [eo]; exact vals_refs qs, by simpa using he'⟩), rfl, q _ qs (I1.hok.fresh (Nat.le_refl _)) pq⟩
    have hb : b < h'.objs.size := Heap.lt_size e
    rw [PyProof.Rows.sortedHeap_old (Nat.ne_of_lt hb) (by rw [size_push']; exact Nat.lt_succ_of_lt hb)]
    exact Heap.get?_push_of_some _ e
end
end Ns

/-! NsU: d.update(e), two dicts; the values and the items of a dict. -/
namespace Ns
open PySem PySem.Spec PyProof.Rows L2
open L2.DX (itemsO itemsO_ok takeT)
theorem mergeK_len : ∀ (more kvs : List (Key × V)), (mergeK kvs more).length ≤ kvs.length + more.length
  | [], kvs => Nat.le_refl _
  | p :: more, kvs => by
    have h1 := mergeK_len more (putK kvs p.1 p.2)
    have h2 := length_putK kvs p.1 p.2
    show (mergeK (putK kvs p.1 p.2) more).length ≤ _
    rw [List.length_cons]
    omega
section
variable {X : Cx}
def rDUpd : V → List V → Hp → VK → Prop := fun x xs H Q => ∃ (a b : Addr) (kvs more : List (Key × V)), x = .ref a ∧ xs = [.ref b] ∧ a ≠ b ∧ H a = some (.dK kvs) ∧ H b = some (.dK more) ∧ kvs.length + more.length ≤ sizeLine ∧ Q .non (upd H a (.dK (mergeK kvs more)))
theorem mt_dupd : MtR X "dict.update" rDUpd := by
  intro pins s σ H x xs v us Q I rx rxs h
  obtain ⟨a, b, kvs, more, rfl, rfl, hab, ha, hb, hz, q⟩ := h
  cases rx
  obtain ⟨u, rfl, ru⟩ := vals1 rxs
  cases ru
  obtain ⟨_, da, va, ka, oa⟩ := dk_of I.hok ha
  obtain ⟨_, db, vb, kb, ob⟩ := dk_of I.hok hb
  have lens : va.length + vb.length ≤ sizeLine := by rw [← ka.length, ← kb.length]; exact hz
  refine call_meetsIn PySem.F.slot_dict_update oa.typeIs PySem.F.entry_dict_update (PySem.F.args_dict_update_2 _ _) (meets_dict_update (mixKind X.prog X.w) a b hab db) ⟨va, vb, oa, ob, lens, fun h' m1 _ sb => ?_⟩
  have there : ∃ q, h'.get? a = some q := by
    obtain ⟨q, _, _, hq, _⟩ := m1
    exact ⟨q, hq⟩
  exact ⟨.non, _, d_write (t' := s.toks) I (by rw [ha]; trivial) sb there (dk_new (Nat.le_trans (mergeK_len more kvs) hz) da (KV.merge kb ka) m1), rfl, q⟩
/-- the view d.values() at p -/
def valsO (p d : Addr) : HO := .ext fun h => h.IsValuesView p d
theorem valsO_ok {P : Program} {w : World} {H : Hp} {h : Heap} {p d : Addr} (e : h.get? p = some { cls := .type "dict_values", data := .fields #[.ref d] }) : ObjOk P w H h p (valsO p d) :=
  ⟨⟨_, e, rfl, rfl⟩, ⟨_, e⟩, fun h1 h2 x k => by
    obtain ⟨o, ho, r⟩ := x
    exact ⟨o, k o ho, r⟩⟩
def rItemsK : V → List V → Hp → VK → Prop := fun x xs H Q => ∃ (a : Addr) (kvs : List (Key × V)), x = .ref a ∧ xs = [] ∧ H a = some (.dK kvs) ∧ ∀ p, H p = none → Q (.ref p) (upd H p (itemsO p a))
def rValsK : V → List V → Hp → VK → Prop := fun x xs H Q => ∃ (a : Addr) (kvs : List (Key × V)), x = .ref a ∧ xs = [] ∧ H a = some (.dK kvs) ∧ ∀ p, H p = none → Q (.ref p) (upd H p (valsO p a))
theorem mt_itemsK : MtR X "dict.items" rItemsK := by
  intro pins s σ H x xs v us Q I rx rxs h
  obtain ⟨a, kvs, rfl, rfl, ha, q⟩ := h
  cases rx
  cases rxs
  obtain ⟨_, da, va, ka, oa⟩ := dk_of I.hok ha
  refine call_meetsIn PySem.F.slot_dict_items oa.typeIs PySem.F.entry_dict_items (PySem.F.args_dict_items_1 _) (meets_dict_items (mixKind X.prog X.w) a da) ⟨⟨va, oa⟩, ?_⟩
  exact ⟨.ref s.heap.objs.size, upd H s.heap.objs.size (itemsO s.heap.objs.size a), I.laid (t' := s.toks) (fun b u e => Heap.get?_push_of_some _ e) (Nat.le_refl _) (itemsO_ok (Heap.get?_push_size _ rfl)), rfl, q _ (I.hok.fresh (Nat.le_refl _))⟩
theorem mt_valsK : MtR X "dict.values" rValsK := by
  intro pins s σ H x xs v us Q I rx rxs h
  obtain ⟨a, kvs, rfl, rfl, ha, q⟩ := h
  cases rx
  cases rxs
  obtain ⟨_, da, va, ka, oa⟩ := dk_of I.hok ha
  refine call_meetsIn PySem.F.slot_dict_values oa.typeIs PySem.F.entry_dict_values (PySem.F.args_dict_values_1 _) (meets_dict_values (mixKind X.prog X.w) a da) ⟨⟨va, oa⟩, ?_⟩
  exact ⟨.ref s.heap.objs.size, upd H s.heap.objs.size (valsO s.heap.objs.size a), I.laid (t' := s.toks) (fun b u e => Heap.get?_push_of_some _ e) (Nat.le_refl _) (valsO_ok (Heap.get?_push_size _ rfl)), rfl, q _ (I.hok.fresh (Nat.le_refl _))⟩
/-- sum(d.values()), whole numbers -/
def rSumVals : List V → Hp → VK → Prop := fun xs H Q => ∃ (p a : Addr) (kvs : List (Key × V)) (ns : List Int), xs = [.ref p] ∧ H p = some (valsO p a) ∧ H a = some (.dK kvs) ∧ kvs.map (·.2) = ns.map V.int ∧ Q (.int ns.sum) H
theorem preSum_eq : ∀ ns : List Int, preSum (fun i => ns.getD i 0) ns.length = ns.sum
  | [] => rfl
  | n :: ns => by
    rw [List.length_cons, PySem.W.kdu_shift]
    have ih := preSum_eq ns
    show n + preSum (fun i => ns.getD i 0) ns.length = _
    rw [ih, List.sum_cons]
theorem vals_num {ns : List Int} : ∀ {us : List Value}, Vals (ns.map V.int) us → ∀ (j : Nat) (u : Value), us[j]? = some u → ∃ t, u = .int (ns.getD j 0) t := by
  induction ns with
  | nil => intro us r j u h; cases r; cases h
  | cons n ns ih =>
    intro us r j u h
    cases r with
    | cons a b =>
      cases j with
      | zero =>
        cases h
        exact a
      | succ j => exact ih b j u h
theorem call_sumVals (hc : X.calm = true) : CallR X (.builtin "sum") rSumVals := by
  intro pins s σ H xs us Q I r h
  obtain ⟨p, a, kvs, ns, rfl, hp, ha, hn, q⟩ := h
  obtain rfl := Vals.ref1 r
  have view : s.heap.IsValuesView p a := (show ObjOk X.prog X.w H s.heap p (valsO p a) from I.hok p _ hp).1
  obtain ⟨_, da, va, ka, oa⟩ := dk_of I.hok ha
  obtain ⟨ep, hat⟩ := oa.dictAt
  have src := PySem.W.kdl_values (prog := X.prog) (w := X.w) (knd := mixKind X.prog X.w) (kvs := va) (ep := ep) (r := p) (d := a)
  have ok : s.heap.IsValuesView p a ∧ s.heap.DictAt (mixKind X.prog X.w) a va ep := ⟨view, hat⟩
  have nums := kv_vals ka
  rw [hn] at nums
  have ln : va.length = ns.length := by
    have := nums.length
    rw [List.length_map, List.length_map] at this
    exact this.symm
  refine call_sum_walkAnyS ?_
  obtain ⟨ob, St, step, W, st⟩ := src.iter X.A.in1 s (I.ok.hd hc) ok
  refine step _ _ ⟨s.heap.objs.size, _, _, _, va.length, _, _, fun i => ns.getD i 0, rfl, W.toS, st, fun b hb => ?_, fun i v hv => ?_, fun s' t' hm => ?_⟩
  · have there := src.there _ ok
    have up : s.heap.objs.size < (s.heap.push ob).objs.size := by rw [size_push']; omega
    rcases List.mem_cons.mp hb with e | e
    · rw [e]; exact up
    · rw [List.mem_singleton.mp e]
      exact Nat.lt_trans there.2 up
  · obtain ⟨k, hk⟩ := hv
    exact vals_num nums i v (by rw [List.getElem?_map, hk]; rfl)
  · have kept : ∀ b o, s.heap.get? b = some o → s'.heap.get? b = some o := fun b o e => by
      refine hm.heap b o (fun z => ?_) (Heap.get?_push_of_some _ e)
      have := Heap.lt_size e
      rw [List.mem_singleton.mp z] at this
      exact Nat.lt_irrefl _ this
    rw [Moved.eq_with hm, ln, preSum_eq]
    exact ⟨.int ns.sum, H, I.kept kept, ⟨_, rfl⟩, q⟩
/-- list(d.items()): new pairs -/
def rListItems : List V → Hp → VK → Prop := fun xs H Q => ∃ (p a : Addr) (kvs : List (Key × V)), xs = [.ref p] ∧ H p = some (itemsO p a) ∧ H a = some (.dK kvs) ∧
  ∀ (l : Addr) (ts : List Addr) (H' : Hp), H l = none → Same H H' → H' l = some (.lst (ts.map V.ref)) → Paired (fun (t : Addr) (kv : Key × V) => H' t = some (.tup [kV kv.1, kv.2]) ∧ H t = none) ts kvs → Q (.ref l) H'
theorem key_rel {P : Program} {w : World} {k : Key} {u : Value} (h : (mixKind P w).is k u = true) : RelV (kV k) u := by
  rcases keyIs_shape (show keyIs k u = true from h) with ⟨i, t, rfl, rfl⟩ | ⟨x, t, rfl, rfl⟩
  · exact ⟨t, rfl⟩
  · exact ⟨t, rfl⟩
theorem kv_at : ∀ {ks : List (Key × V)} {vs : List (Key × Value)}, KV ks vs → ∀ {j : Nat} {k : Key} {x : Value}, vs[j]? = some (k, x) → ∃ v, ks[j]? = some (k, v) ∧ RelV v x
  | _, _, .cons (a := a) h t, 0, k, x, e => by
    cases e
    obtain ⟨h1, h2⟩ := h
    have h1' : a.1 = k := h1
    exact ⟨a.2, by rw [← h1']; rfl, h2⟩
  | _, _, .cons h t, j + 1, k, x, e => kv_at t e
theorem pair_rows {R : Addr → Key × V → Prop} : ∀ {ts : List Addr} {kvs : List (Key × V)}, ts.length = kvs.length → (∀ (j : Nat) (t : Addr) (kv : Key × V), ts[j]? = some t → kvs[j]? = some kv → R t kv) → Paired R ts kvs
  | [], [], _, _ => .nil
  | t :: ts, kv :: kvs, hl, h => .cons (h 0 t kv rfl rfl) (pair_rows (Nat.succ.inj hl) fun j a b h1 h2 => h (j + 1) a b h1 h2)
theorem call_listItems (hc : X.calm = true) : CallR X (.type "list") rListItems := by
  intro pins s σ H xs us Q I r h
  obtain ⟨p, a, kvs, rfl, hp, ha, q⟩ := h
  obtain rfl := Vals.ref1 r
  have view : s.heap.IsItemsView p a := (show ObjOk X.prog X.w H s.heap p (itemsO p a) from I.hok p _ hp).1
  obtain ⟨hz, da, va, ka, oa⟩ := dk_of I.hok ha
  obtain ⟨ep, hat⟩ := oa.dictAt
  have lv : kvs.length = va.length := ka.length
  refine PySem.W.kdx_call (I.ok.hd hc) view hat (by rw [← lv]; exact hz) fun h' tk acc c ts kept hS hl hG hacc => ?_
  have nd : ts.Nodup := List.Pairwise.imp (fun h => Nat.ne_of_lt h) hG.rise
  have fr : H s.heap.objs.size = none := I.hok.fresh (Nat.le_refl _)
  have lz : (ts.map V.ref).length ≤ sizeLine := by rw [List.length_map, hl, ← lv]; exact hz
  have I1 : Inv X pins σ (upd H s.heap.objs.size (.lst (ts.map V.ref))) { s with heap := h', toks := tk } :=
    I.laid (t' := tk) kept (Nat.le_refl _) ⟨lz, acc.toList, c, by rw [hacc]; exact vals_refs ts, by rw [Array.toArray_toList]; exact hS⟩
  have made : ∀ (j : Nat) (t : Addr), ts[j]? = some t → ∃ (k : Key) (v : V), kvs[j]? = some (k, v) ∧ ∀ H2, ObjOk X.prog X.w H2 h' t (.tup [kV k, v]) := fun j t ht => by
    obtain ⟨key, k, x, e1, e2, e3⟩ := hG.pairs j t ht
    obtain ⟨v, e4, rv⟩ := kv_at ka e1
    exact ⟨k, v, e4, fun H2 => ⟨(by rw [sizeLine_eq]; show 2 ≤ 16777216; omega), [key, x], .cons (key_rel e2) (.cons rv .nil), ⟨_, e3, rfl, 0, rfl⟩⟩⟩
  obtain ⟨H2, I3, g, qt⟩ := takeT (P := fun t vs => ∃ (j : Nat) (k : Key) (v : V), ts[j]? = some t ∧ kvs[j]? = some (k, v) ∧ vs = [kV k, v]) I ts _ I1 nd fun t ht => by
    obtain ⟨j, hj⟩ := List.mem_iff_getElem?.mp ht
    obtain ⟨k, v, e1, e2⟩ := made j t hj
    have above := hG.above t ht
    exact ⟨Nat.le_of_lt above, by rw [upd_ne (Nat.ne_of_gt above)]; exact I.hok.fresh (Nat.le_of_lt above), [kV k, v], ⟨j, k, v, hj, e1, rfl⟩, e2⟩
  refine ⟨.ref s.heap.objs.size, H2, I3, rfl, q _ ts H2 fr (fun b o e => g b o (by rw [upd_ne (ne_of_none e fr)]; exact e)) (g _ _ upd_same) (pair_rows (by rw [hl, lv]) fun j t kv h1 h2 => ?_)⟩
  obtain ⟨vs, ⟨i, k, v, e1, e2, rfl⟩, e3⟩ := qt t (List.mem_of_getElem? h1)
  have ij : i = j := (List.getElem?_inj (List.getElem?_eq_some_iff.mp e1).1 nd).mp (e1.trans h1.symm)
  rw [ij, h2] at e2
  cases e2
  exact ⟨e3, I.hok.fresh (Nat.le_of_lt (hG.above t (List.mem_of_getElem? h1)))⟩
end
end Ns

/-! NsI: set(xs) of whole numbers, xs a list. -/
namespace Ns
open PySem PySem.Spec PyProof.Rows L2
/-- a set as it is made -/
abbrev setN (w : World) : Obj := { cls := .type "set", dict := none, data := .set #[] 0 (.fresh 0 0 (!w.params.followText "set-order")) }
section
variable {P : Program} {w : World} {A : Around} {E : Value → Shared → Prop} {s : Shared}
set_option maxHeartbeats 3200000 in
theorem set_ofI {l : Addr} {items : Array Value} (ns : List Int) {Q : Value → Shared → Prop} (hh : A.handled = none) (hl : s.heap.IsList l items) (rel : IntsAre items.toList ns) (room : ns.length + 1 < scanBound)
    (q : ∀ (h' : Heap) (tk c : Nat), (∀ b o, s.heap.get? b = some o → h'.get? b = some o) → SetR w h' s.heap.objs.size (fun j => decide (j ∈ ns)) c → c ≤ ns.length → Q (.ref s.heap.objs.size) { s with heap := h', toks := tk }) :
    wpAny (model P w) A (call (.type "set") [.ref l]) Q E s := by
  have sz : items.size = ns.length := by
    have e := IntsAre.length rel
    rw [Array.length_toList] at e
    exact e
  obtain ⟨c, tl, hmro⟩ := F.called_set.mro
  have f1 := F.called_set.made
  have f2 := F.called_set.sub
  have f3 := F.called_set.notType
  have f4 := F.called_set.canCreate
  have f5 := F.typeCall_set_1 (.ref l)
  refine wpAny_call (codeAny_of_tree ?_)
  show wpAny _ _ (callAny (.type "set") _) _ _ _
  refine wpAny_pure ⟨Code.quiet_builtin _ (by decide +kernel), codeAny_builtin F.entry_type_call ?_⟩
  rw [Around.under_plain (weight_type_call_type "set" [.ref l] []) rfl]
  repeat (any_goals (first | assumption | wp_step))
  refine codeAny_mono (code_set_led1 (.ref l) (E := E) (Q₁ := fun obj s₁ => obj = .ref s.heap.objs.size ∧ s₁ = { s with heap := s.heap.push (setN w) }) ⟨rfl, rfl⟩) fun r s₁ hr => ?_
  rcases r with e | fl
  · exact hr
  cases fl with
  | ret obj =>
    obtain ⟨rfl, rfl⟩ := hr
    have at0 : (s.heap.push (setN w)).get? s.heap.objs.size = some (setN w) := Heap.get?_push_size _ rfl
    have ty0 : Shared.TypeIs { s with heap := s.heap.push (setN w) } (.ref s.heap.objs.size) "set" := ⟨_, at0, rfl⟩
    have f6 := F.called_set.init.lookup
    have f7 := F.called_set.init.bind (.ref s.heap.objs.size)
    repeat (any_goals (first | assumption | wp_step))
    refine codeAny_mono (codeAny_call_builtin (R := wants (fun r s₂ => r = .none ∧ ∃ h' tk c, s₂ = { s with heap := h', toks := tk } ∧ (∀ c o, s.heap.get? c = some o → h'.get? c = some o) ∧ SetR w h' s.heap.objs.size (fun j => decide (j ∈ ns)) c ∧ c ≤ ns.length) E)
      F.called_set.init.plain F.entry_set_init (check_set_init_1 ty0 ?_)) fun r₂ s₂ hr₂ => ?_
    · obtain ⟨⟨ocls, odict, odata, oslots⟩, hol, hcl, nl, hdl⟩ := hl
      simp only at hcl hdl
      subst hcl; subst hdl
      have lS : l < s.heap.objs.size := Heap.lt_size hol
      have hol' : (s.heap.push (setN w)).get? l = some { cls := .type "list", dict := odict, data := .seq items nl, slots := oslots } := Heap.get?_push_of_some _ hol
      have g1 := F.sub_list_set
      have g2 := F.sub_list_frozenset
      have g3 : (Value.type "list" == Value.type "dict") = false := by decide
      have isl : (s.heap.push (setN w)).IsList l items := ⟨_, hol', rfl, nl, rfl⟩
      unfold Builtin.«set.__init__» noKeywords Builtin.Frozenset.updateFrom
      generalize keep : pyIter = PI
      wp_walk
      subst keep
      refine wpAny_pyIter_list isl (wpAny_bind (wpAny_runValue ?_))
      have up : (s.heap.push (setN w)).objs.size = s.heap.objs.size + 1 := size_push' _ _
      have nI : l ≠ (s.heap.push (setN w)).objs.size := by rw [up]; exact Nat.ne_of_lt (Nat.lt_succ_of_lt lS)
      have nS : s.heap.objs.size ∉ [(s.heap.push (setN w)).objs.size, l] := fun z => by
        rw [up] at z
        rcases List.mem_cons.mp z with e | e
        · exact Nat.ne_of_lt (Nat.lt_succ_self _) e
        · exact Nat.ne_of_gt lS (List.mem_singleton.mp e)
      have hval : ∀ (i : Nat) (v : Value), items[i]? = some v → ∃ k t, ns[i]? = some k ∧ v = .int k t := fun i v hv => by
        have hi : i < ns.length := by rw [← sz]; exact (Array.getElem?_eq_some_iff.mp hv).1
        obtain ⟨t, e⟩ := IntsAre.int_at rel i v (by rw [Array.getElem?_toList]; exact hv)
        refine ⟨ns[i], t, List.getElem?_eq_getElem hi, ?_⟩
        rw [e, List.getD_eq_getElem?_getD, List.getElem?_eq_getElem hi]
        all_goals rfl
      refine set_update_ints ((Walks.list (by simp [hh]) _ l nI items).toS) s.heap.objs.size nS ns sz room hval items.size 0 _ (Nat.sub_zero _) (Nat.zero_le _) ⟨⟨_, Heap.get?_push_size _ rfl, rfl, rfl⟩, isl.push _⟩
        ⟨0, Nat.le_refl 0, setR_new_at (Heap.get?_push_of_some _ at0)⟩ fun s' c' hm hc hS => ?_
      obtain ⟨h', g', d', tk', os'⟩ := s'
      have e1 : g' = s.gens := hm.gens
      have e2 : d' = s.drawn := hm.drawn
      have e3 : os' = s.os := hm.os
      subst e1
      subst e2
      subst e3
      refine wpAny_pure (wpAny_pure ⟨rfl, h', tk', c', rfl, fun b o e => ?_, hS, by rw [← sz]; exact hc⟩)
      have cl : b < s.heap.objs.size := Heap.lt_size e
      refine hm.heap b o (fun z => ?_) (Heap.get?_push_of_some _ (Heap.get?_push_of_some _ e))
      rcases List.mem_cons.mp z with e | e
      · exact Nat.ne_of_lt cl e
      · rw [List.mem_singleton, up] at e
        exact Nat.ne_of_lt (Nat.lt_succ_of_lt cl) e
    · rcases r₂ with e | fl₂
      · exact hr₂
      cases fl₂ with
      | ret r =>
        obtain ⟨rfl, h', tk, c', rfl, kp, X, m⟩ := hr₂
        repeat (any_goals (first | assumption | wp_step))
        exact q h' tk c' kp X m
      | _ => exact hr₂.elim
  | _ => exact hr.elim
end
section
variable {X : Cx}
/-- set(xs): whole numbers -/
def rSetI (K : PySem.W.Frag) (w : World) : List V → Hp → VK → Prop := fun xs H Q => ∃ (a : Addr) (ns : List Int), xs = [.ref a] ∧ SqL K H a (ns.map V.int) ∧ ns.length ≤ 1000 ∧ ∀ (p : Addr) (c : Nat), c ≤ ns.length → H p = none → Q (.ref p) (upd H p (SetO w p (fun j => decide (j ∈ ns)) c))
theorem vals_ints {ns : List Int} : ∀ {us : List Value}, Vals (ns.map V.int) us → IntsAre us ns := by
  induction ns with
  | nil => intro us r; cases r; exact .nil
  | cons n ns ih => intro us r; cases r with
    | cons h t =>
      obtain ⟨tk, rfl⟩ := h
      exact .cons n tk (ih t)
theorem call_setI (hc : X.calm = true) : CallR X (.type "set") (rSetI X.K X.w) := by
  intro pins s σ H xs us Q I r h
  obtain ⟨a, ns, rfl, hs, hz, q⟩ := h
  obtain ⟨its, rv, hl, _⟩ := I.list hs
  rw [Vals.ref1 r]
  refine set_ofI ns (I.ok.hd hc) hl.isList (by simpa using vals_ints rv) (Nat.lt_of_le_of_lt (show ns.length + 1 ≤ 1001 by omega) (by decide)) fun h' tk c kp R hcl => ?_
  exact ⟨.ref s.heap.objs.size, upd H s.heap.objs.size (SetO X.w s.heap.objs.size (fun j => decide (j ∈ ns)) c), I.laid (t' := tk) kp (Nat.le_refl _) (setO_new R), rfl, q _ c hcl (I.hok.fresh (Nat.le_refl _))⟩
end
end Ns

/-! NsJ: sorted(t) of a tuple of ints. -/
namespace Ns
open PySem PySem.Spec PyProof.Rows L2
section
variable {prog : Program} {w : World} {A : Around} {E : Value → Shared → Prop} {s : Shared}
/-- the heap behind the gathering of a tuple's items -/
abbrev gath (h : Heap) (vs : List Value) : Heap := (h.push (seqObj "list" #[] 0)).update h.objs.size (Obj.mapSeq (· ++ vs.toArray))
theorem gather_tup {l : Addr} {vs : List Value} {Q : List Value → Shared → Prop} (hl : IsTup s.heap l vs.toArray) (hz : vs.length ≤ sizeLine) (h : Q vs { s with heap := gath s.heap vs }) : wpAny (model prog w) A (collect (.ref l)) Q E s := by
  obtain ⟨o, e, cl, n, d⟩ := hl
  have e1 : (s.heap.push (seqObj "list" #[] 0)).get? l = some o := Heap.get?_push_of_some _ e
  have e2 : (s.heap.push (seqObj "list" #[] 0)).get? s.heap.objs.size = some (seqObj "list" #[] 0) := Heap.get?_push_size _ rfl
  have t0 : (Value.type "tuple" == Value.type "tuple") = true := rfl
  unfold collect
  refine wpAny_bind (wpAny_runValue (codeAny_builtin entry_proto_collect' ?_)); show wpAny _ _ (do again (.builtin "list.__iadd__" ⟨[← newList [], .ref l], []⟩)) _ _ s
  refine wpAny_bind (wpAny_newList (wpAny_pure ⟨Code.quiet_builtin _ (by decide +kernel), codeAny_builtin entry_list_iadd' ?_⟩)); show wpAny _ _ (Builtin.List.listExtendWith (.ref s.heap.objs.size) (.ref l) (.ref s.heap.objs.size)) _ _ { s with heap := s.heap.push (seqObj "list" #[] 0) }
  unfold Builtin.List.listExtendWith
  refine wpAny_bind (wpAny_typeOf (T := "tuple") ⟨o, e1, cl⟩ ?_)
  rw [if_pos (by rw [t0, Bool.or_true])]
  refine wpAny_bind (listItems_at e1 d (wpAny_bind (listItems_at (xs := #[]) (n := 0) e2 rfl ?_)))
  rw [if_neg (by simp)]
  refine wpAny_bind (listUpdate_at (xs := #[]) (n := 0) e2 rfl (wpAny_pure ?_) (Nat.zero_le _) (by rw [Array.empty_append, List.size_toArray]; omega))
  show wpAny (model prog w) A (do let q ← load s.heap.objs.size; match q.data with | .seq xs _ => pure xs.toList | _ => unsupported "internal:collect") Q E { s with heap := gath s.heap vs }
  refine wpAny_bind (wpAny_load (get?_update_seq e2 _) ?_)
  show wpAny _ _ (pure ((#[] : Array Value) ++ vs.toArray).toList) Q E _
  have ev : ((#[] : Array Value) ++ vs.toArray).toList = vs := by simp
  rw [ev]
  exact wpAny_pure h
theorem sorted_tupI {l : Addr} {vs : List Value} {ns : List Int} {Q : Value → Shared → Prop} (hl : IsTup s.heap l vs.toArray) (hi : IntsAre vs ns) (hz : vs.length ≤ sizeLine)
    (h : ∀ out : List Value, SrtO.Srtd SrtO.ltIv out → SrtO.Stb SrtO.ltIv out vs → Q (.ref (s.heap.objs.size + 1)) { s with heap := PyProof.Rows.sortedAll s.heap vs out.toArray }) : wpAny (model prog w) A (call (.builtin "sorted") [.ref l]) Q E s := by
  have sz : (gath s.heap vs).objs.size = s.heap.objs.size + 1 := by rw [Heap.size_update, size_push']
  have at1 : ((gath s.heap vs).push (seqObj "list" vs.toArray 0)).get? (s.heap.objs.size + 1) = some (seqObj "list" vs.toArray 0) := by rw [← sz]; exact Heap.get?_push_size _ rfl
  refine Calls.call_function_entry kind_sorted plain_sorted entry_sorted (args_sorted1 _) ?_; unfold Builtin.«sorted»
  refine wpAny_bind (m := checkCount "sorted" 1 1 _) (wpAny_pure (wpAny_bind (gather_tup hl hz (wpAny_bind (wpAny_newList ?_ hz)))))
  show wpAny _ _ _ _ _ { s with heap := (gath s.heap vs).push (seqObj "list" vs.toArray 0) }
  rw [sz]
  have srt := @SrtO.list_sort_ord prog w
  refine wpAny_bind (wpAny_holding (wpAny_call_entry slot_list_sort ⟨_, at1, rfl⟩ entry_list_sort (srt (s := { s with heap := (gath s.heap vs).push (seqObj "list" vs.toArray 0) }) SrtO.swo_int at1 hz (fun two => SrtO.ints_sortable hi two) fun o a b => ⟨_, rfl, ?_⟩) (args_list_sort _)))
  exact wpAny_pure ⟨_, rfl, h o a b⟩
end
/-- sorted(t), a tuple of ints -/
def rSortedTI (K : PySem.W.Frag) : List V → Hp → VK → Prop := fun vs H Q => ∃ (a : Addr) (ns : List Int), vs = [.ref a] ∧ SqT K H a (ns.map V.int) ∧ ∀ (ms : List Int) (p : Addr), ms.Perm ns → ms.Pairwise (· ≤ ·) → H p = none → Q (.ref p) (upd H p (.lst (ms.map V.int)))
theorem cr_sortedTI {X : Cx} : CallR X (.builtin "sorted") (rSortedTI X.K) := by
  intro pins s σ H vs us Q I r h
  obtain ⟨a, ns, rfl, hs, q⟩ := h
  obtain ⟨its, rv, hl, hz⟩ := I.tuple hs
  have hi := rv.ints
  rw [Vals.ref1 r]
  refine sorted_tupI hl hi (by rw [← rv.length]; exact hz) fun out h1 h2 => ?_
  obtain ⟨k1, k2, k3⟩ := SrtO.ints_out hi h1 h2
  obtain ⟨ep, he⟩ := PyProof.Rows.sortedAll_at s.heap its out.toArray
  have len : ((out.map SrtO.iv).map V.int).length ≤ sizeLine := by
    rw [List.length_map, k2.length_eq, ← List.length_map (f := V.int)]
    exact hz
  refine ⟨.ref _, upd H (s.heap.objs.size + 1) (.lst ((out.map SrtO.iv).map V.int)), I.laid (t' := s.toks) (fun _ _ => PyProof.Rows.sortedAll_old) (Nat.le_succ _) ⟨len, out, ep, vals_of_ints k1, he⟩, rfl, ?_⟩
  exact q _ _ k2 k3 (I.hok.fresh (Nat.le_succ _))
end Ns

/-! NsK: enumerate(t), a tuple. -/
namespace Ns
open PySem PySem.Spec PyProof.Rows L2
set_option maxHeartbeats 4000000 in
theorem meets_enum1 {v : Value} {o : Obj} {H : Heap → Prop} (B : Begins v o H) :
    Meets (Builtin.«enumerate.__new__» ⟨[.type "enumerate", v], []⟩) (fun _ R s => H s.heap ∧
      R (.ok (.ret (.ref (s.heap.push o).objs.size))) { s with heap := (s.heap.push o).push { cls := .type "enumerate", data := .fields #[.none, .bool false, .ref s.heap.objs.size, rawInt 0, .none, .none] } }) :=
  .of_wp fun prog w A R s h => by
    obtain ⟨hp, g, d, tk, os⟩ := s; obtain ⟨h1, h⟩ := h
    have hsub := sub_enumerate
    have q1 : ∀ {A' : Around} {E : Value → Shared → Prop} {Q : Value → Shared → Prop}, Q (.ref hp.objs.size) ⟨hp.push o, g, d, tk, os⟩ → wpAny (model prog w) A' (pyIter v) Q E ⟨hp, g, d, tk, os⟩ :=
      fun q => B.iter prog w _ _ ⟨hp, g, d, tk, os⟩ _ h1 q
    wp_walk using q1
    refine wpAny_stack_any fun st => wpAny_pure ?_
    split
    · rename_i c _ _ _ _ _
      cases (c == Value.type "enumerate")
      · wp_walk using q1
        exact ⟨_, rfl, h⟩
      · wp_walk using q1
        exact ⟨_, rfl, h⟩
    · wp_walk using q1
      exact ⟨_, rfl, h⟩
section
variable {prog : Program} {w : World} {A : Around} {E : Value → Shared → Prop} {s : Shared}
theorem call_enum1 {v : Value} {o : Obj} {H : Heap → Prop} {Q : Value → Shared → Prop} (B : Begins v o H) (h1 : H s.heap)
    (h : ∀ h', IsEnum h' (s.heap.objs.size + 1) s.heap.objs.size 0 .none → h'.get? s.heap.objs.size = some o → h'.objs.size = s.heap.objs.size + 2 →
      (∀ b o, s.heap.get? b = some o → h'.get? b = some o) → Q (.ref (s.heap.objs.size + 1)) { s with heap := h' }) :
    wpAny (model prog w) A (call (.type "enumerate") [v]) Q E s := by
  refine callType_new F.called_enumerate (by decide) (F.typeCall_enumerate_1 _) (F.newCall_enumerate_1 _) (fun obj => F.args_object_init_2 obj _) F.entry_enumerate_new
    (meets_enum1 B) ⟨h1, ?_⟩
  have hz : (s.heap.push o).objs.size = s.heap.objs.size + 1 := Heap.size_push ..
  show _ ∧ _
  rw [hz]
  have he : IsEnum ((s.heap.push o).push { cls := .type "enumerate", data := .fields #[.none, .bool false, .ref s.heap.objs.size, rawInt 0, .none, .none] }) (s.heap.objs.size + 1) s.heap.objs.size 0 .none := by
    have := Heap.get?_push_size (s.heap.push o) (o := { cls := .type "enumerate", data := .fields #[.none, .bool false, .ref s.heap.objs.size, rawInt 0, .none, .none] }) rfl
    rw [hz] at this; exact this
  refine ⟨⟨_, he, rfl⟩, h _ he (Heap.get?_push_of_some _ (Heap.get?_push_size _ B.free)) (by rw [Heap.size_push, hz]) fun b o x => Heap.get?_push_of_some _ (Heap.get?_push_of_some _ x)⟩
end
/-- the tuple at a, each item in a new pair -/
def IteT (K : PySem.W.Frag) (a : Addr) : It :=
  ⟨fun i H => ∃ (xs : List V) (x : V), SqT K H a xs ∧ xs[i]? = some x, fun i H v H' => ∃ T x, v = .ref T ∧ H T = none ∧ H' = upd H T (.tup [.int (i : Nat), x]) ∧ ∀ xs, SqT K H a xs → xs[i]? = some x, fun i H => ∃ xs : List V, SqT K H a xs ∧ xs.length ≤ i⟩
theorem turn_enumT {P : Program} {w : World} {K : PySem.W.Frag} {elts : List Expr} {kk : Nat} {tpos : Pos} (a e it : Addr) :
    Turn P w K (.Tuple elts kk tpos) (IteT K a) [e, it] e (fun i h => (∃ old, IsEnum h e it ((i : Nat) : Int) old) ∧ h.IsTupleIter it a i ∧ e ≠ it) where
  mem := by simp
  obj := fun i h st b hb => by
    obtain ⟨⟨old, he⟩, ⟨o, ho, hc, hd⟩, _⟩ := st
    have e' : b = e ∨ b = it := by simpa using hb
    rcases e' with z | z
    · rw [z]; exact ⟨_, he, fun v q => nomatch q⟩
    · rw [z]; exact ⟨o, ho, fun v q => by rw [hd] at q; cases q⟩
  keep := fun i h h' st k => let ⟨⟨old, he⟩, hi, hne⟩ := st; ⟨⟨old, k e (by simp) _ he⟩, hi.at fun o q => k it (by simp) o q, hne⟩
  item := by
    intro X hP hw hK hc i pins s σ H E I hf st hg
    subst hP hw hK
    obtain ⟨⟨old, he⟩, hit, hne⟩ := st
    obtain ⟨xs, x, hq, hx⟩ := hg
    obtain ⟨its, rv, p, hz⟩ := I.tuple hq
    obtain ⟨u, hu, ru⟩ := rv.get hx
    have p' : s.heap.IsTuple a its.toArray := p
    have hel : e < s.heap.objs.size := Heap.lt_size he
    have hil : it < s.heap.objs.size := by obtain ⟨_, q, _⟩ := hit; exact Heap.lt_size q
    have nai : a ≠ it := fun z => by
      obtain ⟨o, e1, c1, _⟩ := p'
      obtain ⟨o2, e2, c2, _⟩ := hit
      rw [z, e2] at e1
      cases e1
      rw [c1] at c2
      injection c2 with c3
      exact absurd c3 (by decide)
    have nea : e ≠ a := fun z => by
      obtain ⟨o, e1, c1, _⟩ := p'
      have e2 : s.heap.get? e = _ := he
      rw [z, e1] at e2
      have := congrArg (fun z => z.map Obj.cls) e2
      have c2 : o.cls = .type "enumerate" := Option.some.inj this
      rw [c1] at c2
      injection c2 with c3
      exact absurd c3 (by decide)
    have D := Draws.tuple (prog := X.prog) (w := X.w) (A := X.A.in1) (I.ok.hd hc) it a nai its.toArray
    have hi : i < its.toArray.size := by
      have := (List.getElem?_eq_some_iff.mp hu).1
      simpa using this
    refine wpAny_pyNext_enum_itemD D he ⟨hit, p'⟩ hi hne (by simp [hne, nea]) fun x' h' tk hP ho hit' hT hsz hk => ?_
    have ex : x' = u := by
      have hP : its.toArray[i]? = some x' := hP
      have h2 : its.toArray[i]? = some u := by simpa using hu
      rw [h2] at hP
      exact (Option.some.inj hP).symm
    subst ex
    refine ⟨_, rfl, wpAny_letOwnedTupleGo_enum (s := { s with heap := h', toks := tk + 1 }) ho fun h'' he' sb => ?_⟩
    have hT2 : h''.get? s.heap.objs.size = some { cls := .type "tuple", data := .seq #[.int i tk, x'] } := (sb.2 _ (Nat.ne_of_gt hel)).trans hT
    have new : ObjOk X.prog X.w (upd H s.heap.objs.size (.tup [.int (i : Nat), x])) h'' s.heap.objs.size (.tup [.int (i : Nat), x]) :=
      ⟨by show 2 ≤ sizeLine; decide, [.int i tk, x'], .cons ⟨_, rfl⟩ (.cons ru .nil), ⟨_, hT2, rfl, _, rfl⟩⟩
    have I1 : Inv X pins σ (upd H s.heap.objs.size (.tup [.int (i : Nat), x])) { s with heap := h'', toks := tk + 1 } :=
      I.turnedNew (ch := [e, it]) (fun b ob hb q => (sb.2 b (fun z => hb (by simp [z]))).trans (hk b ob (fun z => hb (by simp [z])) (fun z => hb (by simp [z])) q)) hf (Nat.le_refl _) new
    refine ⟨.ref s.heap.objs.size, _, I1, rfl, ⟨_, x, rfl, I.hok.fresh (Nat.le_refl _), rfl, fun ys hy => by rw [I.tuple_inj hy hq]; exact hx⟩, ⟨⟨x', ?_⟩, hit'.1.at fun o q => (sb.2 it (Ne.symm hne)).trans q, hne⟩, fun b hb => ?_⟩
    · have e1 : ((i + 1 : Nat) : Int) = (i : Int) + 1 := by omega
      rw [e1]; exact he'
    · have hb' : b < s.heap.objs.size := by
        have e' : b = e ∨ b = it := by simpa using hb
        rcases e' with z | z
        · rw [z]; exact hel
        · rw [z]; exact hil
      rw [upd_ne (Nat.ne_of_lt hb')]
      exact (hf b hb).1
  done := by
    intro X hP hw hK hc i pins s σ H E I hf st hg
    subst hP hw hK
    obtain ⟨⟨old, he⟩, hit, hne⟩ := st
    obtain ⟨xs, hq, hx⟩ := hg
    obtain ⟨its, rv, p, hz⟩ := I.tuple hq
    have p' : s.heap.IsTuple a its.toArray := p
    obtain ⟨f0, f1, f2, f3, f4, f5⟩ := hf it (by simp)
    have hl := rv.length
    have hT : s.TypeIs (.ref e) "enumerate" := ⟨_, he, rfl⟩
    unfold pyNext
    refine wpAny_bind (wpAny_attempt (wpAny_callSpecial?_slot (name := Str.ofString "__next__") hT F.slot_enumerate_next
      (wpAny_call_entry F.slot_enumerate_next hT F.entry_enumerate_next ?_ (F.args_enumerate_next_1 _))))
    show wpAny _ _ (field (.ref e) 2 >>= _) _ _ _
    refine wpAny_bind (wpAny_field he rfl (x := .ref it) rfl ?_)
    refine wpAny_bind (wpAny_nextOf_tuple_end (I.ok.hd hc) hit p' (by simp; omega) fun h' x he' hx' => ?_)
    obtain ⟨o, ho, hc'⟩ := hx'
    refine wpAny_bind (wpAny_isInstance (T := "StopIteration") (b := true) ⟨o, ho, hc'⟩ isSubtype_stop ?_)
    exact wpAny_pure ⟨rfl, I.turned (t' := s.toks) (fun b o hb q => he' b o hb q) f0 f1 f3 f4 f5⟩
  self := fun A i s Q E st h => let ⟨⟨_, he⟩, _⟩ := st; wpAny_pyIter_enum he h
def iEnumT (K : PySem.W.Frag) (ta : TA) : TI := fun σ H R => ta σ H fun vs H1 => ∃ a xs, vs = [.ref a] ∧ SqT K H1 a xs ∧ R (IteT K a) H1
theorem pi_enumT {X : Cx} {e : Expr} {ta : TA} {p pos tpos : Pos} {elts : List Expr} {kk : Nat} (hg : Gl X "enumerate") (hm : X.mg "enumerate" = none) (ha : PA X [e] ta) (hs : starEach [e] X.env = [(false, eval e X.env)] := by rfl) :
    PI X (.Tuple elts kk tpos) (.Call (.Name "enumerate" p) [e] [] pos) (iEnumT X.K ta) := by
  refine ⟨fun pins s σ H R I h => ?_⟩
  refine Call_ (ld_blt I hg hm boot_enumerate (PyProof.Rows.callWith_type1 (thn (ha.run pos pins s σ H _ I h) fun us s1 ⟨vs, H1, I1, r1, q1⟩ => ?_) hs rfl))
  obtain ⟨a, xs, ex, hq, q⟩ := q1
  subst ex
  cases r1 with
  | cons r rr =>
    cases rr
    cases r
    obtain ⟨its, rv, p', hz⟩ := I1.tuple hq
    have pT : s1.heap.IsTuple a its.toArray := p'
    refine call_enum1 (begins_tuple a its.toArray) pT fun h' he hit hsz hk => wpAny_pyIter_enum he ?_
    have I2 : Inv X pins σ H1 { s1 with heap := h' } := I1.kept (t' := s1.toks) hk
    refine ⟨s1.heap.objs.size + 1, [s1.heap.objs.size + 1, s1.heap.objs.size], _, _, H1, rfl, I2, turn_enumT a (s1.heap.objs.size + 1) s1.heap.objs.size, ⟨⟨.none, he⟩, ⟨_, hit, rfl, rfl⟩, Nat.succ_ne_self _⟩, fun b hb => ?_, q⟩
    have e' : b = s1.heap.objs.size + 1 ∨ b = s1.heap.objs.size := by simpa using hb
    have hle : s1.heap.objs.size ≤ b := by
      rcases e' with z | z
      · rw [z]; exact Nat.le_add_right _ _
      · rw [z]; exact Nat.le_refl _
    exact I1.fpOk hle (I1.hok.fresh hle)
theorem walk_enumT {K : PySem.W.Frag} {a : Addr} {xs : List V} : Walk (IteT K a) xs.length (fun H => SqT K H a xs) (YPair (fun i => some (.int (i : Nat))) (fun i => xs[i]?)) := by
  refine ⟨fun i _ hi q => ⟨xs, xs[i], q, by simp [hi]⟩, fun _ q => ⟨xs, q, Nat.le_refl _⟩, fun i H v H' _ q y => ?_⟩
  obtain ⟨T, x, h1, h2, h3, h4⟩ := y
  exact ⟨T, .int (i : Nat), x, h1, h2, h3, rfl, h4 xs q⟩
end Ns

/-! NsP: three plain local names stored at once. -/
namespace Ns
open PySem PySem.Spec PyProof.Rows L2
def tPar3 (i j k : Nat) (ta : TA) : TS := fun D σ H => ta σ H fun vs H1 => ∃ v w z, vs = [v, w, z] ∧ D.nx (((σ.set i (some v)).set j (some w)).set k (some z)) H1
theorem ps_par3 {X : Cx} {i j k : Nat} {x y z : Str} {a b c : Expr} {ta : TA} {px py pz pt pos : Pos} {kt k2 pt2} (hc : X.calm = true) (hN : X.N.Nodup) (hi : X.N[i]? = some x) (hj : X.N[j]? = some y) (hk : X.N[k]? = some z) (hij : i ≠ j) (hik : i ≠ k) (hjk : j ≠ k)
    (hx : X.env.scope.names.lookup x = some .local) (hy : X.env.scope.names.lookup y = some .local) (hz : X.env.scope.names.lookup z = some .local) (ha : PA X [a, b, c] ta)
    (hw : swappedStores [.Tuple [.Name x px, .Name y py, .Name z pz] kt pt] (.Tuple [a, b, c] k2 pt2) X.env = pure (some [x, y, z]))
    (hs : swapsWithSole [.Tuple [.Name x px, .Name y py, .Name z pz] kt pt] (.Tuple [a, b, c] k2 pt2) pos.line X.env = pure false := by rfl) :
    PS X (.Assign [.Tuple [.Name x px, .Name y py, .Name z pz] kt pt] (.Tuple [a, b, c] k2 pt2) pos) (tPar3 i j k ta) := by
  refine ⟨fun pins s σ H D I h => ?_⟩
  rw [exec_Assign_arm]
  refine wpAny_bind (wpAny_standAt ?_)
  rw [hs]
  refine wpAny_bind (wpAny_pure ?_)
  rw [if_neg (by decide)]
  refine wpAny_bind (Tuple_ (thn (ha.run _ pins s σ H _ I h) fun us s1 ⟨vs, H1, I1, r1, q1⟩ => ?_))
  obtain ⟨v1, v2, v3, e1, q1⟩ := q1
  subst e1
  obtain ⟨u1, u2, u3, rfl, t1, t2, t3⟩ : ∃ u1 u2 u3, us = [u1, u2, u3] ∧ RelV v1 u1 ∧ RelV v2 u2 ∧ RelV v3 u3 := by
    cases r1 with
    | cons p q => cases q with
      | cons p' q' => cases q' with
        | cons p'' q'' =>
          cases q''
          exact ⟨_, _, _, rfl, p, p', p''⟩
  refine wpAny_newObj_type ?_ (by show 3 ≤ sizeLine; decide)
  have I2 : Inv X pins σ H1 { s1 with heap := s1.heap.push { cls := .type "tuple", data := .seq [u1, u2, u3].toArray } } := I1.kept (t' := s1.toks) fun b o e => Heap.get?_push_of_some _ e
  rw [hw]
  refine wpAny_bind (wpAny_pure ?_)
  show wpAny (model X.prog X.w) X.A (do rule "assign.swapped-stores"; let items ← unpackItems (.ref s1.heap.objs.size) 3 none; assignInOrder [fun v => bindName X.env z v, fun v => bindName X.env y v, fun v => bindName X.env x v] items.reverse; pure Flow.next) _ _ _
  refine wpAny_bind (wpAny_rule (wpAny_bind (unpackItems_tuple (items := #[u1, u2, u3]) (I.ok.hd hc) (IsTup.new s1.heap _) fun h' hx' => ?_)))
  have I3 := I2.kept (h' := h') (t' := s1.toks) fun b o e => hx' b o (Nat.ne_of_lt (Heap.lt_size e)) e
  show wpAny _ _ (assignInOrder [fun v => bindName X.env z v, fun v => bindName X.env y v, fun v => bindName X.env x v] [u3, u2, u1] >>= fun _ => pure Flow.next) _ _ _
  refine wpAny_bind (assignInOrder_cons (wpAny_bindName (store_ok I3 hN hk (.inl hz) t3 (fun s2 I4 => ?_) (.inr hz))))
  refine assignInOrder_cons (wpAny_bindName (store_ok I4 hN hj (.inl hy) t2 (fun s3 I5 => ?_) (.inr hy)))
  refine assignInOrder_cons (wpAny_bindName (store_ok I5 hN hi (.inl hx) t1 (fun s4 I6 => assignInOrder_nil (wpAny_pure ?_)) (.inr hx)))
  have e : ((σ.set k (some v3)).set j (some v2)).set i (some v1) = ((σ.set i (some v1)).set j (some v2)).set k (some v3) := by
    rw [List.set_comm _ _ (Ne.symm hjk), List.set_comm _ _ (Ne.symm hik), List.set_comm _ _ (Ne.symm hij)]
  rw [e] at I6
  exact ⟨_, H1, I6, q1⟩
end Ns

/-! NsQ: zip of a tuple, a tuple and a list. -/
namespace Ns
open PySem PySem.Spec PyProof.Rows L2
def Itz3 (K : PySem.W.Frag) (a b c : Addr) : It :=
  ⟨fun i H => ∃ (xs ys zs : List V) (x y z : V), SqT K H a xs ∧ SqT K H b ys ∧ SqL K H c zs ∧ xs[i]? = some x ∧ ys[i]? = some y ∧ zs[i]? = some z,
    fun i H v H' => ∃ T x y z, v = .ref T ∧ H T = none ∧ H' = upd H T (.tup [x, y, z]) ∧ (∀ xs, SqT K H a xs → xs[i]? = some x) ∧ (∀ ys, SqT K H b ys → ys[i]? = some y) ∧ ∀ zs, SqL K H c zs → zs[i]? = some z,
    fun i H => ∃ xs ys zs : List V, SqT K H a xs ∧ SqT K H b ys ∧ SqL K H c zs ∧ xs.length = i ∧ ys.length = i ∧ i ≤ zs.length⟩
theorem turn_zip3 {P : Program} {w : World} {K : PySem.W.Frag} {elts : List Expr} {kk : Nat} {tpos : Pos} {a b c z TI TO i1 i2 i3 : Addr} (S : ZipSep3 z TI TO i1 i2 i3 [i1, a] [i2, b] [i3, c]) (na : a ≠ i1) (nb : b ≠ i2) (nc : c ≠ i3) :
    Turn P w K (.Tuple elts kk tpos) (Itz3 K a b c) [z, TI, TO, i1, i2, i3] z (fun i h => IsZip h z TI TO .none ∧ IsTupOf3 h TI (.ref i1) (.ref i2) (.ref i3) ∧ (∃ a1 a2 a3, IsTupOf3 h TO a1 a2 a3) ∧ h.IsTupleIter i1 a i ∧ h.IsTupleIter i2 b i ∧ h.IsListIter i3 c i) where
  mem := by simp
  obj := fun i h st d hd => by
    obtain ⟨hz, hTI, ⟨x, y, u, hTO⟩, ⟨o1, e1, _, d1⟩, ⟨o2, e2, _, d2⟩, ⟨o3, e3, _, d3⟩⟩ := st
    have e' : d = z ∨ d = TI ∨ d = TO ∨ d = i1 ∨ d = i2 ∨ d = i3 := by simpa using hd
    rcases e' with q | q | q | q | q | q
    · rw [q]; exact ⟨_, hz, fun v q => nomatch q⟩
    · rw [q]; exact ⟨_, hTI, fun v q => nomatch q⟩
    · rw [q]; exact ⟨_, hTO, fun v q => nomatch q⟩
    · rw [q]; exact ⟨o1, e1, fun v q => by rw [d1] at q; cases q⟩
    · rw [q]; exact ⟨o2, e2, fun v q => by rw [d2] at q; cases q⟩
    · rw [q]; exact ⟨o3, e3, fun v q => by rw [d3] at q; cases q⟩
  keep := fun i h h' st k => by
    obtain ⟨hz, hTI, ⟨x, y, u, hTO⟩, h1, h2, h3⟩ := st
    exact ⟨k z (by simp) _ hz, k TI (by simp) _ hTI, ⟨x, y, u, k TO (by simp) _ hTO⟩, h1.at fun o q => k i1 (by simp) o q, h2.at fun o q => k i2 (by simp) o q, h3.at fun o q => k i3 (by simp) o q⟩
  item := by
    intro X hP hw hK hc i pins s σ H E I hf st hg
    subst hP hw hK
    have low : ∀ d ∈ [z, TI, TO, i1, i2, i3], d < s.heap.objs.size := fun d hd => by
      obtain ⟨hz, hTI, ⟨x, y, u, hTO⟩, ⟨o1, e1, _⟩, ⟨o2, e2, _⟩, ⟨o3, e3, _⟩⟩ := st
      have e' : d = z ∨ d = TI ∨ d = TO ∨ d = i1 ∨ d = i2 ∨ d = i3 := by simpa using hd
      rcases e' with q | q | q | q | q | q
      · rw [q]; exact Heap.lt_size hz
      · rw [q]; exact Heap.lt_size hTI
      · rw [q]; exact Heap.lt_size hTO
      · rw [q]; exact Heap.lt_size e1
      · rw [q]; exact Heap.lt_size e2
      · rw [q]; exact Heap.lt_size e3
    obtain ⟨hz, hTI, hTO, h1, h2, h3⟩ := st
    obtain ⟨xs, ys, zs, x, y, u, hqx, hqy, hqz, hx, hy, hu⟩ := hg
    obtain ⟨its, rv, p, _⟩ := I.tuple hqx
    obtain ⟨its2, rv2, p2, _⟩ := I.tuple hqy
    obtain ⟨its3, rv3, p3, _⟩ := I.list hqz
    obtain ⟨v1, hv1, rx⟩ := rv.get hx
    obtain ⟨v2, hv2, ry⟩ := rv2.get hy
    obtain ⟨v3, hv3, ru⟩ := rv3.get hu
    have W := GoesN.zip3 (prog := X.prog) (w := X.w) (A := X.A) (elts := elts) (x1 := kk) (pos := tpos) S (Draws.tuple (prog := X.prog) (w := X.w) (A := X.A.in1) (I.ok.hd hc) i1 a na its.toArray) (Draws.tuple (prog := X.prog) (w := X.w) (A := X.A.in1) (I.ok.hd hc) i2 b nb its2.toArray) (Draws.list (prog := X.prog) (w := X.w) (A := X.A.in1) (I.ok.hd hc) i3 c nc its3.toArray)
    have b1 := (List.getElem?_eq_some_iff.mp hv1).1
    have b2 := (List.getElem?_eq_some_iff.mp hv2).1
    have b3 := (List.getElem?_eq_some_iff.mp hv3).1
    refine W.goes i s _ E (by simp; omega) ⟨hz, hTI, hTO, ⟨h1, p⟩, ⟨h2, p2⟩, ⟨h3, p3.isList⟩⟩ fun v h' tk hY st' hk htk => ?_
    obtain ⟨T, x', y', u', rfl, hT, P1, P2, P3, tup⟩ := hY
    have ex : x' = v1 := by
      have P1 : its.toArray[i]? = some x' := P1
      rw [show its.toArray[i]? = some v1 by simpa using hv1] at P1
      exact (Option.some.inj P1).symm
    have ey : y' = v2 := by
      have P2 : its2.toArray[i]? = some y' := P2
      rw [show its2.toArray[i]? = some v2 by simpa using hv2] at P2
      exact (Option.some.inj P2).symm
    have eu : u' = v3 := by
      have P3 : its3.toArray[i]? = some u' := P3
      rw [show its3.toArray[i]? = some v3 by simpa using hv3] at P3
      exact (Option.some.inj P3).symm
    subst ex ey eu
    have new : ObjOk X.prog X.w (upd H T (.tup [x, y, u])) h' T (.tup [x, y, u]) :=
      ⟨by show 3 ≤ sizeLine; decide, [x', y', u'], .cons rx (.cons ry (.cons ru .nil)), tup⟩
    have sub : ∀ d ∈ [z, TO, i1, i2, i3], d ∈ [z, TI, TO, i1, i2, i3] := fun d hd => by
      simp only [List.mem_cons, List.not_mem_nil, or_false] at hd ⊢
      rcases hd with q | q | q | q | q <;> simp [q]
    have I1 : Inv X pins σ (upd H T (.tup [x, y, u])) { s with heap := h', toks := tk } :=
      I.turnedNew (ch := [z, TO, i1, i2, i3]) hk (fun d hd => hf d (sub d hd)) hT new
    obtain ⟨z1, z2, z3, z4, z5, z6⟩ := st'
    refine ⟨.ref T, _, I1, rfl, ⟨T, x, y, u, rfl, I.hok.fresh hT, rfl, fun l hl => by rw [I.tuple_inj hl hqx]; exact hx, fun l hl => by rw [I.tuple_inj hl hqy]; exact hy, fun l hl => by rw [I.list_inj hl hqz]; exact hu⟩, ⟨z1, z2, z3, z4.1, z5.1, z6.1⟩, fun d hd => ?_⟩
    rw [upd_ne (Nat.ne_of_lt (Nat.lt_of_lt_of_le (low d hd) hT))]
    exact (hf d hd).1
  done := by
    intro X hP hw hK hc i pins s σ H E I hf st hg
    subst hP hw hK
    obtain ⟨hz, hTI, hTO, h1, h2, h3⟩ := st
    obtain ⟨xs, ys, zs, hqx, hqy, hqz, l1, l2, l3⟩ := hg
    obtain ⟨its, rv, p, _⟩ := I.tuple hqx
    obtain ⟨its2, rv2, p2, _⟩ := I.tuple hqy
    obtain ⟨its3, rv3, p3, _⟩ := I.list hqz
    have k1 := rv.length
    have k2 := rv2.length
    have k3 := rv3.length
    have W := GoesN.zip3 (prog := X.prog) (w := X.w) (A := X.A) (elts := elts) (x1 := kk) (pos := tpos) S (Draws.tuple (prog := X.prog) (w := X.w) (A := X.A.in1) (I.ok.hd hc) i1 a na its.toArray) (Draws.tuple (prog := X.prog) (w := X.w) (A := X.A.in1) (I.ok.hd hc) i2 b nb its2.toArray) (Draws.list (prog := X.prog) (w := X.w) (A := X.A.in1) (I.ok.hd hc) i3 c nc its3.toArray)
    have en : min (min its.toArray.size its2.toArray.size) its3.toArray.size = i := by simp; omega
    have sub : ∀ d ∈ [z, TO, i1, i2, i3], d ∈ [z, TI, TO, i1, i2, i3] := fun d hd => by
      simp only [List.mem_cons, List.not_mem_nil, or_false] at hd ⊢
      rcases hd with q | q | q | q | q <;> simp [q]
    refine W.stops s _ E (by rw [en]; exact ⟨hz, hTI, hTO, ⟨h1, p⟩, ⟨h2, p2⟩, ⟨h3, p3.isList⟩⟩) fun h' tk hk htk => ?_
    exact I.turnedL (t' := tk) (ch := [z, TO, i1, i2, i3]) hk (fun d hd => hf d (sub d hd))
  self := fun A i s Q E st h => wpAny_pyIter_zip st.1 h
def iZip3 (K : PySem.W.Frag) (ta : TA) : TI := fun σ H R => ta σ H fun vs H1 => ∃ a b c xs ys zs, vs = [.ref a, .ref b, .ref c] ∧ SqT K H1 a xs ∧ SqT K H1 b ys ∧ SqL K H1 c zs ∧ R (Itz3 K a b c) H1
theorem pi_zip3 {X : Cx} {e e2 e3 : Expr} {ta : TA} {p pos tpos : Pos} {elts : List Expr} {kk : Nat} (hg : Gl X "zip") (hm : X.mg "zip" = none) (ha : PA X [e, e2, e3] ta)
    (hs : starEach [e, e2, e3] X.env = (false, eval e X.env) :: starEach [e2, e3] X.env := by rfl) (hpl : (backTo pos (starEach [e2, e3] X.env)).any (·.1) = false := by rfl) :
    PI X (.Tuple elts kk tpos) (.Call (.Name "zip" p) [e, e2, e3] [] pos) (iZip3 X.K ta) := by
  refine ⟨fun pins s σ H R I h => ?_⟩
  refine Call_ (ld_blt I hg hm PyProof.Rows.boot_zip (PyProof.Rows.callWith_type1 (thn (ha.run pos pins s σ H _ I h) fun us s1 ⟨vs, H1, I1, r1, q1⟩ => ?_) hs hpl))
  obtain ⟨a, b, c, xs, ys, zs, ex, hqx, hqy, hqz, q⟩ := q1
  subst ex
  obtain ⟨rfl⟩ : us = [.ref a, .ref b, .ref c] := by
    cases r1 with
    | cons r rr => cases rr with
      | cons r' rr => cases rr with
        | cons r'' rr =>
          cases rr
          cases r
          cases r'
          cases r''
          rfl
  have fresh6 : ∀ d, d ∈ [s1.heap.objs.size + 5, s1.heap.objs.size + 3, s1.heap.objs.size + 4, s1.heap.objs.size, s1.heap.objs.size + 1, s1.heap.objs.size + 2] → FpOk X pins H1 d := fun d hd => by
    have e' : d = s1.heap.objs.size + 5 ∨ d = s1.heap.objs.size + 3 ∨ d = s1.heap.objs.size + 4 ∨ d = s1.heap.objs.size ∨ d = s1.heap.objs.size + 1 ∨ d = s1.heap.objs.size + 2 := by simpa using hd
    have hle : s1.heap.objs.size ≤ d := by
      rcases e' with z | z | z | z | z | z <;> rw [z]
      · exact Nat.le_add_right _ _
      · exact Nat.le_add_right _ _
      · exact Nat.le_add_right _ _
      · exact Nat.le_refl _
      · exact Nat.le_add_right _ _
      · exact Nat.le_add_right _ _
    exact I1.fpOk hle (I1.hok.fresh hle)
  obtain ⟨its, rv, p1, _⟩ := I1.tuple hqx
  obtain ⟨its2, rv2, p2, _⟩ := I1.tuple hqy
  obtain ⟨its3, rv3, p3, _⟩ := I1.list hqz
  obtain ⟨o1, ho1, _⟩ := id p1
  obtain ⟨o2, ho2, _⟩ := id p2
  have la := Heap.lt_size ho1
  have lb := Heap.lt_size ho2
  have lc := p3.lt
  refine zip_begins3 (begins_tuple a its.toArray) (begins_tuple b its2.toArray) (begins_list c its3.toArray) p1 p2 p3.isList fun h' hz hTI hTO e1 e2 e3 hsz hk => wpAny_pyIter_zip hz ?_
  have I2 : Inv X pins σ H1 { s1 with heap := h' } := I1.kept (t' := s1.toks) hk
  have S := zip_sep3 (N := s1.heap.objs.size) (fp1 := [a]) (fp2 := [b]) (fp3 := [c]) (fun d hd => by rw [List.mem_singleton.mp hd]; exact la) (fun d hd => by rw [List.mem_singleton.mp hd]; exact lb) (fun d hd => by rw [List.mem_singleton.mp hd]; exact lc)
  exact ⟨s1.heap.objs.size + 5, [s1.heap.objs.size + 5, s1.heap.objs.size + 3, s1.heap.objs.size + 4, s1.heap.objs.size, s1.heap.objs.size + 1, s1.heap.objs.size + 2], _, _, H1, rfl, I2, turn_zip3 S (Nat.ne_of_lt la) (Nat.ne_of_lt (Nat.lt_succ_of_lt lb)) (Nat.ne_of_lt (Nat.lt_succ_of_lt (Nat.lt_succ_of_lt lc))), ⟨hz, hTI, ⟨_, _, _, hTO⟩, ⟨_, e1, rfl, rfl⟩, ⟨_, e2, rfl, rfl⟩, ⟨_, e3, rfl, rfl⟩⟩, fresh6, q⟩
section
variable {K : PySem.W.Frag} {a b c : Addr} {xs ys zs : List V}
theorem walk_zip3 {n : Nat} (h1 : xs.length = n) (h2 : ys.length = n) (h3 : n ≤ zs.length) : Walk (Itz3 K a b c) n (fun H => SqT K H a xs ∧ SqT K H b ys ∧ SqL K H c zs) (fun i H v H' => ∃ T x y z, v = .ref T ∧ H T = none ∧ H' = upd H T (.tup [x, y, z]) ∧ xs[i]? = some x ∧ ys[i]? = some y ∧ zs[i]? = some z) := by
  subst h1
  refine ⟨fun i _ hi q => ⟨xs, ys, zs, xs[i], ys[i], zs[i]'(by omega), q.1, q.2.1, q.2.2, by simp [hi], by simp [h2, hi], List.getElem?_eq_getElem (by omega)⟩, fun _ q => ⟨xs, ys, zs, q.1, q.2.1, q.2.2, rfl, h2, h3⟩, fun i H v H' _ q y => ?_⟩
  obtain ⟨T, x, y, z, h1, h2, h3, h4, h5, h6⟩ := y
  exact ⟨T, x, y, z, h1, h2, h3, h4 xs q.1, h5 ys q.2.1, h6 zs q.2.2⟩
end
end Ns

/-! NsR: sum of the values of a dict of ints. -/
namespace Ns
open PySem PySem.Spec PyProof.Rows L2
def tSumVals (td : TE) : TE := fun σ H Q => td σ H fun x H1 => ∃ (a : Addr) (kvs : List (Key × V)) (is : List Int), x = V.ref a ∧ H1 a = some (.dK kvs) ∧ kvs.map (·.2) = is.map V.int ∧ Q (.int is.sum) H1
theorem preSum_is : ∀ (is : List Int) (n : Nat), n ≤ is.length → preSum (fun i => is.getD i 0) n = (is.take n).sum
  | is, 0, _ => by
    rw [List.take_zero]
    rfl
  | is, n + 1, h => by
    have ih := preSum_is is n (by omega)
    obtain ⟨x, hx⟩ : ∃ x, is[n]? = some x := ⟨_, List.getElem?_eq_getElem (by omega)⟩
    have e1 : is.getD n 0 = x := by rw [List.getD_eq_getElem?_getD, hx]; rfl
    rw [List.take_succ, hx, List.sum_append, ← ih]
    show preSum (fun i => is.getD i 0) n + is.getD n 0 = _
    rw [e1]
    simp
section
variable {X : Cx} {o : Expr} {p pos apos mpos : Pos} {td : TE}
theorem pe_sumVals (hc : X.calm = true) (hg : Gl X "sum") (hm : X.mg "sum" = none) (hd : PE X o td) (hbase : attributeBase o "values" X.env (eval o X.env) = eval o X.env := by rfl) (hline : (apos.endLine == mpos.line) = true := by rfl)
    (hse : starEach [Expr.Call (.Attribute o "values" apos) [] [] mpos] X.env = [(false, eval (Expr.Call (.Attribute o "values" apos) [] [] mpos) X.env)] := by rfl) :
    PE X (.Call (.Name "sum" p) [.Call (.Attribute o "values" apos) [] [] mpos] [] pos) (tSumVals td) := by
  refine ⟨fun pins s σ H Q I h => ?_⟩
  refine wpAny_Call_Name_kw (ld_blt I hg hm (u := .builtin "sum") (by first | rfl | decide +kernel) ?_ (by first | decide +kernel | decide) (by first | decide +kernel | decide))
  rw [hse]
  refine PySem.callWith_builtin1 (wpAny_Call_method0_late hbase hline (thn (hd.run pins s σ H _ I h) fun v s1 ⟨x, H1, I1, r1, a, kvs, is, ex, ha, hv, q⟩ => ?_))
  subst ex
  obtain rfl : v = Value.ref a := r1
  obtain ⟨_, hsys, vs, rel, dof⟩ := dk_of I1.hok ha
  obtain ⟨ep, dat⟩ := dof.dictAt
  obtain ⟨ob, es, ho, ex, _⟩ := id dat
  refine ⟨"dict", "dict.values", F.plainAttrs_dict, F.slot_dict_values, F.type_dict_values, ⟨ob, ho, ex.1⟩, fun b e => by cases e; exact ⟨ob, ho, ex.2.1⟩, Calls.callWith_builtin rfl (PySem.evalArgs_none ?_)⟩
  refine call_meetsIn F.slot_dict_values ⟨ob, ho, ex.1⟩ F.entry_dict_values (F.args_dict_values_1 _) (meets_dict_values (mixKind X.prog X.w) a hsys) ⟨⟨vs, dof⟩, ?_⟩
  have lt := Heap.lt_size ho
  have grow : ∀ b u, s1.heap.get? b = some u → (s1.heap.push { cls := .type "dict_values", data := .fields #[.ref a] }).get? b = some u := fun b u e => Heap.get?_push_of_some _ e
  have dat2 := dat.keep grow
  have sz : (s1.heap.push { cls := .type "dict_values", data := .fields #[.ref a] }).objs.size = s1.heap.objs.size + 1 := Heap.size_push _ _
  have same : vs.length = is.length := by
    have e1 := congrArg List.length hv
    rw [List.length_map, List.length_map] at e1
    exact (KV.length rel).symm.trans e1
  have look : ∀ (i : Nat) (v : Value), (∃ k, vs[i]? = some (k, v)) → ∃ t, v = Value.int (is.getD i 0) t := fun i v ⟨k, hk⟩ => by
    obtain ⟨x, h1, h2⟩ := KV.at' rel hk
    have e1 : (is.map V.int)[i]? = some x := by rw [← hv, List.getElem?_map, h1]; rfl
    rw [List.getElem?_map] at e1
    obtain ⟨j, hj, e2⟩ := Option.map_eq_some_iff.mp e1
    subst e2
    obtain ⟨t, e3⟩ := h2
    exact ⟨t, by rw [e3, List.getD_eq_getElem?_getD, hj]; rfl⟩
  refine call_sum_walkG (wpAny_pyIter_values (v := s1.heap.objs.size) (d := a) ⟨_, Heap.get?_push_size _ rfl, rfl, rfl⟩ dat2 ?_)
  refine ⟨_, _, _, _, _, _, fun i => is.getD i 0, rfl, Walks.dictValues (knd := mixKind X.prog X.w) (A := X.A.in1) (I.ok.hd hc) (s1.heap.push { cls := .type "dict_values", data := .fields #[.ref a] }).objs.size a (by rw [sz]; exact Nat.ne_of_lt (Nat.lt_succ_of_lt lt)) vs ep,
    ⟨⟨_, Heap.get?_push_size _ rfl, rfl, rfl⟩, dat2.keep fun b u e => Heap.get?_push_of_some _ e⟩, fun b hb => ?_, look, fun h' tk t' hk => ?_⟩
  · show b < ((s1.heap.push _).push _).objs.size
    rw [Heap.size_push, Heap.size_push]
    rw [sz] at hb
    rcases List.mem_cons.mp hb with e | hb
    · rw [e]
      exact Nat.lt_succ_self _
    · rw [List.mem_singleton.mp hb]
      exact Nat.lt_succ_of_lt (Nat.lt_succ_of_lt lt)
  · refine ⟨.int is.sum, H1, I1.kept (t' := tk) fun b u e => hk b u (fun hmem => ?_) (Heap.get?_push_of_some _ (grow b u e)), ⟨t', ?_⟩, q⟩
    · have e1 : b = (s1.heap.push { cls := .type "dict_values", data := .fields #[.ref a] }).objs.size := List.mem_singleton.mp hmem
      have e2 := Heap.lt_size e
      rw [sz] at e1
      rw [e1] at e2
      exact absurd e2 (Nat.not_lt.mpr (Nat.le_succ _))
    · rw [preSum_is is _ (Nat.le_of_eq same), same, List.take_length]
end
end Ns

/-! NsV: a tuple times 0 or 1. -/
namespace Ns
open PySem PySem.Spec PyProof.Rows L2
theorem tup_mul1 (l : Addr) (items : Array Value) (n : Nat) (dd : Option Addr) (sl : Array (Option Value)) (u : Tok) :
    Meets (Builtin.«tuple.__mul__» ⟨[.ref l, .int 1 u], []⟩) (fun _ R s => s.heap.get? l = some { cls := .type "tuple", dict := dd, data := .seq items n, slots := sl } ∧ R (.ok (.ret (Value.ref l))) s) :=
  .of_wp fun prog w A R s h => by
    obtain ⟨hp, g, d, tk, os⟩ := s
    obtain ⟨hl, h⟩ := h
    have f1 := AutoSeq1.idx_int
    wp_walk using wpAny_loadPart' hl
    exact ⟨_, rfl, h⟩
theorem tup_mul0 (l : Addr) (items : Array Value) (n : Nat) (dd : Option Addr) (sl : Array (Option Value)) (u : Tok) (hi : items.isEmpty = false) :
    Meets (Builtin.«tuple.__mul__» ⟨[.ref l, .int 0 u], []⟩) (fun _ R s => s.heap.get? l = some { cls := .type "tuple", dict := dd, data := .seq items n, slots := sl } ∧
      R (.ok (.ret (Value.ref s.heap.objs.size))) { s with heap := s.heap.push { cls := Value.type "tuple", data := Data.seq #[] }, toks := s.toks }) :=
  .of_wp fun prog w A R s h => by
    obtain ⟨hp, g, d, tk, os⟩ := s
    obtain ⟨hl, h⟩ := h
    have f1 := AutoSeq1.idx_int
    wp_walk using wpAny_loadPart' hl
    exact ⟨_, rfl, h⟩
def rRep01 (K : PySem.W.Frag) : R2 := fun x y H Q => ∃ (l : Addr) (k : Int) (xs : List V), x = .ref l ∧ y = .int k ∧ SqT K H l xs ∧ xs ≠ [] ∧ (k = 0 ∨ k = 1) ∧ (k = 1 → Q (.ref l) H) ∧ (k = 0 → ∀ p, H p = none → Q (.ref p) (upd H p (.tup [])))
theorem op_rep01 {X : Cx} : OpR X (binaryOp .Mult) (rRep01 X.K) := by
  intro pins s σ H x y v u Q I rx ry h
  obtain ⟨l, k, xs, rfl, rfl, hT, hne, hk, q1, q0⟩ := h
  cases rx
  obtain ⟨t, rfl⟩ := ry
  obtain ⟨its, r, ⟨⟨cls, dd, data, sl⟩, ho, hc, n, hd⟩, hs⟩ := I.tuple hT
  simp only at hc hd
  subst hc hd
  have hi : its.toArray.isEmpty = false := by
    cases its with
    | nil => exact absurd (List.eq_nil_of_length_eq_zero r.length) hne
    | cons a b => rfl
  rcases hk with rfl | rfl
  · refine wpAny_binaryOp_repeat_ref (T := "tuple") (U := "int") (by decide) ⟨_, ho, rfl⟩ (fun s' => typeIs_int s' 0 t) noFill_tuple_mul F.fills_int_mul F.slot_int_rmul repeat_tuple F.slot_int_index.lookup
      (call_meets F.slot_int_rmul (typeIs_int s 0 t) F.entry_int_rmul (F.args_int_rmul_2 _ _) (int_rmul_tuple 0 t l its.toArray n dd sl)
        ⟨ho, rfl, ⟨_, ho, rfl⟩, call_meets F.slot_tuple_mul ⟨_, ho, rfl⟩ F.entry_tuple_mul (F.args_tuple_mul_2 _ _) (tup_mul0 l its.toArray n dd sl t hi) ⟨ho, ?_⟩⟩)
    exact ⟨.ref s.heap.objs.size, _, I.laid (t' := s.toks) (o := .tup []) (fun b ob q => Heap.get?_push_of_some _ q) (Nat.le_refl _) ⟨by show 0 ≤ sizeLine; decide, [], .nil, IsTup.new _ _⟩, rfl, q0 rfl _ (I.hok.fresh (Nat.le_refl _))⟩
  · refine wpAny_binaryOp_repeat_ref (T := "tuple") (U := "int") (by decide) ⟨_, ho, rfl⟩ (fun s' => typeIs_int s' 1 t) noFill_tuple_mul F.fills_int_mul F.slot_int_rmul repeat_tuple F.slot_int_index.lookup
      (call_meets F.slot_int_rmul (typeIs_int s 1 t) F.entry_int_rmul (F.args_int_rmul_2 _ _) (int_rmul_tuple 1 t l its.toArray n dd sl)
        ⟨ho, rfl, ⟨_, ho, rfl⟩, call_meets F.slot_tuple_mul ⟨_, ho, rfl⟩ F.entry_tuple_mul (F.args_tuple_mul_2 _ _) (tup_mul1 l its.toArray n dd sl t) ⟨ho, ?_⟩⟩)
    exact ⟨.ref l, H, I, rfl, q1 rfl⟩
end Ns

/-! NsW: isinstance of data; t != (); t[::-1]; t * k; 'b' * k. -/
namespace Ns
open PySem PySem.Spec PyProof.Rows L2
/-- the name of a datum's class -/
def tyN : PyData → String
  | .none => "NoneType"
  | .bool _ => "bool"
  | .int _ => "int"
  | .str _ => "str"
  | .list _ => "list"
  | .tuple _ => "tuple"
  | .dict _ => "dict"
theorem tyX_lst {K : PySem.W.Frag} {H : Hp} {a : Addr} {xs : List V} (h : SqL K H a xs) : TyX K H (.ref a) (.type "list") := by
  rcases h with (h | ⟨o, h⟩) | ⟨o, _, _, h, c, _⟩
  · exact .base (.lst h)
  · exact .base (.frz h)
  · exact .kList h c
theorem tyX_tup {K : PySem.W.Frag} {H : Hp} {a : Addr} {xs : List V} (h : SqT K H a xs) : TyX K H (.ref a) (.type "tuple") := by
  rcases h with (h | ⟨o, h⟩) | ⟨o, _, _, h, c, _⟩
  · exact .base (.tup h)
  · exact .fTuple h
  · exact .kTuple h c
theorem tyX_dat {K : PySem.W.Frag} {H : Hp} {x : V} {d : PyData} (D : DatV K H x d) : TyX K H x (.type (tyN d)) := by
  cases D with
  | non => exact .base .non
  | bl b => exact .base (.bl b)
  | int i => exact .base (.int i)
  | str z => exact .base (.str z)
  | lst h _ => exact tyX_lst h
  | tup h _ => exact tyX_tup h
  | dic h _ => exact .base (.dK h)
section
variable {X : Cx}
/-- isinstance(x, T), x any datum -/
def rIsD (K : PySem.W.Frag) (t : String) (f : PyData → Bool) : List V → Hp → VK → Prop := fun xs H Q => ∃ (x : V) (d : PyData), xs = [x, .ty t] ∧ DatV K H x d ∧ Q (.bl (f d)) H
theorem call_isD {t : String} {f : PyData → Bool} (hf : ∀ d, kitB (tyN d) t = some (f d)) : CallR X (.builtin "isinstance") (rIsD X.K t f) := by
  intro pins s σ H xs us Q I r h
  obtain ⟨x, d, rfl, D, q⟩ := h
  exact call_isi pins s σ H _ us Q I r ⟨x, .ty t, _, _, f d, rfl, .ty t, tyX_dat D, kit_ty (hf d), q⟩
def qT : PyData → Bool | .tuple _ => true | _ => false
def qI : PyData → Bool | .int _ => true | .bool _ => true | _ => false
def qB : PyData → Bool | .bool _ => true | _ => false
def qS : PyData → Bool | .str _ => true | _ => false
def qD : PyData → Bool | .dict _ => true | _ => false
theorem kit_T : ∀ d, kitB (tyN d) "tuple" = some (qT d) := fun d => by cases d <;> simp only [tyN, qT, qI, qB, qS, qD] <;> decide +kernel
theorem kit_I : ∀ d, kitB (tyN d) "int" = some (qI d) := fun d => by cases d <;> simp only [tyN, qT, qI, qB, qS, qD] <;> decide +kernel
theorem kit_B : ∀ d, kitB (tyN d) "bool" = some (qB d) := fun d => by cases d <;> simp only [tyN, qT, qI, qB, qS, qD] <;> decide +kernel
theorem kit_S : ∀ d, kitB (tyN d) "str" = some (qS d) := fun d => by cases d <;> simp only [tyN, qT, qI, qB, qS, qD] <;> decide +kernel
theorem kit_D : ∀ d, kitB (tyN d) "dict" = some (qD d) := fun d => by cases d <;> simp only [tyN, qT, qI, qB, qS, qD] <;> decide +kernel
/-- t != (), any tuple -/
def rNeE (K : PySem.W.Frag) : R2 := fun x y H Q => ∃ (a b : Addr) (xs : List V), x = .ref a ∧ y = .ref b ∧ SqT K H a xs ∧ SqT K H b [] ∧ Q (.bl (!decide (xs = []))) H
theorem op_neE (hu : X.A.units + 64 < cLine) : OpR X (compareOp .NotEq) (rNeE X.K) := by
  intro pins s σ H x y v u Q I rx ry h
  obtain ⟨a, b, xs, rfl, rfl, ha, hb, q⟩ := h
  cases (show v = Value.ref a from rx)
  cases (show u = Value.ref b from ry)
  obtain ⟨us, r1, ⟨o1, h1, h2, n1, h3⟩, _⟩ := I.tuple ha
  obtain ⟨ws, r2, ⟨o2, g1, g2, n2, g3⟩, _⟩ := I.tuple hb
  have z : ws = [] := by cases r2; rfl
  subst z
  refine SeqAt.RcNeAt.tuples (e := fun _ => true) ⟨o1, h1, h2, n1, h3⟩ ⟨o2, g1, g2, n2, g3⟩ (by omega) (fun j _ j2 => absurd j2 (Nat.not_lt_zero j)) _ _ _ _ ?_
  have e : (!((List.range (min us.toArray.size ([] : List Value).toArray.size)).all (fun _ => true) && us.toArray.size == ([] : List Value).toArray.size)) = !decide (xs = []) := by
    have l1 := r1.length
    cases xs with
    | nil => cases us with
      | nil => rfl
      | cons _ _ => cases l1
    | cons _ _ => cases us with
      | nil => cases l1
      | cons _ _ => simp
  exact ⟨.bl (!decide (xs = [])), H, I, congrArg Value.bool e, q⟩
end
theorem filterMap_some {α β : Type} {f : α → Option β} {g : α → β} : ∀ {l : List α}, (∀ k ∈ l, f k = some (g k)) → l.filterMap f = l.map g
  | [], _ => rfl
  | a :: l, h => by
    rw [List.filterMap_cons, h a List.mem_cons_self, List.map_cons, filterMap_some fun k hk => h k (List.mem_cons_of_mem _ hk)]
section
variable {prog : Program} {w : World} {A : Around} {E : Value → Shared → Prop} {s : Shared}
theorem pick_back (xs : Array Value) : (List.range xs.size).filterMap (fun k : Nat => xs[((xs.size : Int) - 1 + (k : Int) * (-1)).toNat]?) = xs.toList.reverse := by
  refine List.ext_getElem? fun i => ?_
  have e : (List.range xs.size).filterMap (fun k : Nat => xs[((xs.size : Int) - 1 + (k : Int) * (-1)).toNat]?) = (List.range xs.size).map (fun k : Nat => (xs.toList.reverse)[k]?.getD .none) := by
    refine filterMap_some fun k hk => ?_
    have hk' := List.mem_range.mp hk
    have e1 : ((xs.size : Int) - 1 + (k : Int) * (-1)).toNat = xs.size - 1 - k := by omega
    have e2 : xs[xs.size - 1 - k]? = some xs[xs.size - 1 - k] := Array.getElem?_eq_getElem (by omega)
    rw [e1, e2]
    have e3 : xs.toList.reverse[k]? = some xs[xs.size - 1 - k] := by
      rw [List.getElem?_reverse (by rw [Array.length_toList]; exact hk'), Array.length_toList, Array.getElem?_toList, e2]
    rw [e3]
    rfl
  rw [e, List.getElem?_map]
  by_cases h : i < xs.size
  · rw [List.getElem?_range h]
    have : i < xs.toList.reverse.length := by rw [List.length_reverse, Array.length_toList]; exact h
    rw [List.getElem?_eq_getElem this]
    show some (xs.toList.reverse[i]?.getD .none) = _
    rw [List.getElem?_eq_getElem this]
    rfl
  · rw [List.getElem?_eq_none (by rw [List.length_range]; omega), List.getElem?_eq_none (by rw [List.length_reverse, Array.length_toList]; omega)]
    rfl
theorem applied_back {p : Addr} {u : Tok} {n : Nat} {Q : Int × Int × Nat → Shared → Prop} (hp : s.heap.IsSliceOf p .none .none (.int (-1) u)) (h : Q ((n : Int) - 1, -1, n) s) : wpAny (model prog w) A (Builtin.Slice.sliceApplied (.ref p) (pure (n : Int))) Q E s := by
  obtain ⟨o, e1, e2, e3⟩ := id hp
  unfold Builtin.Slice.sliceApplied Builtin.Slice.sliceFields
  refine wpAny_bind (wpAny_bind (wpAny_field e1 e3 (x := .none) rfl (wpAny_bind (wpAny_field e1 e3 (x := .none) rfl (wpAny_bind (wpAny_field e1 e3 (x := .int (-1) u) rfl (wpAny_pure ?_)))))))
  refine wpAny_bind (slicePart_int ?_)
  have nz : ¬ (((some (-1 : Int)).getD 1 == 0) = true) := by decide
  rw [if_neg nz]
  refine wpAny_bind (slicePart_none (wpAny_bind (slicePart_none (wpAny_bind (wpAny_pure (wpAny_pure ?_))))))
  have e4 : Builtin.Slice.slicePlaces ((n : Int) - 1) (-1) (-1) = n := by
    unfold Builtin.Slice.slicePlaces
    rw [if_neg (by decide)]
    split
    · rw [Int.neg_neg, Int.ediv_one]; omega
    · omega
  have e5 : Builtin.Slice.slicePlaces (Builtin.Slice.sliceAdjust none none (-1) (n : Int)).1 (Builtin.Slice.sliceAdjust none none (-1) (n : Int)).2 (-1) = n := e4
  show Q ((Builtin.Slice.sliceAdjust none none (-1) (n : Int)).1, -1, Builtin.Slice.slicePlaces (Builtin.Slice.sliceAdjust none none (-1) (n : Int)).1 (Builtin.Slice.sliceAdjust none none (-1) (n : Int)).2 (-1)) s
  rw [e5]
  exact h
theorem tup_back {t p : Addr} {its : Array Value} {u : Tok} {Q : Value → Shared → Prop} (ht : IsTup s.heap t its) (hp : s.heap.IsSliceOf p .none .none (.int (-1) u)) (hz : its.size ≤ sizeLine)
    (h : Q (.ref s.heap.objs.size) { s with heap := s.heap.push { cls := .type "tuple", data := .seq its.toList.reverse.toArray } }) : wpAny (model prog w) A (getItem (.ref t) (.ref p)) Q E s := by
  have ok : sizeOk (.seq its.toList.reverse.toArray) := by
    show its.toList.reverse.toArray.size ≤ sizeLine
    rw [List.size_toArray, List.length_reverse, Array.length_toList]
    exact hz
  have ty : s.TypeIs (.ref p) "slice" := by
    obtain ⟨o, e1, e2, _⟩ := hp
    exact ⟨o, e1, e2⟩
  unfold getItem
  refine wpAny_holding ?_
  refine wpAny_bind (wpAny_sequenceKey ht.typeIs (by decide) ?_)
  refine wpAny_bind (wpAny_callSpecial?_slot (name := Str.ofString "__getitem__") ht.typeIs PyProof.Rows.slot_tuple_getitem (wpAny_call_entry PyProof.Rows.slot_tuple_getitem ht.typeIs entry_tuple_getitem ?_ (args_tuple_getitem _ _)))
  show wpAny _ _ (Builtin.Tuple.tupleItemsOf (.ref t) >>= _) _ _ s
  refine wpAny_bind (tupleItemsOf_ ht (wpAny_bind (wpAny_typeOf ty ?_)))
  rw [if_pos (by decide)]
  refine wpAny_bind (applied_back hp ?_)
  have no : ¬ ((((its.size : Int) - 1 == 0) && ((-1 : Int) == 1) && (its.size == its.size)) = true) := by simp
  show wpAny _ _ (if (((its.size : Int) - 1 == 0) && ((-1 : Int) == 1) && (its.size == its.size)) = true then _ else _) _ _ s
  rw [if_neg no, pick_back]
  first
    | exact wpAny_bind (m := Builtin.Tuple.tupleExact _) (wpAny_newObj_type (wpAny_pure ⟨_, rfl, wpAny_pure h⟩) ok)
    | exact wpAny_bind (m := Builtin.Tuple.tupleExact _) (wpAny_newObj_type (wpAny_bind (wpAny_pure (wpAny_pure ⟨_, rfl, wpAny_pure h⟩))) ok)
    | exact wpAny_bind (wpAny_bind (m := Builtin.Tuple.tupleExact _) (wpAny_newObj_type (wpAny_pure (wpAny_pure ⟨_, rfl, wpAny_pure h⟩)) ok))
    | exact wpAny_bind (wpAny_bind (m := Builtin.Tuple.tupleExact _) (wpAny_newObj_type (wpAny_pure ⟨_, rfl, wpAny_pure h⟩) ok))
end
section
variable {X : Cx}
/-- t[::-1] -/
def tRevT (K : PySem.W.Frag) (te : TE) : TE := fun σ H Q => te σ H fun x H1 => ∃ a xs, x = .ref a ∧ SqT K H1 a xs ∧ ∀ p, H1 p = none → Q (.ref p) (upd H1 p (.tup xs.reverse))
theorem pe_revT {e : Expr} {te : TE} {k : Nat} {p1 p2 p3 pos : Pos} (he : PE X e te) : PE X (.Subscript e (.Slice none none (some (.UnaryOp .USub (.Constant (.int 1) k p1) p2)) p3) pos) (tRevT X.K te) := by
  constructor
  intro pins s σ H Q I h
  have st : PO X (some (.UnaryOp .USub (.Constant (.int 1) k p1) p2)) (tPart (tUn (rU fun i => .int (-i)) (tC (.int 1)))) := po_some (pe_un un_neg pe_int)
  refine Subscript_ (thn (he.run pins s σ H _ I h) ?_)
  rintro v s1 ⟨x, H1, I1, r1, a, xs, rfl, hx, q⟩
  cases (show v = Value.ref a from r1)
  refine wpAny_Slice (wpAny_pure (wpAny_pure (thn (st.run pins s1 σ H1 (fun o H4 => o = some (-1) ∧ H4 = H1) I1 ⟨1, rfl, -1, rfl, rfl, rfl⟩) ?_)))
  rintro vs s4 ⟨o, H4, I4, ps, rfl, rfl⟩
  obtain ⟨u, rfl⟩ : ∃ u, vs = .int (-1) u := by cases ps; exact ⟨_, rfl⟩
  have I5 : Inv X pins σ H4 { s4 with heap := s4.heap.push { cls := .type "slice", data := .fields #[.none, .none, .int (-1) u] } } := I4.kept (t' := s4.toks) fun b ob q => Heap.get?_push_of_some _ q
  obtain ⟨its, r, ht, hz⟩ := I5.tuple hx
  have ln := r.length
  show wpAny (model X.prog X.w) X.A (subscriptTail e (.Slice none none (some (.UnaryOp .USub (.Constant (.int 1) k p1) p2)) p3) (.ref a) (.ref s4.heap.objs.size)) (EP X pins σ Q) X.xe { s4 with heap := s4.heap.push { cls := .type "slice", data := .fields #[.none, .none, .int (-1) u] } }
  refine tail_any (ops := [.ref a, .ref s4.heap.objs.size]) ht.typeIs (PyProof.Rows.slot_tuple_getitem.lookup) ?_ (by with_unfolding_all rfl)
  refine tup_back ht (Heap.IsSliceOf.new _ .none .none (.int (-1) u)) (by rw [List.size_toArray, ← ln]; exact hz) ?_
  refine ⟨.ref _, _, I5.laid (t' := s4.toks) (o := .tup xs.reverse) (fun b ob q => Heap.get?_push_of_some _ q) (Nat.le_refl _) ?_, rfl, q _ (I5.hok.fresh (Nat.le_refl _))⟩
  exact ⟨by rw [List.length_reverse]; exact hz, _, r.reverse, IsTup.new _ _⟩
/-- t * k, k from 0 on, t not empty -/
def rRepN (K : PySem.W.Frag) : R2 := fun x y H Q => ∃ (l : Addr) (k : Nat) (xs : List V), x = .ref l ∧ y = .int k ∧ SqT K H l xs ∧ xs ≠ [] ∧ k ≤ 1000 ∧ xs.length ≤ 1000 ∧ ∀ (p : Addr) (H' : Hp), Same H H' → SqT K H' p (List.replicate k xs).flatten → Q (.ref p) H'
theorem op_repN : OpR X (binaryOp .Mult) (rRepN X.K) := by
  intro pins s σ H x y v u Q I rx ry h
  obtain ⟨l, k, xs, rfl, rfl, hT, hne, h1, h2, q⟩ := h
  have nw : ∀ (p : Addr) (ys : List V), H p = none → Same H (upd H p (.tup ys)) := fun p ys hp c o e => by rw [upd_ne (ne_of_none e hp)]; exact e
  by_cases c : 2 ≤ k
  · refine op_repT pins s σ H _ _ v u Q I rx ry ⟨l, (k : Int), xs, rfl, rfl, hT, hne, by omega, by omega, h2, fun p hp => ?_⟩
    exact q p _ (nw p _ hp) (SqT.of upd_same)
  · refine op_rep01 pins s σ H _ _ v u Q I rx ry ⟨l, (k : Int), xs, rfl, rfl, hT, hne, by omega, fun e => ?_, fun e p hp => ?_⟩
    · have e1 : k = 1 := by omega
      subst e1
      exact q l H (Same.refl H) (by simpa using hT)
    · have e1 : k = 0 := by omega
      subst e1
      exact q p _ (nw p _ hp) (SqT.of upd_same)
theorem fold_size {α : Type} (a : Array α) : ∀ (k : Nat) (b : Array α), ((List.replicate k a).foldl (· ++ ·) b).size = b.size + k * a.size
  | 0, b => by simp
  | k + 1, b => by
    rw [List.replicate_succ, List.foldl_cons, fold_size a k, Array.size_append, Nat.succ_mul]
    omega
theorem mulS_len (z : Str) (k : Nat) : (⟨(List.replicate k z.cps).foldl (· ++ ·) #[]⟩ : Str).length = k * z.length := by
  have := fold_size z.cps k #[]
  show Array.size _ = k * z.cps.size
  rw [this]
  simp
/-- 'b' * k -/
def rMulS : R2 := fun x y H Q => ∃ (z : Str) (k : Nat), x = .str z ∧ y = .int k ∧ 2 ≤ k ∧ k ≤ 1000 ∧ 1 ≤ z.length ∧ z.length ≤ 1000 ∧ Q (.str ⟨(List.replicate k z.cps).foldl (· ++ ·) #[]⟩) H
theorem op_mulStr : OpR X (binaryOp .Mult) rMulS := by
  intro pins s σ H x y v u Q I rx ry h
  obtain ⟨z, k, rfl, rfl, h1, h2, h3, h4, q⟩ := h
  obtain ⟨t, rfl⟩ := (show ∃ t, v = Value.str z t from rx)
  obtain ⟨t2, rfl⟩ := (show ∃ t, u = Value.int k t from ry)
  have hm : z.length * k ≤ 1000 * 1000 := Nat.mul_le_mul h4 h2
  have no : (((k : Int) == 1) || (z.length == 0)) = false := by
    rw [Bool.or_eq_false_iff]
    exact ⟨beq_eq_false_iff_ne.mpr (by omega), beq_eq_false_iff_ne.mpr (by omega)⟩
  refine P.mul_str ?_ (fun _ _ => ?_) (fun _ _ => ?_) ?_
  · rw [decide_eq_false (by omega), decide_eq_false (by omega)]; rfl
  · have : (1000 : Int) ≤ (2 ^ 63 - 1) / (k : Int) := Int.le_ediv_of_mul_le (by omega) (by omega)
    omega
  · unfold Builtin.Str.tooLong
    rw [sizeLine_eq, Int.toNat_natCast]
    exact decide_eq_false (by omega)
  · rw [if_neg (by omega), no]
    exact ⟨by rw [Int.toNat_natCast, mulS_len, Nat.mul_comm, sizeLine_eq]; omega, ⟨.str _, H, I.tok _, ⟨_, rfl⟩, by rw [Int.toNat_natCast]; exact q⟩⟩
end
end Ns

/-! OB: data within bounds; data in a heap but for the bag. -/
namespace Y
open PySem PySem.Spec PyProof.Rows L2 Ns
mutual
/-- no row, text or number is longer than w -/
def Bd (w : Nat) : PyData → Prop
  | .none => True
  | .bool _ => True
  | .int i => i.natAbs < 10 ^ w
  | .str z => z.length ≤ w
  | .list ds => ds.length ≤ w ∧ BdA w ds
  | .tuple ds => ds.length ≤ w ∧ BdA w ds
  | .dict kvs => kvs.length ≤ w
def BdA (w : Nat) : List PyData → Prop
  | [] => True
  | d :: ds => Bd w d ∧ BdA w ds
end
theorem bdA_iff {w : Nat} : ∀ {ds : List PyData}, BdA w ds ↔ ∀ d ∈ ds, Bd w d
  | [] => by simp [BdA]
  | d :: ds => by
    have ih := bdA_iff (w := w) (ds := ds)
    simp only [BdA, List.mem_cons, forall_eq_or_imp, ih]
theorem pow_up {i w w' : Nat} (h : i < 10 ^ w) (hw : w ≤ w') : i < 10 ^ w' := Nat.lt_of_lt_of_le h (Nat.pow_le_pow_right (by decide) hw)
mutual
theorem Bd.up {w w' : Nat} (hw : w ≤ w') : ∀ {d : PyData}, Bd w d → Bd w' d
  | .none, _ => by simp only [Bd]
  | .bool _, _ => by simp only [Bd]
  | .int i, h => by simp only [Bd] at h ⊢; exact pow_up h hw
  | .str z, h => by simp only [Bd] at h ⊢; omega
  | .list ds, h => by simp only [Bd] at h ⊢; exact ⟨by omega, BdA.up hw h.2⟩
  | .tuple ds, h => by simp only [Bd] at h ⊢; exact ⟨by omega, BdA.up hw h.2⟩
  | .dict kvs, h => by simp only [Bd] at h ⊢; omega
theorem BdA.up {w w' : Nat} (hw : w ≤ w') : ∀ {ds : List PyData}, BdA w ds → BdA w' ds
  | [], _ => by simp only [BdA]
  | d :: ds, h => by simp only [BdA] at h ⊢; exact ⟨Bd.up hw h.1, BdA.up hw h.2⟩
end
theorem datA_mem {K : PySem.W.Frag} {H : Hp} : ∀ {xs : List V} {ds : List PyData}, DatA K H xs ds → ∀ {x : V}, x ∈ xs → ∃ d ∈ ds, DatV K H x d
  | _, _, .cons (d := d) h t, x, hx => by
    rcases List.mem_cons.mp hx with e | e
    · exact ⟨d, List.mem_cons_self, by rw [e]; exact h⟩
    · obtain ⟨d', h1, h2⟩ := datA_mem t e
      exact ⟨d', List.mem_cons_of_mem _ h1, h2⟩
theorem datA_at {K : PySem.W.Frag} {H : Hp} : ∀ {xs : List V} {ds : List PyData}, DatA K H xs ds → ∀ {i : Nat} {x : V}, xs[i]? = some x → ∃ d, ds[i]? = some d ∧ DatV K H x d
  | _, _, .cons (d := d) h _, 0, x, e => by
    rw [List.getElem?_cons_zero] at e
    cases e
    exact ⟨d, rfl, h⟩
  | _, _, .cons _ t, i + 1, x, e => by
    rw [List.getElem?_cons_succ] at e
    exact datA_at t e
theorem datA_app {K : PySem.W.Frag} {H : Hp} : ∀ {xs : List V} {ds : List PyData}, DatA K H xs ds → ∀ {ys : List V} {es : List PyData}, DatA K H ys es → DatA K H (xs ++ ys) (ds ++ es)
  | _, _, .nil, _, _, h => h
  | _, _, .cons h t, _, _, g => .cons h (datA_app t g)
theorem datA_take {K : PySem.W.Frag} {H : Hp} : ∀ {xs : List V} {ds : List PyData}, DatA K H xs ds → ∀ n : Nat, DatA K H (xs.take n) (ds.take n)
  | _, _, .nil, n => by rw [List.take_nil, List.take_nil]; exact .nil
  | _, _, .cons _ _, 0 => .nil
  | _, _, .cons h t, n + 1 => .cons h (datA_take t n)
theorem datA_drop {K : PySem.W.Frag} {H : Hp} : ∀ {xs : List V} {ds : List PyData}, DatA K H xs ds → ∀ n : Nat, DatA K H (xs.drop n) (ds.drop n)
  | _, _, .nil, n => by rw [List.drop_nil, List.drop_nil]; exact .nil
  | _, _, .cons h t, 0 => .cons h t
  | _, _, .cons _ t, n + 1 => datA_drop t n
theorem datA_rev {K : PySem.W.Frag} {H : Hp} : ∀ {xs : List V} {ds : List PyData}, DatA K H xs ds → DatA K H xs.reverse ds.reverse
  | _, _, .nil => .nil
  | _, _, .cons h t => by
    rw [List.reverse_cons, List.reverse_cons]
    exact datA_app (datA_rev t) (.cons h .nil)
theorem datA_ints {K : PySem.W.Frag} {H : Hp} : ∀ ns : List Int, DatA K H (ns.map V.int) (ns.map PyData.int)
  | [] => .nil
  | n :: ns => .cons (.int n) (datA_ints ns)
theorem sqt_wo' {K : PySem.W.Frag} {H : Hp} {b p : Addr} {xs : List V} (h : SqT K H p xs) (B : Bag H b) : SqT K (wo H b) p xs := by
  have nb : ∀ {o : HO}, H p = some o → (∀ l, o ≠ .lst l) → p ≠ b := fun {o} e n z => by
    obtain ⟨_, _, _, _, _, h1, _⟩ := B
    rw [z, h1] at e
    exact n _ (Option.some.inj e).symm
  rcases h with (h | ⟨o, h⟩) | h
  · exact .inl (.inl ((wo_ne (nb h (fun l z => by cases z))).trans h))
  · exact .inl (.inr ⟨o, (wo_ne (nb h (fun l z => by cases z))).trans h⟩)
  · exact .inr h
/-- t[lo:hi], the result by what stands at it -/
def rSlP (K : PySem.W.Frag) : V → Option Int → Option Int → Hp → VK → Prop := fun x lo hi H Q => ∃ a xs, x = .ref a ∧ SqT K H a xs ∧ ∀ (p : Addr) (H' : Hp), Same H H' → SqT K H' p (cutV xs lo hi) → Q (.ref p) H'
theorem cut_all {xs : List V} {lo hi : Option Int} (h : HT.sIx xs.length 0 lo = 0 ∧ HT.sIx xs.length xs.length hi = xs.length) : cutV xs lo hi = xs := by
  unfold cutV
  rw [h.1, h.2, List.drop_zero, Nat.sub_zero, List.take_length]
theorem sl_tupP {X : Cx} : SlR X (rSlP X.K) := by
  intro pins s σ H x v vl vu lo hi sl Q I rx hs pl pu h
  obtain ⟨a, xs, rfl, hx, q⟩ := h
  exact sl_tupA pins s σ H _ v vl vu lo hi sl Q I rx hs pl pu ⟨a, xs, rfl, hx, fun e => q a H (Same.refl H) (by rw [cut_all e]; exact hx), fun _ p hp => q p _ (same_new (Same.refl H) hp) (SqT.of upd_same)⟩
/-- t + u, the result by what stands at it -/
def rCatP (K : PySem.W.Frag) : R2 := fun x y H Q => ∃ a b xs ys, x = .ref a ∧ y = .ref b ∧ SqT K H a xs ∧ SqT K H b ys ∧ xs.length + ys.length ≤ sizeLine ∧ ∀ (p : Addr) (H' : Hp), Same H H' → SqT K H' p (xs ++ ys) → Q (.ref p) H'
theorem op_catP {X : Cx} : OpR X (binaryOp .Add) (rCatP X.K) := by
  intro pins s σ H x y v u Q I rx ry h
  obtain ⟨a, b, xs, ys, rfl, rfl, ha, hb, hz, q⟩ := h
  refine op_catA pins s σ H _ _ v u Q I rx ry ⟨a, b, xs, ys, rfl, rfl, ha, hb, hz, fun e => q b H (Same.refl H) (by rw [e]; exact hb), fun _ e => q a H (Same.refl H) (by rw [e, List.append_nil]; exact ha), fun _ _ p hp => q p _ (same_new (Same.refl H) hp) (SqT.of upd_same)⟩
end Y

namespace Y
open PySem PySem.Spec PyProof.Rows L2 Ns
open C8 (pss_cut)
/-- the things in some order: a new list -/
def spMixed (K : PySem.W.Frag) : Sp := fun as H Q _ => ∃ (b a : Addr) (xs : List V), as = [.ref b, .ref a] ∧ Bag H b ∧ SqL K (wo H b) a xs ∧ xs.length ≤ 1000 ∧
  ∀ (p : Addr) (ys : List V) (H' : Hp), ys.Perm xs → H' p = some (.lst ys) → H p = none → p ≠ b → Bag H' b → Sb b H H' → Q (.ref p) H'
/-- one sign of a text -/
def spSomeS : Sp := fun as H Q _ => ∃ (b : Addr) (z : Str), as = [.ref b, .str z] ∧ Bag H b ∧ z.length ≠ 0 ∧ z.length ≤ 1000 ∧ ∀ (c : Nat) (H' : Hp), c ∈ z.cps.toList → Bag H' b → Sb b H H' → Q (.str ⟨#[c]⟩) H'
section
variable {P : Program} {w : World} {K : PySem.W.Frag} {mg : Str → Option Value} {base : Heap}
theorem scM : FnScope ["bag", "things", "found", "thing"] ["bag", "things"] (defScope sMixed) := ⟨rfl, rfl, rfl, by decide +kernel, rfl, by decide +kernel, by decide +kernel⟩
theorem ok_mixed {f fT : Addr} {fd fdT : FuncData} (F : Fun K "_law_mixed" "_law_mixed" sMixed f fd) (T : Nat0 mg) (FT : Fun K "_law_take" "_law_take" sTake fT fdT) (mT : mg "_law_take" = some (.ref fT)) (bT : Binds K fdT ["bag", "many"] []) :
    FnOk P w K mg base CX0 2 f fd ["bag", "things"] (spMixed K) := by
  have GT : FnOk P w K mg base CX0 1 fT fdT ["bag", "many"] spTake := ok_take FT T
  refine F.ok scM (fun as H Q E h => ?_) (fun cdv A outer s H as Q E hr h => ?_)
  · obtain ⟨b, a, xs, rfl, _⟩ := h
    rfl
  · obtain ⟨b, a, xs, rfl, hB, hS, hl, k⟩ := h
    refine ⟨_, pss_cons (ps_set (i := 2) scM.nd rfl (.inl rfl) (pe_lst pa_nil))
      (pss_cons (ps_for PassesOwn.never rfl (pi_list (pv 1)) (pg_name (i := 3) scM.nd rfl (.inl rfl))
        (pss_one (ps_expr (pe_bm PySem.F.plainAttrs_list PySem.F.slot_list_insert PySem.F.type_list_insert mt_insert (pv 2)
          (pa_cons (pe_call GT hr rfl mT FT.kp bT .nil pass0 (pa_cons (pv 0) (pa_cons (pe_op op_add (pe_callB call_len_seq (by rfl) T.len PySem.boot_len (pa_cons (pv 2) pa_nil)) pe_int) pa_nil))) (pa_cons (pv 3) pa_nil))))))
      (pss_one (ps_ret (pv 2)))), ?_⟩
    refine ⟨by show 0 ≤ sizeLine; decide, fun p hp => ?_⟩
    have npb : p ≠ b := hB.ne hp
    have hS0 : SqL K (upd H p (.lst [])) a xs := Same.seq (same_new (Same.refl H) hp) ((wo_sub H b).seq hS)
    refine ⟨_, rfl, a, rfl, ⟨_, hS0⟩, ?_⟩
    refine for_list (K := K) (a := a) (xs := xs) (fun i σ H' => ∃ (v : Option V) (ys : List V), σ = [some (.ref b), some (.ref a), some (.ref p), v] ∧ H' p = some (.lst ys) ∧ ys.Perm (xs.take i) ∧ Bag H' b ∧ Sb b H H') ?_ ?_ ?_ ?_
    · exact ⟨none, [], rfl, upd_same, by rw [List.take_zero], hB.new hp, (Sb.refl b H).new hp⟩
    · rintro i σ H' _ ⟨v, ys, _, _, _, _, s⟩
      exact (wo_sub H' b).seq (s.sl hS)
    · rintro i x σ H' hx ⟨v, ys, rfl, h1, h2, h3, h4⟩
      have hi : i < xs.length := (List.getElem?_eq_some_iff.mp hx).1
      have hyl : ys.length = i := by rw [h2.length_eq, List.length_take]; omega
      refine ⟨_, rfl, .inl ⟨rfl, _, SqL.of h1⟩, _, rfl, _, rfl, p, _, rfl, .inl (SqL.of h1), ys.length, 1, rfl, rfl, b, _, rfl, h3, by omega, Nat.lt_of_le_of_lt (show ((ys.length : Int) + 1).natAbs ≤ 2000 by omega) (by decide), fun j H2 h0 hj hB2 sb2 => ?_⟩
      have e2 := sb2.get h1 npb
      refine ⟨_, rfl, p, ys, j, x, rfl, rfl, e2, small1000 (by omega), h0, by omega, some x, _, rfl, upd_same, put_perm h2 hx, ?_, ?_⟩
      · exact hB.wr hp (h4.trans sb2) hB2
      · exact (h4.trans sb2).wr hp
    · rintro σ H' ⟨v, ys, rfl, h1, h2, h3, h4⟩
      rw [List.take_length] at h2
      exact ⟨_, rfl, k p ys H' h2 h1 hp npb h3 h4⟩
theorem ok_someS {f fT : Addr} {fd fdT : FuncData} (F : Fun K "_law_some" "_law_some" sSome f fd) (T : Nat0 mg) (FT : Fun K "_law_take" "_law_take" sTake fT fdT) (mT : mg "_law_take" = some (.ref fT)) (bT : Binds K fdT ["bag", "many"] []) :
    FnOk P w K mg base CX0 2 f fd ["bag", "things"] spSomeS := by
  have GT : FnOk P w K mg base CX0 1 fT fdT ["bag", "many"] spTake := ok_take FT T
  refine F.ok scS (fun as H Q E h => ?_) (fun cdv A outer s H as Q E hr h => ?_)
  · obtain ⟨b, z, rfl, _⟩ := h
    rfl
  · obtain ⟨b, z, rfl, hB, hne, hl, k⟩ := h
    refine ⟨_, pss_one (ps_ret (pe_ix ix_str (pv 1) (pe_call GT hr rfl mT FT.kp bT .nil pass0 (pa_cons (pv 0) (pa_cons (pe_callB call_len_str (by rfl) T.len PySem.boot_len (pa_cons (pv 1) pa_nil)) pa_nil))) (fun _ _ => rfl))), ?_⟩
    refine ⟨_, rfl, _, rfl, _, rfl, z, rfl, Nat.le_of_lt (small1000 hl), b, _, rfl, hB, by omega, ?_, fun v H' h0 h1 hB' sb => ?_⟩
    · exact Nat.lt_of_le_of_lt (show ((z.length : Int)).natAbs ≤ 1000 by omega) (by decide)
    · have hi : v.toNat < z.cps.toList.length := by
        have e : z.cps.toList.length = z.length := by first | rfl | simp [PySem.Str.length]
        omega
      have ev : v = ((v.toNat : Nat) : Int) := by omega
      obtain ⟨c, ec⟩ : ∃ c, z.cps.toList[v.toNat]? = some c := ⟨_, List.getElem?_eq_getElem hi⟩
      refine ⟨z, v, c, rfl, rfl, Nat.le_of_lt (small1000 hl), by rw [ev]; exact atI_nat ec, ?_⟩
      exact k c H' (List.mem_of_getElem? ec) hB' sb
end
end Y

/-! names, as texts: what is one, and that a row of tries comes to a new one -/
namespace Y
open PySem PySem.Spec PyProof.Rows L2 Ns
def isL (c : Nat) : Prop := 97 ≤ c ∧ c ≤ 122
def isD (c : Nat) : Prop := 48 ≤ c ∧ c ≤ 57
def isS (c : Nat) : Prop := isL c ∨ isD c
instance (c : Nat) : Decidable (isL c) := inferInstanceAs (Decidable (_ ∧ _))
instance (c : Nat) : Decidable (isD c) := inferInstanceAs (Decidable (_ ∧ _))
instance (c : Nat) : Decidable (isS c) := inferInstanceAs (Decidable (_ ∨ _))
/-- the signs of a name -/
def NmL (n : List Nat) : Prop := ∃ c r, n = c :: r ∧ isL c ∧ (∀ d ∈ r, isS d) ∧ r.length ≤ 19
def Nm (x : Str) : Prop := NmL x.cps.toList
abbrev letters : Str := "abcdefghijklmnopqrstuvwxyz"
abbrev signs : Str := "abcdefghijklmnopqrstuvwxyz0123456789"
theorem letters_ok : ∀ c ∈ letters.cps.toList, isL c := by decide +kernel
theorem signs_ok : ∀ c ∈ signs.cps.toList, isS c := by decide +kernel
theorem len_cps (z : Str) : z.cps.toList.length = z.length := by first | rfl | simp [PySem.Str.length]
theorem str_ext {x y : Str} (h : x.cps.toList = y.cps.toList) : x = y := by
  cases x
  cases y
  exact congrArg PySem.Str.mk (Array.toList_inj.mp h)
theorem Nm.len {x : Str} (h : Nm x) : 1 ≤ x.length ∧ x.length ≤ 20 := by
  obtain ⟨c, r, e, _, _, h⟩ := h
  rw [← len_cps, e, List.length_cons]
  omega
theorem nm_one {c : Nat} (h : isL c) : Nm ⟨#[c]⟩ := ⟨c, [], rfl, h, (fun _ z => nomatch z), by decide⟩
theorem nm_snoc {x : Str} {c : Nat} (h : Nm x) (hl : x.length ≤ 19) (hc : isS c) : Nm (x ++ ⟨#[c]⟩) := by
  obtain ⟨d, r, e, h1, h2, h3⟩ := h
  refine ⟨d, r ++ [c], by rw [cps_toList_append, e]; rfl, h1, fun k hk => ?_, ?_⟩
  · rcases List.mem_append.mp hk with q | q
    · exact h2 k q
    · rw [List.mem_singleton] at q
      rw [q]; exact hc
  · have q : x.cps.toList.length ≤ 19 := by rw [len_cps]; exact hl
    rw [e, List.length_cons] at q
    rw [List.length_append, List.length_singleton]
    omega
theorem cut_list (z : Str) (k : Nat) : (cutS z none (some (k : Int))).cps.toList = z.cps.toList.take k := by
  have e : HT.sIx z.length 0 none = 0 := rfl
  unfold cutS
  show ((z.cps.toList.drop (HT.sIx z.length 0 none)).take (HT.sIx z.length z.length (some (k : Int)) - HT.sIx z.length 0 none)) = _
  rw [e, List.drop_zero, Nat.sub_zero]
  have h : HT.sIx z.length z.length (some (k : Int)) = min k z.length := by
    unfold HT.sIx
    simp
    try omega
  rw [h, ← len_cps]
  rw [List.take_eq_take_iff]
  omega
theorem nm_cut {x : Str} {k : Nat} (h : Nm x) (hk : 1 ≤ k) : Nm (cutS x none (some (k : Int))) ∧ (cutS x none (some (k : Int))).length ≤ k := by
  obtain ⟨c, r, e, h1, h2, h3⟩ := h
  have q := cut_list x k
  obtain ⟨m, rfl⟩ : ∃ m, k = m + 1 := ⟨k - 1, by omega⟩
  rw [e, List.take_succ_cons] at q
  refine ⟨⟨c, r.take m, q, h1, fun d hd => h2 d (List.mem_of_mem_take hd), ?_⟩, ?_⟩
  · rw [List.length_take]; omega
  · rw [← len_cps, q, List.length_cons, List.length_take]; omega
/-- the digits of a number -/
def Dg (k : Nat) : List Nat := (toString (k : Int) : PySem.Str).cps.toList
theorem dg_digits : ∀ k, k < 101 → (∀ c ∈ Dg k, isD c) ∧ (Dg k).length ≤ 3 := by decide +kernel
theorem dg_inj : ∀ j, j < 101 → ∀ k, k < 101 → Dg j = Dg k → j = k := by decide +kernel
theorem not_both {c : Nat} (h : isL c) (g : isD c) : False := by
  unfold isL at h
  unfold isD at g
  omega
theorem split_same : ∀ {a b : List Nat} {c d : Nat} {r t : List Nat}, (∀ x ∈ a, isD x) → (∀ x ∈ b, isD x) → isL c → isL d → a ++ c :: r = b ++ d :: t → a = b
  | [], [], _, _, _, _, _, _, _, _, _ => rfl
  | [], y :: b, c, d, r, t, _, hb, hc, _, h => by
    injection h with h1 h2
    rw [h1] at hc
    exact (not_both hc (hb y List.mem_cons_self)).elim
  | x :: a, [], c, d, r, t, ha, _, _, hd, h => by
    injection h with h1 h2
    rw [← h1] at hd
    exact (not_both hd (ha x List.mem_cons_self)).elim
  | x :: a, y :: b, c, d, r, t, ha, hb, hc, hd, h => by
    injection h with h1 h2
    rw [h1, split_same (fun z hz => ha z (List.mem_cons_of_mem _ hz)) (fun z hz => hb z (List.mem_cons_of_mem _ hz)) hc hd h2]
/-- the k-th try -/
def Tr (k : Nat) (x : Str) : Prop := ∃ c r, isL c ∧ x.cps.toList = 120 :: (Dg k ++ c :: r)
theorem tr_inj {j k : Nat} {x : Str} (hj : j < 101) (hk : k < 101) (h : Tr j x) (g : Tr k x) : j = k := by
  obtain ⟨c, r, h1, h2⟩ := h
  obtain ⟨d, t, g1, g2⟩ := g
  rw [h2] at g2
  injection g2 with _ e
  exact dg_inj j hj k hk (split_same (dg_digits j hj).1 (dg_digits k hk).1 h1 g1 e)
def tryOf (k : Nat) (x : Str) : Str := ("x" : Str) ++ toString (k : Int) ++ cutS x none (some (16 : Int))
theorem tryOf_cps (k : Nat) (x : Str) : (tryOf k x).cps.toList = 120 :: (Dg k ++ x.cps.toList.take 16) := by
  unfold tryOf
  rw [cps_toList_append, cps_toList_append, show (16 : Int) = ((16 : Nat) : Int) from rfl, cut_list]
  rfl
theorem tr_try {k : Nat} {x : Str} (h : Nm x) : Tr k (tryOf k x) := by
  obtain ⟨c, r, e, h1, _⟩ := h
  exact ⟨c, r.take 15, h1, by rw [tryOf_cps, e]; rfl⟩
theorem nm_try {k : Nat} {x : Str} (h : Nm x) (hk : k < 101) : Nm (tryOf k x) := by
  obtain ⟨c, r, e, h1, h2, h3⟩ := h
  obtain ⟨d1, d2⟩ := dg_digits k hk
  refine ⟨120, Dg k ++ x.cps.toList.take 16, tryOf_cps k x, by decide, fun d hd => ?_, ?_⟩
  · rcases List.mem_append.mp hd with q | q
    · exact .inr (d1 d q)
    · have q' := List.mem_of_mem_take q
      rw [e] at q'
      rcases List.mem_cons.mp q' with z | z
      · rw [z]; exact .inl h1
      · exact h2 d z
  · rw [List.length_append, List.length_take]
    omega
abbrev feed : Str := "feed"
theorem tr_feed {k : Nat} {x : Str} (h : Tr k x) : x ≠ feed := by
  rintro rfl
  obtain ⟨c, r, _, e⟩ := h
  have e' : feed.cps.toList = [102, 101, 101, 100] := by decide +kernel
  rw [e'] at e
  cases e
theorem sub_len {α : Type} [DecidableEq α] : ∀ {l m : List α}, l.Nodup → (∀ x ∈ l, x ∈ m) → l.length ≤ m.length
  | [], _, _, _ => Nat.zero_le _
  | x :: l, m, hn, hs => by
    have hx := hs x List.mem_cons_self
    have q := sub_len (l := l) (m := m.erase x) (List.nodup_cons.mp hn).2 fun y hy => by
      have ne : y ≠ x := fun e => (List.nodup_cons.mp hn).1 (e ▸ hy)
      exact (List.mem_erase_of_ne ne).mpr (hs y (List.mem_cons_of_mem _ hy))
    rw [List.length_erase_of_mem hx] at q
    have := List.length_pos_of_mem hx
    rw [List.length_cons]
    omega
/-- ahead of the i-th turn -/
def Ahead (taken : List Str) (i : Nat) (x : Str) : Prop := Nm x ∧ ((x ∉ taken ∧ x ≠ feed) ∨ i = 0 ∨ ∃ seen : List Str, seen.length + 1 = i ∧ seen.Nodup ∧ (∀ s ∈ seen, s ∈ taken ∧ ∃ k, k + 1 < i ∧ Tr k s) ∧ Tr (i - 1) x)
theorem ahead_good {taken : List Str} {i : Nat} {x : Str} (h : Nm x) (h1 : x ∉ taken) (h2 : x ≠ feed) : Ahead taken (i + 1) x := ⟨h, .inl ⟨h1, h2⟩⟩
theorem ahead_bad {taken : List Str} {i : Nat} {x : Str} (hi : i < 101) (h : Ahead taken i x) (hb : x ∈ taken ∨ x = feed) : Ahead taken (i + 1) (tryOf i x) := by
  obtain ⟨n, h⟩ := h
  refine ⟨nm_try n hi, ?_⟩
  rcases h with ⟨h1, h2⟩ | rfl | ⟨seen, h1, h2, h3, h4⟩
  · rcases hb with q | q
    · exact absurd q h1
    · exact absurd q h2
  · exact .inr (.inr ⟨[], rfl, List.nodup_nil, (fun _ z => nomatch z), tr_try n⟩)
  · have hx : x ∈ taken := by
      rcases hb with q | q
      · exact q
      · exact absurd q (tr_feed h4)
    refine .inr (.inr ⟨x :: seen, by rw [List.length_cons]; omega, List.nodup_cons.mpr ⟨fun hm => ?_, h2⟩, fun s hs => ?_, tr_try n⟩)
    · obtain ⟨_, k, hk, ht⟩ := h3 x hm
      have := tr_inj (by omega) (by omega) ht h4
      omega
    · rcases List.mem_cons.mp hs with e | e
      · rw [e]
        exact ⟨hx, i - 1, by omega, h4⟩
      · obtain ⟨g1, k, g2, g3⟩ := h3 s e
        exact ⟨g1, k, by omega, g3⟩
theorem ahead_end {taken : List Str} {x : Str} (hl : taken.length ≤ 100) (h : Ahead taken (taken.length + 1) x) : Nm x ∧ x ∉ taken ∧ x ≠ feed := by
  obtain ⟨n, h⟩ := h
  refine ⟨n, ?_⟩
  rcases h with h | h | ⟨seen, h1, h2, h3, h4⟩
  · exact h
  · cases h
  · refine ⟨fun hx => ?_, tr_feed h4⟩
    have q := sub_len (l := x :: seen) (m := taken) (List.nodup_cons.mpr ⟨fun hm => ?_, h2⟩) fun s hs => by
      rcases List.mem_cons.mp hs with e | e
      · rw [e]; exact hx
      · exact (h3 s e).1
    · rw [List.length_cons] at q
      omega
    · obtain ⟨_, k, hk, ht⟩ := h3 x hm
      have := tr_inj (by omega) (by omega) ht h4
      omega
end Y

namespace Y
open PySem PySem.Spec PyProof.Rows L2 Ns
open C8 (pss_cut)
def txs (l : List Str) : List V := l.map V.str
def spName (K : PySem.W.Frag) : Sp := fun as H Q _ => ∃ (b a : Addr) (ts : List Str), as = [.ref b, .ref a] ∧ Bag H b ∧ SqL K (wo H b) a (txs ts) ∧ ts.length ≤ 100 ∧ (∀ t ∈ ts, Nm t) ∧ ∀ (x : Str) (H' : Hp), Nm x → x ∉ ts → x ≠ feed → Bag H' b → Sb b H H' → Q (.str x) H'
theorem dp_txs {K : PySem.W.Frag} {H : Hp} : ∀ ts : List Str, DpAll K H (txs ts) (ts.map PyData.str)
  | [] => .nil
  | t :: ts => .cons (.str t) (dp_txs ts)
theorem nm_ok {t : Str} (h : Nm t) : PyData.strOk t = true := by
  obtain ⟨c, r, e, h1, h2, _⟩ := h
  unfold PyData.strOk
  rw [Array.all_eq_true_iff_forall_mem]
  intro x hx
  have hx' : x ∈ t.cps.toList := by simpa using hx
  rw [e] at hx'
  refine decide_eq_true ?_
  rcases List.mem_cons.mp hx' with q | q
  · rw [q]; unfold isL at h1; omega
  · rcases h2 x q with z | z
    · unfold isL at z; omega
    · unfold isD at z; omega
theorem lay_txs : ∀ ts : List Str, (∀ t ∈ ts, Nm t) → PyData.canLayAll0 (ts.map PyData.str) = true ∧ PyData.depthAll (ts.map PyData.str) = 0
  | [], _ => ⟨rfl, rfl⟩
  | t :: ts, h => by
    obtain ⟨h1, h2⟩ := lay_txs ts fun t ht => h t (List.mem_cons_of_mem _ ht)
    exact ⟨by simp [PyData.canLayAll0, PyData.canLay0, h1, nm_ok (h t List.mem_cons_self)], by simp [PyData.depthAll, PyData.depth, h2]⟩
theorem shaped_txs {ts : List Str} (h : ∀ t ∈ ts, Nm t) : SeqAt.shaped (.list (ts.map PyData.str)) = true := by
  obtain ⟨h1, h2⟩ := lay_txs ts h
  simp [SeqAt.shaped, PyData.canLay0, PyData.depth, h1, h2]
theorem flat_txs (ts : List Str) : (txs ts).all flatV = true := by
  rw [List.all_eq_true]
  intro x hx
  obtain ⟨t, _, rfl⟩ := List.mem_map.mp hx
  rfl
theorem in_txs {x : Str} {ts : List Str} : inV (.str x) (txs ts) = true ↔ x ∈ ts := by
  unfold inV txs
  rw [List.any_map, List.any_eq_true]
  constructor
  · rintro ⟨y, hy, h⟩
    have e : y = x := by simpa [L2.eqV] using h
    rw [← e]; exact hy
  · intro h
    exact ⟨x, h, by simp [L2.eqV]⟩
theorem hx20 {x : Str} (h : Nm x) : x.length ≤ sizeLine := Nat.le_of_lt (small1000 (show x.length ≤ 1000 by have := h.len; omega))
section
variable {P : Program} {w : World} {K : PySem.W.Frag} {mg : Str → Option Value} {base : Heap}
end
end Y

namespace Y
open PySem PySem.Spec PyProof.Rows L2 Ns
open C8 (pss_cut)
theorem cut_from (xs : List V) (k : Nat) : cutV xs (some (k : Int)) none = xs.drop k := by
  unfold cutV
  rw [HT.sIx_nat, HT.sIx_none]
  rcases Nat.lt_or_ge xs.length k with h | h
  · rw [Nat.min_eq_right (Nat.le_of_lt h), Nat.sub_self, List.take_zero, List.drop_of_length_le (Nat.le_of_lt h)]
  · rw [Nat.min_eq_left h]
    exact List.take_of_length_le (by rw [List.length_drop]; exact Nat.le_refl _)
theorem cut_upto (xs : List V) (k : Nat) : cutV xs none (some (k : Int)) = xs.take k := by
  unfold cutV
  rw [HT.sIx_nat, HT.sIx_none, List.drop_zero, Nat.sub_zero]
  rw [List.take_eq_take_iff]
  omega
/-- a list that stands apart from the bag -/
theorem sql_new {K : PySem.W.Frag} {H : Hp} {b p : Addr} {xs : List V} (e : H p = some (.lst xs)) (n : p ≠ b) : SqL K (wo H b) p xs := SqL.of ((wo_ne n).trans e)
theorem sqt_new {K : PySem.W.Frag} {H : Hp} {b p : Addr} {xs : List V} (e : H p = some (.tup xs)) (n : p ≠ b) : SqT K (wo H b) p xs := SqT.of ((wo_ne n).trans e)
/-- new names -/
structure Nms (ts xs : List Str) : Prop where
  nm : ∀ x ∈ xs, Nm x
  nodup : xs.Nodup
  off : ∀ x ∈ xs, x ∉ ts ∧ x ≠ feed
def spNames (K : PySem.W.Frag) : Sp := fun as H Q _ => ∃ (b a : Addr) (m : Nat) (ts : List Str), as = [.ref b, .int m, .ref a] ∧ Bag H b ∧ SqL K (wo H b) a (txs ts) ∧ ts.length + m ≤ 100 ∧ (∀ t ∈ ts, Nm t) ∧
  ∀ (p : Addr) (xs : List Str) (H' : Hp), xs.length = m → Nms ts xs → H' p = some (.lst (txs xs)) → H p = none → Bag H' b → Sb b H H' → Q (.ref p) H'
def spSize : Sp := fun as H Q _ => ∃ (b : Addr) (m : Int), as = [.ref b, .int m] ∧ Bag H b ∧ 0 ≤ m ∧ m ≤ 10 ^ 13 ∧ ∀ (v : Int) (H' : Hp), 0 ≤ v → v ≤ m → Bag H' b → Sb b H H' → Q (.int v) H'
section
variable {P : Program} {w : World} {K : PySem.W.Frag} {mg : Str → Option Value} {base : Heap}
theorem scZ : FnScope ["bag", "most", "small"] ["bag", "most"] (defScope sSize) := ⟨rfl, rfl, rfl, by decide +kernel, rfl, by decide +kernel, by decide +kernel⟩
theorem ok_size {f fT fS : Addr} {fd fdT fdS : FuncData} (F : Fun K "_law_size" "_law_size" sSize f fd) (T : Nat0 mg) (FT : Fun K "_law_take" "_law_take" sTake fT fdT) (mT : mg "_law_take" = some (.ref fT)) (bT : Binds K fdT ["bag", "many"] [])
    (FS : Fun K "_law_some" "_law_some" sSome fS fdS) (mS : mg "_law_some" = some (.ref fS)) (bS : Binds K fdS ["bag", "things"] []) :
    FnOk P w K mg base CX0 3 f fd ["bag", "most"] spSize := by
  have GT : FnOk P w K mg base CX0 1 fT fdT ["bag", "many"] spTake := ok_take FT T
  have GS : FnOk P w K mg base CX0 2 fS fdS ["bag", "things"] (spSome K) := ok_some FS T FT mT bT
  refine F.ok scZ (fun as H Q E h => ?_) (fun cdv A outer s H as Q E hr h => ?_)
  · obtain ⟨b, m, rfl, _⟩ := h
    rfl
  · obtain ⟨b, m, rfl, hB, h0, h1, k⟩ := h
    have hr1 : Room 1 _ := hr.mono (by decide)
    refine ⟨_, pss_cons (ps_set (i := 2) scZ.nd rfl (.inl rfl) (pe_call GT hr1 rfl mT FT.kp bT .nil pass0 (pa_cons (pv 0) (pa_cons (pe_op op_add (pe_callB (call_min2 rfl) (by rfl) T.min (by decide +kernel) (pa_cons (pv 1) (pa_cons pe_int pa_nil))) pe_int) pa_nil))))
      (pss_one (ps_ret (pe_call GS hr rfl mS FS.kp bS .nil pass0 (pa_cons (pv 0) (pa_cons (pe_lst (pa_cons (pv 2) (pa_cons (pv 2) (pa_cons (pv 2) (pa_cons (pe_callB (call_min2 rfl) (by rfl) T.min (by decide +kernel) (pa_cons (pv 1) (pa_cons pe_int pa_nil)))
        (pa_cons (pe_call GT hr1 rfl mT FT.kp bT .nil pass0 (pa_cons (pv 0) (pa_cons (pe_op op_add (pv 1) pe_int) pa_nil))) (pa_cons (pv 1) pa_nil))))))) pa_nil))))), ?_⟩
    have big : ((10 : Int) ^ 13 + 1).natAbs < 2 ^ 200 := by decide +kernel
    refine ⟨_, rfl, _, rfl, m, 6, rfl, _, 1, rfl, rfl, b, _, rfl, hB, ?_, ?_, fun v H1 v0 v1 hB1 s1 => ?_⟩
    · split <;> omega
    · refine Nat.lt_of_le_of_lt ?_ big
      split <;> omega
    refine ⟨_, rfl, _, rfl, _, rfl, _, rfl, _, rfl, m, 1, rfl, _, rfl, _, rfl, m, 1, rfl, rfl, b, _, rfl, hB1, by omega, Nat.lt_of_le_of_lt (show (m + 1).natAbs ≤ _ by omega) big, fun u H2 u0 u1 hB2 s2 => ?_⟩
    refine ⟨_, rfl, by show 6 ≤ sizeLine; decide, fun p hp => ?_⟩
    refine ⟨b, p, _, rfl, hB2.new hp, sql_new upd_same (hB2.ne hp), (fun z => nomatch z), by show 6 ≤ 1000000; decide, fun x H' hx hB' s' => ?_⟩
    have fin : ∀ i : Int, x = .int i → 0 ≤ i → i ≤ m → Q x H' := fun i e g0 g1 => by
      rw [e]
      exact k i H' g0 g1 hB' (((s1.trans s2).new hp).trans s')
    have v1' : v ≤ m := by
      by_cases c : (6 : Int) < m
      · rw [if_pos c] at v1; omega
      · rw [if_neg c] at v1; omega
    simp only [List.mem_cons, List.not_mem_nil, or_false] at hx
    rcases hx with rfl | rfl | rfl | rfl | rfl | rfl
    · exact fin v rfl v0 v1'
    · exact fin v rfl v0 v1'
    · exact fin v rfl v0 v1'
    · refine fin _ rfl ?_ ?_ <;> split <;> omega
    · exact fin u rfl u0 (by omega)
    · exact fin m rfl h0 (Int.le_refl m)
end
end Y

/-! OC: _law_odd. -/
namespace Y
open PySem PySem.Spec PyProof.Rows L2 Ns
def bs : Str := ⟨(List.replicate 21 ("b" : Str).cps).foldl (· ++ ·) #[]⟩
theorem bs_len : bs.length ≤ 40 := by
  show (⟨(List.replicate 21 ("b" : Str).cps).foldl (· ++ ·) #[]⟩ : Str).length ≤ 40
  rw [mulS_len]
  decide
def oddDs : List PyData := [.none, .bool true, .bool false, .int (-1), .int 0, .int 1, .int (10 ^ Int.toNat 39), .str "", .str "a", .str "feed", .str "A", .str "a b", .str "7b", .str "a_b", .str bs, .tuple [], .list [], .dict [], .tuple [.str "a"], .tuple [.str "a", .str "b"], .tuple [.str "a", .str "b", .int 1], .list [.int 0], .tuple [.int 0], .tuple [.none], .tuple [.tuple []], .tuple [.tuple [], .tuple []], .dict [(.str "a", .int 1)], .str "\n", .tuple [.int 0, .int 1]]
theorem odd_bd : ∀ d ∈ oddDs, Bd 40 d := bdA_iff.mp (by
  unfold oddDs
  simp only [BdA, Bd, and_true, true_and]
  repeat (first | exact bs_len | (refine ⟨?_, ?_⟩) | decide)
  )
def spOdd (K : PySem.W.Frag) : Sp := fun as H Q _ => ∃ (b : Addr), as = [.ref b] ∧ Bag H b ∧ ∀ (x : V) (d : PyData) (H' : Hp), DatV K (wo H' b) x d → Bd 40 d → Bag H' b → Sb b H H' → Q x H'
section
variable {P : Program} {w : World} {K : PySem.W.Frag} {mg : Str → Option Value} {base : Heap}
end
end Y


/-! OD: whole numbers and counts among any values. -/
namespace Y
open PySem PySem.Spec PyProof.Rows L2 Ns
def isInt : PyData → Bool | .int _ => true | _ => false
def isCnt : PyData → Bool | .int i => decide (0 ≤ i) | _ => false
theorem isInt_and (d : PyData) : isInt d = (qI d && !qB d) := by cases d <;> rfl
/-- what tells something of any value -/
def spTells (K : PySem.W.Frag) (f : PyData → Bool) : Sp := fun as H Q _ => ∃ (x : V) (d : PyData), as = [x] ∧ DatV K H x d ∧ Q (.bl (f d)) H
section
variable {P : Program} {w : World} {K : PySem.W.Frag} {mg : Str → Option Value} {base : Heap}
theorem scWh : FnScope ["thing"] ["thing"] (defScope sWhole) := ⟨rfl, rfl, rfl, by decide +kernel, rfl, by decide +kernel, by decide +kernel⟩
theorem ok_whole {f : Addr} {fd : FuncData} (F : Fun K "_law_whole" "_law_whole" sWhole f fd) (T : Nat0 mg) (hB : mg "bool" = none) : FnOk P w K mg base CX0 1 f fd ["thing"] (spTells K isInt) := by
  refine F.ok scWh (fun as H Q E h => ?_) (fun cdv A outer s H as Q E hr h => ?_)
  · obtain ⟨x, d, rfl, _⟩ := h
    rfl
  · obtain ⟨x, d, rfl, D, k⟩ := h
    refine ⟨_, pss_one (ps_ret (pe_and (pe_callB (call_isD kit_I) (by rfl) T.isi (by decide +kernel) (pa_cons (pv 0) (pa_cons (pe_bltn (v := .ty "int") (by rfl) T.int (by decide +kernel) rfl) pa_nil)))
      (pe_one (pe_not (pe_callB (call_isD kit_B) (by rfl) T.isi (by decide +kernel) (pa_cons (pv 0) (pa_cons (pe_bltn (v := .ty "bool") (by rfl) hB (by decide +kernel) rfl) pa_nil))))))), ?_⟩
    rw [isInt_and] at k
    refine ⟨_, rfl, x, d, rfl, D, qI d, rfl, ?_⟩
    refine ite2 (fun h => ?_) (fun h => ?_)
    · refine ⟨_, rfl, x, d, rfl, D, qB d, rfl, ?_⟩
      rw [h] at k
      exact k
    · rw [Bool.eq_false_iff.mpr h] at k
      exact k
theorem scII : FnScope ["thing"] ["thing"] (defScope sIsInteger) := ⟨rfl, rfl, rfl, by decide +kernel, rfl, by decide +kernel, by decide +kernel⟩
theorem ok_isInteger {f : Addr} {fd : FuncData} (F : Fun K "is_integer" "is_integer" sIsInteger f fd) (T : Nat0 mg) (hB : mg "bool" = none) : FnOk P w K mg base CX0 1 f fd ["thing"] (spTells K isInt) := by
  refine F.ok scII (fun as H Q E h => ?_) (fun cdv A outer s H as Q E hr h => ?_)
  · obtain ⟨x, d, rfl, _⟩ := h
    rfl
  · obtain ⟨x, d, rfl, D, k⟩ := h
    refine ⟨_, pss_one (ps_ret (pe_and (pe_callB (call_isD kit_I) (by rfl) T.isi (by decide +kernel) (pa_cons (pv 0) (pa_cons (pe_bltn (v := .ty "int") (by rfl) T.int (by decide +kernel) rfl) pa_nil)))
      (pe_one (pe_not (pe_callB (call_isD kit_B) (by rfl) T.isi (by decide +kernel) (pa_cons (pv 0) (pa_cons (pe_bltn (v := .ty "bool") (by rfl) hB (by decide +kernel) rfl) pa_nil))))))), ?_⟩
    rw [isInt_and] at k
    refine ⟨_, rfl, x, d, rfl, D, qI d, rfl, ?_⟩
    refine ite2 (fun h => ?_) (fun h => ?_)
    · refine ⟨_, rfl, x, d, rfl, D, qB d, rfl, ?_⟩
      rw [h] at k
      exact k
    · rw [Bool.eq_false_iff.mpr h] at k
      exact k
theorem isInt_int {d : PyData} (h : isInt d = true) : ∃ i, d = .int i := by cases d <;> first | exact ⟨_, rfl⟩ | cases h
theorem dat_int {K : PySem.W.Frag} {H : Hp} {x : V} {i : Int} (D : DatV K H x (.int i)) : x = .int i := by cases D; rfl
theorem scIC : FnScope ["thing"] ["thing"] (defScope sIsCount) := ⟨rfl, rfl, rfl, by decide +kernel, rfl, by decide +kernel, by decide +kernel⟩
theorem ok_isCount {f fI : Addr} {fd dI : FuncData} (F : Fun K "is_count" "is_count" sIsCount f fd) (GI : FnOk P w K mg base CX0 1 fI dI ["thing"] (spTells K isInt)) (FI : Fun K "is_integer" "is_integer" sIsInteger fI dI) (mI : mg "is_integer" = some (.ref fI)) (bI : Binds K dI ["thing"] []) :
    FnOk P w K mg base CX0 2 f fd ["thing"] (spTells K isCnt) := by
  refine F.ok scIC (fun as H Q E h => ?_) (fun cdv A outer s H as Q E hr h => ?_)
  · obtain ⟨x, d, rfl, _⟩ := h
    rfl
  · obtain ⟨x, d, rfl, D, k⟩ := h
    refine ⟨_, pss_one (ps_ret (pe_and (pe_call GI hr rfl mI FI.kp bI .nil pass0 (pa_cons (pv 0) pa_nil)) (pe_one (pe_cmpR op_ge (pv 0) pe_int (nomark _))))), ?_⟩
    refine ⟨_, rfl, x, d, rfl, D, isInt d, rfl, ?_⟩
    refine ite2 (fun h => ?_) (fun h => ?_)
    · obtain ⟨i, rfl⟩ := isInt_int h
      cases dat_int D
      exact ⟨_, rfl, _, _, rfl, rfl, k⟩
    · have e : isCnt d = false := by cases d <;> first | rfl | exact absurd rfl h
      rw [e] at k
      exact k
end
end Y

/-! OA: for laws without yards: what the yards' texts bring elsewhere. -/
namespace Y
open PySem PySem.Spec PyProof.Rows L2 Ns
theorem sqt_more {K : PySem.W.Frag} {H H' : Hp} (m : Same H H') {a : Addr} {xs : List V} (h : SqT K H a xs) : SqT K H' a xs := h.elim (fun z => .inl (z.elim (fun z => .inl (m _ _ z)) fun ⟨o, z⟩ => .inr ⟨o, m _ _ z⟩)) .inr
theorem paired_imp {α β : Type} {R S : α → β → Prop} (k : ∀ a b, R a b → S a b) : ∀ {as : List α} {bs : List β}, Paired R as bs → Paired S as bs
  | _, _, .nil => .nil
  | _, _, .cons h t => .cons (k _ _ h) (paired_imp k t)
theorem paired_snoc {α β : Type} {R : α → β → Prop} {a : α} {b : β} (h : R a b) : ∀ {as : List α} {bs : List β}, Paired R as bs → Paired R (as ++ [a]) (bs ++ [b])
  | _, _, .nil => .cons h .nil
  | _, _, .cons g t => .cons g (paired_snoc h t)
theorem row_ne {α : Type} {l : List α} (n : l.Nodup) {i j : Nat} {x y : α} (h : l[i]? = some x) (g : l[j]? = some y) (ne : i ≠ j) : x ≠ y := by
  rintro rfl
  exact ne ((List.getElem?_inj (List.getElem?_eq_some_iff.mp h).1 n).mp (h.trans g.symm))
theorem s3u {H : Hp} {a q : Addr} {o u : HO} (hq : H q = none) (h : H a = some u) : upd H q o a = some u := by rw [upd_ne (ne_of_none h hq)]; exact h
theorem paired_len {α β : Type} {R : α → β → Prop} : ∀ {as : List α} {bs : List β}, Paired R as bs → as.length = bs.length
  | _, _, .nil => rfl
  | _, _, .cons _ t => by rw [List.length_cons, List.length_cons, paired_len t]
theorem paired_at {α β : Type} {R : α → β → Prop} : ∀ {as : List α} {bs : List β}, Paired R as bs → ∀ {i : Nat} {a : α}, as[i]? = some a → ∃ b, bs[i]? = some b ∧ R a b
  | _, _, .cons h _, 0, a, e => by
    rw [List.getElem?_cons_zero] at e
    cases e
    exact ⟨_, rfl, h⟩
  | _, _, .cons _ t, i + 1, a, e => by
    rw [List.getElem?_cons_succ] at e
    exact paired_at t e
theorem ne_at {H : Hp} {a b : Addr} {o u : HO} (h : H a = some o) (g : H b = some u) (n : o ≠ u) : a ≠ b := fun e => by
  rw [e, g] at h
  exact n (Option.some.inj h).symm
theorem fr_none {H H' : Hp} {p : Addr} (m : Same H H') (h : H' p = none) : H p = none := by
  cases e : H p with
  | none => rfl
  | some o => rw [m _ _ e] at h; cases h
end Y

/-! OE: _law_bent_word. -/
namespace Y
open PySem PySem.Spec PyProof.Rows L2 Ns
def spBW : Sp := fun as H Q _ => ∃ (b : Addr) (z : Str), as = [.ref b, .str z] ∧ Bag H b ∧ z.length ≤ 300 ∧ ∀ (y : Str) (H' : Hp), y.length ≤ 2 * z.length + 4 → Bag H' b → Sb b H H' → Q (.str y) H'
theorem strs_in {xs : List Str} {n : Nat} (h : ∀ z ∈ xs, z.length ≤ n) {x : V} (hx : x ∈ xs.map V.str) : ∃ z, x = .str z ∧ z.length ≤ n := by
  obtain ⟨z, hz, rfl⟩ := List.mem_map.mp hx
  exact ⟨z, rfl, h z hz⟩
section
variable {P : Program} {w : World} {K : PySem.W.Frag} {mg : Str → Option Value} {base : Heap}
end
end Y

/-! OF: _law_bent, for each depth. -/
namespace Y
open PySem PySem.Spec PyProof.Rows L2 Ns
open C8 (pss_cut)
theorem datA_cut {K : PySem.W.Frag} {H : Hp} {xs : List V} {ds : List PyData} (h : DatA K H xs ds) (lo hi : Option Int) : ∃ es, DatA K H (cutV xs lo hi) es ∧ (∀ e ∈ es, e ∈ ds) ∧ es.length ≤ ds.length := by
  refine ⟨_, datA_take (datA_drop h _) _, fun e he => List.mem_of_mem_drop (List.mem_of_mem_take he), ?_⟩
  rw [List.length_take, List.length_drop]
  omega
theorem cut_one (xs : List V) : (cutV xs none (some 1)).length ≤ 1 := by
  unfold cutV
  rw [List.length_take, show HT.sIx xs.length xs.length (some 1) = min 1 xs.length from HT.sIx_nat _ _ 1]
  have := Nat.min_le_left 1 xs.length
  omega
theorem sbT {K : PySem.W.Frag} {b p : Addr} {H H' : Hp} {xs : List V} (s : Sb b H H') (B : Bag H b) (h : SqT K H p xs) : SqT K H' p xs := sqt_more (wo_sub H' b) (sqt_more s.1 (sqt_wo' h B))
theorem dat_tup {K : PySem.W.Frag} {H : Hp} {x : V} {d : PyData} (D : DatV K H x d) (h : qT d = true) : ∃ a xs ds, x = .ref a ∧ d = .tuple ds ∧ SqT K H a xs ∧ DatA K H xs ds := by
  cases D with
  | tup h1 h2 => exact ⟨_, _, _, rfl, rfl, h1, h2⟩
  | _ => cases h
theorem dat_str {K : PySem.W.Frag} {H : Hp} {x : V} {d : PyData} (D : DatV K H x d) (h : qS d = true) : ∃ z, x = .str z ∧ d = .str z := by
  cases D with
  | str z => exact ⟨z, rfl, rfl⟩
  | _ => cases h
theorem dat_whole {K : PySem.W.Frag} {H : Hp} {x : V} {d : PyData} (D : DatV K H x d) (h : qI d = true) (g : ¬ qB d = true) : ∃ i, x = .int i ∧ d = .int i := by
  cases D with
  | int i => exact ⟨i, rfl, rfl⟩
  | bl b => exact absurd rfl g
  | _ => cases h
theorem str_int {i : Int} {w : Nat} (h : i.natAbs < 10 ^ w) (hw : w ≤ 300) : (toString i : Str).length ≤ w + 2 ∧ i.natAbs.log2 < 1920 := by
  have h' : i.natAbs < 10 ^ (w + 1) := pow_up h (Nat.le_succ w)
  have f := fit_int (i := i) (n := w + 1) (by omega) h' (by omega)
  refine ⟨?_, ?_⟩
  · have := f.2.1
    exact this
  · refine log2_small (Nat.lt_trans h' (Nat.lt_of_le_of_lt (Nat.pow_le_pow_right (by decide) (show w + 1 ≤ 301 by omega)) (by decide +kernel)))
/-- a value with one part otherwise, at most n deep -/
def spBent (K : PySem.W.Frag) (n : Nat) : Sp := fun as H Q _ => ∃ (b : Addr) (x : V) (d : PyData) (w : Nat), as = [.ref b, x, .int (n : Int)] ∧ Bag H b ∧ DatV K (wo H b) x d ∧ Bd w d ∧ w ≤ 300 ∧
  ∀ (x' : V) (d' : PyData) (H' : Hp), DatV K (wo H' b) x' d' → Bd (3 * w + 40) d' → Bag H' b → Sb b H H' → Q x' H'
def spLess (K : PySem.W.Frag) : Nat → Sp
  | 0 => fun _ _ _ _ => False
  | n + 1 => spBent K n
section
variable {P : Program} {w : World} {K : PySem.W.Frag} {mg : Str → Option Value} {base : Heap}
end
end Y

/-! OG: nets; what each number has left. -/
namespace Y
open PySem PySem.Spec PyProof.Rows L2 Ns
abbrev Arc := Nat × Nat × Option Int
def capV : Option Int → V | none => .non | some c => .int c
def capD : Option Int → PyData | none => .none | some c => .int c
def ArcV (K : PySem.W.Frag) (H : Hp) (x : V) (a : Arc) : Prop := ∃ t, x = .ref t ∧ SqT K H t [.int a.1, .int a.2.1, capV a.2.2]
def NetV (K : PySem.W.Frag) (H : Hp) (y : V) (m : Nat) (as : List Arc) : Prop := ∃ (t a : Addr) (xs : List V), y = .ref t ∧ SqT K H t [.int m, .ref a] ∧ SqT K H a xs ∧ Paired (ArcV K H) xs as
theorem arcs_more {K : PySem.W.Frag} {H H' : Hp} {xs : List V} {as : List Arc} (h : Paired (ArcV K H) xs as) (m : Same H H') : Paired (ArcV K H') xs as := paired_imp (fun v c ⟨a, e, q⟩ => ⟨a, e, sqt_more m q⟩) h
theorem NetV.more {K : PySem.W.Frag} {H H' : Hp} {y : V} {m : Nat} {as : List Arc} (h : NetV K H y m as) (s : Same H H') : NetV K H' y m as := by
  obtain ⟨t, a, xs, e, h1, h2, h3⟩ := h
  exact ⟨t, a, xs, e, sqt_more s h1, sqt_more s h2, arcs_more h3 s⟩
structure NetP (m : Nat) (as : List Arc) : Prop where
  m2 : 2 ≤ m
  m7 : m ≤ 7
  len : as.length ≤ 14
  each : ∀ a ∈ as, a.1 < m ∧ a.2.1 < m ∧ a.1 ≠ a.2.1 ∧ ∀ c, a.2.2 = some c → 0 ≤ c ∧ c ≤ 10 ^ 12
/-- what the number k has left -/
def srp (k : Nat) : List Arc → List Int → Int
  | a :: as, t :: ts => (if a.2.1 = k then t else 0) - (if a.1 = k then t else 0) + srp k as ts
  | _, _ => 0
theorem srp_take (k : Nat) : ∀ {as : List Arc} {ts : List Int} {i : Nat} {a : Arc} {t : Int}, as[i]? = some a → ts[i]? = some t →
    srp k (as.take (i + 1)) (ts.take (i + 1)) = srp k (as.take i) (ts.take i) + ((if a.2.1 = k then t else 0) - (if a.1 = k then t else 0))
  | a0 :: as, t0 :: ts, 0, a, t, h, g => by
    cases h
    cases g
    show _ - _ + 0 = 0 + _
    omega
  | a0 :: as, t0 :: ts, i + 1, a, t, h, g => by
    have ih := srp_take k (as := as) (ts := ts) (i := i) h g
    show _ - _ + srp k (as.take (i + 1)) (ts.take (i + 1)) = _ - _ + srp k (as.take i) (ts.take i) + _
    rw [ih]
    omega
  | [], _, _, _, _, h, _ => nomatch h
  | _ :: _, [], _, _, _, _, g => nomatch g
def srps (m : Nat) (as : List Arc) (ts : List Int) : List Int := (List.range m).map fun k => srp k as ts
theorem srps_len (m : Nat) (as : List Arc) (ts : List Int) : (srps m as ts).length = m := by unfold srps; rw [List.length_map, List.length_range]
theorem srps_at {m k : Nat} (as : List Arc) (ts : List Int) (h : k < m) : (srps m as ts)[k]? = some (srp k as ts) := by
  unfold srps
  rw [List.getElem?_map, List.getElem?_range h]
  rfl
theorem srps_zero (m : Nat) (as : List Arc) (ts : List Int) : srps m (as.take 0) (ts.take 0) = List.replicate m 0 := by
  unfold srps
  rw [List.take_zero, List.take_zero]
  refine List.ext_getElem? fun i => ?_
  rw [List.getElem?_map]
  by_cases h : i < m
  · rw [List.getElem?_range h, List.getElem?_replicate, if_pos h]
    rfl
  · rw [List.getElem?_eq_none (by rw [List.length_range]; omega), List.getElem?_replicate, if_neg h]
    rfl
theorem srps_step {m : Nat} {as : List Arc} {ts : List Int} {i : Nat} {a : Arc} {t : Int} (h : as[i]? = some a) (g : ts[i]? = some t) (h1 : a.1 < m) (h2 : a.2.1 < m) (ne : a.1 ≠ a.2.1) :
    ((srps m (as.take i) (ts.take i)).set a.1 (srp a.1 (as.take i) (ts.take i) - t)).set a.2.1 (srp a.2.1 (as.take i) (ts.take i) + t) = srps m (as.take (i + 1)) (ts.take (i + 1)) := by
  refine List.ext_getElem? fun k => ?_
  have lm := srps_len m (as.take i) (ts.take i)
  by_cases hk : k < m
  · rw [srps_at _ _ hk, srp_take k h g, List.getElem?_set, List.length_set, lm, List.getElem?_set, lm, srps_at _ _ hk]
    by_cases e2 : a.2.1 = k
    · have e1 : ¬ a.1 = k := fun z => ne (z.trans e2.symm)
      rw [if_pos e2, if_pos h2, if_pos e2, if_neg e1, ← e2]
      congr 1
      omega
    · rw [if_neg e2, if_neg e2]
      by_cases e1 : a.1 = k
      · rw [if_pos e1, if_pos h1, if_pos e1, ← e1]
        congr 1
        omega
      · rw [if_neg e1, if_neg e1]
        congr 1
        omega
  · rw [List.getElem?_eq_none (by rw [List.length_set, List.length_set, lm]; omega), List.getElem?_eq_none (by rw [srps_len]; omega)]
section
variable {P : Program} {w : World} {K : PySem.W.Frag} {mg : Str → Option Value} {base : Heap}
def spSur (K : PySem.W.Frag) : Sp := fun as H Q _ => ∃ (y : V) (a : Addr) (m : Nat) (rs : List Arc) (ts : List Int), as = [y, .ref a] ∧ NetV K H y m rs ∧ NetP m rs ∧ SqT K H a (ts.map V.int) ∧ ts.length = rs.length ∧
  ∀ (p : Addr) (H' : Hp), H' p = some (.lst ((srps m rs ts).map V.int)) → H p = none → Same H H' → Q (.ref p) H'
theorem scSu : FnScope ["net", "through", "many", "arcs", "surplus", "start", "end", "cap", "much"] ["net", "through"] (defScope sSurplus) := ⟨rfl, rfl, rfl, by decide +kernel, rfl, by decide +kernel, by decide +kernel⟩
theorem ixN_nat {n k : Nat} (h : k < n) : ixN n (k : Int) = some k := by
  unfold ixN
  rw [if_pos (by omega), if_pos (by omega), Int.toNat_natCast]
theorem ok_surplus {f : Addr} {fd : FuncData} (F : Fun K "_surplus" "_surplus" sSurplus f fd) (T : Nat0 mg) : FnOk P w K mg base CX0 1 f fd ["net", "through"] (spSur K) := by
  refine F.ok scSu (fun as H Q E h => ?_) (fun cdv A outer s H as Q E hr h => ?_)
  · obtain ⟨y, a, m, rs, ts, rfl, _⟩ := h
    rfl
  · obtain ⟨y, a, m, rs, ts, rfl, hN, hP, hT, hl, k⟩ := h
    refine ⟨_, pss_cons (ps_asg (pv 0) (pg_tup (by rfl) (pgs_cons (pg_name (i := 2) scSu.nd rfl (.inl rfl)) (pgs_cons (pg_name (i := 3) scSu.nd rfl (.inl rfl)) pgs_nil))))
      (pss_cons (ps_set (i := 4) scSu.nd rfl (.inl rfl) (pe_op op_rep (pe_lst (pa_cons pe_int pa_nil)) (pv 2)))
      (pss_cons (ps_for PassesOwn.never rfl (RZ.pi_zipA (by rfl) T.zip (pa_cons (pv 3) (pa_cons (pv 1) pa_nil))) (pg_tup rfl (pgs_cons (pg_tup rfl (pgs_cons (pg_name (i := 5) scSu.nd rfl (.inl rfl)) (pgs_cons (pg_name (i := 6) scSu.nd rfl (.inl rfl)) (pgs_cons (pg_name (i := 7) scSu.nd rfl (.inl rfl)) pgs_nil)))) (pgs_cons (pg_name (i := 8) scSu.nd rfl (.inl rfl)) pgs_nil)))
        (pss_cons (ps_augS (pv 4) (pv 5) get_list (pv 8) ip_sub set_list) (pss_one (ps_augS (pv 4) (pv 6) get_list (pv 8) ip_add set_list))))
      (pss_one (ps_ret (pv 4))))), ?_⟩
    obtain ⟨t, ra, xs, rfl, h1, h2, h3⟩ := hN
    have lx := paired_len h3
    have m7 := hP.m7
    refine ⟨_, rfl, t, _, rfl, h1, rfl, _, _, rfl, _, _, rfl, rfl, ?_⟩
    refine ⟨by show 1 ≤ sizeLine; decide, fun q hq => ⟨_, rfl, q, m, _, rfl, rfl, upd_same, by omega, by omega, Nat.le_of_lt (small1000 (show 1 * (m : Int).toNat ≤ 1000 by omega)), fun p hp => ?_⟩⟩
    have M1 : Same H (upd (upd H q (.lst [.int 0])) p (.lst (List.replicate (m : Int).toNat [V.int 0]).flatten)) := same_new (same_new (Same.refl H) hq) hp
    have pn : H p = none := fr_none (same_new (Same.refl H) hq) hp
    have e1 : upd (upd H q (.lst [.int 0])) p (.lst (List.replicate (m : Int).toNat [V.int 0]).flatten) p = some (.lst ((srps m (rs.take 0) (ts.take 0)).map V.int)) := by
      rw [upd_same, srps_zero, Int.toNat_natCast]
      congr 2
      rw [List.map_replicate]
      clear M1 hp k hP m7 h1
      induction m with
      | zero => rfl
      | succ m ih => rw [List.replicate_succ, List.flatten_cons, ih, List.replicate_succ]; rfl
    generalize upd (upd H q (.lst [.int 0])) p (.lst (List.replicate (m : Int).toNat [V.int 0]).flatten) = H1 at M1 e1 ⊢
    refine ⟨_, rfl, _, rfl, ra, a, xs, _, rfl, .inr ⟨sqt_more M1 h2, sqt_more M1 hT, ?_⟩⟩
    refine RZ.for_zipT (K := K) (a := ra) (b := a) (xs := xs) (ys := ts.map V.int) (by rw [List.length_map]; omega) (fun i σ H' => ∃ v5 v6 v7 v8 : Option V, σ = [some (.ref t), some (.ref a), some (.int m), some (.ref ra), some (.ref p), v5, v6, v7, v8] ∧
      H' p = some (.lst ((srps m (rs.take i) (ts.take i)).map V.int)) ∧ Same H H') ?_ ?_ ?_ ?_
    · exact ⟨none, none, none, none, rfl, e1, M1⟩
    · rintro i σ H' ⟨_, _, _, _, _, _, M⟩
      exact ⟨sqt_more M h2, sqt_more M hT⟩
    · clear M1 e1
      rintro i x y' T' σ H' hx hy ⟨v5, v6, v7, v8, rfl, e, M⟩ hT'
      obtain ⟨r, hr', q', rfl, hq'⟩ := paired_at h3 hx
      obtain ⟨z, hz, rfl⟩ := ints_at hy
      obtain ⟨b1, b2, bn, _⟩ := hP.each r (List.mem_of_getElem? hr')
      have M2 := same_new (o := .tup [.ref q', .int z]) M hT'
      have e2 := s3u (o := .tup [.ref q', .int z]) hT' e
      have et : upd H' T' (.tup [.ref q', .int z]) T' = some (.tup [.ref q', .int z]) := upd_same
      generalize upd H' T' (.tup [.ref q', .int z]) = H2 at M2 e2 et ⊢
      have len : ((srps m (rs.take i) (ts.take i)).map V.int).length = m := by rw [List.length_map, srps_len]
      have a1 : ((srps m (rs.take i) (ts.take i)).map V.int)[r.1]? = some (.int (srp r.1 (rs.take i) (ts.take i))) := by rw [List.getElem?_map, srps_at _ _ b1]; rfl
      have a2 : (((srps m (rs.take i) (ts.take i)).map V.int).set r.1 (.int (srp r.1 (rs.take i) (ts.take i) - z)))[r.2.1]? = some (.int (srp r.2.1 (rs.take i) (ts.take i))) := by
        rw [List.getElem?_set_ne bn, List.getElem?_map, srps_at _ _ b2]
        rfl
      refine ⟨T', _, rfl, SqT.of et, rfl, _, _, rfl, q', _, rfl, sqt_more M2 hq', rfl, _, _, rfl, _, _, rfl, _, _, rfl, rfl, _, _, rfl, rfl, ?_⟩
      refine ⟨_, rfl, _, rfl, p, _, _, _, rfl, rfl, SqL.of e2, atI_nat a1, _, rfl, _, _, rfl, rfl, p, _, _, r.1, rfl, rfl, e2, ixN_nat (by rw [len]; exact b1), ?_⟩
      refine ⟨_, rfl, _, rfl, p, _, _, _, rfl, rfl, SqL.of upd_same, atI_nat a2, _, rfl, _, _, rfl, rfl, p, _, _, r.2.1, rfl, rfl, upd_same, ixN_nat (by rw [List.length_set, len]; exact b2), ?_⟩
      refine ⟨_, _, _, _, rfl, ?_, ?_⟩
      · rw [upd_upd, upd_same, ← srps_step hr' hz b1 b2 bn, List.map_set, List.map_set]
      · rw [upd_upd]
        exact same_put M2 pn
    · rintro σ H' ⟨v5, v6, v7, v8, rfl, e, M⟩
      rw [lx, List.take_length, ← hl, List.take_length] at e
      exact ⟨_, rfl, k p H' e pn M⟩
end
end Y

/-! OH: value_of, is_through. -/
namespace Y
open PySem PySem.Spec PyProof.Rows L2 Ns
section
variable {K : PySem.W.Frag} {a b : Addr} {xs ys : List V}
theorem walk_zipP {n : Nat} (hn : n = min xs.length ys.length) : Walk (RZ.ItzT K a b) n (fun H => SqT K H a xs ∧ SqT K H b ys) (YPair (fun i => xs[i]?) (fun i => ys[i]?)) := by
  subst hn
  refine ⟨fun i _ hi q => ?_, fun _ q => ⟨xs, ys, q.1, q.2, by omega⟩, fun i H v H' _ q y => ?_⟩
  · have h1 : i < xs.length := by omega
    have h2 : i < ys.length := by omega
    exact ⟨xs, ys, xs[i], ys[i], q.1, q.2, by simp [h1], by simp [h2]⟩
  · obtain ⟨T, x, z, h1, h2, h3, h4, h5⟩ := y
    exact ⟨T, x, z, h1, h2, h3, h4 xs q.1, h5 ys q.2⟩
end
def capOk : Option Int → Int → Bool
  | none, _ => true
  | some c, t => decide (t ≤ c)
def intD : PyData → Int | .int i => i | _ => 0
def thrOk (m : Nat) (rs : List Arc) (ts : List Int) : Bool := ((rs.zip ts).all fun p => capOk p.1.2.2 p.2) && ((List.range (m - 2)).all fun k => decide (srp (k + 2) rs ts = 0))
def isThr (m : Nat) (rs : List Arc) : PyData → Bool
  | .tuple ds => decide (ds.length = rs.length) && (ds.all isCnt && thrOk m rs (ds.map intD))
  | _ => false
theorem isThr_tup (m : Nat) (rs : List Arc) (ds : List PyData) : isThr m rs (.tuple ds) = (decide (ds.length = rs.length) && (ds.all isCnt && thrOk m rs (ds.map intD))) := rfl
theorem all_ints {K : PySem.W.Frag} {H : Hp} : ∀ {xs : List V} {ds : List PyData}, DatA K H xs ds → ds.all isCnt = true → ∃ ts : List Int, ds = ts.map PyData.int ∧ xs = ts.map V.int ∧ ∀ t ∈ ts, 0 ≤ t
  | _, _, .nil, _ => ⟨[], rfl, rfl, fun _ z => nomatch z⟩
  | _, _, .cons (d := d) h t, e => by
    rw [List.all_cons, Bool.and_eq_true] at e
    obtain ⟨ts, e1, e2, e3⟩ := all_ints t e.2
    cases d with
    | int i =>
      cases h
      exact ⟨i :: ts, by rw [e1]; rfl, by rw [e2]; rfl, fun t ht => (List.mem_cons.mp ht).elim (fun z => by rw [z]; exact of_decide_eq_true e.1) (e3 t)⟩
    | _ => exact absurd e.1 Bool.false_ne_true
theorem intD_ints (ts : List Int) : (ts.map PyData.int).map intD = ts := by
  rw [List.map_map]
  conv => rhs; rw [← List.map_id ts]
  rfl
/-- what tells a thing of a net -/
def spThr (K : PySem.W.Frag) : Sp := fun as H Q _ => ∃ (y x : V) (m : Nat) (rs : List Arc) (d : PyData), as = [y, x] ∧ NetV K H y m rs ∧ NetP m rs ∧ DatV K H x d ∧ ∀ H', Same H H' → Q (.bl (isThr m rs d)) H'
/-- the value -/
def spVal (K : PySem.W.Frag) : Sp := fun as H Q _ => ∃ (y : V) (a : Addr) (m : Nat) (rs : List Arc) (ts : List Int), as = [y, .ref a] ∧ NetV K H y m rs ∧ NetP m rs ∧ SqT K H a (ts.map V.int) ∧ ts.length = rs.length ∧ ∀ H', Same H H' → Q (.int (srp 1 rs ts)) H'
section
variable {P : Program} {w : World} {K : PySem.W.Frag} {mg : Str → Option Value} {base : Heap}
theorem scVO : FnScope ["net", "through"] ["net", "through"] (defScope sValueOf) := ⟨rfl, rfl, rfl, by decide +kernel, rfl, by decide +kernel, by decide +kernel⟩
theorem ok_valueOf {f fS : Addr} {fd dS : FuncData} (F : Fun K "value_of" "value_of" sValueOf f fd) (GS : FnOk P w K mg base CX0 1 fS dS ["net", "through"] (spSur K)) (FS : Fun K "_surplus" "_surplus" sSurplus fS dS) (mS : mg "_surplus" = some (.ref fS)) (bS : Binds K dS ["net", "through"] []) :
    FnOk P w K mg base CX0 2 f fd ["net", "through"] (spVal K) := by
  refine F.ok scVO (fun as H Q E h => ?_) (fun cdv A outer s H as Q E hr h => ?_)
  · obtain ⟨y, a, m, rs, ts, rfl, _⟩ := h
    rfl
  · obtain ⟨y, a, m, rs, ts, rfl, hN, hP, hT, hl, k⟩ := h
    refine ⟨_, pss_one (ps_ret (pe_ix ix_list (pe_call GS hr rfl mS FS.kp bS .nil pass0 (pa_cons (pv 0) (pa_cons (pv 1) pa_nil))) pe_int (fun _ _ => rfl))), ?_⟩
    have m2 := hP.m2
    refine ⟨_, rfl, _, rfl, y, a, m, rs, ts, rfl, hN, hP, hT, hl, fun p H' e _ M => ⟨p, _, 1, .int (srp 1 rs ts), rfl, rfl, SqL.of e, atI_nat (j := 1) ?_, k H' M⟩⟩
    rw [List.getElem?_map, srps_at _ _ (by omega)]
    rfl
theorem scIT : FnScope ["net", "thing", "arcs", "much", "start", "end", "cap"] ["net", "thing"] (defScope sIsThrough) := ⟨rfl, rfl, rfl, by decide +kernel, rfl, by decide +kernel, by decide +kernel⟩
theorem ok_isThrough {f fS fC : Addr} {fd dS dC : FuncData} (F : Fun K "is_through" "is_through" sIsThrough f fd) (T : Nat0 mg) (GS : FnOk P w K mg base CX0 1 fS dS ["net", "through"] (spSur K)) (FS : Fun K "_surplus" "_surplus" sSurplus fS dS) (mS : mg "_surplus" = some (.ref fS)) (bS : Binds K dS ["net", "through"] [])
    (GC : FnOk P w K mg base CX0 2 fC dC ["thing"] (spTells K isCnt)) (FC : Fun K "is_count" "is_count" sIsCount fC dC) (mC : mg "is_count" = some (.ref fC)) (bC : Binds K dC ["thing"] []) : FnOk P w K mg base CX0 3 f fd ["net", "thing"] (spThr K) := by
  refine F.ok scIT (fun as H Q E h => ?_) (fun cdv A outer s H as Q E hr h => ?_)
  · obtain ⟨y, x, m, rs, d, rfl, _⟩ := h
    rfl
  · obtain ⟨y, x, m, rs, d, rfl, hN, hP, hD, k⟩ := h
    have hr1 : Room 1 _ := hr.mono (by decide)
    refine ⟨_, pss_cons (ps_set (i := 2) scIT.nd rfl (.inl rfl) (pe_ix ix_tup (pv 0) pe_int (fun _ _ => rfl)))
      (pss_cons (ps_if (PW.pt (pw_or (pt_not (pt_val (pe_callB (call_isD kit_T) (by rfl) T.isi (by decide +kernel) (pa_cons (pv 1) (pa_cons (pe_bltn (v := .ty "tuple") (by rfl) T.tuple (by decide +kernel) rfl) pa_nil)))))
          (pw_or1 (pt_cmpR op_ne (pe_callB call_len_seq (by rfl) T.len PySem.boot_len (pa_cons (pv 1) pa_nil)) (pe_callB call_len_seq (by rfl) T.len PySem.boot_len (pa_cons (pv 2) pa_nil)) (nomark _))))) (pss_one (ps_ret pe_bl)) pss_nil)
      (pss_cons (ps_if (pt_not (pt_val (pe_callB (cr_all rfl) (by rfl) T.all (by decide +kernel) (pa_cons (pe_lc (own := [("much", 3)]) (g := gName 3) (tt := tYes) rfl scIT.nd (pi_tup (pv 1)) (blkOk_by (N := ["net", "thing", "arcs", "much", "start", "end", "cap"]) (sc := defScope sIsThrough) (by decide +kernel))
          (fun _ _ _ _ _ => pg_name (i := 3) scIT.nd rfl (Or.inl rfl)) (fun _ _ _ _ _ => pts_nil) (fun _ _ _ _ _ => pe_call GC hr rfl mC FC.kp bC .nil pass0 (pa_cons (pv 3) pa_nil))) pa_nil)))) (pss_one (ps_ret pe_bl)) pss_nil)
      (pss_cons (ps_if (pt_val (pe_callB (cr_any rfl) (by rfl) T.any (by decide +kernel) (pa_cons (pe_lc (own := [("start", 4), ("end", 5), ("cap", 6), ("much", 3)]) (g := gTup K 2 (gCons (gTup K 3 (gCons (gName 4) (gCons (gName 5) (gCons (gName 6) gNil)))) (gCons (gName 3) gNil))) (tt := tYes) rfl scIT.nd
          (RZ.pi_zipA (by rfl) T.zip (pa_cons (pv 2) (pa_cons (pv 1) pa_nil))) (blkOk_by (N := ["net", "thing", "arcs", "much", "start", "end", "cap"]) (sc := defScope sIsThrough) (by decide +kernel))
          (fun _ _ _ _ _ => pg_tup rfl (pgs_cons (pg_tup rfl (pgs_cons (pg_name (i := 4) scIT.nd rfl (Or.inl rfl)) (pgs_cons (pg_name (i := 5) scIT.nd rfl (Or.inl rfl)) (pgs_cons (pg_name (i := 6) scIT.nd rfl (Or.inl rfl)) pgs_nil)))) (pgs_cons (pg_name (i := 3) scIT.nd rfl (Or.inl rfl)) pgs_nil)))
          (fun _ _ _ _ _ => pts_nil) (fun _ _ _ _ _ => pe_and (pe_cmpR op_notN (pv 6) pe_non (nomark _)) (pe_one (pe_cmpR op_gt (pv 3) (pv 6) (nomark _))))) pa_nil))) (pss_one (ps_ret pe_bl)) pss_nil)
      (pss_one (ps_ret (pe_callB (cr_all rfl) (by rfl) T.all (by decide +kernel) (pa_cons (pe_lc (own := [("much", 3)]) (g := gName 3) (tt := tYes) rfl scIT.nd (pi_list (pe_slice sl_list (pe_call GS hr1 rfl mS FS.kp bS .nil pass0 (pa_cons (pv 0) (pa_cons (pv 1) pa_nil))) (po_some pe_int) po_none))
          (blkOk_by (N := ["net", "thing", "arcs", "much", "start", "end", "cap"]) (sc := defScope sIsThrough) (by decide +kernel))
          (fun _ _ _ _ _ => pg_name (i := 3) scIT.nd rfl (Or.inl rfl)) (fun _ _ _ _ _ => pts_nil) (fun _ _ _ _ _ => pe_cmpR op_eq (pv 3) pe_int (nomark _))) pa_nil))))))), ?_⟩
    obtain ⟨t, ra, zs, rfl, h1, h2, h3⟩ := id hN
    have lz := paired_len h3
    have l14 := hP.len
    have m7 := hP.m7
    have m2 := hP.m2
    refine ⟨_, rfl, t, _, 1, .ref ra, rfl, rfl, h1, at1, ?_⟩
    refine ⟨_, rfl, x, d, rfl, hD, qT d, rfl, ?_⟩
    refine ite2 (fun h => ?_) (fun h => ?_)
    · have e : isThr m rs d = false := by cases d <;> first | rfl | exact absurd h Bool.false_ne_true
      rw [e] at k
      exact k H (Same.refl H)
    obtain ⟨a, xs, ds, rfl, rfl, hT, hA⟩ := dat_tup hD (by simpa using h)
    have lx := hA.len
    refine ⟨_, rfl, a, xs, rfl, .inr hT, _, rfl, ra, zs, rfl, .inr h2, rfl, _, rfl, ?_⟩
    refine ite2 (fun h => ?_) (fun h => ?_)
    · have ne : ¬ ds.length = rs.length := fun z => by
        rw [lx, lz, z] at h
        simp at h
      have e : isThr m rs (.tuple ds) = false := by
        rw [isThr_tup, decide_eq_false ne]
        rfl
      rw [e] at k
      exact k H (Same.refl H)
    have eqL : ds.length = rs.length := by
      rw [lx, lz] at h
      have := (by simpa using h : (ds.length : Int) = (rs.length : Int))
      omega
    have k' : ∀ H', Same H H' → Q (.bl (ds.all isCnt && thrOk m rs (ds.map intD))) H' := fun H' M => by
      have := k H' M
      rwa [isThr_tup, decide_eq_true eqL, Bool.true_and] at this
    clear k
    refine ⟨_, rfl, a, rfl, ⟨_, hT⟩, fun D hDn => ?_⟩
    refine lc_tup (K := K) (a := a) (xs := xs) (fun i H' => H' D = some (.lst (((ds.take i).map isCnt).map V.bl)) ∧ Same H H') ?_ ?_ ?_ ?_
    · exact ⟨by rw [List.take_zero, upd_same]; rfl, same_new (Same.refl H) hDn⟩
    · rintro i H' _ ⟨_, M⟩
      exact sqt_more M hT
    · rintro i u H' hu ⟨q1, M⟩
      obtain ⟨du, hdu, Du⟩ := datA_at hA hu
      refine ⟨rfl, _, rfl, u, du, rfl, Du.more M, _, q1, ?_, ?_, same_put M hDn⟩
      · rw [List.length_map, List.length_map, List.length_take]
        exact small1000 (by omega)
      · rw [upd_same, List.take_succ, hdu]
        simp
    rintro H1 ⟨q1, M1⟩
    rw [lx, List.take_length] at q1
    refine ⟨D, _, rfl, SqL.of q1, _, rfl, ?_⟩
    have ea : ((ds.map isCnt).all id) = ds.all isCnt := by rw [List.all_map]; rfl
    rw [ea]
    refine ite2 (fun h => ?_) (fun h => ?_)
    · have e : ds.all isCnt = false := by simpa using h
      rw [e] at k'
      exact k' H1 M1
    have hall : ds.all isCnt = true := by simpa using h
    rw [hall] at k'
    obtain ⟨ts, rfl, rfl, pos⟩ := all_ints hA hall
    rw [intD_ints] at k'
    rw [List.length_map] at eqL
    clear q1 ea hall h
    refine ⟨_, rfl, _, rfl, ra, a, zs, ts.map V.int, rfl, .inr ⟨sqt_more M1 h2, sqt_more M1 hT, fun D2 hD2 => ?_⟩⟩
    have D2n := fr_none M1 hD2
    refine lc_it (walk_zipP (K := K) (a := ra) (b := a) (xs := zs) (ys := ts.map V.int) (n := rs.length) (by rw [List.length_map]; omega)) (fun i H' => H' D2 = some (.lst ((((rs.zip ts).take i).map fun p => !capOk p.1.2.2 p.2).map V.bl)) ∧ Same H H') ?_ ?_ ?_ ?_
    · exact ⟨by rw [List.take_zero, upd_same]; rfl, same_new M1 hD2⟩
    · rintro i H' _ ⟨_, M⟩
      exact ⟨sqt_more M h2, sqt_more M hT⟩
    · rintro i u H' H'' hi ⟨q1, M⟩ ⟨T', x', y', rfl, fT, rfl, hx, hy⟩
      obtain ⟨r, hr', q', rfl, hq'⟩ := paired_at h3 hx
      obtain ⟨z, hz, rfl⟩ := ints_at hy
      have M2 := same_new (o := .tup [.ref q', .int z]) M fT
      have e2 := s3u (o := .tup [.ref q', .int z]) fT q1
      have et : upd H' T' (.tup [.ref q', .int z]) T' = some (.tup [.ref q', .int z]) := upd_same
      generalize upd H' T' (.tup [.ref q', .int z]) = H2 at M2 e2 et ⊢
      have hzip : (rs.zip ts)[i]? = some (r, z) := by rw [List.getElem?_zip_eq_some]; exact ⟨hr', hz⟩
      refine ⟨T', _, rfl, SqT.of et, rfl, _, _, rfl, q', _, rfl, sqt_more M2 hq', rfl, _, _, rfl, _, _, rfl, _, _, rfl, rfl, _, _, rfl, rfl, ?_⟩
      have step : ∀ b : Bool, b = (!capOk r.2.2 z) → ∃ ys, H2 D2 = some (.lst ys) ∧ ys.length < sizeLine ∧ upd H2 D2 (.lst (ys ++ [V.bl b])) D2 = some (.lst ((((rs.zip ts).take (i + 1)).map fun p => !capOk p.1.2.2 p.2).map V.bl)) ∧ Same H (upd H2 D2 (.lst (ys ++ [V.bl b]))) := fun b hb => by
        refine ⟨_, e2, ?_, ?_, same_put M2 D2n⟩
        · rw [List.length_map, List.length_map, List.length_take]
          exact small1000 (by have := hP.len; omega)
        · rw [upd_same, List.take_succ, hzip, hb]
          simp
      refine ⟨rfl, _, rfl, rfl, _, rfl, ?_⟩
      cases hc : r.2.2 with
      | none =>
        refine ite2 (fun h => absurd h (by decide)) (fun _ => ?_)
        exact step false (by rw [hc]; rfl)
      | some c =>
        refine iteT ?_
        refine ⟨_, rfl, _, rfl, _, _, rfl, rfl, ?_⟩
        refine step _ ?_
        rw [hc]
        show decide (c < z) = !decide (z ≤ c)
        by_cases g : z ≤ c
        · rw [decide_eq_true g, decide_eq_false (by omega)]; rfl
        · rw [decide_eq_false g, decide_eq_true (by omega)]; rfl
    rintro H2 ⟨q1, M2⟩
    rw [List.take_of_length_le (by rw [List.length_zip]; omega)] at q1
    refine ⟨D2, _, rfl, SqL.of q1, _, rfl, ?_⟩
    have ea : ((((rs.zip ts).map fun p => !capOk p.1.2.2 p.2)).any id) = !((rs.zip ts).all fun p => capOk p.1.2.2 p.2) := by
      rw [List.any_map]
      generalize rs.zip ts = l
      induction l with
      | nil => rfl
      | cons p l ih => rw [List.any_cons, List.all_cons, ih, Bool.not_and]; rfl
    rw [ea]
    refine ite2 (fun h => ?_) (fun h => ?_)
    · have e : thrOk m rs ts = false := by
        unfold thrOk
        rw [show ((rs.zip ts).all fun p => capOk p.1.2.2 p.2) = false by simpa using h]
        rfl
      rw [e] at k'
      exact k' H2 M2
    have e : thrOk m rs ts = (List.range (m - 2)).all fun k => decide (srp (k + 2) rs ts = 0) := by
      unfold thrOk
      rw [show ((rs.zip ts).all fun p => capOk p.1.2.2 p.2) = true by simpa using h]
      rfl
    rw [e] at k'
    clear q1 ea h e
    refine ⟨_, rfl, _, rfl, .ref t, a, m, rs, ts, rfl, hN.more M2, hP, sqt_more M2 hT, eqL, fun p H3 e3 _ M3' => ?_⟩
    have M3 := M2.trans M3'
    refine ⟨_, rfl, p, _, rfl, SqL.of e3, fun q hq => ⟨q, rfl, ⟨_, SqL.of upd_same⟩, fun D3 hD3 => ?_⟩⟩
    have ec : cutV ((srps m rs ts).map V.int) (some (2 : Int)) none = ((List.range (m - 2)).map fun k => srp (k + 2) rs ts).map V.int := by
      rw [show (2 : Int) = ((2 : Nat) : Int) from rfl, cut_from, ← List.map_drop]
      congr 1
      refine List.ext_getElem? fun i => ?_
      rw [List.getElem?_drop, List.getElem?_map]
      by_cases hi : i < m - 2
      · rw [srps_at _ _ (by omega), List.getElem?_range hi, Nat.add_comm 2 i]
        rfl
      · rw [List.getElem?_eq_none (by rw [srps_len]; omega), List.getElem?_eq_none (l := List.range (m - 2)) (by rw [List.length_range]; omega)]
        rfl
    rw [ec] at hD3 ⊢
    have MQ := same_new (o := .lst (((List.range (m - 2)).map fun k => srp (k + 2) rs ts).map V.int)) M3 hq
    have eq : upd H3 q (.lst (((List.range (m - 2)).map fun k => srp (k + 2) rs ts).map V.int)) q = some (.lst (((List.range (m - 2)).map fun k => srp (k + 2) rs ts).map V.int)) := upd_same
    generalize upd H3 q (.lst (((List.range (m - 2)).map fun k => srp (k + 2) rs ts).map V.int)) = H4 at MQ eq hD3 ⊢
    have D3n := fr_none MQ hD3
    have nq : q ≠ D3 := fun z => by rw [z, hD3] at eq; cases eq
    generalize hL : ((List.range (m - 2)).map fun k => srp (k + 2) rs ts) = L at eq ⊢
    have lL : L.length ≤ 7 := by rw [← hL, List.length_map, List.length_range]; omega
    refine lc_list (K := K) (a := q) (xs := L.map V.int) (fun i H' => H' D3 = some (.lst (((L.take i).map fun z => decide (z = 0)).map V.bl)) ∧ Same H4 H') ?_ ?_ ?_ ?_
    · exact ⟨by rw [List.take_zero, upd_same]; rfl, same_new (Same.refl H4) hD3⟩
    · rintro i H' _ ⟨_, M⟩
      exact SqL.of (M _ _ eq)
    · rintro i u H' hu ⟨q1, M⟩
      obtain ⟨z, hz, rfl⟩ := ints_at hu
      refine ⟨rfl, _, rfl, rfl, _, q1, ?_, ?_, same_put M hD3⟩
      · rw [List.length_map, List.length_map, List.length_take]
        exact small1000 (by omega)
      · rw [upd_same, List.take_succ, hz]
        simp
    rintro H5 ⟨q1, M5⟩
    rw [List.length_map, List.take_length] at q1
    refine ⟨D3, _, rfl, SqL.of q1, ?_⟩
    have ea : ((L.map fun z => decide (z = 0)).all id) = (List.range (m - 2)).all fun k => decide (srp (k + 2) rs ts = 0) := by
      rw [← hL, List.map_map, List.all_map]
      rfl
    rw [ea]
    exact k' H5 (MQ.trans M5)
end
end Y

/-! OI: _law_value, _law_is_through. -/
namespace Y
open PySem PySem.Spec PyProof.Rows L2 Ns
open C8 (pss_cut)
theorem dpI {K : PySem.W.Frag} {H : Hp} : ∀ l : List Int, DpAll K H (l.map V.int) (l.map PyData.int)
  | [] => .nil
  | i :: l => .cons (.int i) (dpI l)
theorem layI : ∀ l : List Int, PyData.canLayAll0 (l.map PyData.int) = true ∧ PyData.depthAll (l.map PyData.int) = 0
  | [] => ⟨rfl, rfl⟩
  | i :: l => by
    obtain ⟨h1, h2⟩ := layI l
    simp [PyData.canLayAll0, PyData.canLay0, PyData.depthAll, PyData.depth, h1, h2]
theorem shpI (l : List Int) : SeqAt.shaped (.list (l.map PyData.int)) = true := by
  obtain ⟨h1, h2⟩ := layI l
  unfold SeqAt.shaped
  rw [Bool.and_eq_true]
  refine ⟨by simp [PyData.canLay0, h1], decide_eq_true ?_⟩
  simp only [PyData.depth, h2]
  decide
theorem emptyI (l : List Int) : PyData.eqv (.list (l.map PyData.int)) (.list []) = decide (l = []) := by
  cases l with
  | nil => rfl
  | cons i l => rfl
/-- one arc's part of the value -/
def valA (r : Arc) (z : Int) : Int := z * ((if decide (V.int r.2.1 = V.int 1) = true then 1 else 0) - (if decide (V.int r.1 = V.int 1) = true then 1 else 0))
theorem valA_eq (r : Arc) (z : Int) : valA r z = (if r.2.1 = 1 then z else 0) - (if r.1 = 1 then z else 0) := by
  have e : ∀ n : Nat, (decide (V.int n = V.int 1) = true) ↔ n = 1 := fun n => by
    rw [decide_eq_true_eq]
    constructor
    · intro h
      have : (n : Int) = 1 := by injection h
      omega
    · rintro rfl
      rfl
  unfold valA
  simp only [e]
  by_cases h1 : r.2.1 = 1
  · by_cases h2 : r.1 = 1
    · rw [if_pos h1, if_pos h2, if_pos h1, if_pos h2]; omega
    · rw [if_pos h1, if_neg h2, if_pos h1, if_neg h2]; omega
  · by_cases h2 : r.1 = 1
    · rw [if_neg h1, if_pos h2, if_neg h1, if_pos h2]; omega
    · rw [if_neg h1, if_neg h2, if_neg h1, if_neg h2]; omega
theorem valA_sum : ∀ (rs : List Arc) (ts : List Int), ((rs.zip ts).map fun p => valA p.1 p.2).sum = srp 1 rs ts
  | [], _ => rfl
  | _ :: _, [] => rfl
  | r :: rs, t :: ts => by
    rw [List.zip_cons_cons, List.map_cons, List.sum_cons, valA_sum rs ts, valA_eq]
    rfl
section
variable {P : Program} {w : World} {K : PySem.W.Frag} {mg : Str → Option Value} {base : Heap}
theorem scLV : FnScope ["net", "through", "arc", "many"] ["net", "through"] (defScope sValue) := ⟨rfl, rfl, rfl, by decide +kernel, rfl, by decide +kernel, by decide +kernel⟩
theorem ok_lawValue {f : Addr} {fd : FuncData} (F : Fun K "_law_value" "_law_value" sValue f fd) (T : Nat0 mg) : FnOk P w K mg base CX0 1 f fd ["net", "through"] (spVal K) := by
  refine F.ok scLV (fun as H Q E h => ?_) (fun cdv A outer s H as Q E hr h => ?_)
  · obtain ⟨y, a, m, rs, ts, rfl, _⟩ := h
    rfl
  · obtain ⟨y, a, m, rs, ts, rfl, hN, hP, hT, hl, k⟩ := h
    refine ⟨_, pss_one (ps_ret (pe_callB (cr_sum rfl) (by rfl) T.sum (by decide +kernel) (pa_cons (pe_lc (own := [("arc", 2), ("many", 3)]) (g := gTup K 2 (gCons (gName 2) (gCons (gName 3) gNil))) (tt := tYes)
      (te := tOp (rI CMul fun i j => .int (i * j)) (tVar 3) (tOp (rI0 fun i j => .int (i - j)) (tCB _ (tCons (tOp _ (tOp (rIxT K) (tVar 2) (tC (V.int 1))) (tC (V.int 1))) tNil)) (tCB _ (tCons (tOp _ (tOp (rIxT K) (tVar 2) (tC (V.int 0))) (tC (V.int 1))) tNil)))) rfl scLV.nd
      (RZ.pi_zipA (by rfl) T.zip (pa_cons (pe_ix ix_tup (pv 0) pe_int (fun _ _ => rfl)) (pa_cons (pv 1) pa_nil))) (blkOk_by (N := ["net", "through", "arc", "many"]) (sc := defScope sValue) (by decide +kernel))
      (fun _ _ _ _ _ => pg_tup rfl (pgs_cons (pg_name (i := 2) scLV.nd rfl (Or.inl rfl)) (pgs_cons (pg_name (i := 3) scLV.nd rfl (Or.inl rfl)) pgs_nil))) (fun _ _ _ _ _ => pts_nil)
      (fun _ _ _ _ _ => by exact pe_op op_mul (pv 3) (pe_op op_sub (pe_callTy call_int1 (by rfl) T.int (by decide +kernel) (pa_cons (pe_cmpR op_eq (pe_ix ix_tup (pv 2) pe_int (fun _ _ => rfl)) pe_int (nomark _)) pa_nil))
        (pe_callTy call_int1 (by rfl) T.int (by decide +kernel) (pa_cons (pe_cmpR op_eq (pe_ix ix_tup (pv 2) pe_int (fun _ _ => rfl)) pe_int (nomark _)) pa_nil))))) pa_nil))), ?_⟩
    obtain ⟨t, ra, zs, rfl, h1, h2, h3⟩ := id hN
    have lz := paired_len h3
    have l14 := hP.len
    refine ⟨_, rfl, t, _, 1, .ref ra, rfl, rfl, h1, at1, _, rfl, ra, a, zs, ts.map V.int, rfl, .inr ⟨h2, hT, fun D hD => ?_⟩⟩
    refine lc_it (walk_zipP (K := K) (a := ra) (b := a) (xs := zs) (ys := ts.map V.int) (n := rs.length) (by rw [List.length_map]; omega)) (fun i H' => H' D = some (.lst ((((rs.zip ts).take i).map fun p => valA p.1 p.2).map V.int)) ∧ Same H H') ?_ ?_ ?_ ?_
    · exact ⟨by rw [List.take_zero, upd_same]; rfl, same_new (Same.refl H) hD⟩
    · rintro i H' _ ⟨_, M⟩
      exact ⟨sqt_more M h2, sqt_more M hT⟩
    · rintro i u H' H'' hi ⟨q1, M⟩ ⟨T', x', y', rfl, fT, rfl, hx, hy⟩
      obtain ⟨r, hr', q', rfl, hq'⟩ := paired_at h3 hx
      obtain ⟨z, hz, rfl⟩ := ints_at hy
      have M2 := same_new (o := .tup [.ref q', .int z]) M fT
      have e2 := s3u (o := .tup [.ref q', .int z]) fT q1
      have et : upd H' T' (.tup [.ref q', .int z]) T' = some (.tup [.ref q', .int z]) := upd_same
      generalize upd H' T' (.tup [.ref q', .int z]) = H2 at M2 e2 et ⊢
      have hzip : (rs.zip ts)[i]? = some (r, z) := by rw [List.getElem?_zip_eq_some]; exact ⟨hr', hz⟩
      refine ⟨T', _, rfl, SqT.of et, rfl, _, _, rfl, _, _, rfl, rfl, ?_⟩
      refine ⟨rfl, _, rfl, _, rfl, q', _, 1, _, rfl, rfl, sqt_more M2 hq', at1, rfl, .inr ⟨_, rfl, _, rfl, q', _, 0, _, rfl, rfl, sqt_more M2 hq', at0, rfl, .inr ⟨_, rfl, _, _, rfl, rfl, ?_⟩⟩⟩
      refine ⟨z, _, rfl, rfl, .inr ?_, _, e2, ?_, ?_, same_put M2 hD⟩
      · constructor <;> (split <;> split <;> decide)
      · rw [List.length_map, List.length_map, List.length_take]
        exact small1000 (by omega)
      · rw [upd_same, List.take_succ, hzip]
        simp [valA]
    · rintro H' ⟨q1, M⟩
      rw [List.take_of_length_le (by rw [List.length_zip]; omega)] at q1
      refine ⟨D, _, rfl, SqL.of q1, ?_⟩
      rw [valA_sum]
      exact k H' M
theorem scLT : FnScope ["net", "thing", "lack", "start", "end", "cap", "many", "k"] ["net", "thing"] (defScope sLIsThrough) := ⟨rfl, rfl, rfl, by decide +kernel, rfl, by decide +kernel, by decide +kernel⟩
/-- what is known of a thing up to its i-th item -/
def Upto (rs : List Arc) (ds : List PyData) (i : Nat) : Prop := (ds.take i).all isCnt = true ∧ ((rs.take i).zip ((ds.take i).map intD)).all (fun p => capOk p.1.2.2 p.2) = true
theorem not_at {ds : List PyData} {i : Nat} {d : PyData} (h : ds[i]? = some d) (g : isCnt d = false) : ds.all isCnt = false := by
  rw [← Bool.not_eq_true, List.all_eq_true]
  intro z
  rw [z d (List.mem_of_getElem? h)] at g
  cases g
theorem not_cap {m : Nat} {rs : List Arc} {ds : List PyData} {i : Nat} {r : Arc} {z : Int} (h : rs[i]? = some r) (g : ds[i]? = some (.int z)) (c : capOk r.2.2 z = false) : thrOk m rs (ds.map intD) = false := by
  unfold thrOk
  rw [Bool.and_eq_false_iff]
  left
  rw [← Bool.not_eq_true, List.all_eq_true]
  intro e
  have hz : (rs.zip (ds.map intD))[i]? = some (r, z) := by
    rw [List.getElem?_zip_eq_some]
    exact ⟨h, by rw [List.getElem?_map, g]; rfl⟩
  have := e _ (List.mem_of_getElem? hz)
  rw [show capOk (r, z).1.2.2 (r, z).2 = capOk r.2.2 z from rfl, c] at this
  cases this
theorem ok_lawThrough {f fW : Addr} {fd dW : FuncData} (F : Fun K "_law_is_through" "_law_is_through" sLIsThrough f fd) (T : Nat0 mg) (GW : FnOk P w K mg base CX0 1 fW dW ["thing"] (spTells K isInt)) (FW : Fun K "_law_whole" "_law_whole" sWhole fW dW) (mW : mg "_law_whole" = some (.ref fW)) (bW : Binds K dW ["thing"] []) :
    FnOk P w K mg base CX0 2 f fd ["net", "thing"] (spThr K) := by
  refine F.ok scLT (fun as H Q E h => ?_) (fun cdv A outer s H as Q E hr h => ?_)
  · obtain ⟨y, x, m, rs, d, rfl, _⟩ := h
    rfl
  · obtain ⟨y, x, m, rs, d, rfl, hN, hP, hD, k⟩ := h
    refine ⟨_, pss_cons (ps_if (PW.pt (pw_or (pt_not (pt_val (pe_callB (call_isD kit_T) (by rfl) T.isi (by decide +kernel) (pa_cons (pv 1) (pa_cons (pe_bltn (v := .ty "tuple") (by rfl) T.tuple (by decide +kernel) rfl) pa_nil)))))
          (pw_or1 (pt_cmpR op_ne (pe_callB call_len_seq (by rfl) T.len PySem.boot_len (pa_cons (pv 1) pa_nil)) (pe_callB call_len_seq (by rfl) T.len PySem.boot_len (pa_cons (pe_ix ix_tup (pv 0) pe_int (fun _ _ => rfl)) pa_nil)) (nomark _))))) (pss_one (ps_ret pe_bl)) pss_nil)
      (pss_cons (ps_set (i := 2) scLT.nd rfl (.inr rfl) (pe_op op_rep (pe_lst (pa_cons pe_int pa_nil)) (pe_ix ix_tup (pv 0) pe_int (fun _ _ => rfl))))
      (pss_cons (ps_for PassesOwn.never rfl (RZ.pi_zipA (by rfl) T.zip (pa_cons (pe_ix ix_tup (pv 0) pe_int (fun _ _ => rfl)) (pa_cons (pv 1) pa_nil))) (pg_tup rfl (pgs_cons (pg_tup rfl (pgs_cons (pg_name (i := 3) scLT.nd rfl (.inl rfl)) (pgs_cons (pg_name (i := 4) scLT.nd rfl (.inl rfl)) (pgs_cons (pg_name (i := 5) scLT.nd rfl (.inl rfl)) pgs_nil)))) (pgs_cons (pg_name (i := 6) scLT.nd rfl (.inl rfl)) pgs_nil)))
        (pss_cut (ps_if (PW.pt (pw_or (pt_not (pt_val (pe_call GW hr rfl mW FW.kp bW .nil pass0 (pa_cons (pv 6) pa_nil)))) (pw_or (pt_cmpR op_lt (pv 6) pe_int (nomark _))
          (pw_or1 (PW.pt (pw_and (pt_cmpR op_notN (pv 5) pe_non (nomark _)) (pw_and1 (pt_cmpR op_gt (pv 6) (pv 5) (nomark _))))))))) (pss_one (ps_ret pe_bl)) pss_nil)
        (pss_cons (ps_augS (pv 2) (pv 3) get_list (pv 6) ip_sub set_list) (pss_one (ps_augS (pv 2) (pv 4) get_list (pv 6) ip_add set_list)))))
      (pss_one (ps_ret (pe_cmpR (op_eqD hr.units) (pe_lc (own := [("k", 7)]) (g := gName 7) (tt := tTest (tOp _ (tOp (rIxL K) (tVar 2) (tVar 7)) (tC (V.int 0)))) rfl scLT.nd (pi_range2 (by rfl) T.range (pa_cons pe_int (pa_cons (pe_ix ix_tup (pv 0) pe_int (fun _ _ => rfl)) pa_nil)))
        (blkOk_by (N := ["net", "thing", "lack", "start", "end", "cap", "many", "k"]) (sc := defScope sLIsThrough) (by decide +kernel)) (fun _ _ _ _ _ => pg_name (i := 7) scLT.nd rfl (Or.inl rfl))
        (fun _ _ _ _ _ => by exact pts_one (pt_cmpR op_ne (pe_ix ix_list (pv 2) (pv 7) (fun _ _ => rfl)) pe_int (nomark _))) (fun _ _ _ _ _ => pv 7)) (pe_lst pa_nil) (nomark _)))))), ?_⟩
    obtain ⟨t, ra, zs, rfl, h1, h2, h3⟩ := id hN
    have lz := paired_len h3
    have l14 := hP.len
    have m7 := hP.m7
    have m2 := hP.m2
    refine ⟨_, rfl, x, d, rfl, hD, qT d, rfl, ?_⟩
    refine ite2 (fun h => ?_) (fun h => ?_)
    · have e : isThr m rs d = false := by cases d <;> first | rfl | exact absurd h Bool.false_ne_true
      rw [e] at k
      exact k H (Same.refl H)
    obtain ⟨a, xs, ds, rfl, rfl, hT, hA⟩ := dat_tup hD (by simpa using h)
    have lx := hA.len
    refine ⟨_, rfl, a, xs, rfl, .inr hT, _, rfl, t, _, 1, .ref ra, rfl, rfl, h1, at1, ra, zs, rfl, .inr h2, rfl, _, rfl, ?_⟩
    refine ite2 (fun h => ?_) (fun h => ?_)
    · have ne : ¬ ds.length = rs.length := fun z => by
        rw [lx, lz, z] at h
        simp at h
      have e : isThr m rs (.tuple ds) = false := by
        rw [isThr_tup, decide_eq_false ne]
        rfl
      rw [e] at k
      exact k H (Same.refl H)
    have eqL : ds.length = rs.length := by
      rw [lx, lz] at h
      have := (by simpa using h : (ds.length : Int) = (rs.length : Int))
      omega
    have k' : ∀ H', Same H H' → Q (.bl (ds.all isCnt && thrOk m rs (ds.map intD))) H' := fun H' M => by
      have := k H' M
      rwa [isThr_tup, decide_eq_true eqL, Bool.true_and] at this
    clear k h
    refine ⟨by show 1 ≤ sizeLine; decide, fun q hq => ⟨_, rfl, t, _, 0, _, rfl, rfl, sqt_more (same_new (Same.refl H) hq) h1, at0, q, m, _, rfl, rfl, upd_same, by omega, by omega, Nat.le_of_lt (small1000 (show 1 * (m : Int).toNat ≤ 1000 by omega)), fun p hp => ?_⟩⟩
    have M1 : Same H (upd (upd H q (.lst [.int 0])) p (.lst (List.replicate (m : Int).toNat [V.int 0]).flatten)) := same_new (same_new (Same.refl H) hq) hp
    have pn : H p = none := fr_none (same_new (Same.refl H) hq) hp
    have e1 : upd (upd H q (.lst [.int 0])) p (.lst (List.replicate (m : Int).toNat [V.int 0]).flatten) p = some (.lst ((srps m (rs.take 0) ((ds.take 0).map intD)).map V.int)) := by
      rw [upd_same, List.take_zero, List.take_zero, show ([] : List PyData).map intD = ([] : List Int).take 0 from rfl, show ([] : List Arc) = ([] : List Arc).take 0 from rfl, srps_zero, Int.toNat_natCast]
      congr 2
      rw [List.map_replicate]
      clear M1 hp k' hP hN m7 m2 h1
      induction m with
      | zero => rfl
      | succ m ih => rw [List.replicate_succ, List.flatten_cons, ih, List.replicate_succ]; rfl
    generalize upd (upd H q (.lst [.int 0])) p (.lst (List.replicate (m : Int).toNat [V.int 0]).flatten) = H1 at M1 e1 ⊢
    refine ⟨_, rfl, t, _, 1, .ref ra, rfl, rfl, sqt_more M1 h1, at1, _, rfl, ra, a, zs, xs, rfl, .inr ⟨sqt_more M1 h2, sqt_more M1 hT, ?_⟩⟩
    refine RZ.for_zipT (K := K) (a := ra) (b := a) (xs := zs) (ys := xs) (by omega) (fun i σ H' => ∃ v3 v4 v5 v6 : Option V, σ = [some (.ref t), some (.ref a), some (.ref p), v3, v4, v5, v6, none] ∧
      H' p = some (.lst ((srps m (rs.take i) ((ds.take i).map intD)).map V.int)) ∧ Upto rs ds i ∧ Same H H') ?_ ?_ ?_ ?_
    · exact ⟨none, none, none, none, rfl, e1, ⟨by rw [List.take_zero]; rfl, by rw [List.take_zero]; rfl⟩, M1⟩
    · rintro i σ H' ⟨_, _, _, _, _, _, _, M⟩
      exact ⟨sqt_more M h2, sqt_more M hT⟩
    · clear M1 e1
      rintro i x' y' T' σ H' hx hy ⟨v3, v4, v5, v6, rfl, e, U, M⟩ hT'
      obtain ⟨r, hr', q', rfl, hq'⟩ := paired_at h3 hx
      obtain ⟨dy, hdy, Dy⟩ := datA_at hA hy
      obtain ⟨b1, b2, bn, _⟩ := hP.each r (List.mem_of_getElem? hr')
      have M2 := same_new (o := .tup [.ref q', y']) M hT'
      have e2 := s3u (o := .tup [.ref q', y']) hT' e
      have et : upd H' T' (.tup [.ref q', y']) T' = some (.tup [.ref q', y']) := upd_same
      generalize upd H' T' (.tup [.ref q', y']) = H2 at M2 e2 et ⊢
      refine ⟨T', _, rfl, SqT.of et, rfl, _, _, rfl, q', _, rfl, sqt_more M2 hq', rfl, _, _, rfl, _, _, rfl, _, _, rfl, rfl, _, _, rfl, rfl, ?_⟩
      refine ⟨fun σ' H' => ∃ z : Int, dy = .int z ∧ 0 ≤ z ∧ capOk r.2.2 z = true ∧ σ' = [some (.ref t), some (.ref a), some (.ref p), some (.int r.1), some (.int r.2.1), some (capV r.2.2), some (.int z), none] ∧ H' = H2, ?_, ?_⟩
      · refine ⟨_, rfl, y', dy, rfl, Dy.more M2, _, rfl, ?_⟩
        refine ite2 (fun h => ?_) (fun h => ?_)
        · have e : ds.all isCnt = false := not_at hdy (by cases dy <;> first | rfl | exact absurd h Bool.false_ne_true)
          rw [e] at k'
          exact k' H2 M2
        obtain ⟨z, rfl⟩ := isInt_int (d := dy) (by simpa using h)
        cases dat_int Dy
        refine ⟨_, rfl, _, _, rfl, rfl, _, rfl, ?_⟩
        refine ite2 (fun h => ?_) (fun h => ?_)
        · have z0 : z < 0 := of_decide_eq_true h
          have e : ds.all isCnt = false := not_at hdy (decide_eq_false (by omega))
          rw [e] at k'
          exact k' H2 M2
        have z0 : 0 ≤ z := by
          have : ¬ z < 0 := fun g => h (decide_eq_true g)
          omega
        refine ⟨_, rfl, rfl, _, rfl, ?_⟩
        cases hc : r.2.2 with
        | none =>
          refine ite2 (fun h => absurd h (by decide)) (fun _ => ?_)
          exact ⟨z, rfl, z0, rfl, rfl, rfl⟩
        | some c =>
          refine ite2 (fun _ => ?_) (fun h => absurd rfl h)
          refine ⟨_, rfl, _, rfl, _, _, rfl, rfl, _, rfl, ?_⟩
          refine ite2 (fun h => ?_) (fun h => ?_)
          · have g : c < z := of_decide_eq_true h
            have e : thrOk m rs (ds.map intD) = false := not_cap hr' hdy (by rw [hc]; exact decide_eq_false (by omega))
            rw [e, Bool.and_false] at k'
            exact k' H2 M2
          · have g : ¬ c < z := fun g => h (decide_eq_true g)
            exact ⟨z, rfl, z0, decide_eq_true (show z ≤ c by omega), rfl, rfl⟩
      rintro σ3 H3 ⟨z, rfl, z0, hc, rfl, rfl⟩
      have hz : (ds.map intD)[i]? = some z := by rw [List.getElem?_map, hdy]; rfl
      have len : ((srps m (rs.take i) ((ds.take i).map intD)).map V.int).length = m := by rw [List.length_map, srps_len]
      have a1 : ((srps m (rs.take i) ((ds.take i).map intD)).map V.int)[r.1]? = some (.int (srp r.1 (rs.take i) ((ds.take i).map intD))) := by rw [List.getElem?_map, srps_at _ _ b1]; rfl
      have a2 : (((srps m (rs.take i) ((ds.take i).map intD)).map V.int).set r.1 (.int (srp r.1 (rs.take i) ((ds.take i).map intD) - z)))[r.2.1]? = some (.int (srp r.2.1 (rs.take i) ((ds.take i).map intD))) := by
        rw [List.getElem?_set_ne bn, List.getElem?_map, srps_at _ _ b2]
        rfl
      refine ⟨_, rfl, _, rfl, p, _, _, _, rfl, rfl, SqL.of e2, atI_nat a1, _, rfl, _, _, rfl, rfl, p, _, _, r.1, rfl, rfl, e2, ixN_nat (by rw [len]; exact b1), ?_⟩
      refine ⟨_, rfl, _, rfl, p, _, _, _, rfl, rfl, SqL.of upd_same, atI_nat a2, _, rfl, _, _, rfl, rfl, p, _, _, r.2.1, rfl, rfl, upd_same, ixN_nat (by rw [List.length_set, len]; exact b2), ?_⟩
      refine ⟨_, _, _, _, rfl, ?_, ⟨?_, ?_⟩, ?_⟩
      · rw [upd_upd, upd_same, List.map_take, List.map_take, ← srps_step hr' hz b1 b2 bn, List.map_set, List.map_set]
      · rw [List.take_succ, hdy, List.all_append, U.1]
        simp [isCnt, z0]
      · have lr : (rs.take i).length = ((ds.take i).map intD).length := by rw [List.length_map, List.length_take, List.length_take]; omega
        rw [List.take_succ, hr', List.take_succ, hdy, List.map_append, List.zip_append lr, List.all_append, U.2]
        simpa [intD] using hc
      · rw [upd_upd]
        exact same_put M2 pn
    · clear M1 e1
      rintro σ H1 ⟨v3, v4, v5, v6, rfl, e1, U, M1⟩
      have full : Upto rs ds rs.length := by rw [lz] at U; exact U
      have al : ds.all isCnt = true := by have := full.1; rwa [List.take_of_length_le (by omega)] at this
      have cp : ((rs.zip (ds.map intD)).all fun p => capOk p.1.2.2 p.2) = true := by have := full.2; rwa [List.take_length, List.take_of_length_le (by omega)] at this
      rw [List.take_of_length_le (by omega), List.take_of_length_le (by omega)] at e1
      have ek : (ds.all isCnt && thrOk m rs (ds.map intD)) = (List.range (m - 2)).all fun k => decide (srp (k + 2) rs (ds.map intD) = 0) := by
        unfold thrOk
        rw [al, cp]
        rfl
      rw [ek] at k'
      generalize ds.map intD = ts at e1 k'
      refine ⟨_, rfl, t, _, 0, _, rfl, rfl, sqt_more M1 h1, at0, 2, (m : Int), rfl, ⟨by decide, by decide, by omega, by omega⟩, fun D hD1 => ?_⟩
      have Dn := fr_none M1 hD1
      have npD : p ≠ D := fun z => by rw [z, hD1] at e1; cases e1
      refine lc_range (lo := 2) (n := ((m : Int) - 2).toNat) (fun i H' => H' D = some (.lst ((((List.range i).map fun j => (2 : Int) + (j : Nat)).filter fun j => !decide (srp j.toNat rs ts = 0)).map V.int)) ∧ Same H1 H') ?_ ?_ ?_
      · exact ⟨by rw [upd_same]; rfl, same_new (Same.refl H1) hD1⟩
      · rintro i H' hi ⟨q1, M⟩
        have hi' : 2 + i < m := by omega
        have at2 : ((srps m rs ts).map V.int)[2 + i]? = some (.int (srp (2 + i) rs ts)) := by rw [List.getElem?_map, srps_at _ _ hi']; rfl
        have ei : (2 + (i : Int)).toNat = 2 + i := by omega
        refine ⟨rfl, _, rfl, _, rfl, p, _, _, _, rfl, rfl, SqL.of (M _ _ e1), by rw [show (2 + (i : Int)) = ((2 + i : Nat) : Int) by omega]; exact atI_nat at2, rfl, _, rfl, ?_⟩
        have nxt : ((List.range (i + 1)).map fun j => (2 : Int) + (j : Nat)).filter (fun j => !decide (srp j.toNat rs ts = 0)) = ((List.range i).map fun j => (2 : Int) + (j : Nat)).filter (fun j => !decide (srp j.toNat rs ts = 0)) ++ (if srp (2 + i) rs ts = 0 then [] else [2 + (i : Int)]) := by
          rw [List.range_succ, List.map_append, List.filter_append]
          congr 1
          show List.filter _ [2 + (i : Int)] = _
          by_cases z : srp (2 + i) rs ts = 0
          · simp [ei, z]
          · simp [ei, z]
        refine ite2 (fun h => ?_) (fun h => ?_)
        · have z : ¬ srp (2 + i) rs ts = 0 := fun z => by rw [z] at h; exact absurd h (by decide)
          refine ⟨_, rfl, _, q1, ?_, ?_, same_put M hD1⟩
          · rw [List.length_map]
            refine Nat.lt_of_le_of_lt (List.length_filter_le _ _) ?_
            rw [List.length_map, List.length_range]
            exact small1000 (by omega)
          · rw [upd_same, nxt, if_neg z, List.map_append]
            rfl
        · have z : srp (2 + i) rs ts = 0 := by
            have := (by simpa using h : V.int (srp (2 + i) rs ts) = V.int 0)
            injection this
          refine ⟨?_, M⟩
          rw [nxt, if_pos z, List.append_nil]
          exact q1
      · rintro H2 ⟨q1, M⟩
        refine ⟨by show 0 ≤ sizeLine; decide, fun e he => ?_⟩
        refine ⟨.list (List.map PyData.int _), .list [], .lst (SqL.of (s3u he q1)) (dpI _), .lst (SqL.of upd_same) .nil, shpI _, by decide +kernel, ?_⟩
        rw [emptyI]
        have eb : decide (((List.range ((m : Int) - 2).toNat).map fun j => (2 : Int) + (j : Nat)).filter (fun j => !decide (srp j.toNat rs ts = 0)) = []) = (List.range (m - 2)).all fun k => decide (srp (k + 2) rs ts = 0) := by
          rw [show ((m : Int) - 2).toNat = m - 2 by omega]
          rw [Bool.eq_iff_iff, decide_eq_true_eq, List.filter_eq_nil_iff, List.all_eq_true]
          constructor
          · intro g j hj
            have := g (2 + (j : Int)) (List.mem_map.mpr ⟨j, hj, rfl⟩)
            rw [show (2 + (j : Int)).toNat = j + 2 by omega] at this
            simpa using this
          · intro g j hj
            obtain ⟨i, hi, rfl⟩ := List.mem_map.mp hj
            have := g i hi
            rw [show (2 + (i : Int)).toNat = i + 2 by omega]
            simpa using this
        rw [eb]
        exact k' _ (same_new (M1.trans M) he)
end
end Y

/-! OJ: _law_net. -/
namespace Y
open PySem PySem.Spec PyProof.Rows L2 Ns
open C8 (pss_cut)
/-- an arc of a net with m numbers -/
def ArcP (m : Nat) (a : Arc) : Prop := a.1 < m ∧ a.2.1 < m ∧ a.1 ≠ a.2.1 ∧ (∀ c, a.2.2 = some c → 0 ≤ c ∧ c ≤ 10 ^ 12) ∧ (a.1 = 0 → a.2.2 ≠ none)
/-- an arc's tuple, apart from the bag -/
def ArcT (H : Hp) (b : Addr) (t : Addr) (a : Arc) : Prop := t ≠ b ∧ H t = some (.tup [.int a.1, .int a.2.1, capV a.2.2])
theorem arcT_sb {b : Addr} {H H' : Hp} (s : Sb b H H') {ts : List Addr} {as : List Arc} (h : Paired (ArcT H b) ts as) : Paired (ArcT H' b) ts as := paired_imp (fun t a ⟨n, e⟩ => ⟨n, s.get e n⟩) h
theorem arcs_of {K : PySem.W.Frag} {H : Hp} {b : Addr} : ∀ {ts : List Addr} {as : List Arc}, Paired (ArcT H b) ts as → Paired (ArcV K (wo H b)) (ts.map V.ref) as
  | _, _, .nil => .nil
  | _, _, .cons h t => .cons ⟨_, rfl, sqt_new h.2 h.1⟩ (arcs_of t)
def spNet (K : PySem.W.Frag) : Sp := fun as H Q _ => ∃ (b : Addr), as = [.ref b] ∧ Bag H b ∧ ∀ (y : V) (m : Nat) (rs : List Arc) (H' : Hp), NetP m rs → (∀ a ∈ rs, a.1 = 0 → a.2.2 ≠ none) → NetV K (wo H' b) y m rs → Bag H' b → Sb b H H' → Q y H'
/-- amid the loop -/
def NtI (H : Hp) (b A : Addr) (m i : Nat) (H' : Hp) : Prop := ∃ (ts : List Addr) (rs : List Arc), H' A = some (.lst (ts.map V.ref)) ∧ Paired (ArcT H' b) ts rs ∧ rs.length ≤ i ∧ (∀ a ∈ rs, ArcP m a) ∧ Bag H' b ∧ Sb b H H'
theorem NtI.sb {H H' H'' : Hp} {b A : Addr} {m i : Nat} (h : NtI H b A m i H') (n : A ≠ b) (B : Bag H'' b) (s : Sb b H' H'') : NtI H b A m i H'' := by
  obtain ⟨ts, rs, e, p, l, q, _, s0⟩ := h
  exact ⟨ts, rs, s.get e n, arcT_sb s p, l, q, B, s0.trans s⟩
theorem NtI.bag {H H' : Hp} {b A : Addr} {m i : Nat} (h : NtI H b A m i H') : Bag H' b := by
  obtain ⟨_, _, _, _, _, _, B, _⟩ := h
  exact B
theorem NtI.up {H H' : Hp} {b A : Addr} {m i : Nat} (h : NtI H b A m i H') : NtI H b A m (i + 1) H' := by
  obtain ⟨ts, rs, e, p, l, r⟩ := h
  exact ⟨ts, rs, e, p, Nat.le_succ_of_le l, r⟩
section
variable {P : Program} {w : World} {K : PySem.W.Frag} {mg : Str → Option Value} {base : Heap}
theorem scNt : FnScope ["bag", "many", "most", "arcs", "k", "start", "end", "cap"] ["bag"] (defScope sNet) := ⟨rfl, rfl, rfl, by decide +kernel, rfl, by decide +kernel, by decide +kernel⟩
theorem ok_net {f fT fS fZ : Addr} {fd dT dS dZ : FuncData} (F : Fun K "_law_net" "_law_net" sNet f fd) (T : Nat0 mg) (FT : Fun K "_law_take" "_law_take" sTake fT dT) (mT : mg "_law_take" = some (.ref fT)) (bT : Binds K dT ["bag", "many"] [])
    (FS : Fun K "_law_some" "_law_some" sSome fS dS) (mS : mg "_law_some" = some (.ref fS)) (bS : Binds K dS ["bag", "things"] [])
    (FZ : Fun K "_law_size" "_law_size" sSize fZ dZ) (mZ : mg "_law_size" = some (.ref fZ)) (bZ : Binds K dZ ["bag", "most"] []) : FnOk P w K mg base CX0 4 f fd ["bag"] (spNet K) := by
  have GT : FnOk P w K mg base CX0 1 fT dT ["bag", "many"] spTake := ok_take FT T
  have GS : FnOk P w K mg base CX0 2 fS dS ["bag", "things"] (spSome K) := ok_some FS T FT mT bT
  have GZ : FnOk P w K mg base CX0 3 fZ dZ ["bag", "most"] spSize := ok_size FZ T FT mT bT FS mS bS
  refine F.ok scNt (fun as H Q E h => ?_) (fun cdv A outer s H as Q E hr h => ?_)
  · obtain ⟨b, rfl, _⟩ := h
    rfl
  · obtain ⟨b, rfl, hB, k⟩ := h
    have hr1 : Room 1 _ := hr.mono (by decide)
    have hr2 : Room 2 _ := hr.mono (by decide)
    refine ⟨_, pss_cut (ps_set (i := 1) scNt.nd rfl (.inl rfl) (pe_op op_add pe_int (pe_call GT hr1 rfl mT FT.kp bT .nil pass0 (pa_cons (pv 0) (pa_cons pe_int pa_nil)))))
      (pss_cons (ps_par (i := 2) (j := 3) rfl scNt.nd rfl rfl (by decide) rfl rfl (pa_cons (pe_call GS hr2 rfl mS FS.kp bS .nil pass0 (pa_cons (pv 0) (pa_cons (pe_lst (pa_cons pe_int (pa_cons pe_int (pa_cons (pe_op op_sub (pe_op op_pow pe_int pe_int) pe_int) pa_nil)))) pa_nil))) (pa_cons (pe_lst pa_nil) pa_nil)) (by rfl))
      (pss_cons (ps_for PassesOwn.never rfl (pi_range1 (by rfl) T.range (pa_cons (pe_call GS hr2 rfl mS FS.kp bS .nil pass0 (pa_cons (pv 0) (pa_cons (pe_lst (pa_cons pe_int (pa_cons pe_int (pa_cons pe_int (pa_cons pe_int (pa_cons pe_int pa_nil)))))) pa_nil))) pa_nil)) (pg_name (i := 4) scNt.nd rfl (.inl rfl))
        (pss_cons (ps_par (i := 5) (j := 6) rfl scNt.nd rfl rfl (by decide) rfl rfl (pa_cons (pe_call GT hr1 rfl mT FT.kp bT .nil pass0 (pa_cons (pv 0) (pa_cons (pv 1) pa_nil))) (pa_cons (pe_call GT hr1 rfl mT FT.kp bT .nil pass0 (pa_cons (pv 0) (pa_cons (pv 1) pa_nil))) pa_nil)) (by rfl))
        (pss_cut (ps_if (pt_cmpR op_eq (pe_call GT hr1 rfl mT FT.kp bT .nil pass0 (pa_cons (pv 0) (pa_cons pe_int pa_nil))) pe_int (nomark _))
          (pss_one (ps_par (i := 5) (j := 6) rfl scNt.nd rfl rfl (by decide) rfl rfl (pa_cons (pe_callB (call_min2 rfl) (by rfl) T.min (by decide +kernel) (pa_cons (pv 5) (pa_cons (pv 6) pa_nil))) (pa_cons (pe_callB (call_max2 rfl) (by rfl) T.max (by decide +kernel) (pa_cons (pv 5) (pa_cons (pv 6) pa_nil))) pa_nil)) (by rfl))) pss_nil)
        (pss_cut (ps_if (pt_cmpR op_eq (pe_call GT hr1 rfl mT FT.kp bT .nil pass0 (pa_cons (pv 0) (pa_cons pe_int pa_nil))) pe_int (nomark _)) (pss_one (ps_set (i := 6) scNt.nd rfl (.inl rfl) pe_int)) pss_nil)
        (pss_one (ps_if (pt_cmpR op_ne (pv 5) (pv 6) (nomark _))
          (pss_cut (ps_set (i := 7) scNt.nd rfl (.inl rfl) (pe_ifExp (PW.pt (pw_and (pt_cmpR op_ne (pv 5) pe_int (nomark _)) (pw_and1 (pt_cmpR op_eq (pe_call GT hr1 rfl mT FT.kp bT .nil pass0 (pa_cons (pv 0) (pa_cons pe_int pa_nil))) pe_int (nomark _)))))
            pe_non (pe_call GZ hr rfl mZ FZ.kp bZ .nil pass0 (pa_cons (pv 0) (pa_cons (pv 2) pa_nil)))))
          (pss_one (ps_expr (pe_bm PySem.F.plainAttrs_list PySem.F.slot_list_append PySem.F.type_list_append mt_append (pv 3) (pa_cons (pe_tup (pa_cons (pv 5) (pa_cons (pv 6) (pa_cons (pv 7) pa_nil)))) pa_nil))))) pss_nil))))))
      (pss_one (ps_ret (pe_tup (pa_cons (pv 1) (pa_cons (pe_callTy call_tuple_of (by rfl) T.tuple (by decide +kernel) (pa_cons (pv 3) pa_nil)) pa_nil))))))), ?_⟩
    refine ⟨fun σ' H' => ∃ m : Nat, 2 ≤ m ∧ m ≤ 7 ∧ σ' = [some (.ref b), some (.int m), none, none, none, none, none, none] ∧ Bag H' b ∧ Sb b H H', ?_, ?_⟩
    · refine ⟨_, rfl, b, 6, rfl, hB, by decide, by decide, fun v H1 v0 v1 B1 s1 => ⟨2, v, rfl, rfl, ?_⟩⟩
      obtain ⟨m, em⟩ : ∃ m : Nat, (2 : Int) + v = (m : Int) := ⟨(2 + v).toNat, by omega⟩
      refine ⟨m, by omega, by omega, ?_, B1, s1⟩
      show [some (V.ref b), some (.int (2 + v)), none, none, none, none, none, none] = _
      rw [em]
    rintro σ1 H1 ⟨m, m2, m7, rfl, B1, s1⟩
    refine ⟨_, rfl, _, _, rfl, rfl, ⟨by decide, by decide, by decide⟩, _, _, rfl, rfl, by show 3 ≤ sizeLine; decide, fun q hq => ⟨b, q, _, rfl, B1.new hq, sql_new upd_same (B1.ne hq), (fun z => nomatch z), by show 3 ≤ 1000000; decide, fun x H2 hx B2 s2' => ?_⟩⟩
    obtain ⟨mo, rfl, mo0, mo1⟩ : ∃ mo : Int, x = .int mo ∧ 0 ≤ mo ∧ mo ≤ 10 ^ 12 := by
      simp only [List.mem_cons, List.not_mem_nil, or_false] at hx
      rcases hx with rfl | rfl | rfl
      · exact ⟨_, rfl, by decide, by decide⟩
      · exact ⟨_, rfl, by decide, by decide⟩
      · exact ⟨_, rfl, by decide, by decide⟩
    have s2 := (s1.new hq).trans s2'
    clear hx s2' hq B1 s1
    refine ⟨by show 0 ≤ sizeLine; decide, fun A hA => ⟨_, _, rfl, ?_⟩⟩
    have nA := B2.ne hA
    have I3 : NtI H b A m 0 (upd H2 A (.lst [])) := ⟨[], [], upd_same, .nil, Nat.le_refl _, (fun _ z => nomatch z), B2.new hA, s2.new hA⟩
    have An : H A = none := s2.free hA nA
    generalize upd H2 A (.lst []) = H3 at I3 ⊢
    clear B2 s2 hA
    refine ⟨_, rfl, by show 5 ≤ sizeLine; decide, fun q hq => ⟨b, q, _, rfl, I3.bag.new hq, sql_new upd_same (I3.bag.ne hq), (fun z => nomatch z), by show 5 ≤ 1000000; decide, fun x H4 hx B4 s4 => ?_⟩⟩
    obtain ⟨n, rfl, n14⟩ : ∃ n : Nat, x = .int n ∧ n ≤ 14 := by
      simp only [List.mem_cons, List.not_mem_nil, or_false] at hx
      rcases hx with rfl | rfl | rfl | rfl | rfl
      · exact ⟨2, rfl, by decide⟩
      · exact ⟨5, rfl, by decide⟩
      · exact ⟨9, rfl, by decide⟩
      · exact ⟨14, rfl, by decide⟩
      · exact ⟨0, rfl, by decide⟩
    have I4 : NtI H b A m 0 H4 := I3.sb nA B4 (((Sb.refl b H3).new hq).trans s4)
    clear I3 hx hq B4 s4
    have big : ((m : Int)).natAbs < 2 ^ 200 := Nat.lt_of_le_of_lt (show ((m : Int)).natAbs ≤ 7 by omega) (by decide)
    refine ⟨n, rfl, by omega, by omega, for_range (n := ((n : Int)).toNat) (fun i σ H' => ∃ v4 v5 v6 v7 : Option V, σ = [some (.ref b), some (.int m), some (.int mo), some (.ref A), v4, v5, v6, v7] ∧ NtI H b A m i H') ?_ ?_ ?_⟩
    · exact ⟨none, none, none, none, rfl, I4⟩
    · clear I4
      rintro i σ H5 hi ⟨v4, v5, v6, v7, rfl, I5⟩
      refine ⟨_, rfl, _, rfl, b, m, rfl, I5.bag, by omega, big, fun s0 H6 s0a s0b B6 s6 => ⟨_, rfl, _, rfl, b, m, rfl, B6, by omega, big, fun e0 H7 e0a e0b B7 s7 => ⟨_, _, rfl, ?_⟩⟩⟩
      have I7 : NtI H b A m i H7 := I5.sb nA B7 (s6.trans s7)
      clear I5 B6 s6 B7 s7
      refine ⟨fun σ' H' => ∃ s e : Nat, s < m ∧ e < m ∧ σ' = [some (.ref b), some (.int m), some (.int mo), some (.ref A), some (.int (0 + (i : Int))), some (.int s), some (.int e), v7] ∧ NtI H b A m i H', ?_, ?_⟩
      · refine ⟨_, rfl, b, 3, rfl, I7.bag, by decide, by decide, fun z H8 _ _ B8 s8 => ⟨rfl, _, rfl, ?_⟩⟩
        have I8 := I7.sb nA B8 s8
        refine ite2 (fun _ => ?_) (fun _ => ?_)
        · refine ⟨_, rfl, _, rfl, s0, e0, rfl, _, rfl, _, rfl, s0, e0, rfl, _, _, rfl, ?_⟩
          refine ⟨(if e0 < s0 then e0 else s0).toNat, (if e0 > s0 then e0 else s0).toNat, ?_, ?_, ?_, I8⟩
          · split <;> omega
          · split <;> omega
          · rw [Int.toNat_of_nonneg (by split <;> omega), Int.toNat_of_nonneg (by split <;> omega)]
            rfl
        · exact ⟨s0.toNat, e0.toNat, by omega, by omega, by rw [Int.toNat_of_nonneg s0a, Int.toNat_of_nonneg e0a]; rfl, I8⟩
      clear I7
      rintro σ8 H8 ⟨s, e, hs, he, rfl, I8⟩
      refine ⟨fun σ' H' => ∃ e : Nat, e < m ∧ σ' = [some (.ref b), some (.int m), some (.int mo), some (.ref A), some (.int (0 + (i : Int))), some (.int s), some (.int e), v7] ∧ NtI H b A m i H', ?_, ?_⟩
      · refine ⟨_, rfl, b, 4, rfl, I8.bag, by decide, by decide, fun z H9 _ _ B9 s9 => ⟨rfl, _, rfl, ?_⟩⟩
        have I9 := I8.sb nA B9 s9
        refine ite2 (fun _ => ?_) (fun _ => ?_)
        · exact ⟨1, by omega, rfl, I9⟩
        · exact ⟨e, he, rfl, I9⟩
      clear I8 he e
      rintro σ9 H9 ⟨e, he, rfl, I9⟩
      refine ⟨_, rfl, _, rfl, rfl, _, rfl, ?_⟩
      refine ite2 (fun h => ?_) (fun _ => ⟨_, _, _, _, rfl, I9.up⟩)
      have ne : s ≠ e := fun z => by rw [z] at h; simp at h
      refine ⟨fun σ' H' => ∃ c : Option Int, (∀ x, c = some x → 0 ≤ x ∧ x ≤ 10 ^ 12) ∧ (s = 0 → c ≠ none) ∧ σ' = [some (.ref b), some (.int m), some (.int mo), some (.ref A), some (.int (0 + (i : Int))), some (.int s), some (.int e), some (capV c)] ∧ NtI H b A m i H', ?_, ?_⟩
      · have none_ : s ≠ 0 → ∀ H', NtI H b A m i H' → ∃ c : Option Int, (∀ x, c = some x → 0 ≤ x ∧ x ≤ 10 ^ 12) ∧ (s = 0 → c ≠ none) ∧ [some (V.ref b), some (.int m), some (.int mo), some (.ref A), some (.int (0 + (i : Int))), some (.int s), some (.int e), some .non] = [some (.ref b), some (.int m), some (.int mo), some (.ref A), some (.int (0 + (i : Int))), some (.int s), some (.int e), some (capV c)] ∧ NtI H b A m i H' := fun s0 H' I => ⟨none, (fun _ z => nomatch z), (fun z => absurd z s0), rfl, I⟩
        refine ⟨_, rfl, rfl, _, rfl, ?_⟩
        have sz : ∀ H', NtI H b A m i H' → ∀ (v : Int) (H'' : Hp), 0 ≤ v → v ≤ mo → Bag H'' b → Sb b H' H'' → ∃ c : Option Int, (∀ x, c = some x → 0 ≤ x ∧ x ≤ 10 ^ 12) ∧ (s = 0 → c ≠ none) ∧ [some (V.ref b), some (.int m), some (.int mo), some (.ref A), some (.int (0 + (i : Int))), some (.int s), some (.int e), some (.int v)] = [some (.ref b), some (.int m), some (.int mo), some (.ref A), some (.int (0 + (i : Int))), some (.int s), some (.int e), some (capV c)] ∧ NtI H b A m i H'' := fun H' I v H'' h0 h1 B s => ⟨some v, (fun x z => by cases z; exact ⟨h0, by omega⟩), (fun _ z => nomatch z), rfl, I.sb nA B s⟩
        refine ite2 (fun hs0 => ?_) (fun _ => ?_)
        · have hs0 : s ≠ 0 := fun z => by rw [z] at hs0; simp at hs0
          refine ⟨_, rfl, b, 5, rfl, I9.bag, by decide, by decide, fun z HA _ _ BA sA => ⟨rfl, _, rfl, ?_⟩⟩
          have IA := I9.sb nA BA sA
          refine ite2 (fun _ => none_ hs0 _ IA) (fun _ => ?_)
          exact ⟨_, rfl, _, rfl, b, mo, rfl, IA.bag, mo0, by omega, fun v H' h0 h1 B s => sz _ IA v H' h0 h1 B s⟩
        · exact ⟨_, rfl, _, rfl, b, mo, rfl, I9.bag, mo0, by omega, fun v H' h0 h1 B s => sz _ I9 v H' h0 h1 B s⟩
      clear I9
      rintro σA HA ⟨c, hc, hc0, rfl, ts, rs, eA, pA, lA, qA, BA, sA⟩
      have lt := paired_len pA
      refine ⟨_, rfl, .inl ⟨rfl, _, SqL.of eA⟩, _, rfl, _, rfl, _, rfl, by show 3 ≤ sizeLine; decide, fun t ht => ⟨A, _, _, rfl, rfl, s3u ht eA, ?_, ⟨_, _, _, _, rfl, ?_⟩⟩⟩
      · rw [List.length_map]
        exact small1000 (by omega)
      have nt : t ≠ A := fun z => by rw [z, eA] at ht; cases ht
      have ntb := BA.ne ht
      refine ⟨ts ++ [t], rs ++ [(s, e, c)], by rw [upd_same, List.map_append]; rfl, ?_, by rw [List.length_append]; show _ + 1 ≤ _; omega, fun a ha => ?_, hB.wr An (sA.new ht) (BA.new ht), (sA.new ht).wr An⟩
      · refine paired_snoc ⟨ntb, by rw [upd_ne nt, upd_same]⟩ (paired_imp (fun t0 r h => ?_) pA)
        have n0 : t0 ≠ A := fun z => by
          have h2 := h.2
          rw [z, eA] at h2
          cases h2
        exact ⟨h.1, by rw [upd_ne n0]; exact s3u ht h.2⟩
      · rcases List.mem_append.mp ha with z | z
        · exact qA a z
        · rw [List.mem_singleton.mp z]
          exact ⟨hs, he, ne, hc, hc0⟩
    · clear I4
      rintro σ H5 ⟨v4, v5, v6, v7, rfl, ts, rs, eA, pA, lA, qA, BA, sA⟩
      refine ⟨_, rfl, _, rfl, A, _, rfl, .inl ⟨SqL.of eA, fun l hl => ⟨by show 2 ≤ sizeLine; decide, fun t ht => ?_⟩⟩⟩
      have M1 := same_new (o := .tup (ts.map V.ref)) (Same.refl H5) hl
      have M2 := same_new (o := .tup [.int m, .ref l]) M1 ht
      have B6 := (BA.new (o := .tup (ts.map V.ref)) hl)
      refine k (.ref t) m rs _ ⟨m2, m7, by omega, fun a ha => ⟨(qA a ha).1, (qA a ha).2.1, (qA a ha).2.2.1, (qA a ha).2.2.2.1⟩⟩ (fun a ha => (qA a ha).2.2.2.2) ⟨t, l, ts.map V.ref, rfl, sqt_new upd_same (B6.ne ht), sqt_new (s3u ht upd_same) (BA.ne hl), ?_⟩ (B6.new ht) (sA.same M2)
      exact arcs_more (arcs_of pA) (wo_same M2)
end
end Y

/-! OK: _law_room. -/
namespace Y
open PySem PySem.Spec PyProof.Rows L2 Ns
open C8 (pss_cut)
/-- a row of what can still go: from, to, how much, the arc, whether onwards -/
abbrev Rw := Nat × Nat × Int × Nat × Bool
def rwV (r : Rw) : List V := [.int r.1, .int r.2.1, .int r.2.2.1, .int r.2.2.2.1, .bl r.2.2.2.2]
def RwT (H : Hp) (t : Addr) (r : Rw) : Prop := H t = some (.tup (rwV r))
def RwP (m n : Nat) (B : Int) (r : Rw) : Prop := r.1 < m ∧ r.2.1 < m ∧ 0 < r.2.2.1 ∧ r.2.2.1 ≤ B ∧ r.2.2.2.1 < n
theorem rwT_more {H H' : Hp} (s : Same H H') {ts : List Addr} {rs : List Rw} (h : Paired (RwT H) ts rs) : Paired (RwT H') ts rs := paired_imp (fun t r e => s _ _ e) h
theorem rwT_put {H : Hp} {a : Addr} {o u : HO} (ha : H a = some u) (hn : ∀ xs, u ≠ .tup xs) {ts : List Addr} {rs : List Rw} (h : Paired (RwT H) ts rs) : Paired (RwT (upd H a o)) ts rs := paired_imp (fun t r e => by
  have n : t ≠ a := fun z => by
    have e' : H t = some (.tup (rwV r)) := e
    rw [z, ha] at e'
    exact hn _ (Option.some.inj e')
  exact (upd_ne n).trans e) h
/-- how much room an arc has ahead -/
def mostA (r : Arc) (z : Int) : Int := match r.2.2 with | none => 10 ^ 30 | some c => c - z
/-- the rows of an arc -/
def rowsA (i : Nat) (r : Arc) (z : Int) : List Rw := (if 0 < mostA r z then [(r.1, r.2.1, mostA r z, i, true)] else []) ++ (if 0 < z then [(r.2.1, r.1, z, i, false)] else [])
def lawRows (rs : List Arc) (ts : List Int) (n : Nat) : List Rw := (List.range n).flatMap fun i => match rs[i]?, ts[i]? with | some r, some z => rowsA i r z | _, _ => []
theorem lawRows_next {rs : List Arc} {ts : List Int} {i : Nat} {r : Arc} {z : Int} (h : rs[i]? = some r) (g : ts[i]? = some z) : lawRows rs ts (i + 1) = lawRows rs ts i ++ (if 0 < mostA r z then [(r.1, r.2.1, mostA r z, i, true)] else []) ++ (if 0 < z then [(r.2.1, r.1, z, i, false)] else []) := by
  unfold lawRows
  rw [List.range_succ, List.flatMap_append, List.append_assoc]
  congr 1
  rw [List.flatMap_cons, List.flatMap_nil, List.append_nil, h, g]
  rfl
def spRoom (K : PySem.W.Frag) : Sp := fun as H Q _ => ∃ (y : V) (a : Addr) (m : Nat) (rs : List Arc) (ts : List Int) (B : Int), as = [y, .ref a] ∧ NetV K H y m rs ∧ NetP m rs ∧ SqT K H a (ts.map V.int) ∧ ts.length = rs.length ∧ (∀ t ∈ ts, t ≤ B ∧ -B ≤ t) ∧ 0 ≤ B ∧
  ∀ (p : Addr) (us : List Addr) (ws : List Rw) (H' : Hp), H' p = some (.lst (us.map V.ref)) → Paired (RwT H') us ws → (∀ r ∈ ws, RwP m rs.length (10 ^ 30 + B) r) → ws.length ≤ 28 → ws = lawRows rs ts rs.length → H p = none → Same H H' → Q (.ref p) H'
section
variable {P : Program} {w : World} {K : PySem.W.Frag} {mg : Str → Option Value} {base : Heap}
theorem scRo : FnScope ["net", "through", "found", "at", "start", "end", "cap", "most"] ["net", "through"] (defScope sRoom) := ⟨rfl, rfl, rfl, by decide +kernel, rfl, by decide +kernel, by decide +kernel⟩
theorem ok_room {f : Addr} {fd : FuncData} (F : Fun K "_law_room" "_law_room" sRoom f fd) (T : Nat0 mg) (hE : mg "enumerate" = none) : FnOk P w K mg base CX0 1 f fd ["net", "through"] (spRoom K) := by
  refine F.ok scRo (fun as H Q E h => ?_) (fun cdv A outer s H as Q E hr h => ?_)
  · obtain ⟨y, a, m, rs, ts, B, rfl, _⟩ := h
    rfl
  · obtain ⟨y, a, m, rs, ts, B, rfl, hN, hP, hT, hl, hB, hB0, k⟩ := h
    refine ⟨_, pss_cons (ps_set (i := 2) scRo.nd rfl (.inl rfl) (pe_lst pa_nil))
      (pss_cons (ps_for PassesOwn.never rfl (pi_enumT (by rfl) hE (pa_cons (pe_ix ix_tup (pv 0) pe_int (fun _ _ => rfl)) pa_nil)) (pg_tup rfl (pgs_cons (pg_name (i := 3) scRo.nd rfl (.inl rfl)) (pgs_cons (pg_tup rfl (pgs_cons (pg_name (i := 4) scRo.nd rfl (.inl rfl)) (pgs_cons (pg_name (i := 5) scRo.nd rfl (.inl rfl)) (pgs_cons (pg_name (i := 6) scRo.nd rfl (.inl rfl)) pgs_nil)))) pgs_nil)))
        (pss_cut (ps_set (i := 7) scRo.nd rfl (.inl rfl) (pe_ifExp (pt_cmpR op_isN (pv 6) pe_non (nomark _)) (pe_op op_pow pe_int pe_int) (pe_op op_sub (pv 6) (pe_ix ix_tup (pv 1) (pv 3) (fun _ _ => rfl)))))
        (pss_cut (ps_expr (pe_bm PySem.F.plainAttrs_list PySem.F.slot_list_extend PySem.F.type_list_extend mt_extend (pv 2) (pa_cons (pe_ifExp (pt_cmpR op_gt (pv 7) pe_int (nomark _)) (pe_lst (pa_cons (pe_tup (pa_cons (pv 4) (pa_cons (pv 5) (pa_cons (pv 7) (pa_cons (pv 3) (pa_cons pe_bl pa_nil)))))) pa_nil)) (pe_lst pa_nil)) pa_nil)))
        (pss_one (ps_expr (pe_bm PySem.F.plainAttrs_list PySem.F.slot_list_extend PySem.F.type_list_extend mt_extend (pv 2) (pa_cons (pe_ifExp (pt_cmpR op_gt (pe_ix ix_tup (pv 1) (pv 3) (fun _ _ => rfl)) pe_int (nomark _)) (pe_lst (pa_cons (pe_tup (pa_cons (pv 5) (pa_cons (pv 4) (pa_cons (pe_ix ix_tup (pv 1) (pv 3) (fun _ _ => rfl)) (pa_cons (pv 3) (pa_cons pe_bl pa_nil)))))) pa_nil)) (pe_lst pa_nil)) pa_nil)))))))
      (pss_one (ps_ret (pv 2)))), ?_⟩
    obtain ⟨t, ra, zs, rfl, h1, h2, h3⟩ := id hN
    have lz := paired_len h3
    have l14 := hP.len
    refine ⟨by show 0 ≤ sizeLine; decide, fun p hp => ?_⟩
    have M0 : Same H (upd H p (.lst [])) := same_new (Same.refl H) hp
    have e0 : upd H p (.lst []) p = some (.lst []) := upd_same
    have hp' := hp
    generalize upd H p (.lst []) = H0 at M0 e0 ⊢
    -- what is found so far
    refine ⟨_, rfl, t, _, 1, .ref ra, rfl, rfl, sqt_more M0 h1, at1, ra, zs, rfl, sqt_more M0 h2, ?_⟩
    refine for_it (walk_enumT (K := K) (a := ra) (xs := zs)) (fun i σ H' => ∃ (v3 v4 v5 v6 v7 : Option V) (us : List Addr) (ws : List Rw), σ = [some (.ref t), some (.ref a), some (.ref p), v3, v4, v5, v6, v7] ∧
      H' p = some (.lst (us.map V.ref)) ∧ Paired (RwT H') us ws ∧ (∀ r ∈ ws, RwP m rs.length (10 ^ 30 + B) r) ∧ ws.length ≤ 2 * i ∧ ws = lawRows rs ts i ∧ Same H H') ?_ ?_ ?_ ?_
    · exact ⟨none, none, none, none, none, [], [], rfl, e0, .nil, (fun _ z => nomatch z), Nat.le_refl _, rfl, M0⟩
    · rintro i σ H' _ ⟨_, _, _, _, _, _, _, _, _, _, _, _, _, M⟩
      exact sqt_more M h2
    · clear M0 e0
      rintro i x σ H' H'' hi ⟨v3, v4, v5, v6, v7, us, ws, rfl, e, pw, qw, lw, ew, M⟩ ⟨T', x', y', rfl, fT, rfl, hx, hy⟩
      cases (Option.some.inj hx)
      obtain ⟨r, hr', q', rfl, hq'⟩ := paired_at h3 hy
      obtain ⟨b1, b2, bn, bc⟩ := hP.each r (List.mem_of_getElem? hr')
      have hi' : i < rs.length := by omega
      obtain ⟨z, hz⟩ : ∃ z, ts[i]? = some z := ⟨_, List.getElem?_eq_getElem (by omega)⟩
      have hzV : (ts.map V.int)[i]? = some (.int z) := by rw [List.getElem?_map, hz]; rfl
      obtain ⟨zb1, zb2⟩ := hB z (List.mem_of_getElem? hz)
      have M2 := same_new (o := .tup [.int (i : Nat), .ref q']) M fT
      have e2 := s3u (o := .tup [.int (i : Nat), .ref q']) fT e
      have p2 := rwT_more (same_new (o := .tup [.int (i : Nat), .ref q']) (Same.refl H') fT) pw
      have et : upd H' T' (.tup [.int (i : Nat), .ref q']) T' = some (.tup [.int (i : Nat), .ref q']) := upd_same
      generalize upd H' T' (.tup [.int (i : Nat), .ref q']) = H2 at M2 e2 p2 et ⊢
      refine ⟨T', _, rfl, SqT.of et, rfl, _, _, rfl, _, _, rfl, q', _, rfl, sqt_more M2 hq', rfl, _, _, rfl, _, _, rfl, _, _, rfl, rfl, rfl, ?_⟩
      refine ⟨fun σ' H' => ∃ mo : Int, mo ≤ 10 ^ 30 + B ∧ mo = mostA r z ∧ σ' = [some (.ref t), some (.ref a), some (.ref p), some (.int (i : Nat)), some (.int r.1), some (.int r.2.1), some (capV r.2.2), some (.int mo)] ∧ H' = H2, ?_, ?_⟩
      · refine ⟨_, rfl, rfl, _, rfl, ?_⟩
        cases hc : r.2.2 with
        | none =>
          refine ite2 (fun _ => ?_) (fun h => absurd rfl h)
          refine ⟨10, 30, rfl, rfl, ⟨by decide, by decide, by decide⟩, 10 ^ 30, ?_, by unfold mostA; rw [hc], rfl, rfl⟩
          have : (0 : Int) ≤ B := hB0
          omega
        | some c =>
          refine ite2 (fun h => absurd h (by show ¬ (decide (V.int c = V.non) = true); simp)) (fun _ => ?_)
          obtain ⟨c0, c1⟩ := bc c hc
          refine ⟨_, rfl, _, rfl, _, rfl, a, _, _, _, rfl, rfl, sqt_more M2 hT, atI_nat hzV, c, z, rfl, rfl, c - z, ?_, by unfold mostA; rw [hc], rfl, rfl⟩
          omega
      rintro σ3 H3 ⟨mo, hmo, emo, rfl, rfl⟩
      have step : ∀ (H3 : Hp) (us3 : List Addr) (ws3 : List Rw) (g : Rw), H3 p = some (.lst (us3.map V.ref)) → Paired (RwT H3) us3 ws3 → (∀ r ∈ ws3, RwP m rs.length (10 ^ 30 + B) r) → Same H H3 → ws3.length ≤ 28 → RwP m rs.length (10 ^ 30 + B) g →
          ∀ t3, H3 t3 = none → ∀ q3, upd H3 t3 (.tup (rwV g)) q3 = none → (us3.map V.ref).length + [V.ref t3].length ≤ sizeLine ∧ upd (upd H3 t3 (.tup (rwV g))) q3 (.lst [.ref t3]) p = some (.lst (us3.map V.ref)) ∧
            upd (upd (upd H3 t3 (.tup (rwV g))) q3 (.lst [.ref t3])) p (.lst (us3.map V.ref ++ [.ref t3])) p = some (.lst ((us3 ++ [t3]).map V.ref)) ∧ Paired (RwT (upd (upd (upd H3 t3 (.tup (rwV g))) q3 (.lst [.ref t3])) p (.lst (us3.map V.ref ++ [.ref t3])))) (us3 ++ [t3]) (ws3 ++ [g]) ∧
            (∀ r ∈ ws3 ++ [g], RwP m rs.length (10 ^ 30 + B) r) ∧ Same H (upd (upd (upd H3 t3 (.tup (rwV g))) q3 (.lst [.ref t3])) p (.lst (us3.map V.ref ++ [.ref t3]))) := by
        intro H3 us3 ws3 g e3 p3 q3' M3 l3 hg t3 ht3 q3 hq3
        have lu := paired_len p3
        have N1 := same_new (o := .tup (rwV g)) (Same.refl H3) ht3
        have N2 := same_new (o := .lst [.ref t3]) N1 hq3
        refine ⟨by rw [List.length_map, sizeLine_eq]; show _ + 1 ≤ _; omega, N2 _ _ e3, by rw [upd_same, List.map_append]; rfl, ?_, fun r hr => ?_, same_put (M3.trans N2) hp'⟩
        · refine rwT_put (N2 _ _ e3) (fun xs z => nomatch z) (paired_snoc ?_ (rwT_more N2 p3))
          exact s3u hq3 upd_same
        · rcases List.mem_append.mp hr with z | z
          · exact q3' r z
          · rw [List.mem_singleton.mp z]; exact hg
      have none_ : ∀ (H3 : Hp) (us3 : List Addr) (ws3 : List Rw), H3 p = some (.lst (us3.map V.ref)) → Paired (RwT H3) us3 ws3 → Same H H3 → ws3.length ≤ 28 →
          ∀ q3, H3 q3 = none → (us3.map V.ref).length + ([] : List V).length ≤ sizeLine ∧ upd H3 q3 (.lst []) p = some (.lst (us3.map V.ref)) ∧
            upd (upd H3 q3 (.lst [])) p (.lst (us3.map V.ref ++ [])) p = some (.lst (us3.map V.ref)) ∧ Paired (RwT (upd (upd H3 q3 (.lst [])) p (.lst (us3.map V.ref ++ [])))) us3 ws3 ∧ Same H (upd (upd H3 q3 (.lst [])) p (.lst (us3.map V.ref ++ []))) := by
        intro H3 us3 ws3 e3 p3 M3 l3 q3 hq3
        have lu := paired_len p3
        have N2 := same_new (o := .lst []) (Same.refl H3) hq3
        exact ⟨by rw [List.length_map, sizeLine_eq]; show _ + 0 ≤ _; omega, N2 _ _ e3, by rw [upd_same, List.append_nil], rwT_put (N2 _ _ e3) (fun xs z => nomatch z) (rwT_more N2 p3), same_put (M3.trans N2) hp'⟩
      refine ⟨fun σ' H' => ∃ (us : List Addr) (ws : List Rw), σ' = [some (.ref t), some (.ref a), some (.ref p), some (.int (i : Nat)), some (.int r.1), some (.int r.2.1), some (capV r.2.2), some (.int mo)] ∧
        H' p = some (.lst (us.map V.ref)) ∧ Paired (RwT H') us ws ∧ (∀ r ∈ ws, RwP m rs.length (10 ^ 30 + B) r) ∧ ws.length ≤ 2 * i + 1 ∧ ws = lawRows rs ts i ++ (if 0 < mostA r z then [(r.1, r.2.1, mostA r z, i, true)] else []) ∧ Same H H', ?_, ?_⟩
      · refine ⟨_, rfl, .inl ⟨rfl, _, SqL.of e2⟩, _, rfl, _, _, rfl, rfl, _, rfl, ?_⟩
        refine ite2 (fun h => ?_) (fun h => ?_)
        · have hm0 : 0 < mo := of_decide_eq_true h
          refine ⟨_, rfl, _, rfl, _, rfl, _, rfl, by show 5 ≤ sizeLine; decide, fun t3 ht3 => ⟨by show 1 ≤ sizeLine; decide, fun q3 hq3 => ?_⟩⟩
          obtain ⟨g1, g2, g3, g4, g5, g6⟩ := step H3 us ws (r.1, r.2.1, mo, i, true) e2 p2 qw M2 (by omega) ⟨b1, b2, hm0, hmo, hi'⟩ t3 ht3 q3 hq3
          exact ⟨p, q3, _, _, rfl, rfl, g2, upd_same, g1, _, _, rfl, g3, g4, g5, by rw [List.length_append]; show _ + 1 ≤ _; omega, by rw [ew, ← emo, if_pos hm0], g6⟩
        · refine ⟨by show 0 ≤ sizeLine; decide, fun q3 hq3 => ?_⟩
          obtain ⟨g1, g2, g3, g4, g6⟩ := none_ H3 us ws e2 p2 M2 (by omega) q3 hq3
          exact ⟨p, q3, _, _, rfl, rfl, g2, upd_same, g1, _, _, rfl, g3, g4, qw, by omega, by rw [ew, ← emo, if_neg (fun y => h (decide_eq_true y)), List.append_nil], g6⟩
      clear e2 p2 qw lw M2 et e pw M fT ew us ws
      rintro σ4 H4 ⟨us, ws, rfl, e2, p2, qw, lw, ew, M2⟩
      have nx := lawRows_next hr' hz
      refine ⟨_, rfl, .inl ⟨rfl, _, SqL.of e2⟩, _, rfl, _, rfl, a, _, _, _, rfl, rfl, sqt_more M2 hT, atI_nat hzV, _, _, rfl, rfl, _, rfl, ?_⟩
      refine ite2 (fun h => ?_) (fun h => ?_)
      · have hm0 : 0 < z := of_decide_eq_true h
        refine ⟨_, rfl, _, rfl, _, rfl, _, rfl, a, _, _, _, rfl, rfl, sqt_more M2 hT, atI_nat hzV, _, rfl, by show 5 ≤ sizeLine; decide, fun t3 ht3 => ⟨by show 1 ≤ sizeLine; decide, fun q3 hq3 => ?_⟩⟩
        obtain ⟨g1, g2, g3, g4, g5, g6⟩ := step H4 us ws (r.2.1, r.1, z, i, false) e2 p2 qw M2 (by omega) ⟨b2, b1, hm0, by show z ≤ _; omega, hi'⟩ t3 ht3 q3 hq3
        exact ⟨p, q3, _, _, rfl, rfl, g2, upd_same, g1, _, _, _, _, _, _, _, rfl, g3, g4, g5, by rw [List.length_append]; show _ + 1 ≤ _; omega, by rw [nx, ew, if_pos hm0], g6⟩
      · refine ⟨by show 0 ≤ sizeLine; decide, fun q3 hq3 => ?_⟩
        obtain ⟨g1, g2, g3, g4, g6⟩ := none_ H4 us ws e2 p2 M2 (by omega) q3 hq3
        exact ⟨p, q3, _, _, rfl, rfl, g2, upd_same, g1, _, _, _, _, _, _, _, rfl, g3, g4, qw, by omega, by rw [nx, ew, if_neg (fun y => h (decide_eq_true y)), List.append_nil], g6⟩
    · rintro σ H' ⟨v3, v4, v5, v6, v7, us, ws, rfl, e, pw, qw, lw, ew, M⟩
      exact ⟨_, rfl, k p us ws H' e pw qw (by omega) (by rw [ew, lz]) hp M⟩
end
end Y

/-! EK1: shortest ways first: how many turns at most. Edges are numbers below m; r tells which have room. -/
namespace EK
open Classical
section
variable (src dst : Nat → Nat)
/-- a way along edges with room -/
def Chain (r : Nat → Prop) : Nat → List Nat → Nat → Prop
  | u, [], v => u = v
  | u, e :: p, v => r e ∧ src e = u ∧ Chain r (dst e) p v
/-- one turn: along a shortest way from s to t, of less than n edges; one of its edges has no room then; only edges turned about get room -/
structure Step (m n s t : Nat) (r r' : Nat → Prop) : Prop where
  ex : ∃ p : List Nat, Chain src dst r s p t ∧ (∀ q, Chain src dst r s q t → p.length ≤ q.length) ∧ p.length < n ∧ (∃ e ∈ p, ¬ r' e) ∧ ∀ e, r' e → r e ∨ ∃ f ∈ p, src e = dst f ∧ dst e = src f
  low : ∀ e, r e → e < m
inductive Runs (m n s t : Nat) : Nat → (Nat → Prop) → (Nat → Prop) → Prop
  | nil (r) : Runs m n s t 0 r r
  | cons {k r r1 r2} : Step src dst m n s t r r1 → Runs m n s t k r1 r2 → Runs m n s t (k + 1) r r2
/-- heights: no edge with room climbs by more than one -/
structure Pot (r : Nat → Prop) (S : Nat → Prop) (p : Nat → Nat) : Prop where
  up : ∀ e, r e → S (src e) → S (dst e) ∧ p (dst e) ≤ p (src e) + 1
end
variable {src dst : Nat → Nat} {m n s t : Nat}
theorem chain_snoc {r : Nat → Prop} {e : Nat} (h : r e) : ∀ {p : List Nat} {u : Nat}, Chain src dst r u p (src e) → Chain src dst r u (p ++ [e]) (dst e)
  | [], u, c => ⟨h, c.symm, rfl⟩
  | f :: p, u, c => ⟨c.1, c.2.1, chain_snoc h c.2.2⟩
theorem Pot.along {r S : Nat → Prop} {p : Nat → Nat} (P : Pot src dst r S p) : ∀ {q : List Nat} {u v : Nat}, S u → Chain src dst r u q v → S v ∧ p v ≤ p u + q.length
  | [], u, v, hu, c => by cases (show u = v from c); exact ⟨hu, Nat.le_add_right _ _⟩
  | e :: q, u, v, hu, c => by
    obtain ⟨h1, h2, h3⟩ := c
    subst h2
    obtain ⟨a, b⟩ := P.up e h1 hu
    obtain ⟨x, y⟩ := P.along a h3
    exact ⟨x, by rw [List.length_cons]; omega⟩
/-- a way that climbs as high as it is long climbs at each edge -/
theorem Pot.tight {r S : Nat → Prop} {p : Nat → Nat} (P : Pot src dst r S p) : ∀ {q : List Nat} {u v : Nat}, S u → Chain src dst r u q v → p v = p u + q.length → ∀ e ∈ q, r e ∧ S (src e) ∧ p (dst e) = p (src e) + 1
  | [], _, _, _, _, _, e, he => nomatch he
  | f :: q, u, v, hu, c, h, e, he => by
    obtain ⟨h1, h2, h3⟩ := c
    subst h2
    obtain ⟨a, b⟩ := P.up f h1 hu
    obtain ⟨x, y⟩ := P.along a h3
    rw [List.length_cons] at h
    rcases List.mem_cons.mp he with z | z
    · subst z
      exact ⟨h1, hu, by omega⟩
    · exact P.tight a h3 (by omega) e z
/-- the edges that climb -/
noncomputable def tightM (src dst : Nat → Nat) (m : Nat) (r S : Nat → Prop) (p : Nat → Nat) : Nat := ((List.range m).filter fun e => decide (r e ∧ S (src e) ∧ p (dst e) = p (src e) + 1)).length
theorem filter_le {q q' : Nat → Bool} : ∀ {l : List Nat}, (∀ e ∈ l, q' e = true → q e = true) → (l.filter q').length ≤ (l.filter q).length
  | [], _ => Nat.le_refl _
  | e :: l, h => by
    have ih := filter_le (q := q) (q' := q') (l := l) fun x hx => h x (List.mem_cons_of_mem _ hx)
    have he := h e List.mem_cons_self
    rw [List.filter_cons, List.filter_cons]
    cases a : q' e with
    | true => rw [he a]; simpa using ih
    | false =>
      cases q e with
      | true => simp; omega
      | false => simpa using ih
theorem filter_lt {q q' : Nat → Bool} {x : Nat} : ∀ {l : List Nat}, (∀ e ∈ l, q' e = true → q e = true) → x ∈ l → q x = true → q' x = false → (l.filter q').length < (l.filter q).length
  | e :: l, h, hx, h1, h2 => by
    have hl := fun y hy => h y (List.mem_cons_of_mem e hy)
    have he := h e List.mem_cons_self
    rw [List.filter_cons, List.filter_cons]
    rcases List.mem_cons.mp hx with z | z
    · subst z
      rw [h1, h2]
      have := filter_le (q := q) (q' := q') hl
      simp
      omega
    · have ih := filter_lt hl z h1 h2
      cases a : q' e with
      | true => rw [he a]; simpa using ih
      | false =>
        cases q e with
        | true => simp; omega
        | false => simpa using ih
/-- as long as ways are as long as t is high, edges that climb are lost -/
theorem phase {S : Nat → Prop} {p : Nat → Nat} {D B : Nat} (hs : S s) (ps : p s = 0) (pt : p t = D) (hB : ∀ {k : Nat} {r rN : Nat → Prop}, (∀ q, Chain src dst r s q t → D + 1 ≤ q.length) → Runs src dst m n s t k r rN → k ≤ B) :
    ∀ {k : Nat} {r rN : Nat → Prop}, Pot src dst r S p → Runs src dst m n s t k r rN → k ≤ tightM src dst m r S p + B := by
  intro k
  induction k with
  | zero => intro r rN _ _; exact Nat.zero_le _
  | succ k ih =>
    intro r rN P R
    have R0 := R
    cases R with
    | cons st R1 =>
      rename_i r1
      obtain ⟨⟨q, c, mn, _, ⟨e, he, ne⟩, nw⟩, low⟩ := st
      obtain ⟨_, y⟩ := P.along hs c
      by_cases hD : q.length = D
      · have T := P.tight hs c (by omega)
        have P1 : Pot src dst r1 S p := ⟨fun x hx hS => by
          rcases nw x hx with z | ⟨f, hf, e1, e2⟩
          · exact P.up x z hS
          · obtain ⟨t1, t2, t3⟩ := T f hf
            rw [e2]
            exact ⟨t2, by rw [e1]; omega⟩⟩
        have lt : tightM src dst m r1 S p < tightM src dst m r S p := by
          obtain ⟨t1, t2, t3⟩ := T e he
          refine filter_lt (x := e) (fun x hx h => ?_) (List.mem_range.mpr (low e t1)) (decide_eq_true ⟨t1, t2, t3⟩) (decide_eq_false fun z => ne z.1)
          obtain ⟨h1, h2, h3⟩ := of_decide_eq_true h
          refine decide_eq_true ⟨?_, h2, h3⟩
          rcases nw x h1 with z | ⟨f, hf, e1, e2⟩
          · exact z
          · obtain ⟨t1, t2, t3⟩ := T f hf
            rw [e1, e2] at h3
            omega
        have := ih P1 R1
        omega
      · have := hB (r := r) (fun q' c' => by
          have := mn q' c'
          omega) R0
        omega
theorem exists_min {P : Nat → Prop} : ∀ {k : Nat}, P k → ∃ j, P j ∧ ∀ i, P i → j ≤ i := by
  intro k
  induction k using Nat.strongRecOn with
  | _ k ih =>
    intro h
    by_cases z : ∃ i, P i ∧ i < k
    · obtain ⟨i, h1, h2⟩ := z
      exact ih i h2 h1
    · exact ⟨k, h, fun i hi => Nat.le_of_not_lt fun y => z ⟨i, hi, y⟩⟩
/-- the heights of a state: how long the shortest ways are -/
theorem heights (src dst : Nat → Nat) (s : Nat) (r : Nat → Prop) : ∃ (S : Nat → Prop) (p : Nat → Nat), S s ∧ p s = 0 ∧ Pot src dst r S p ∧ (∀ v q, Chain src dst r s q v → S v ∧ p v ≤ q.length) ∧ ∀ v, S v → ∃ q, Chain src dst r s q v ∧ q.length = p v := by
  have mn : ∀ v, ∃ j, (∃ q, Chain src dst r s q v) → (∃ q, Chain src dst r s q v ∧ q.length = j) ∧ ∀ q, Chain src dst r s q v → j ≤ q.length := fun v => by
    by_cases h : ∃ q, Chain src dst r s q v
    · obtain ⟨q, c⟩ := h
      obtain ⟨j, ⟨q', c', e⟩, h2⟩ := exists_min (P := fun k => ∃ q, Chain src dst r s q v ∧ q.length = k) ⟨q, c, rfl⟩
      exact ⟨j, fun _ => ⟨⟨q', c', e⟩, fun q2 c2 => h2 _ ⟨q2, c2, rfl⟩⟩⟩
    · exact ⟨0, fun z => (h z).elim⟩
  refine ⟨fun v => ∃ q, Chain src dst r s q v, fun v => choose (mn v), ⟨[], rfl⟩, ?_, ⟨fun e he hS => ?_⟩, fun v q c => ⟨⟨q, c⟩, (choose_spec (mn v) ⟨q, c⟩).2 q c⟩, fun v hv => (choose_spec (mn v) hv).1⟩
  · have := (choose_spec (mn s) ⟨[], rfl⟩).2 [] rfl
    simpa using this
  · obtain ⟨⟨q, c, e1⟩, _⟩ := choose_spec (mn (src e)) hS
    have c2 := chain_snoc he c
    refine ⟨⟨_, c2⟩, ?_⟩
    have := (choose_spec (mn (dst e)) ⟨_, c2⟩).2 _ c2
    rw [List.length_append, e1] at this
    exact this
theorem tight_le (r S : Nat → Prop) (p : Nat → Nat) : tightM src dst m r S p ≤ m := by
  have := List.length_filter_le (fun e => decide (r e ∧ S (src e) ∧ p (dst e) = p (src e) + 1)) (List.range m)
  rw [List.length_range] at this
  exact this
theorem runs_le : ∀ (j : Nat) {k : Nat} {r rN : Nat → Prop}, j ≤ n → (∀ q, Chain src dst r s q t → n - j ≤ q.length) → Runs src dst m n s t k r rN → k ≤ j * m
  | 0, k, r, rN, _, h, R => by
    cases R with
    | nil => exact Nat.zero_le _
    | cons st R1 =>
      obtain ⟨⟨q, c, _, lt, _⟩, _⟩ := st
      have := h q c
      omega
  | j + 1, k, r, rN, hj, h, R => by
    have R0 := R
    cases R with
    | nil => exact Nat.zero_le _
    | cons st R1 =>
      rename_i k1 r1
      obtain ⟨⟨q, c, mn, lt, _⟩, _⟩ := st
      have hq := h q c
      rw [Nat.succ_mul]
      by_cases far : n - j ≤ q.length
      · have := runs_le j (by omega) (fun q' c' => Nat.le_trans far (mn q' c')) R0
        omega
      · obtain ⟨S, p, hs, ps, P, near, at'⟩ := heights src dst s r
        obtain ⟨St, _⟩ := near t q c
        obtain ⟨q2, c2, e2⟩ := at' t St
        have l1 := mn q2 c2
        have l2 := (near t q c).2
        have := phase (m := m) (n := n) (D := p t) (B := j * m) hs ps rfl (fun {k r rN} hk R => runs_le j (by omega) (fun q' c' => by
          have := hk q' c'
          omega) R) P R0
        have := tight_le (m := m) (src := src) (dst := dst) r S p
        omega
/-- at most n times m turns -/
theorem runs_all {k : Nat} {r rN : Nat → Prop} (R : Runs src dst m n s t k r rN) : k ≤ n * m := runs_le n (Nat.le_refl _) (fun q _ => by omega) R
end EK

/-! EK6: a search by widths over rows of sides: what it comes to, and how near. -/
namespace EK
section
variable {ρ : Type} (f g : ρ → Nat)
abbrev Ent (ρ : Type) := Nat × Nat × Option ρ
def ids (st : List (Ent ρ)) : List Nat := st.map (·.1)
def add (u l : Nat) (st : List (Ent ρ)) (r : ρ) : List (Ent ρ) := if f r = u ∧ g r ∉ ids st then st ++ [(g r, l + 1, some r)] else st
def scan (rows : List ρ) (st : List (Ent ρ)) (i : Nat) : List (Ent ρ) := match st[i]? with
  | none => st
  | some e => rows.foldl (add f g e.1 e.2.1) st
def bfs (rows : List ρ) (s : Nat) (n : Nat) : List (Ent ρ) := (List.range n).foldl (scan f g rows) [(s, 0, none)]
structure Bf (rows : List ρ) (s i : Nat) (st : List (Ent ρ)) : Prop where
  nd : (ids st).Nodup
  first : (s, 0, none) ∈ st
  mono : ∀ (j k : Nat) (a b : Ent ρ), j ≤ k → st[j]? = some a → st[k]? = some b → a.2.1 ≤ b.2.1
  near : ∀ a, st[i]? = some a → ∀ b ∈ st, b.2.1 ≤ a.2.1 + 1
  done : ∀ j, j < i → ∀ a, st[j]? = some a → ∀ r ∈ rows, f r = a.1 → ∃ b ∈ st, b.1 = g r ∧ b.2.1 ≤ a.2.1 + 1
  src : ∀ b ∈ st, (b.2.2 = none → b.1 = s ∧ b.2.1 = 0) ∧ ∀ r, b.2.2 = some r → r ∈ rows ∧ g r = b.1 ∧ ∃ a ∈ st, a.1 = f r ∧ b.2.1 = a.2.1 + 1
end
variable {ρ : Type} {f g : ρ → Nat} {rows : List ρ} {s : Nat}
/-- amid the rows of the i-th entry -/
theorem Bf.row {i : Nat} {st : List (Ent ρ)} {e : Ent ρ} (B : Bf f g rows s i st) (he : st[i]? = some e) {r : ρ} (hr : r ∈ rows) : Bf f g rows s i (add f g e.1 e.2.1 st r) ∧ (add f g e.1 e.2.1 st r)[i]? = some e ∧ (f r = e.1 → ∃ b ∈ add f g e.1 e.2.1 st r, b.1 = g r ∧ b.2.1 ≤ e.2.1 + 1) ∧ ∀ b ∈ st, b ∈ add f g e.1 e.2.1 st r := by
  unfold add
  by_cases h : f r = e.1 ∧ g r ∉ ids st
  · rw [if_pos h]
    have old : ∀ {j : Nat} {a : Ent ρ}, (st ++ [(g r, e.2.1 + 1, some r)])[j]? = some a → st[j]? = some a ∨ a = (g r, e.2.1 + 1, some r) := fun {j a} hj => by
      by_cases lt : j < st.length
      · rw [List.getElem?_append_left lt] at hj
        exact .inl hj
      · rw [List.getElem?_append_right (by omega)] at hj
        refine .inr ?_
        have := List.mem_of_getElem? hj
        exact List.mem_singleton.mp this
    have keep : ∀ {j : Nat} {a : Ent ρ}, st[j]? = some a → (st ++ [(g r, e.2.1 + 1, some r)])[j]? = some a := fun {j a} hj => by
      rw [List.getElem?_append_left (List.getElem?_eq_some_iff.mp hj).1]
      exact hj
    have nearE := B.near e he
    refine ⟨⟨?_, List.mem_append_left _ B.first, fun j k a b jk ha hb => ?_, fun a ha b hb => ?_, fun j hj a ha x hx ex => ?_, fun b hb => ?_⟩, keep he, fun _ => ⟨_, List.mem_append_right _ (List.mem_singleton.mpr rfl), rfl, Nat.le_refl _⟩, fun b hb => List.mem_append_left _ hb⟩
    · unfold ids
      rw [List.map_append, List.nodup_append]
      refine ⟨B.nd, List.nodup_cons.mpr ⟨(fun z => nomatch z), List.nodup_nil⟩, fun a ha b hb z => h.2 ?_⟩
      rw [List.mem_singleton.mp hb] at z
      have z : a = g r := z
      rw [← z]
      exact ha
    · rcases old ha with ha' | rfl
      · rcases old hb with hb' | rfl
        · exact B.mono j k a b jk ha' hb'
        · exact nearE a (List.mem_of_getElem? ha')
      · rcases old hb with hb' | rfl
        · exfalso
          have h1 := (List.getElem?_eq_some_iff.mp hb').1
          have h2 : j < st.length := by omega
          rw [List.getElem?_append_left h2] at ha
          exact h.2 (List.mem_map.mpr ⟨_, List.mem_of_getElem? ha, rfl⟩)
        · exact Nat.le_refl _
    · have : a = e := by
        have := keep he
        rw [ha] at this
        exact Option.some.inj this
      subst this
      rcases List.mem_append.mp hb with z | z
      · exact nearE b z
      · rw [List.mem_singleton.mp z]
        exact Nat.le_refl _
    · have ha' : st[j]? = some a := by
        rcases old ha with z | z
        · exact z
        · have h1 := (List.getElem?_eq_some_iff.mp he).1
          rw [List.getElem?_append_left (by omega)] at ha
          exact ha
      obtain ⟨b, hb, h1, h2⟩ := B.done j hj a ha' x hx ex
      exact ⟨b, List.mem_append_left _ hb, h1, h2⟩
    · rcases List.mem_append.mp hb with z | z
      · obtain ⟨h1, h2⟩ := B.src b z
        refine ⟨h1, fun x hx => ?_⟩
        obtain ⟨k1, k2, a, ka, k3, k4⟩ := h2 x hx
        exact ⟨k1, k2, a, List.mem_append_left _ ka, k3, k4⟩
      · rw [List.mem_singleton.mp z]
        refine ⟨(fun z => nomatch z), fun x hx => ?_⟩
        cases (Option.some.inj hx : r = x)
        exact ⟨hr, rfl, e, List.mem_append_left _ (List.mem_of_getElem? he), h.1.symm, rfl⟩
  · rw [if_neg h]
    refine ⟨B, he, fun ef => ?_, fun b hb => hb⟩
    have : g r ∈ ids st := Decidable.byContradiction fun z => h ⟨ef, z⟩
    obtain ⟨b, hb, eb⟩ := List.mem_map.mp this
    exact ⟨b, hb, eb, B.near e he b hb⟩
theorem Bf.all {i : Nat} {e : Ent ρ} : ∀ {l : List ρ} {st : List (Ent ρ)}, (∀ r ∈ l, r ∈ rows) → Bf f g rows s i st → st[i]? = some e →
    Bf f g rows s i (l.foldl (add f g e.1 e.2.1) st) ∧ (l.foldl (add f g e.1 e.2.1) st)[i]? = some e ∧ (∀ r ∈ l, f r = e.1 → ∃ b ∈ l.foldl (add f g e.1 e.2.1) st, b.1 = g r ∧ b.2.1 ≤ e.2.1 + 1) ∧ ∀ b ∈ st, b ∈ l.foldl (add f g e.1 e.2.1) st
  | [], st, _, B, he => ⟨B, he, (fun _ z => nomatch z), fun b hb => hb⟩
  | r :: l, st, hl, B, he => by
    obtain ⟨b1, b2, b3, b4⟩ := B.row he (hl r List.mem_cons_self)
    obtain ⟨c1, c2, c3, c4⟩ := Bf.all (l := l) (fun x hx => hl x (List.mem_cons_of_mem _ hx)) b1 b2
    refine ⟨c1, c2, fun x hx ex => ?_, fun b hb => c4 b (b4 b hb)⟩
    rcases List.mem_cons.mp hx with z | z
    · subst z
      obtain ⟨b, hb, h1, h2⟩ := b3 ex
      exact ⟨b, c4 b hb, h1, h2⟩
    · exact c3 x z ex
theorem Bf.scan {i : Nat} {st : List (Ent ρ)} (B : Bf f g rows s i st) : Bf f g rows s (i + 1) (scan f g rows st i) := by
  unfold EK.scan
  cases he : st[i]? with
  | none =>
    show Bf f g rows s (i + 1) st
    refine ⟨B.nd, B.first, B.mono, fun a ha b hb => ?_, fun j hj a ha r hr er => ?_, B.src⟩
    · have := (List.getElem?_eq_some_iff.mp ha).1
      have := List.getElem?_eq_none_iff.mp he
      omega
    · have := (List.getElem?_eq_some_iff.mp ha).1
      have := List.getElem?_eq_none_iff.mp he
      exact B.done j (by omega) a ha r hr er
  | some e =>
    show Bf f g rows s (i + 1) (rows.foldl (add f g e.1 e.2.1) st)
    obtain ⟨b1, b2, b3, b4⟩ := Bf.all (l := rows) (fun _ h => h) B he
    refine ⟨b1.nd, b1.first, b1.mono, fun a ha b hb => ?_, fun j hj a ha r hr er => ?_, b1.src⟩
    · have h1 := b1.mono i (i + 1) e a (by omega) b2 ha
      have h2 := b1.near e b2 b hb
      omega
    · by_cases z : j = i
      · subst z
        have : a = e := by
          have h := b2
          rw [ha] at h
          exact Option.some.inj h
        subst this
        exact b3 r hr er
      · exact b1.done j (by omega) a ha r hr er
theorem bf_zero : Bf f g rows s 0 [(s, 0, none)] := by
  refine ⟨List.nodup_cons.mpr ⟨(fun z => nomatch z), List.nodup_nil⟩, List.mem_singleton.mpr rfl, fun j k a b jk ha hb => ?_, fun a ha b hb => ?_, fun j hj => by omega, fun b hb => ?_⟩
  · have h1 := List.mem_singleton.mp (List.mem_of_getElem? ha)
    rw [h1]
    exact Nat.zero_le _
  · rw [List.mem_singleton.mp hb]
    exact Nat.zero_le _
  · rw [List.mem_singleton.mp hb]
    exact ⟨fun _ => ⟨rfl, rfl⟩, fun r hr => nomatch hr⟩
theorem bf_at : ∀ n, Bf f g rows s n (bfs f g rows s n)
  | 0 => bf_zero
  | n + 1 => by
    unfold bfs
    rw [List.range_succ, List.foldl_append]
    exact (bf_at n).scan
end EK

/-! EK7: behind a search by widths: its levels are heights, and each is the length of a way. -/
namespace EK
variable {ρ : Type} {f g : ρ → Nat} {rows : List ρ} {s n : Nat} {st : List (Ent ρ)}
/-- the level of a number -/
def lv (st : List (Ent ρ)) (v : Nat) : Nat := match st with
  | [] => 0
  | e :: st => if e.1 = v then e.2.1 else lv st v
theorem lv_of : ∀ {st : List (Ent ρ)} {b : Ent ρ}, (ids st).Nodup → b ∈ st → lv st b.1 = b.2.1
  | e :: st, b, nd, hb => by
    unfold ids at nd
    rw [List.map_cons, List.nodup_cons] at nd
    unfold lv
    rcases List.mem_cons.mp hb with z | z
    · rw [if_pos (by rw [z]), z]
    · rw [if_neg (fun e' => nd.1 (by rw [e']; exact List.mem_map.mpr ⟨b, z, rfl⟩)), lv_of nd.2 z]
/-- all that was come to was looked at -/
structure Whole (f g : ρ → Nat) (rows : List ρ) (s : Nat) (st : List (Ent ρ)) : Prop where
  nd : (ids st).Nodup
  first : (s, 0, none) ∈ st
  done : ∀ a ∈ st, ∀ r ∈ rows, f r = a.1 → ∃ b ∈ st, b.1 = g r ∧ b.2.1 ≤ a.2.1 + 1
  src : ∀ b ∈ st, (b.2.2 = none → b.1 = s ∧ b.2.1 = 0) ∧ ∀ r, b.2.2 = some r → r ∈ rows ∧ g r = b.1 ∧ ∃ a ∈ st, a.1 = f r ∧ b.2.1 = a.2.1 + 1
theorem sub_len' : ∀ {l m : List Nat}, l.Nodup → (∀ x ∈ l, x ∈ m) → l.length ≤ m.length
  | [], _, _, _ => Nat.zero_le _
  | x :: l, m, nd, h => by
    rw [List.nodup_cons] at nd
    have hx := h x List.mem_cons_self
    have := sub_len' (l := l) (m := m.erase x) nd.2 fun y hy => (List.mem_erase_of_ne fun e => nd.1 (by rw [← e]; exact hy)).mpr (h y (List.mem_cons_of_mem _ hy))
    rw [List.length_erase_of_mem hx] at this
    have := List.length_pos_of_mem hx
    rw [List.length_cons]
    omega
theorem sub_le {l : List Nat} (nd : l.Nodup) {n : Nat} (h : ∀ x ∈ l, x < n) : l.length ≤ n := by
  have := sub_len' nd (m := List.range n) fun x hx => List.mem_range.mpr (h x hx)
  rwa [List.length_range] at this
theorem Bf.whole (B : Bf f g rows s n st) (low : ∀ b ∈ st, b.1 < n) : Whole f g rows s st := by
  refine ⟨B.nd, B.first, fun a ha r hr er => ?_, B.src⟩
  obtain ⟨j, hj, ej⟩ := List.getElem_of_mem ha
  have hl : st.length ≤ n := by
    have := sub_le B.nd (n := n) fun x hx => by
      obtain ⟨b, hb, rfl⟩ := List.mem_map.mp hx
      exact low b hb
    unfold ids at this
    rwa [List.length_map] at this
  exact B.done j (by omega) a (by rw [List.getElem?_eq_getElem hj, ej]) r hr er
section
variable {sd : ρ → Nat} {sE dE : Nat → Nat}
theorem Whole.pot (W : Whole f g rows s st) (h1 : ∀ r ∈ rows, sE (sd r) = f r) (h2 : ∀ r ∈ rows, dE (sd r) = g r) : Pot sE dE (fun e => ∃ r ∈ rows, sd r = e) (fun v => v ∈ ids st) (lv st) := by
  refine ⟨fun e he hS => ?_⟩
  obtain ⟨r, hr, rfl⟩ := he
  rw [h1 r hr] at hS ⊢
  rw [h2 r hr]
  obtain ⟨a, ha, ea⟩ := List.mem_map.mp hS
  obtain ⟨b, hb, eb, lb⟩ := W.done a ha r hr ea.symm
  refine ⟨eb ▸ List.mem_map.mpr ⟨b, hb, rfl⟩, ?_⟩
  have ea : a.1 = f r := ea
  rw [← eb, ← ea, lv_of W.nd hb, lv_of W.nd ha]
  exact lb
theorem Whole.way (W : Whole f g rows s st) (h1 : ∀ r ∈ rows, sE (sd r) = f r) (h2 : ∀ r ∈ rows, dE (sd r) = g r) : ∀ (k : Nat) (b : Ent ρ), b ∈ st → b.2.1 = k → ∃ q, Chain sE dE (fun e => ∃ r ∈ rows, sd r = e) s q b.1 ∧ q.length = k
  | 0, b, hb, e => by
    obtain ⟨n1, n2⟩ := W.src b hb
    cases hr : b.2.2 with
    | none => exact ⟨[], ((n1 hr).1).symm, rfl⟩
    | some r =>
      obtain ⟨_, _, a, _, _, e2⟩ := n2 r hr
      omega
  | k + 1, b, hb, e => by
    obtain ⟨n1, n2⟩ := W.src b hb
    cases hr : b.2.2 with
    | none =>
      have := (n1 hr).2
      omega
    | some r =>
      obtain ⟨r1, r2, a, ha, ea, e2⟩ := n2 r hr
      obtain ⟨q, c, lq⟩ := W.way h1 h2 k a ha (by omega)
      have c' : Chain sE dE (fun e => ∃ r ∈ rows, sd r = e) s q (sE (sd r)) := by rw [h1 r r1, ← ea]; exact c
      have := chain_snoc (src := sE) (dst := dE) (r := fun e => ∃ r ∈ rows, sd r = e) ⟨r, r1, rfl⟩ c'
      rw [h2 r r1, r2] at this
      exact ⟨_, this, by rw [List.length_append, lq]; rfl⟩
/-- so a way as long as the level is a shortest one -/
theorem Whole.least (W : Whole f g rows s st) (h1 : ∀ r ∈ rows, sE (sd r) = f r) (h2 : ∀ r ∈ rows, dE (sd r) = g r) {v : Nat} {q : List Nat} (c : Chain sE dE (fun e => ∃ r ∈ rows, sd r = e) s q v) : v ∈ ids st ∧ lv st v ≤ q.length := by
  have hs : s ∈ ids st := List.mem_map.mpr ⟨_, W.first, rfl⟩
  obtain ⟨a, b⟩ := (W.pot h1 h2).along hs c
  have : lv st s = 0 := lv_of W.nd W.first
  exact ⟨a, by omega⟩
end
end EK

/-! OL: _law_way. -/
namespace Y
open PySem PySem.Spec PyProof.Rows L2 Ns
open C8 (pss_cut)
/-- where one came from -/
abbrev CmE := Nat × Option (Addr × Rw)
def cmV : Option (Addr × Rw) → V | none => .non | some p => .ref p.1
def cam (cs : List CmE) : List (Key × V) := cs.map fun c => ((Sum.inl (c.1 : Int) : Key), cmV c.2)
def cks (cs : List CmE) : List Nat := cs.map (·.1)
theorem cam_none {cs : List CmE} {k : Nat} (h : k ∉ cks cs) : valV (cam cs) (Sum.inl (k : Int)) = none := by
  induction cs with
  | nil => rfl
  | cons c cs ih =>
    unfold cks at h
    rw [List.map_cons, List.mem_cons, not_or] at h
    show valV ((Sum.inl (c.1 : Int), cmV c.2) :: cam cs) _ = none
    rw [valV_neg (fun z => h.1 (by injection z with z; omega))]
    exact ih h.2
theorem cam_get {cs : List CmE} (n : (cks cs).Nodup) {c : CmE} (h : c ∈ cs) : valV (cam cs) (Sum.inl (c.1 : Int)) = some (cmV c.2) := by
  induction cs with
  | nil => cases h
  | cons e cs ih =>
    unfold cks at n
    rw [List.map_cons, List.nodup_cons] at n
    show valV ((Sum.inl (e.1 : Int), cmV e.2) :: cam cs) _ = _
    rcases List.mem_cons.mp h with z | z
    · rw [z]; exact valV_pos rfl
    · rw [valV_neg (fun y => n.1 (List.mem_map.mpr ⟨c, z, by injection y with y; omega⟩))]
      exact ih n.2 z
theorem cam_has {cs : List CmE} (n : (cks cs).Nodup) (k : Nat) : (valV (cam cs) (Sum.inl (k : Int))).isSome = decide (k ∈ cks cs) := by
  by_cases h : k ∈ cks cs
  · obtain ⟨c, hc, rfl⟩ := List.mem_map.mp h
    rw [cam_get n hc, decide_eq_true h]
    rfl
  · rw [cam_none h, decide_eq_false h]
    rfl
theorem cam_put {cs : List CmE} {k : Nat} {v : Option (Addr × Rw)} (h : k ∉ cks cs) : putK (cam cs) (Sum.inl (k : Int)) (cmV v) = cam (cs ++ [(k, v)]) := by
  rw [putK_new _ (cam_none h)]
  unfold cam
  rw [List.map_append]
  rfl
structure CamOk (m : Nat) (us : List Addr) (ws : List Rw) (cs : List CmE) : Prop where
  nodup : (cks cs).Nodup
  low : ∀ k ∈ cks cs, k < m
  non : ∀ c ∈ cs, c.2 = none → c.1 = 0
  row : ∀ c ∈ cs, ∀ p, c.2 = some p → p ∈ us.zip ws ∧ p.2.2.1 = c.1 ∧ p.2.1 ∈ cks cs
theorem CamOk.len {m : Nat} {us : List Addr} {ws : List Rw} {cs : List CmE} (h : CamOk m us ws cs) : cs.length ≤ m := by
  have := sub_len h.nodup (m := List.range m) fun k hk => List.mem_range.mpr (h.low k hk)
  rw [List.length_range] at this
  unfold cks at this
  rw [List.length_map] at this
  exact this
theorem CamOk.add {m : Nat} {us : List Addr} {ws : List Rw} {cs : List CmE} (h : CamOk m us ws cs) {t : Addr} {r : Rw} (hz : (t, r) ∈ us.zip ws) (hm : r.2.1 < m) (hk : r.2.1 ∉ cks cs) (hf : r.1 ∈ cks cs) : CamOk m us ws (cs ++ [(r.2.1, some (t, r))]) := by
  have ek : cks (cs ++ [(r.2.1, some (t, r))]) = cks cs ++ [r.2.1] := by unfold cks; rw [List.map_append]; rfl
  refine ⟨?_, fun k hk' => ?_, fun c hc e => ?_, fun c hc p e => ?_⟩
  · rw [ek, List.nodup_append]
    exact ⟨h.nodup, List.nodup_cons.mpr ⟨(fun z => nomatch z), List.nodup_nil⟩, fun a ha b hb z => hk (by rw [List.mem_singleton] at hb; rw [← hb, ← z]; exact ha)⟩
  · rw [ek] at hk'
    rcases List.mem_append.mp hk' with z | z
    · exact h.low k z
    · rw [List.mem_singleton.mp z]; exact hm
  · rcases List.mem_append.mp hc with z | z
    · exact h.non c z e
    · rw [List.mem_singleton.mp z] at e; cases e
  · rw [ek]
    rcases List.mem_append.mp hc with z | z
    · obtain ⟨h1, h2, h3⟩ := h.row c z p e
      exact ⟨h1, h2, List.mem_append_left _ h3⟩
    · rw [List.mem_singleton.mp z] at e ⊢
      cases e
      exact ⟨hz, rfl, List.mem_append_left _ hf⟩
/-- amid the search -/
def WyS (H : Hp) (d p l : Addr) (m : Nat) (us : List Addr) (ws : List Rw) (cs : List CmE) (H' : Hp) : Prop := H' d = some (.dK (cam cs)) ∧ H' l = some (.lst (cs.map fun c => V.int (c.1 : Int))) ∧ H' p = some (.lst (us.map V.ref)) ∧ Paired (RwT H') us ws ∧ CamOk m us ws cs ∧ Same H H'
theorem zip_at {α β : Type} {as : List α} {bs : List β} {i : Nat} {a : α} {b : β} (h : as[i]? = some a) (g : bs[i]? = some b) : (a, b) ∈ as.zip bs := List.mem_of_getElem? (by rw [List.getElem?_zip_eq_some]; exact ⟨h, g⟩ : (as.zip bs)[i]? = some (a, b))
theorem zip_get {α β : Type} {R : α → β → Prop} : ∀ {as : List α} {bs : List β}, Paired R as bs → ∀ {a : α} {b : β}, (a, b) ∈ as.zip bs → R a b ∧ b ∈ bs
  | _, _, .cons h t, a, b, m => by
    rw [List.zip_cons_cons] at m
    rcases List.mem_cons.mp m with e | e
    · cases e
      exact ⟨h, List.mem_cons_self⟩
    · obtain ⟨h1, h2⟩ := zip_get t e
      exact ⟨h1, List.mem_cons_of_mem _ h2⟩
/-- the search by widths over the rows -/
abbrev rF (r : Rw) : Nat := r.1
abbrev rG (r : Rw) : Nat := r.2.1
def wayS (rs : List Arc) (ts : List Int) (m : Nat) : List (EK.Ent Rw) := EK.bfs rF rG (lawRows rs ts rs.length) 0 m
def proj (st : List (EK.Ent Rw)) : List (Nat × Option Rw) := st.map fun e => (e.1, e.2.2)
def pcs (cs : List CmE) : List (Nat × Option Rw) := cs.map fun c => (c.1, c.2.map Prod.snd)
def ent (st : List (EK.Ent Rw)) (v : Nat) : Option Rw := (st.find? fun e => e.1 == v).bind fun e => e.2.2
def bk (st : List (EK.Ent Rw)) : Nat → Nat → List Rw
  | 0, _ => []
  | k + 1, v => match ent st v with
    | some r => r :: bk st k r.1
    | none => []
theorem ids_of {cs : List CmE} {st : List (EK.Ent Rw)} (h : pcs cs = proj st) : cks cs = EK.ids st := by
  have e1 : cks cs = (pcs cs).map (·.1) := by unfold cks pcs; rw [List.map_map]; rfl
  have e2 : EK.ids st = (proj st).map (·.1) := by unfold EK.ids proj; rw [List.map_map]; rfl
  rw [e1, e2, h]
theorem ent_of : ∀ {cs : List CmE} {st : List (EK.Ent Rw)}, pcs cs = proj st → (cks cs).Nodup → ∀ {c : CmE}, c ∈ cs → ent st c.1 = c.2.map Prod.snd
  | c0 :: cs, [], h, _, _, _ => nomatch h
  | c0 :: cs, e0 :: st, h, nd, c, hc => by
    have h1 : (c0.1, c0.2.map Prod.snd) = (e0.1, e0.2.2) := (List.cons.inj h).1
    have h2 : pcs cs = proj st := (List.cons.inj h).2
    have nd : (c0.1 :: cks cs).Nodup := nd
    rw [List.nodup_cons] at nd
    have k1 : c0.1 = e0.1 := congrArg Prod.fst h1
    have k2 : c0.2.map Prod.snd = e0.2.2 := congrArg Prod.snd h1
    unfold ent
    rw [List.find?_cons]
    rcases List.mem_cons.mp hc with rfl | hc
    · have : (e0.1 == c.1) = true := by rw [k1]; exact beq_self_eq_true _
      rw [this]
      exact k2.symm
    · have : (e0.1 == c.1) = false := by
        rw [← k1]
        exact beq_eq_false_iff_ne.mpr fun z => nd.1 (List.mem_map.mpr ⟨c, hc, z.symm⟩)
      rw [this]
      exact ent_of h2 nd.2 hc
def spWay (K : PySem.W.Frag) : Sp := fun as H Q _ => ∃ (y : V) (a : Addr) (m : Nat) (rs : List Arc) (ts : List Int) (B : Int), as = [y, .ref a] ∧ NetV K H y m rs ∧ NetP m rs ∧ SqT K H a (ts.map V.int) ∧ ts.length = rs.length ∧ (∀ t ∈ ts, t ≤ B ∧ -B ≤ t) ∧ 0 ≤ B ∧
  (1 ∉ EK.ids (wayS rs ts m) → ∀ H', Same H H' → Q .non H') ∧ (1 ∈ EK.ids (wayS rs ts m) → ∀ (p : Addr) (us : List Addr) (ws : List Rw) (H' : Hp), ws = bk (wayS rs ts m) m 1 → H' p = some (.lst (us.map V.ref)) → Paired (RwT H') us ws → (∀ r ∈ ws, RwP m rs.length (10 ^ 30 + B) r) → ws ≠ [] → ws.length ≤ 7 → H p = none → Same H H' → Q (.ref p) H')
section
variable {P : Program} {w : World} {K : PySem.W.Frag} {mg : Str → Option Value} {base : Heap}
theorem scWy : FnScope ["net", "through", "came", "room", "line", "at", "row", "found", "node", "turn"] ["net", "through"] (defScope sWay) := ⟨rfl, rfl, rfl, by decide +kernel, rfl, by decide +kernel, by decide +kernel⟩
theorem ok_way {f fR : Addr} {fd dR : FuncData} (F : Fun K "_law_way" "_law_way" sWay f fd) (T : Nat0 mg) (GR : FnOk P w K mg base CX0 1 fR dR ["net", "through"] (spRoom K)) (FR : Fun K "_law_room" "_law_room" sRoom fR dR) (mR : mg "_law_room" = some (.ref fR)) (bR : Binds K dR ["net", "through"] []) : FnOk P w K mg base CX0 2 f fd ["net", "through"] (spWay K) := by
  refine F.ok scWy (fun as H Q E h => ?_) (fun cdv A outer s H as Q E hr h => ?_)
  · obtain ⟨y, a, m, rs, ts, B, rfl, _⟩ := h
    rfl
  · obtain ⟨y, a, m, rs, ts, B, rfl, hN, hP, hT, hl, hB, hB0, k0, k1⟩ := h
    have hu := hu_of hr
    refine ⟨_, pss_cons (ps_par3 (i := 2) (j := 3) (k := 4) rfl scWy.nd rfl rfl rfl (by decide) (by decide) (by decide) rfl rfl rfl (pa_cons (pe_disp (pps_cons pe_int pe_non pps_nil) (by rfl) (by rfl) (fun z => by cases z) (by decide)) (pa_cons (pe_call GR hr rfl mR FR.kp bR .nil pass0 (pa_cons (pv 0) (pa_cons (pv 1) pa_nil))) (pa_cons (pe_lst (pa_cons pe_int pa_nil)) pa_nil))) (by rfl))
      (pss_cons (ps_for PassesOwn.never rfl (pi_range1 (by rfl) T.range (pa_cons (pe_ix ix_tup (pv 0) pe_int (fun _ _ => rfl)) pa_nil)) (pg_name (i := 5) scWy.nd rfl (.inl rfl))
        (pss_one (ps_if (pt_cmpR op_lt (pv 5) (pe_callB call_len_seq (by rfl) T.len PySem.boot_len (pa_cons (pv 4) pa_nil)) (nomark _))
          (pss_one (ps_for PassesOwn.never rfl (pi_list (pv 3)) (pg_name (i := 6) scWy.nd rfl (.inl rfl))
            (pss_one (ps_if (PW.pt (pw_and (pt_cmpR op_eq (pe_ix ix_tup (pv 6) pe_int (fun _ _ => rfl)) (pe_ix ix_list (pv 4) (pv 5) (fun _ _ => rfl)) (nomark _)) (pw_and1 (pt_cmp (pc_dnotin hu (pe_ix ix_tup (pv 6) pe_int (fun _ _ => rfl)) (pv 2))))))
              (pss_cons (ps_dput hu (pv 2) (pe_ix ix_tup (pv 6) pe_int (fun _ _ => rfl)) (pv 6) rfl)
              (pss_one (ps_expr (pe_bm PySem.F.plainAttrs_list PySem.F.slot_list_append PySem.F.type_list_append mt_append (pv 4) (pa_cons (pe_ix ix_tup (pv 6) pe_int (fun _ _ => rfl)) pa_nil))))) pss_nil)))) pss_nil)))
      (pss_cons (ps_if (pt_cmp (pc_dnotin hu pe_int (pv 2))) (pss_one (ps_ret pe_non)) pss_nil)
      (pss_cons (ps_par (i := 7) (j := 8) rfl scWy.nd rfl rfl (by decide) rfl rfl (pa_cons (pe_lst pa_nil) (pa_cons pe_int pa_nil)) (by rfl))
      (pss_cons (ps_for PassesOwn.never rfl (pi_range1 (by rfl) T.range (pa_cons (pe_ix ix_tup (pv 0) pe_int (fun _ _ => rfl)) pa_nil)) (pg_name (i := 9) scWy.nd rfl (.inl rfl))
        (pss_one (ps_if (pt_cmpR op_notN (pe_dget hu (pv 2) (pv 8) (fun _ _ => rfl)) pe_non (nomark _))
          (pss_cons (ps_expr (pe_bm PySem.F.plainAttrs_list PySem.F.slot_list_append PySem.F.type_list_append mt_append (pv 7) (pa_cons (pe_dget hu (pv 2) (pv 8) (fun _ _ => rfl)) pa_nil)))
          (pss_one (ps_set (i := 8) scWy.nd rfl (.inl rfl) (pe_ix ix_tup (pe_dget hu (pv 2) (pv 8) (fun _ _ => rfl)) pe_int (fun _ _ => rfl))))) pss_nil)))
      (pss_one (ps_ret (pv 7))))))), ?_⟩
    obtain ⟨t, ra, zs, rfl, h1, h2, h3⟩ := id hN
    have m2 := hP.m2
    have m7 := hP.m7
    refine fun d hd => ⟨upd_same, [((Sum.inl 0 : Key), V.non)], rfl, by decide, ?_⟩
    rw [upd_upd, show mergeK [] [((Sum.inl 0 : Key), V.non)] = cam [(0, none)] from rfl]
    have M1 := same_new (o := .dK (cam [(0, none)])) (Same.refl H) hd
    have e1 : upd H d (.dK (cam [(0, none)])) d = some (.dK (cam [(0, none)])) := upd_same
    generalize upd H d (.dK (cam [(0, none)])) = H1 at M1 e1 ⊢
    refine ⟨_, rfl, _, rfl, .ref t, a, m, rs, ts, B, rfl, hN.more M1, hP, sqt_more M1 hT, hl, hB, hB0, fun p us ws H2 e2 p2 q2 lw ew fp M2' => ?_⟩
    have M2 := M1.trans M2'
    have pn := fr_none M1 fp
    refine ⟨by show 1 ≤ sizeLine; decide, fun l hl' => ⟨_, _, _, rfl, ?_⟩⟩
    have ln := fr_none M2 hl'
    have npl : p ≠ l := fun z => by rw [z, hl'] at e2; cases e2
    have S3 : WyS H d p l m us ws [(0, none)] (upd H2 l (.lst [.int 0])) := by
      refine ⟨s3u hl' (M2' _ _ e1), upd_same, s3u hl' e2, rwT_more (same_new (Same.refl H2) hl') p2, ⟨?_, ?_, ?_, ?_⟩, same_new M2 hl'⟩
      · show [0].Nodup
        decide
      · intro k hk
        rw [List.mem_singleton.mp hk]
        show 0 < m
        omega
      · intro c hc _
        rw [List.mem_singleton.mp hc]
      · intro c hc p e
        rw [List.mem_singleton.mp hc] at e
        cases e
    generalize upd H2 l (.lst [.int 0]) = H3 at S3 ⊢
    clear e1 M1 e2 p2 M2' M2 fp hl'
    have wl := fun {H' : Hp} (h : Paired (RwT H') us ws) => paired_len h
    refine ⟨_, rfl, t, _, 0, _, rfl, rfl, sqt_more S3.2.2.2.2.2 h1, at0, m, rfl, by omega, by omega, for_range (n := ((m : Int)).toNat) (fun i σ H' => ∃ (v5 v6 : Option V) (cs : List CmE), σ = [some (.ref t), some (.ref a), some (.ref d), some (.ref p), some (.ref l), v5, v6, none, none, none] ∧ pcs cs = proj (EK.bfs rF rG ws 0 i) ∧ WyS H d p l m us ws cs H') ?_ ?_ ?_⟩
    · exact ⟨none, none, _, rfl, rfl, S3⟩
    · clear S3
      rintro i σ H4 hi ⟨v5, v6, cs, rfl, pj, S⟩
      have bn : EK.bfs rF rG ws 0 (i + 1) = EK.scan rF rG ws (EK.bfs rF rG ws 0 i) i := by
        unfold EK.bfs
        rw [List.range_succ, List.foldl_append]
        rfl
      have pl : cs.length = (EK.bfs rF rG ws 0 i).length := by
        have := congrArg List.length pj
        unfold pcs proj at this
        rwa [List.length_map, List.length_map] at this
      obtain ⟨s1, s2, s3, s4, s5, s6⟩ := id S
      refine ⟨_, rfl, _, rfl, l, _, rfl, .inl (SqL.of s2), _, _, rfl, rfl, _, rfl, ?_⟩
      refine ite2 (fun h => ?_) (fun h => ⟨_, _, cs, rfl, by
        have h' : ¬ i < cs.length := fun z => h (decide_eq_true (by rw [List.length_map]; omega))
        rw [bn]
        unfold EK.scan
        rw [List.getElem?_eq_none (by omega)]
        exact pj, S⟩)
      have hi' : i < cs.length := by
        have := of_decide_eq_true h
        rw [List.length_map] at this
        omega
      obtain ⟨st0, est⟩ : ∃ st0, st0 = EK.bfs rF rG ws 0 i := ⟨_, rfl⟩
      rw [← est] at pj pl bn
      obtain ⟨e0, he0⟩ : ∃ e, st0[i]? = some e := ⟨_, List.getElem?_eq_getElem (by omega)⟩
      have bn2 : EK.bfs rF rG ws 0 (i + 1) = ws.foldl (EK.add rF rG e0.1 e0.2.1) st0 := by rw [bn]; unfold EK.scan; rw [he0]
      refine ⟨_, rfl, p, rfl, ⟨_, SqL.of s3⟩, ?_⟩
      refine for_list (K := K) (a := p) (xs := us.map V.ref) (fun j σ H' => ∃ (v6 : Option V) (cs : List CmE), σ = [some (.ref t), some (.ref a), some (.ref d), some (.ref p), some (.ref l), some (.int (0 + (i : Int))), v6, none, none, none] ∧ i < cs.length ∧ (pcs cs = proj ((ws.take j).foldl (EK.add rF rG e0.1 e0.2.1) st0) ∧ ((ws.take j).foldl (EK.add rF rG e0.1 e0.2.1) st0)[i]? = some e0) ∧ WyS H d p l m us ws cs H') ?_ ?_ ?_ ?_
      · exact ⟨_, cs, rfl, hi', ⟨pj, he0⟩, S⟩
      · rintro j σ H' _ ⟨_, _, _, _, _, S⟩
        exact SqL.of S.2.2.1
      · clear S s1 s2 s3 s4 s5 s6 hi' h pj pl cs v6 v5 H4
        rintro j x σ H4 hx ⟨v6, cs, rfl, hi', ⟨pj, pe⟩, s1, s2, s3, s4, s5, s6⟩
        rw [List.getElem?_map] at hx
        obtain ⟨u, hu', rfl⟩ := Option.map_eq_some_iff.mp hx
        obtain ⟨r, hr', eu⟩ := paired_at s4 hu'
        have eu' : H4 u = some (.tup (rwV r)) := eu
        obtain ⟨c, hc⟩ : ∃ c, cs[i]? = some c := ⟨_, List.getElem?_eq_getElem hi'⟩
        have el : (cs.map fun c => V.int (c.1 : Int))[i]? = some (.int (c.1 : Int)) := by rw [List.getElem?_map, hc]; rfl
        have cl := s5.len
        have tk : ws.take (j + 1) = ws.take j ++ [r] := by rw [List.take_succ, hr']; rfl
        have ek : (ws.take (j + 1)).foldl (EK.add rF rG e0.1 e0.2.1) st0 = EK.add rF rG e0.1 e0.2.1 ((ws.take j).foldl (EK.add rF rG e0.1 e0.2.1) st0) r := by rw [tk, List.foldl_append]; rfl
        rw [ek]
        generalize (ws.take j).foldl (EK.add rF rG e0.1 e0.2.1) st0 = st at pj pe ⊢
        have ce : c.1 = e0.1 := by
          have a1 : (pcs cs)[i]? = some (c.1, c.2.map Prod.snd) := by unfold pcs; rw [List.getElem?_map, hc]; rfl
          have a2 : (proj st)[i]? = some (e0.1, e0.2.2) := by unfold proj; rw [List.getElem?_map, pe]; rfl
          rw [pj, a2] at a1
          exact (congrArg Prod.fst (Option.some.inj a1)).symm
        have idc := ids_of pj
        have off : ¬ (rF r = e0.1 ∧ rG r ∉ EK.ids st) → pcs cs = proj (EK.add rF rG e0.1 e0.2.1 st r) ∧ (EK.add rF rG e0.1 e0.2.1 st r)[i]? = some e0 := fun h => by
          unfold EK.add
          rw [if_neg h]
          exact ⟨pj, pe⟩
        refine ⟨_, rfl, u, _, 0, _, rfl, rfl, SqT.of eu', at0, _, rfl, _, rfl, l, _, _, _, rfl, rfl, SqL.of s2, by rw [show (0 + (i : Int)) = ((i : Nat) : Int) by omega]; exact atI_nat el, rfl, _, rfl, ?_⟩
        refine ite2 (fun h => ?_) (fun h => ⟨_, cs, rfl, hi', off (fun z => h (decide_eq_true (by rw [ce, ← z.1]))), s1, s2, s3, s4, s5, s6⟩)
        have er : r.1 = c.1 := by
          have := of_decide_eq_true h
          injection this with this
          omega
        refine ⟨_, rfl, u, _, 1, _, rfl, rfl, SqT.of eu', at1, _, rfl, d, _, rfl, DGet.k (k := Sum.inl (r.2.1 : Int)) s1, _, rfl, ?_⟩
        rw [cam_has s5.nodup]
        refine ite2 (fun h => ?_) (fun h => ⟨_, cs, rfl, hi', off (fun z => h (by rw [idc]; simpa using z.2)), s1, s2, s3, s4, s5, s6⟩)
        have nk : r.2.1 ∉ cks cs := by simpa using h
        have rm : r.2.1 < m := (q2 r (List.mem_of_getElem? hr')).2.1
        have fk : r.1 ∈ cks cs := by rw [er]; exact List.mem_map.mpr ⟨c, List.mem_of_getElem? hc, rfl⟩
        have nld : l ≠ d := ne_at s2 s1 (fun z => by cases z)
        have npd : p ≠ d := ne_at s3 s1 (fun z => by cases z)
        refine ⟨_, rfl, _, rfl, _, rfl, u, _, 1, _, rfl, rfl, SqT.of eu', at1, d, _, rfl, DPut.k (k := Sum.inl (r.2.1 : Int)) s1 ?_, ?_⟩
        · unfold cam
          rw [List.length_map]
          exact small1000 (by omega)
        rw [show (V.ref u) = cmV (some (u, r)) from rfl, cam_put nk]
        have f1 : upd H4 d (.dK (cam (cs ++ [(r.2.1, some (u, r))]))) d = some (.dK (cam (cs ++ [(r.2.1, some (u, r))]))) := upd_same
        have f2 : upd H4 d (.dK (cam (cs ++ [(r.2.1, some (u, r))]))) l = some (.lst (cs.map fun c => V.int (c.1 : Int))) := by rw [upd_ne nld]; exact s2
        have f3 : upd H4 d (.dK (cam (cs ++ [(r.2.1, some (u, r))]))) p = some (.lst (us.map V.ref)) := by rw [upd_ne npd]; exact s3
        have f4 : Paired (RwT (upd H4 d (.dK (cam (cs ++ [(r.2.1, some (u, r))]))))) us ws := rwT_put s1 (fun xs z => nomatch z) s4
        have f6 := same_put (o := .dK (cam (cs ++ [(r.2.1, some (u, r))]))) s6 hd
        have fu : upd H4 d (.dK (cam (cs ++ [(r.2.1, some (u, r))]))) u = some (.tup (rwV r)) := by rw [upd_ne (ne_at eu' s1 (fun z => by cases z))]; exact eu'
        generalize upd H4 d (.dK (cam (cs ++ [(r.2.1, some (u, r))]))) = H5 at f1 f2 f3 f4 f6 fu ⊢
        refine ⟨_, rfl, .inl ⟨rfl, _, SqL.of f2⟩, _, rfl, u, _, 1, _, rfl, rfl, SqT.of fu, at1, l, _, _, rfl, rfl, f2, by rw [List.length_map]; exact small1000 (by omega), ?_⟩
        refine ⟨_, cs ++ [(r.2.1, some (u, r))], rfl, by rw [List.length_append]; omega, ?_, ?_, ?_, ?_, rwT_put f2 (fun xs z => nomatch z) f4, s5.add (zip_at hu' hr') rm nk fk, same_put f6 ln⟩
        · have yes : EK.add rF rG e0.1 e0.2.1 st r = st ++ [(r.2.1, e0.2.1 + 1, some r)] := by
            unfold EK.add
            exact if_pos ⟨er.trans ce, by rw [← idc]; exact nk⟩
          rw [yes]
          refine ⟨?_, ?_⟩
          · unfold pcs proj at pj ⊢
            rw [List.map_append, List.map_append, pj]
            rfl
          · rw [List.getElem?_append_left (List.getElem?_eq_some_iff.mp pe).1]
            exact pe
        · rw [upd_ne nld.symm]; exact f1
        · rw [upd_same, List.map_append]; rfl
        · rw [upd_ne npl]; exact f3
      · rintro σ H' ⟨v6, cs, rfl, _, ⟨pj, _⟩, S⟩
        rw [List.length_map, wl S.2.2.2.1, List.take_length] at pj
        exact ⟨_, _, cs, rfl, by rw [bn2]; exact pj, S⟩
    · clear S3
      rintro σ H4 ⟨v5, v6, cs, rfl, pj, s1, s2, s3, s4, s5, s6⟩
      rw [Int.toNat_natCast, ew] at pj
      have pj : pcs cs = proj (wayS rs ts m) := pj
      have idc := ids_of pj
      refine ⟨_, rfl, d, _, rfl, DGet.k (k := Sum.inl ((1 : Nat) : Int)) s1, _, rfl, ?_⟩
      rw [cam_has s5.nodup]
      refine ite2 (fun h => k0 (by rw [← idc]; simpa using h) H4 s6) (fun h => ?_)
      have k1in : 1 ∈ cks cs := by simpa using h
      refine ⟨by show 0 ≤ sizeLine; decide, fun F hF => ⟨_, _, rfl, ?_⟩⟩
      have Fn := fr_none s6 hF
      have M5 := same_new (o := .lst []) s6 hF
      have e5 : upd H4 F (.lst []) F = some (.lst []) := upd_same
      have d5 := s3u (o := .lst []) hF s1
      have p5 := rwT_more (same_new (o := .lst []) (Same.refl H4) hF) s4
      have nFd : F ≠ d := fun z => by rw [z, s1] at hF; cases hF
      generalize upd H4 F (.lst []) = H5 at M5 e5 d5 p5 ⊢
      refine ⟨_, rfl, t, _, 0, _, rfl, rfl, sqt_more M5 h1, at0, m, rfl, by omega, by omega, for_range (n := ((m : Int)).toNat) (fun i σ H' => ∃ (v9 : Option V) (n : Nat) (gs : List Addr) (qs : List Rw), σ = [some (.ref t), some (.ref a), some (.ref d), some (.ref p), some (.ref l), v5, v6, some (.ref F), some (.int n), v9] ∧ n ∈ cks cs ∧
        H' F = some (.lst (gs.map V.ref)) ∧ Paired (RwT H') gs qs ∧ (∀ r ∈ qs, RwP m rs.length (10 ^ 30 + B) r) ∧ qs.length ≤ i ∧ qs ++ bk (wayS rs ts m) (m - i) n = bk (wayS rs ts m) m 1 ∧ (i = 0 → n = 1) ∧ (0 < i → qs ≠ []) ∧ H' d = some (.dK (cam cs)) ∧ Paired (RwT H') us ws ∧ Same H H') ?_ ?_ ?_⟩
      · exact ⟨none, 1, [], [], rfl, k1in, e5, .nil, (fun _ z => nomatch z), Nat.le_refl _, rfl, fun _ => rfl, fun z => absurd z (by omega), d5, p5, M5⟩
      · clear e5 d5 p5 M5
        rintro i σ H6 hi ⟨v9, n, gs, qs, rfl, nk, e6, g6, q6, l6, b6, z6, y6, d6, p6, M6⟩
        obtain ⟨c, hc, ec⟩ := List.mem_map.mp nk
        have gd := DGet.k (k := Sum.inl (n : Int)) d6
        have en := ent_of pj s5.nodup hc
        rw [ec] at en
        have mi : m - i = (m - (i + 1)) + 1 := by omega
        rw [mi] at b6
        have b6 : qs ++ (match ent (wayS rs ts m) n with | some r => r :: bk (wayS rs ts m) (m - (i + 1)) r.1 | none => []) = bk (wayS rs ts m) m 1 := b6
        rw [← ec, cam_get s5.nodup hc] at gd
        rw [← ec]
        refine ⟨_, rfl, _, rfl, d, _, rfl, gd, rfl, _, rfl, ?_⟩
        cases hv : c.2 with
        | none =>
          refine ite2 (fun h => absurd h (by decide)) (fun _ => ?_)
          have b7 : qs ++ bk (wayS rs ts m) (m - (i + 1)) c.1 = bk (wayS rs ts m) m 1 := by
            rw [hv] at en
            rw [en] at b6
            rw [← b6, ec]
            congr 1
            cases m - (i + 1) with
            | zero => rfl
            | succ k => show (match ent (wayS rs ts m) n with | some r => r :: bk (wayS rs ts m) k r.1 | none => []) = _; rw [en]; rfl
          refine ⟨_, c.1, gs, qs, rfl, by rw [ec]; exact nk, e6, g6, q6, by omega, b7, fun z => absurd z (by omega), fun _ => ?_, d6, p6, M6⟩
          by_cases z : i = 0
          · have c0 := s5.non c hc hv
            have c1 := z6 z
            omega
          · exact y6 (by omega)
        | some tr =>
          obtain ⟨tt, r⟩ := tr
          obtain ⟨hz, hr1, hr2⟩ := s5.row c hc _ hv
          obtain ⟨ett, hrw⟩ := zip_get p6 hz
          have ett' : H6 tt = some (.tup (rwV r)) := ett
          rw [hv] at gd
          refine ite2 (fun _ => ?_) (fun h => absurd (show (!decide (V.ref tt = V.non)) = true by simp) h)
          refine ⟨_, rfl, .inl ⟨rfl, _, SqL.of e6⟩, _, rfl, _, rfl, d, _, rfl, gd, F, _, _, rfl, rfl, e6, by rw [List.length_map, paired_len g6]; exact small1000 (by omega), ?_⟩
          have nFt : tt ≠ F := ne_at ett' e6 (fun z => by cases z)
          have dd : upd H6 F (.lst (gs.map V.ref ++ [cmV (some (tt, r))])) d = some (.dK (cam cs)) := by rw [upd_ne nFd.symm]; exact d6
          have gd2 := DGet.k (k := Sum.inl (c.1 : Int)) dd
          rw [cam_get s5.nodup hc, hv] at gd2
          have ett2 : upd H6 F (.lst (gs.map V.ref ++ [cmV (some (tt, r))])) tt = some (.tup (rwV r)) := by rw [upd_ne nFt]; exact ett'
          refine ⟨_, rfl, _, rfl, d, _, rfl, gd2, tt, _, 0, _, rfl, rfl, SqT.of ett2, at0, ?_⟩
          refine ⟨_, r.1, gs ++ [tt], qs ++ [r], rfl, hr2, by rw [upd_same, List.map_append]; rfl, paired_snoc (show RwT _ tt r from ett2) (rwT_put e6 (fun xs z => nomatch z) g6), fun u hu' => ?_, by rw [List.length_append]; show _ + 1 ≤ _; omega, ?_, fun z => absurd z (by omega), fun _ z => ?_, dd, rwT_put e6 (fun xs z => nomatch z) p6, same_put M6 Fn⟩
          · rcases List.mem_append.mp hu' with z | z
            · exact q6 u z
            · rw [List.mem_singleton.mp z]; exact q2 r hrw
          · rw [hv] at en
            rw [en] at b6
            rw [← b6, List.append_assoc]
            rfl
          · have := congrArg List.length z
            rw [List.length_append] at this
            simp at this
      · clear e5 d5 p5 M5
        rintro σ H6 ⟨v9, n, gs, qs, rfl, nk, e6, g6, q6, l6, b6, z6, y6, d6, p6, M6⟩
        have b7 : qs = bk (wayS rs ts m) m 1 := by
          rw [Int.toNat_natCast, Nat.sub_self] at b6
          rw [← b6]
          exact (List.append_nil qs).symm
        exact ⟨_, rfl, k1 (by rw [← idc]; exact k1in) F gs qs H6 b7 e6 g6 q6 (y6 (by omega)) (by omega) Fn M6⟩
end
end Y

/-! EK2: what leads out of a part of the numbers; a THROUGH without room out of it is a greatest one. -/
namespace EK
abbrev Arc := Nat × Nat × Option Int
/-- what the number k has left (the same as Y.srp of OG) -/
def sp (k : Nat) : List Arc → List Int → Int
  | a :: as, t :: ts => (if a.2.1 = k then t else 0) - (if a.1 = k then t else 0) + sp k as ts
  | _, _ => 0
/-- what goes out of S, less what comes in -/
def net (S : Nat → Bool) : List Arc → List Int → Int
  | a :: as, t :: ts => (if S a.1 = true ∧ S a.2.1 = false then t else 0) - (if S a.1 = false ∧ S a.2.1 = true then t else 0) + net S as ts
  | _, _ => 0
/-- the bounds of what leads out of S -/
def cut (S : Nat → Bool) : List Arc → Int
  | [] => 0
  | a :: as => (if S a.1 = true ∧ S a.2.1 = false then a.2.2.getD 0 else 0) + cut S as
def tot (S : Nat → Bool) : Nat → (Nat → Int) → Int
  | 0, _ => 0
  | m + 1, f => tot S m f + (if S m = true then 0 else f m)
theorem tot_add (S : Nat → Bool) (f g : Nat → Int) : ∀ m, tot S m (fun k => f k + g k) = tot S m f + tot S m g
  | 0 => rfl
  | m + 1 => by
    show tot S m (fun k => f k + g k) + (if S m = true then 0 else f m + g m) = tot S m f + (if S m = true then 0 else f m) + (tot S m g + (if S m = true then 0 else g m))
    rw [tot_add S f g m]
    split <;> omega
theorem tot_zero (S : Nat → Bool) : ∀ m, tot S m (fun _ => 0) = 0
  | 0 => rfl
  | m + 1 => by
    show tot S m _ + _ = 0
    rw [tot_zero S m]
    split <;> rfl
theorem tot_at (S : Nat → Bool) (j : Nat) (t : Int) : ∀ m, tot S m (fun k => if j = k then t else 0) = if j < m ∧ S j = false then t else 0
  | 0 => by
    rw [if_neg (by omega)]
    rfl
  | m + 1 => by
    show tot S m (fun k => if j = k then t else 0) + (if S m = true then 0 else if j = m then t else 0) = _
    rw [tot_at S j t m]
    by_cases e : j = m
    · subst e
      rw [if_neg (by omega), if_pos rfl]
      cases h : S j
      · rw [if_neg (by simp), if_pos ⟨by omega, rfl⟩]
        omega
      · rw [if_pos rfl, if_neg (by simp)]
        rfl
    · rw [if_neg e]
      have : (if S m = true then (0 : Int) else 0) = 0 := by split <;> rfl
      rw [this, Int.add_zero]
      by_cases h : j < m ∧ S j = false
      · rw [if_pos h, if_pos ⟨by omega, h.2⟩]
      · rw [if_neg h, if_neg fun z => h ⟨by omega, z.2⟩]
theorem tot_neg (S : Nat → Bool) (f : Nat → Int) : ∀ m, tot S m (fun k => - f k) = - tot S m f
  | 0 => rfl
  | m + 1 => by
    show tot S m (fun k => - f k) + (if S m = true then 0 else - f m) = -(tot S m f + (if S m = true then 0 else f m))
    rw [tot_neg S f m]
    split <;> omega
theorem tot_sp (S : Nat → Bool) {m : Nat} : ∀ {as : List Arc} {ts : List Int}, (∀ a ∈ as, a.1 < m ∧ a.2.1 < m) → tot S m (fun k => sp k as ts) = net S as ts
  | [], ts, _ => by
    have e : (fun k => sp k [] ts) = fun _ => (0 : Int) := by funext k; cases ts <;> rfl
    rw [e, tot_zero]
    cases ts <;> rfl
  | a :: as, [], _ => by
    have e : (fun k => sp k (a :: as) []) = fun _ => (0 : Int) := rfl
    rw [e, tot_zero]
    rfl
  | a :: as, t :: ts, h => by
    obtain ⟨h1, h2⟩ := h a List.mem_cons_self
    have e : (fun k => sp k (a :: as) (t :: ts)) = fun k => ((if a.2.1 = k then t else 0) + -(if a.1 = k then t else 0)) + sp k as ts := by
      funext k
      show _ - _ + _ = _ + -_ + _
      omega
    rw [e, tot_add, tot_add, tot_neg, tot_at, tot_at, tot_sp S fun x hx => h x (List.mem_cons_of_mem _ hx)]
    show _ = _ - _ + net S as ts
    cases e1 : S a.1 <;> cases e2 : S a.2.1 <;> simp [h1, h2] <;> omega
theorem tot_one (S : Nat → Bool) {f : Nat → Int} (s0 : S 0 = true) (s1 : S 1 = false) : ∀ {m : Nat}, 2 ≤ m → (∀ k, 2 ≤ k → k < m → f k = 0) → tot S m f = f 1
  | 0, h, _ => by omega
  | 1, h, _ => by omega
  | 2, _, _ => by
    show (0 + _) + _ = _
    rw [s0, s1]
    simp
  | m + 3, _, z => by
    show tot S (m + 2) f + _ = _
    rw [tot_one S s0 s1 (by omega) fun k h1 h2 => z k h1 (by omega), z (m + 2) (by omega) (by omega)]
    split <;> omega
/-- the VALUE is what goes out of any part with 0 and without 1 -/
theorem value_net {S : Nat → Bool} (s0 : S 0 = true) (s1 : S 1 = false) {m : Nat} (hm : 2 ≤ m) {as : List Arc} {ts : List Int} (h : ∀ a ∈ as, a.1 < m ∧ a.2.1 < m) (z : ∀ k, 2 ≤ k → k < m → sp k as ts = 0) : sp 1 as ts = net S as ts := by
  rw [← tot_sp S h, tot_one S s0 s1 hm z]
theorem net_le {S : Nat → Bool} : ∀ {as : List Arc} {ts : List Int}, as.length = ts.length → (∀ t ∈ ts, 0 ≤ t) → (∀ p ∈ as.zip ts, ∀ c, p.1.2.2 = some c → p.2 ≤ c) → (∀ a ∈ as, S a.1 = true → S a.2.1 = false → a.2.2 ≠ none) → net S as ts ≤ cut S as
  | [], [], _, _, _, _ => Int.le_refl _
  | a :: as, t :: ts, l, h0, hc, hn => by
    have ih := net_le (S := S) (as := as) (ts := ts) (by simpa using l) (fun x hx => h0 x (List.mem_cons_of_mem _ hx)) (fun p hp => hc p (List.mem_cons_of_mem _ hp)) fun x hx => hn x (List.mem_cons_of_mem _ hx)
    have t0 := h0 t List.mem_cons_self
    have tc := hc (a, t) List.mem_cons_self
    have an := hn a List.mem_cons_self
    show _ - _ + net S as ts ≤ _ + cut S as
    cases e1 : S a.1 <;> cases e2 : S a.2.1 <;> simp <;> try omega
    cases e : a.2.2 with
    | none => exact absurd e (an e1 e2)
    | some c =>
      have := tc c e
      simp
      omega
theorem net_eq {S : Nat → Bool} : ∀ {as : List Arc} {ts : List Int}, as.length = ts.length → (∀ p ∈ as.zip ts, (S p.1.1 = true → S p.1.2.1 = false → p.1.2.2 = some p.2) ∧ (S p.1.1 = false → S p.1.2.1 = true → p.2 = 0)) → net S as ts = cut S as
  | [], [], _, _ => rfl
  | a :: as, t :: ts, l, h => by
    have ih := net_eq (S := S) (as := as) (ts := ts) (by simpa using l) fun p hp => h p (List.mem_cons_of_mem _ hp)
    obtain ⟨h1, h2⟩ := h (a, t) List.mem_cons_self
    show _ - _ + net S as ts = _ + cut S as
    cases e1 : S a.1 <;> cases e2 : S a.2.1 <;> simp [ih]
    · have := h2 e1 e2
      have : t = 0 := this
      omega
    · rw [h1 e1 e2]
      rfl
/-- no room leads out of S: no other THROUGH has a greater VALUE -/
theorem greatest {S : Nat → Bool} (s0 : S 0 = true) (s1 : S 1 = false) {m : Nat} (hm : 2 ≤ m) {as : List Arc} {xs ys : List Int} (h : ∀ a ∈ as, a.1 < m ∧ a.2.1 < m) (lx : as.length = xs.length) (ly : as.length = ys.length)
    (zx : ∀ k, 2 ≤ k → k < m → sp k as xs = 0) (zy : ∀ k, 2 ≤ k → k < m → sp k as ys = 0) (y0 : ∀ t ∈ ys, 0 ≤ t) (yc : ∀ p ∈ as.zip ys, ∀ c, p.1.2.2 = some c → p.2 ≤ c)
    (cl : ∀ p ∈ as.zip xs, (S p.1.1 = true → S p.1.2.1 = false → p.1.2.2 = some p.2) ∧ (S p.1.1 = false → S p.1.2.1 = true → p.2 = 0)) : sp 1 as ys ≤ sp 1 as xs ∧ sp 1 as xs = cut S as := by
  rw [value_net s0 s1 hm h zx, value_net s0 s1 hm h zy, net_eq lx cl]
  refine ⟨net_le ly y0 yc fun a ha e1 e2 e => ?_, rfl⟩
  obtain ⟨i, hi, ei⟩ := List.getElem_of_mem ha
  have hx : i < xs.length := by omega
  have hz : (as.zip xs)[i]? = some (a, xs[i]) := by
    rw [List.getElem?_zip_eq_some]
    exact ⟨by rw [List.getElem?_eq_getElem hi, ei], List.getElem?_eq_getElem hx⟩
  have := (cl _ (List.mem_of_getElem? hz)).1 e1 e2
  rw [e] at this
  cases this
end EK

/-! EK3: what a way does to the numbers. -/
namespace EK
/-- one number more by d -/
theorem sp_set (k : Nat) {d : Int} : ∀ {as : List Arc} {ts : List Int} {i : Nat} {a : Arc} {t : Int}, as[i]? = some a → ts[i]? = some t →
    sp k as (ts.set i (t + d)) = sp k as ts + ((if a.2.1 = k then d else 0) - (if a.1 = k then d else 0))
  | a0 :: as, t0 :: ts, 0, a, t, h, g => by
    cases h
    cases g
    show (if a0.2.1 = k then t0 + d else 0) - (if a0.1 = k then t0 + d else 0) + sp k as ts = (if a0.2.1 = k then t0 else 0) - (if a0.1 = k then t0 else 0) + sp k as ts + _
    split <;> split <;> omega
  | a0 :: as, t0 :: ts, i + 1, a, t, h, g => by
    have ih := sp_set k (d := d) (as := as) (ts := ts) (i := i) (a := a) (t := t) h g
    show _ - _ + sp k as (ts.set i (t + d)) = _ - _ + sp k as ts + _
    rw [ih]
    omega
  | [], _, _, _, _, h, _ => nomatch h
  | _ :: _, [], _, _, _, _, g => nomatch g
/-- a row of a way: from, to, the arc, whether onwards -/
abbrev Rw := Nat × Nat × Nat × Bool
/-- the row goes along its arc -/
def RwOk (as : List Arc) (r : Rw) : Prop := ∃ c, as[r.2.2.1]? = some (if r.2.2.2 = true then (r.1, r.2.1, c) else (r.2.1, r.1, c))
def led1 (d : Int) (ts : List Int) (r : Rw) : List Int := ts.set r.2.2.1 (ts.getD r.2.2.1 0 + (if r.2.2.2 = true then d else 0 - d))
def led (d : Int) (ts : List Int) (w : List Rw) : List Int := w.foldl (led1 d) ts
def Way (as : List Arc) : Nat → List Rw → Nat → Prop
  | u, [], v => u = v
  | u, r :: w, v => RwOk as r ∧ r.1 = u ∧ Way as r.2.1 w v
theorem led1_len (d : Int) (ts : List Int) (r : Rw) : (led1 d ts r).length = ts.length := by unfold led1; rw [List.length_set]
theorem led_len (d : Int) : ∀ (w : List Rw) (ts : List Int), (led d ts w).length = ts.length
  | [], _ => rfl
  | r :: w, ts => by
    show (led d (led1 d ts r) w).length = _
    rw [led_len d w, led1_len]
theorem led1_sp (k : Nat) {d : Int} {as : List Arc} {ts : List Int} {r : Rw} (l : as.length = ts.length) (h : RwOk as r) : sp k as (led1 d ts r) = sp k as ts + ((if r.2.1 = k then d else 0) - (if r.1 = k then d else 0)) := by
  obtain ⟨c, e⟩ := h
  have lt := (List.getElem?_eq_some_iff.mp e).1
  have g : ts[r.2.2.1]? = some (ts.getD r.2.2.1 0) := by
    rw [List.getD_eq_getElem?_getD, List.getElem?_eq_getElem (by omega)]
    rfl
  unfold led1
  rw [sp_set k e g]
  cases r.2.2.2
  · show _ + ((if r.1 = k then 0 - d else 0) - (if r.2.1 = k then 0 - d else 0)) = _
    split <;> split <;> omega
  · rfl
/-- a way from u to v with d more: u has d less, v has d more, all else what it had -/
theorem led_sp (k : Nat) {d : Int} {as : List Arc} : ∀ {w : List Rw} {ts : List Int} {u v : Nat}, as.length = ts.length → Way as u w v → sp k as (led d ts w) = sp k as ts + ((if v = k then d else 0) - (if u = k then d else 0))
  | [], ts, u, v, _, h => by
    cases (show u = v from h)
    show sp k as ts = _
    omega
  | r :: w, ts, u, v, l, h => by
    obtain ⟨h1, h2, h3⟩ := h
    show sp k as (led d (led1 d ts r) w) = _
    rw [led_sp k (by rw [led1_len]; exact l) h3, led1_sp k l h1, h2]
    omega
end EK

/-! EK4: a way with as much as there is room for is one turn of EK1. -/
namespace EK
/-- a side: twice the arc, one more for turned about -/
def rm (as : List Arc) (xs : List Int) (e : Nat) : Prop := ∃ a x, as[e / 2]? = some a ∧ xs[e / 2]? = some x ∧ (if e % 2 = 0 then ∀ c, a.2.2 = some c → x < c else 0 < x)
def sSrc (as : List Arc) (e : Nat) : Nat := match as[e / 2]? with
  | some a => if e % 2 = 0 then a.1 else a.2.1
  | none => 0
def sDst (as : List Arc) (e : Nat) : Nat := match as[e / 2]? with
  | some a => if e % 2 = 0 then a.2.1 else a.1
  | none => 0
def side (r : Rw) : Nat := 2 * r.2.2.1 + (if r.2.2.2 = true then 0 else 1)
theorem side_div (r : Rw) : side r / 2 = r.2.2.1 := by
  unfold side
  split <;> omega
theorem side_mod (r : Rw) : side r % 2 = if r.2.2.2 = true then 0 else 1 := by
  unfold side
  split <;> omega
theorem side_src {as : List Arc} {r : Rw} (h : RwOk as r) : sSrc as (side r) = r.1 := by
  obtain ⟨c, e⟩ := h
  unfold sSrc
  rw [side_div, side_mod, e]
  cases r.2.2.2 <;> rfl
theorem side_dst {as : List Arc} {r : Rw} (h : RwOk as r) : sDst as (side r) = r.2.1 := by
  obtain ⟨c, e⟩ := h
  unfold sDst
  rw [side_div, side_mod, e]
  cases r.2.2.2 <;> rfl
theorem way_chain {as : List Arc} {R : Nat → Prop} : ∀ {w : List Rw} {u v : Nat}, Way as u w v → (∀ r ∈ w, R (side r)) → Chain (sSrc as) (sDst as) R u (w.map side) v
  | [], _, _, h, _ => h
  | r :: w, u, v, h, k => by
    obtain ⟨h1, h2, h3⟩ := h
    refine ⟨k r List.mem_cons_self, (side_src h1).trans h2, ?_⟩
    rw [side_dst h1]
    exact way_chain h3 fun x hx => k x (List.mem_cons_of_mem _ hx)
theorem led_off (d : Int) {i : Nat} : ∀ {w : List Rw} {ts : List Int}, (∀ r ∈ w, r.2.2.1 ≠ i) → (led d ts w)[i]? = ts[i]?
  | [], _, _ => rfl
  | r :: w, ts, h => by
    show (led d (led1 d ts r) w)[i]? = _
    rw [led_off d fun x hx => h x (List.mem_cons_of_mem _ hx)]
    unfold led1
    rw [List.getElem?_set_ne (h r List.mem_cons_self)]
theorem led_on (d : Int) {r : Rw} : ∀ {w : List Rw} {ts : List Int}, (w.map fun r => r.2.2.1).Nodup → r ∈ w → r.2.2.1 < ts.length → (led d ts w)[r.2.2.1]? = some (ts.getD r.2.2.1 0 + (if r.2.2.2 = true then d else 0 - d))
  | q :: w, ts, nd, hr, hl => by
    rw [List.map_cons, List.nodup_cons] at nd
    show (led d (led1 d ts q) w)[r.2.2.1]? = _
    rcases List.mem_cons.mp hr with z | z
    · subst z
      rw [led_off d fun x hx e => nd.1 (List.mem_map.mpr ⟨x, hx, e⟩)]
      unfold led1
      rw [List.getElem?_set_self (by exact hl)]
    · have ne : q.2.2.1 ≠ r.2.2.1 := fun e => nd.1 (List.mem_map.mpr ⟨r, z, e.symm⟩)
      rw [led_on d nd.2 z (by rw [led1_len]; exact hl)]
      unfold led1
      rw [List.getD_eq_getElem?_getD, List.getElem?_set_ne ne, ← List.getD_eq_getElem?_getD]
/-- how much room a row has -/
def rowRoom (as : List Arc) (xs : List Int) (r : Rw) (d : Int) : Prop := if r.2.2.2 = true then (∃ a, as[r.2.2.1]? = some a ∧ a.2.2 = some (xs.getD r.2.2.1 0 + d)) else xs.getD r.2.2.1 0 = d
theorem way_step {as : List Arc} {xs : List Int} {w : List Rw} {n s t : Nat} {d : Int} (l : as.length = xs.length) (hw : Way as s w t) (ok : ∀ r ∈ w, RwOk as r) (nd : (w.map fun r => r.2.2.1).Nodup) (room : ∀ r ∈ w, rm as xs (side r))
    (mn : ∀ q, Chain (sSrc as) (sDst as) (rm as xs) s q t → w.length ≤ q.length) (hn : w.length < n) (bot : ∃ r ∈ w, rowRoom as xs r d) : Step (sSrc as) (sDst as) (2 * as.length) n s t (rm as xs) (rm as (led d xs w)) := by
  have at' : ∀ r ∈ w, r.2.2.1 < xs.length := fun r hr => by
    obtain ⟨c, e⟩ := ok r hr
    have := (List.getElem?_eq_some_iff.mp e).1
    omega
  refine ⟨⟨w.map side, way_chain hw room, fun q c => by rw [List.length_map]; exact mn q c, by rw [List.length_map]; exact hn, ?_, fun e he => ?_⟩, fun e he => ?_⟩
  · obtain ⟨r, hr, hd⟩ := bot
    refine ⟨side r, List.mem_map.mpr ⟨r, hr, rfl⟩, ?_⟩
    rintro ⟨a, x, e1, e2, e3⟩
    rw [side_div] at e1 e2
    rw [side_mod] at e3
    rw [led_on d nd hr (at' r hr)] at e2
    have e2 := Option.some.inj e2
    unfold rowRoom at hd
    cases z : r.2.2.2 with
    | true =>
      rw [z] at hd e2 e3
      obtain ⟨a', ha, hc⟩ := (hd : ∃ a, as[r.2.2.1]? = some a ∧ a.2.2 = some (xs.getD r.2.2.1 0 + d))
      rw [e1] at ha
      cases ha
      have := (e3 : ∀ c, a.2.2 = some c → x < c) _ hc
      have e2 : xs.getD r.2.2.1 0 + d = x := e2
      omega
    | false =>
      rw [z] at hd e2 e3
      have hd : xs.getD r.2.2.1 0 = d := hd
      have e3 : 0 < x := e3
      have e2 : xs.getD r.2.2.1 0 + (0 - d) = x := e2
      omega
  · by_cases h : ∃ r ∈ w, r.2.2.1 = e / 2
    · obtain ⟨r, hr, er⟩ := h
      by_cases es : side r = e
      · exact .inl (es ▸ room r hr)
      · refine .inr ⟨side r, List.mem_map.mpr ⟨r, hr, rfl⟩, ?_⟩
        rw [side_src (ok r hr), side_dst (ok r hr)]
        obtain ⟨c, ea⟩ := ok r hr
        rw [er] at ea
        have em : e % 2 = if r.2.2.2 = true then 1 else 0 := by
          have h1 : side r = 2 * (e / 2) + (if r.2.2.2 = true then 0 else 1) := by unfold side; rw [er]
          cases z : r.2.2.2 <;> rw [z] at h1
          · have h1 : side r = 2 * (e / 2) + 1 := h1
            show e % 2 = 0
            omega
          · have h1 : side r = 2 * (e / 2) + 0 := h1
            show e % 2 = 1
            omega
        unfold sSrc sDst
        rw [ea, em]
        cases r.2.2.2 <;> exact ⟨rfl, rfl⟩
    · refine .inl ?_
      obtain ⟨a, x, e1, e2, e3⟩ := he
      rw [led_off d fun r hr z => h ⟨r, hr, z⟩] at e2
      exact ⟨a, x, e1, e2, e3⟩
  · obtain ⟨a, x, e1, _⟩ := he
    have := (List.getElem?_eq_some_iff.mp e1).1
    omega
end EK

/-! EK5: a way with no more than there is room for keeps a THROUGH a THROUGH, and its VALUE grows by as much. -/
namespace EK
/-- within its bounds -/
def In (a : Arc) (x : Int) : Prop := 0 ≤ x ∧ ∀ c, a.2.2 = some c → x ≤ c
structure Thr (m : Nat) (as : List Arc) (xs : List Int) : Prop where
  len : as.length = xs.length
  has : ∀ (i : Nat) (a : Arc) (x : Int), as[i]? = some a → xs[i]? = some x → In a x
  rest : ∀ k, 2 ≤ k → k < m → sp k as xs = 0
theorem thr_led {m : Nat} {as : List Arc} {xs : List Int} {w : List Rw} {d : Int} (T : Thr m as xs) (hw : Way as 0 w 1) (ok : ∀ r ∈ w, RwOk as r) (nd : (w.map fun r => r.2.2.1).Nodup) (d0 : 0 ≤ d)
    (fit : ∀ r ∈ w, if r.2.2.2 = true then (∀ a c, as[r.2.2.1]? = some a → a.2.2 = some c → xs.getD r.2.2.1 0 + d ≤ c) else d ≤ xs.getD r.2.2.1 0) : Thr m as (led d xs w) ∧ sp 1 as (led d xs w) = sp 1 as xs + d := by
  have l := T.len
  refine ⟨⟨by rw [led_len]; exact l, fun i a x ha hx => ?_, fun k h1 h2 => ?_⟩, ?_⟩
  · by_cases h : ∃ r ∈ w, r.2.2.1 = i
    · obtain ⟨r, hr, rfl⟩ := h
      have lt : r.2.2.1 < xs.length := by
        have := (List.getElem?_eq_some_iff.mp ha).1
        omega
      rw [led_on d nd hr lt] at hx
      have hx := Option.some.inj hx
      have hg : xs[r.2.2.1]? = some (xs.getD r.2.2.1 0) := by
        rw [List.getD_eq_getElem?_getD, List.getElem?_eq_getElem lt]
        rfl
      obtain ⟨b0, bc⟩ := T.has _ a _ ha hg
      have f := fit r hr
      cases z : r.2.2.2 with
      | true =>
        rw [z] at hx f
        have hx : xs.getD r.2.2.1 0 + d = x := hx
        have f : ∀ a c, as[r.2.2.1]? = some a → a.2.2 = some c → xs.getD r.2.2.1 0 + d ≤ c := f
        exact ⟨by omega, fun c hc => by
          have := f a c ha hc
          omega⟩
      | false =>
        rw [z] at hx f
        have hx : xs.getD r.2.2.1 0 + (0 - d) = x := hx
        have f : d ≤ xs.getD r.2.2.1 0 := f
        exact ⟨by omega, fun c hc => by
          have := bc c hc
          omega⟩
    · rw [led_off d fun r hr z => h ⟨r, hr, z⟩] at hx
      exact T.has i a x ha hx
  · rw [led_sp k l hw, T.rest k h1 h2, if_neg (by omega), if_neg (by omega)]
    rfl
  · rw [led_sp 1 l hw]
    simp
end EK

/-! PK1: loops by a measure; the levels of the program's nets. -/
namespace EK
section
variable {σ : Type}
/-- a loop: as long as it goes -/
def runW (go : σ → Bool) (step : σ → σ) : Nat → σ → σ
  | 0, s => s
  | k + 1, s => if go s = true then runW go step k (step s) else s
variable {go : σ → Bool} {step : σ → σ} {I : σ → Prop} {μ : σ → Nat}
theorem runW_stop {s : σ} (h : go s = false) : ∀ k, runW go step k s = s
  | 0 => rfl
  | k + 1 => by unfold runW; rw [h]; rfl
theorem runW_more (hs : ∀ s, I s → go s = true → I (step s) ∧ μ (step s) < μ s) : ∀ (k : Nat) {s : σ} {j : Nat}, I s → μ s ≤ k → μ s ≤ j → runW go step k s = runW go step j s
  | 0, s, j, h, hk, hj => by
    cases e : go s with
    | true => have := (hs s h e).2; omega
    | false => rw [runW_stop e, runW_stop e]
  | k + 1, s, j, h, hk, hj => by
    cases e : go s with
    | false => rw [runW_stop e, runW_stop e]
    | true =>
      obtain ⟨h1, h2⟩ := hs s h e
      cases j with
      | zero => omega
      | succ j =>
        unfold runW
        rw [e, if_pos rfl, if_pos rfl]
        exact runW_more hs k h1 (by omega) (by omega)
/-- one turn more -/
theorem runW_next (hs : ∀ s, I s → go s = true → I (step s) ∧ μ (step s) < μ s) {s : σ} (h : I s) (g : go s = true) : runW go step (μ s) s = runW go step (μ (step s)) (step s) := by
  obtain ⟨h1, h2⟩ := hs s h g
  obtain ⟨k, e⟩ : ∃ k, μ s = k + 1 := ⟨μ s - 1, by omega⟩
  rw [e]
  show (if go s = true then runW go step k (step s) else s) = _
  rw [g, if_pos rfl]
  exact runW_more hs k h1 (by omega) (Nat.le_refl _)
theorem runW_end (hs : ∀ s, I s → go s = true → I (step s) ∧ μ (step s) < μ s) : ∀ (k : Nat) {s : σ}, I s → μ s ≤ k → I (runW go step k s) ∧ go (runW go step k s) = false
  | 0, s, h, hk => by
    cases e : go s with
    | true => have := (hs s h e).2; omega
    | false => exact ⟨h, e⟩
  | k + 1, s, h, hk => by
    cases e : go s with
    | false => rw [runW_stop e]; exact ⟨h, e⟩
    | true =>
      obtain ⟨h1, h2⟩ := hs s h e
      unfold runW
      rw [e, if_pos rfl]
      exact runW_end hs k h1 (by omega)
end
theorem getD_set {α : Type} (l : List α) (i j : Nat) (x d : α) : (l.set i x).getD j d = if i = j ∧ j < l.length then x else l.getD j d := by
  rw [List.getD_eq_getElem?_getD, List.getD_eq_getElem?_getD, List.getElem?_set]
  by_cases h : i = j
  · subst h
    by_cases h2 : i < l.length
    · simp [h2]
    · simp [h2, List.getElem?_eq_none (Nat.le_of_not_lt h2)]
  · simp [h]
def negs (L : List Int) : Nat := (L.filter fun x => decide (x < 0)).length
theorem negs_set : ∀ {L : List Int} {i : Nat} {y : Int}, i < L.length → L.getD i 0 < 0 → 0 ≤ y → negs (L.set i y) + 1 = negs L
  | a :: L, 0, y, _, h, hy => by
    have h : a < 0 := h
    unfold negs
    rw [List.set_cons_zero, List.filter_cons, List.filter_cons, if_neg (by simpa using hy), if_pos (by simpa using h)]
    rfl
  | a :: L, i + 1, y, hl, h, hy => by
    have ih := negs_set (L := L) (i := i) (y := y) (by simpa using hl) (by simpa using h) hy
    unfold negs at ih ⊢
    rw [List.set_cons_succ, List.filter_cons, List.filter_cons]
    split
    · simp only [List.length_cons]; omega
    · exact ih
/-- the room of a side: E holds the sums of both sides -/
def room (E xs : List Int) (e : Nat) : Int := if e % 2 = 0 then E.getD (e / 2) 0 - xs.getD (e / 2) 0 else xs.getD (e / 2) 0
def outs (as : List Arc) (u : Nat) : List Nat := (List.range (2 * as.length)).filter fun e => decide (sSrc as e = u)
theorem mem_outs {as : List Arc} {u e : Nat} : e ∈ outs as u ↔ e < 2 * as.length ∧ sSrc as e = u := by
  unfold outs
  rw [List.mem_filter, List.mem_range, decide_eq_true_eq]
section
variable (as : List Arc) (rm : Nat → Int)
def lvSide (u : Nat) (st : List Int × List Nat) (e : Nat) : List Int × List Nat := if 0 < rm e ∧ st.1.getD (sDst as e) 0 < 0 then (st.1.set (sDst as e) (st.1.getD u 0 + 1), st.2 ++ [sDst as e]) else st
def lvNode (st : List Int × List Nat) (u : Nat) : List Int × List Nat := (outs as u).foldl (lvSide as rm u) st
def lvRound (st : List Int × List Nat) : List Int × List Nat := st.2.foldl (lvNode as rm) (st.1, [])
def lvGo (st : List Int × List Nat) : Bool := decide (st.2 ≠ [] ∧ st.1.getD 1 0 < 0)
def lvMu (st : List Int × List Nat) : Nat := negs st.1 + (if st.2 = [] then 0 else 1)
def lv0 (n : Nat) : List Int × List Nat := ((List.replicate n (-1)).set 0 0, [0])
def levels (n : Nat) : List Int := (runW lvGo (lvRound as rm) (lvMu (lv0 n)) (lv0 n)).1
/-- amid the search: W is yet to be done -/
structure Lv (n : Nat) (L : List Int) (W : List Nat) : Prop where
  len : L.length = n
  zero : L.getD 0 0 = 0
  low : ∀ v, -1 ≤ L.getD v 0
  pred : ∀ v, v < n → v ≠ 0 → 0 ≤ L.getD v 0 → ∃ e, e < 2 * as.length ∧ sDst as e = v ∧ 0 < rm e ∧ 0 ≤ L.getD (sSrc as e) 0 ∧ L.getD v 0 = L.getD (sSrc as e) 0 + 1
  fr : ∀ u ∈ W, u < n ∧ 0 ≤ L.getD u 0
  done : ∀ u, u < n → 0 ≤ L.getD u 0 → u ∉ W → ∀ e, e < 2 * as.length → sSrc as e = u → 0 < rm e → 0 ≤ L.getD (sDst as e) 0
end
section
variable {as : List Arc} {rm : Nat → Int} {n : Nat}
def Keeps (L L' : List Int) : Prop := ∀ v, 0 ≤ L.getD v 0 → L'.getD v 0 = L.getD v 0
theorem Keeps.trans {L L' L'' : List Int} (h : Keeps L L') (g : Keeps L' L'') : Keeps L L'' := fun v hv => by rw [g v (by rw [h v hv]; exact hv), h v hv]
theorem lvSide_ok (hn : ∀ e, e < 2 * as.length → sSrc as e < n ∧ sDst as e < n) {W0 R : List Nat} {L : List Int} {u e : Nat} (P : Lv as rm n L (W0 ++ R)) (hu : u < n) (h0 : 0 ≤ L.getD u 0) (he : e < 2 * as.length) (es : sSrc as e = u) :
    Lv as rm n (lvSide as rm u (L, R) e).1 (W0 ++ (lvSide as rm u (L, R) e).2) ∧ Keeps L (lvSide as rm u (L, R) e).1 ∧ (0 < rm e → 0 ≤ (lvSide as rm u (L, R) e).1.getD (sDst as e) 0) ∧ negs (lvSide as rm u (L, R) e).1 + (lvSide as rm u (L, R) e).2.length = negs L + R.length := by
  unfold lvSide
  by_cases h : 0 < rm e ∧ L.getD (sDst as e) 0 < 0
  · rw [if_pos h]
    have hd := (hn e he).2
    have kp : Keeps L (L.set (sDst as e) (L.getD u 0 + 1)) := fun v hv => by
      rw [getD_set, if_neg (fun z => by rw [← z.1] at hv; omega)]
    have at' : (L.set (sDst as e) (L.getD u 0 + 1)).getD (sDst as e) 0 = L.getD u 0 + 1 := by rw [getD_set, if_pos ⟨rfl, by rw [P.len]; exact hd⟩]
    refine ⟨⟨by rw [List.length_set]; exact P.len, by rw [kp 0 (by rw [P.zero]; decide)]; exact P.zero, fun v => ?_, fun v hv v0 hL => ?_, fun w hw => ?_, fun w hw hL hW e' he' es' hr => ?_⟩, kp, fun _ => ?_, ?_⟩
    · show -1 ≤ (L.set (sDst as e) (L.getD u 0 + 1)).getD v 0
      rw [getD_set]
      split
      · omega
      · exact P.low v
    · have hL : 0 ≤ (L.set (sDst as e) (L.getD u 0 + 1)).getD v 0 := hL
      show ∃ e', _ ∧ _ ∧ _ ∧ 0 ≤ (L.set (sDst as e) (L.getD u 0 + 1)).getD _ 0 ∧ (L.set (sDst as e) (L.getD u 0 + 1)).getD v 0 = (L.set (sDst as e) (L.getD u 0 + 1)).getD _ 0 + 1
      by_cases hv' : sDst as e = v
      · refine ⟨e, he, hv', h.1, by rw [es, kp u h0]; exact h0, ?_⟩
        rw [← hv', at', es, kp u h0]
      · have e1 : (L.set (sDst as e) (L.getD u 0 + 1)).getD v 0 = L.getD v 0 := by rw [getD_set, if_neg (fun z => hv' z.1)]
        rw [e1] at hL ⊢
        obtain ⟨e', p1, p2, p3, p4, p5⟩ := P.pred v hv v0 hL
        exact ⟨e', p1, p2, p3, by rw [kp _ p4]; exact p4, by rw [kp _ p4]; exact p5⟩
    · show w < n ∧ 0 ≤ (L.set (sDst as e) (L.getD u 0 + 1)).getD w 0
      have hw : w ∈ W0 ++ (R ++ [sDst as e]) := hw
      rw [← List.append_assoc] at hw
      rcases List.mem_append.mp hw with hw | hw
      · obtain ⟨q1, q2⟩ := P.fr w hw
        exact ⟨q1, by rw [kp w q2]; exact q2⟩
      · rw [List.mem_singleton.mp hw, at']
        exact ⟨hd, by omega⟩
    · show 0 ≤ (L.set (sDst as e) (L.getD u 0 + 1)).getD _ 0
      have hW : w ∉ W0 ++ (R ++ [sDst as e]) := hW
      rw [← List.append_assoc] at hW
      have n1 : w ≠ sDst as e := fun z => hW (List.mem_append_right _ (List.mem_singleton.mpr z))
      have hL : 0 ≤ (L.set (sDst as e) (L.getD u 0 + 1)).getD w 0 := hL
      rw [getD_set, if_neg (fun z => n1 z.1.symm)] at hL
      have := P.done w hw hL (fun z => hW (List.mem_append_left _ z)) e' he' es' hr
      rw [kp _ this]
      exact this
    · show 0 ≤ (L.set (sDst as e) (L.getD u 0 + 1)).getD _ 0
      rw [at']
      omega
    · show negs (L.set (sDst as e) (L.getD u 0 + 1)) + (R ++ [sDst as e]).length = _
      have := negs_set (L := L) (i := sDst as e) (y := L.getD u 0 + 1) (by rw [P.len]; exact hd) h.2 (by omega)
      rw [List.length_append]
      show _ + (R.length + 1) = _
      omega
  · rw [if_neg h]
    refine ⟨P, fun _ _ => rfl, fun hr => ?_, rfl⟩
    have : ¬ L.getD (sDst as e) 0 < 0 := fun z => h ⟨hr, z⟩
    show 0 ≤ L.getD (sDst as e) 0
    omega
theorem lvSides_ok (hn : ∀ e, e < 2 * as.length → sSrc as e < n ∧ sDst as e < n) {W0 : List Nat} {u : Nat} (hu : u < n) : ∀ {es : List Nat} {L : List Int} {R : List Nat}, Lv as rm n L (W0 ++ R) → 0 ≤ L.getD u 0 → (∀ e ∈ es, e < 2 * as.length ∧ sSrc as e = u) →
    Lv as rm n (es.foldl (lvSide as rm u) (L, R)).1 (W0 ++ (es.foldl (lvSide as rm u) (L, R)).2) ∧ Keeps L (es.foldl (lvSide as rm u) (L, R)).1 ∧ (∀ e ∈ es, 0 < rm e → 0 ≤ (es.foldl (lvSide as rm u) (L, R)).1.getD (sDst as e) 0) ∧ negs (es.foldl (lvSide as rm u) (L, R)).1 + (es.foldl (lvSide as rm u) (L, R)).2.length = negs L + R.length
  | [], L, R, P, _, _ => ⟨P, fun _ _ => rfl, (fun _ z => nomatch z), rfl⟩
  | e :: es, L, R, P, h0, hes => by
    obtain ⟨he, es'⟩ := hes e List.mem_cons_self
    obtain ⟨p1, p2, p3, p4⟩ := lvSide_ok hn P hu h0 he es'
    rw [List.foldl_cons]
    generalize lvSide as rm u (L, R) e = st at p1 p2 p3 p4 ⊢
    obtain ⟨L1, R1⟩ := st
    obtain ⟨q1, q2, q3, q4⟩ := lvSides_ok hn hu (es := es) (L := L1) (R := R1) p1 (by rw [p2 u h0]; exact h0) fun x hx => hes x (List.mem_cons_of_mem _ hx)
    refine ⟨q1, p2.trans q2, fun x hx hr => ?_, q4.trans p4⟩
    rcases List.mem_cons.mp hx with rfl | hx
    · have := p3 hr
      rw [q2 _ this]
      exact this
    · exact q3 x hx hr
theorem lvNode_ok (hn : ∀ e, e < 2 * as.length → sSrc as e < n ∧ sDst as e < n) {W0 R : List Nat} {L : List Int} {u : Nat} (P : Lv as rm n L (u :: W0 ++ R)) :
    Lv as rm n (lvNode as rm (L, R) u).1 (W0 ++ (lvNode as rm (L, R) u).2) ∧ Keeps L (lvNode as rm (L, R) u).1 ∧ negs (lvNode as rm (L, R) u).1 + (lvNode as rm (L, R) u).2.length = negs L + R.length := by
  obtain ⟨hu, h0⟩ := P.fr u List.mem_cons_self
  obtain ⟨q1, q2, q3, q4⟩ := lvSides_ok hn (W0 := u :: W0) hu P h0 (es := outs as u) fun e he => mem_outs.mp he
  refine ⟨⟨q1.len, q1.zero, q1.low, q1.pred, fun w hw => q1.fr w (List.mem_cons_of_mem _ hw), fun w hw hL hW e he es hr => ?_⟩, q2, q4⟩
  by_cases z : w = u
  · rw [z] at es
    exact q3 e (mem_outs.mpr ⟨he, es⟩) hr
  · exact q1.done w hw hL (fun m => (List.mem_cons.mp m).elim z hW) e he es hr
theorem lvNodes_ok (hn : ∀ e, e < 2 * as.length → sSrc as e < n ∧ sDst as e < n) : ∀ {F : List Nat} {L : List Int} {R : List Nat}, Lv as rm n L (F ++ R) →
    Lv as rm n (F.foldl (lvNode as rm) (L, R)).1 (F.foldl (lvNode as rm) (L, R)).2 ∧ Keeps L (F.foldl (lvNode as rm) (L, R)).1 ∧ negs (F.foldl (lvNode as rm) (L, R)).1 + (F.foldl (lvNode as rm) (L, R)).2.length = negs L + R.length
  | [], L, R, P => ⟨P, fun _ _ => rfl, rfl⟩
  | u :: F, L, R, P => by
    obtain ⟨p1, p2, p3⟩ := lvNode_ok hn (W0 := F) P
    rw [List.foldl_cons]
    generalize lvNode as rm (L, R) u = st at p1 p2 p3 ⊢
    obtain ⟨L1, R1⟩ := st
    obtain ⟨q1, q2, q3⟩ := lvNodes_ok hn (F := F) p1
    exact ⟨q1, p2.trans q2, q3.trans p3⟩
theorem lvRound_ok (hn : ∀ e, e < 2 * as.length → sSrc as e < n ∧ sDst as e < n) (st : List Int × List Nat) (P : Lv as rm n st.1 st.2) (g : lvGo st = true) : Lv as rm n (lvRound as rm st).1 (lvRound as rm st).2 ∧ lvMu (lvRound as rm st) < lvMu st := by
  obtain ⟨q1, q2, q3⟩ := lvNodes_ok hn (F := st.2) (L := st.1) (R := []) (by rw [List.append_nil]; exact P)
  have g : st.2 ≠ [] ∧ st.1.getD 1 0 < 0 := of_decide_eq_true g
  refine ⟨q1, ?_⟩
  unfold lvMu
  rw [if_neg g.1]
  have q3 : negs (lvRound as rm st).1 + (lvRound as rm st).2.length = negs st.1 + 0 := q3
  split
  · omega
  · rename_i z
    have := List.length_pos_iff.mpr z
    omega
theorem lv0_ok (h2 : 2 ≤ n) : Lv as rm n (lv0 n).1 (lv0 n).2 := by
  have at' : ∀ v, (lv0 n).1.getD v 0 = if v = 0 then 0 else if v < n then -1 else 0 := fun v => by
    show ((List.replicate n (-1 : Int)).set 0 0).getD v 0 = _
    rw [getD_set, List.length_replicate]
    by_cases h : v = 0
    · rw [if_pos ⟨h.symm, by omega⟩, if_pos h]
    · rw [if_neg (fun z => h z.1.symm), if_neg h, List.getD_eq_getElem?_getD, List.getElem?_replicate]
      split <;> rfl
  refine ⟨?_, by rw [at']; rfl, fun v => ?_, fun v hv v0 hL => ?_, fun u hu => ?_, fun u hu hL hW => ?_⟩
  · show ((List.replicate n (-1 : Int)).set 0 0).length = n
    rw [List.length_set, List.length_replicate]
  · rw [at']
    split
    · decide
    · split <;> decide
  · rw [at', if_neg v0, if_pos hv] at hL
    exact absurd hL (by decide)
  · rw [List.mem_singleton.mp (show u ∈ [0] from hu), at']
    exact ⟨by omega, Int.le_refl _⟩
  · have : u ≠ 0 := fun z => hW (by rw [z]; exact List.mem_singleton.mpr rfl)
    rw [at', if_neg this, if_pos hu] at hL
    exact absurd hL (by decide)
/-- what the levels are in the end -/
theorem levels_ok (hn : ∀ e, e < 2 * as.length → sSrc as e < n ∧ sDst as e < n) (h2 : 2 ≤ n) : ∃ F, Lv as rm n (levels as rm n) F ∧ ((levels as rm n).getD 1 0 < 0 → F = []) := by
  obtain ⟨q1, q2⟩ := runW_end (I := fun st => Lv as rm n st.1 st.2) (μ := lvMu) (lvRound_ok hn) (lvMu (lv0 n)) (s := lv0 n) (lv0_ok h2) (Nat.le_refl _)
  refine ⟨_, q1, fun h => ?_⟩
  have q2 : ¬ (_ ≠ [] ∧ _ < (0 : Int)) := of_decide_eq_false q2
  exact Decidable.byContradiction fun z => q2 ⟨z, h⟩
/-- what spreads along tight sides with room comes to all that is reached -/
theorem Lv.spread {L : List Int} {W : List Nat} (P : Lv as rm n L W) (hn : ∀ e, e < 2 * as.length → sSrc as e < n ∧ sDst as e < n) {D : Nat → Prop} (d0 : D 0) (ds : ∀ e, e < 2 * as.length → D (sSrc as e) → 0 < rm e → 0 ≤ L.getD (sSrc as e) 0 → L.getD (sDst as e) 0 = L.getD (sSrc as e) 0 + 1 → D (sDst as e)) :
    ∀ (k v : Nat), v < n → 0 ≤ L.getD v 0 → (L.getD v 0).toNat ≤ k → D v := by
  intro k
  induction k with
  | zero =>
    intro v hv h0 hk
    by_cases z : v = 0
    · rw [z]; exact d0
    · obtain ⟨e, p1, p2, p3, p4, p5⟩ := P.pred v hv z h0
      omega
  | succ k ih =>
    intro v hv h0 hk
    by_cases z : v = 0
    · rw [z]; exact d0
    · obtain ⟨e, p1, p2, p3, p4, p5⟩ := P.pred v hv z h0
      have := ds e p1 (ih _ (hn e p1).1 p4 (by omega)) p3 p4 (by rw [p2]; exact p5)
      rwa [p2] at this
end
end EK

/-! PK2: filling along the levels, pure: trails. -/
namespace EK
def rwOf (as : List Arc) (e : Nat) : Rw := (sSrc as e, sDst as e, e / 2, decide (e % 2 = 0))
theorem rwOf_ok {as : List Arc} {e : Nat} (he : e < 2 * as.length) : RwOk as (rwOf as e) := by
  have lt : e / 2 < as.length := by omega
  refine ⟨as[e / 2].2.2, ?_⟩
  show as[e / 2]? = _
  rw [List.getElem?_eq_getElem lt]
  unfold rwOf sSrc sDst
  rw [List.getElem?_eq_getElem lt]
  by_cases h : e % 2 = 0
  · simp [h]
  · simp [h]
theorem sd_flip {as : List Arc} {e e' : Nat} (h : e / 2 = e' / 2) (n : e ≠ e') : sSrc as e = sDst as e' ∧ sDst as e = sSrc as e' := by
  have m : e % 2 = 0 ∧ e' % 2 ≠ 0 ∨ e % 2 ≠ 0 ∧ e' % 2 = 0 := by omega
  unfold sSrc sDst
  rw [h]
  cases as[e' / 2]? with
  | none => exact ⟨rfl, rfl⟩
  | some a => rcases m with ⟨m1, m2⟩ | ⟨m1, m2⟩ <;> simp [m1, m2]
/-- up the levels -/
def Tr (as : List Arc) (L : List Int) : Nat → List Nat → Nat → Prop
  | u, [], v => u = v
  | u, e :: w, v => sSrc as e = u ∧ L.getD (sDst as e) 0 = L.getD u 0 + 1 ∧ Tr as L (sDst as e) w v
section
variable {as : List Arc} {L : List Int}
theorem Tr.up : ∀ {w : List Nat} {u v : Nat}, Tr as L u w v → ∀ e ∈ w, L.getD u 0 ≤ L.getD (sSrc as e) 0 ∧ L.getD (sDst as e) 0 = L.getD (sSrc as e) 0 + 1
  | e' :: w, u, v, h, e, he => by
    obtain ⟨h1, h2, h3⟩ := h
    rcases List.mem_cons.mp he with rfl | he
    · rw [h1]
      exact ⟨Int.le_refl _, h2⟩
    · obtain ⟨q1, q2⟩ := Tr.up h3 e he
      exact ⟨by omega, q2⟩
theorem Tr.nodup : ∀ {w : List Nat} {u v : Nat}, Tr as L u w v → (w.map (· / 2)).Nodup
  | [], _, _, _ => List.nodup_nil
  | e :: w, u, v, h => by
    obtain ⟨h1, h2, h3⟩ := h
    rw [List.map_cons, List.nodup_cons]
    refine ⟨fun m => ?_, Tr.nodup h3⟩
    obtain ⟨e', he', q⟩ := List.mem_map.mp m
    obtain ⟨p1, p2⟩ := h3.up e' he'
    by_cases z : e' = e
    · rw [z, h1] at p1
      omega
    · obtain ⟨f1, f2⟩ := sd_flip (as := as) q z
      rw [f1, f2, h1] at p2
      omega
theorem Tr.snd : ∀ {w : List Nat} {u v : Nat}, Tr as L u w v → (w.map (sSrc as)).Nodup
  | [], _, _, _ => List.nodup_nil
  | e :: w, u, v, h => by
    obtain ⟨h1, h2, h3⟩ := h
    rw [List.map_cons, List.nodup_cons]
    refine ⟨fun m => ?_, Tr.snd h3⟩
    obtain ⟨e', he', q⟩ := List.mem_map.mp m
    obtain ⟨p1, p2⟩ := h3.up e' he'
    rw [q, h1] at p1
    omega
theorem Tr.way : ∀ {w : List Nat} {u v : Nat}, Tr as L u w v → (∀ e ∈ w, e < 2 * as.length) → Way as u (w.map (rwOf as)) v
  | [], _, _, h, _ => h
  | e :: w, u, v, h, k => ⟨rwOf_ok (k e List.mem_cons_self), h.1, Tr.way h.2.2 fun x hx => k x (List.mem_cons_of_mem _ hx)⟩
theorem Tr.snoc {e : Nat} : ∀ {w : List Nat} {u v : Nat}, Tr as L u w v → sSrc as e = v → L.getD (sDst as e) 0 = L.getD v 0 + 1 → Tr as L u (w ++ [e]) (sDst as e)
  | [], u, v, h, h1, h2 => by
    cases (show u = v from h)
    exact ⟨h1, h2, rfl⟩
  | x :: w, u, v, h, h1, h2 => ⟨h.1, h.2.1, Tr.snoc h.2.2 h1 h2⟩
theorem Tr.back {e : Nat} : ∀ {w : List Nat} {u v : Nat}, Tr as L u (w ++ [e]) v → Tr as L u w (sSrc as e) ∧ sDst as e = v ∧ L.getD (sDst as e) 0 = L.getD (sSrc as e) 0 + 1
  | [], u, v, h => by
    obtain ⟨h1, h2, h3⟩ := h
    exact ⟨h1.symm, h3, by rw [h1]; exact h2⟩
  | x :: w, u, v, h => by
    obtain ⟨q1, q2⟩ := Tr.back (w := w) h.2.2
    exact ⟨⟨h.1, h.2.1, q1⟩, q2⟩
theorem Tr.last : ∀ {w : List Nat} {u v : Nat}, Tr as L u w v → w ≠ [] → ∃ e w', w = w' ++ [e] ∧ sDst as e = v := fun {w u v} h hn => by
  obtain ⟨w', e, rfl⟩ : ∃ w' e, w = w' ++ [e] := ⟨w.dropLast, w.getLast hn, (List.dropLast_concat_getLast hn).symm⟩
  exact ⟨e, w', rfl, h.back.2.1⟩
end
/-- the least of them -/
def minR : List Int → Int
  | [] => 0
  | x :: l => l.foldl min x
theorem foldl_min : ∀ (l : List Int) (x : Int), l.foldl min x ≤ x ∧ (∀ y ∈ l, l.foldl min x ≤ y) ∧ (l.foldl min x = x ∨ l.foldl min x ∈ l)
  | [], x => ⟨Int.le_refl _, (fun _ z => nomatch z), .inl rfl⟩
  | y :: l, x => by
    obtain ⟨h1, h2, h3⟩ := foldl_min l (min x y)
    have e : min x y ≤ x ∧ min x y ≤ y ∧ (min x y = x ∨ min x y = y) := by omega
    refine ⟨?_, fun z hz => ?_, ?_⟩
    · show l.foldl min (min x y) ≤ x
      omega
    · show l.foldl min (min x y) ≤ z
      rcases List.mem_cons.mp hz with rfl | hz
      · omega
      · exact h2 z hz
    · show l.foldl min (min x y) = x ∨ l.foldl min (min x y) ∈ y :: l
      rcases h3 with h3 | h3
      · rcases e.2.2 with e | e
        · left; rw [h3, e]
        · right; rw [h3, e]; exact List.mem_cons_self
      · right; exact List.mem_cons_of_mem _ h3
theorem minR_ok {l : List Int} (h : l ≠ []) : minR l ∈ l ∧ ∀ y ∈ l, minR l ≤ y := by
  cases l with
  | nil => exact absurd rfl h
  | cons x l =>
    obtain ⟨h1, h2, h3⟩ := foldl_min l x
    refine ⟨?_, fun y hy => ?_⟩
    · rcases h3 with h3 | h3
      · show l.foldl min x ∈ _; rw [h3]; exact List.mem_cons_self
      · exact List.mem_cons_of_mem _ h3
    · rcases List.mem_cons.mp hy with rfl | hy
      · exact h1
      · exact h2 y hy
theorem minR_is {l : List Int} {d : Int} (h : d ∈ l) (k : ∀ y ∈ l, d ≤ y) : minR l = d := by
  obtain ⟨h1, h2⟩ := minR_ok (l := l) (fun z => by rw [z] at h; cases h)
  have := h2 d h
  have := k _ h1
  omega
def addF (as : List Arc) (E xs : List Int) (w : List Nat) : List Int := led (minR (w.map (room E xs))) xs (w.map (rwOf as))
section
variable {as : List Arc} {E xs : List Int} {w : List Nat} {d : Int}
theorem arcs_eq : ((w.map (rwOf as)).map fun r => r.2.2.1) = w.map (· / 2) := by
  rw [List.map_map]
  rfl
theorem getD_of {l : List Int} {i : Nat} {x : Int} (h : l[i]? = some x) : l.getD i 0 = x := by rw [List.getD_eq_getElem?_getD, h]; rfl
theorem room_on {L : List Int} {u v : Nat} (h : Tr as L u w v) (lx : as.length = xs.length) {e : Nat} (he : e ∈ w) (hl : e < 2 * as.length) : room E (led d xs (w.map (rwOf as))) e = room E xs e - d := by
  have e1 := led_on d (r := rwOf as e) (w := w.map (rwOf as)) (ts := xs) (by rw [arcs_eq]; exact h.nodup) (List.mem_map.mpr ⟨e, he, rfl⟩) (by show e / 2 < _; omega)
  have e1 : (led d xs (w.map (rwOf as)))[e / 2]? = some (xs.getD (e / 2) 0 + (if decide (e % 2 = 0) = true then d else 0 - d)) := e1
  unfold room
  rw [getD_of e1]
  by_cases z : e % 2 = 0
  · simp only [z, decide_true, if_true]; omega
  · simp only [z, decide_false, if_false, Bool.false_eq_true]; omega
theorem room_off {e : Nat} (h : ∀ e' ∈ w, e' / 2 ≠ e / 2) : room E (led d xs (w.map (rwOf as))) e = room E xs e := by
  have e1 := led_off d (i := e / 2) (w := w.map (rwOf as)) (ts := xs) fun r hr => by
    obtain ⟨e', he', rfl⟩ := List.mem_map.mp hr
    exact h e' he'
  have e2 : (led d xs (w.map (rwOf as))).getD (e / 2) 0 = xs.getD (e / 2) 0 := by rw [List.getD_eq_getElem?_getD, e1, ← List.getD_eq_getElem?_getD]
  unfold room
  rw [e2]
theorem room_flip {L : List Int} {u v : Nat} (h : Tr as L u w v) (lx : as.length = xs.length) {e e' : Nat} (he : e' ∈ w) (hl : e' < 2 * as.length) (q : e' / 2 = e / 2) (n : e' ≠ e) : room E (led d xs (w.map (rwOf as))) e = room E xs e + d := by
  have e1 := led_on d (r := rwOf as e') (w := w.map (rwOf as)) (ts := xs) (by rw [arcs_eq]; exact h.nodup) (List.mem_map.mpr ⟨e', he, rfl⟩) (by show e' / 2 < _; omega)
  have e1 : (led d xs (w.map (rwOf as)))[e' / 2]? = some (xs.getD (e' / 2) 0 + (if decide (e' % 2 = 0) = true then d else 0 - d)) := e1
  rw [q] at e1
  unfold room
  rw [getD_of e1]
  have m : e % 2 = 0 ∧ ¬ e' % 2 = 0 ∨ ¬ e % 2 = 0 ∧ e' % 2 = 0 := by omega
  rcases m with ⟨m1, m2⟩ | ⟨m1, m2⟩
  · simp only [m1, m2, decide_false, if_true, if_false, Bool.false_eq_true]; omega
  · simp only [m1, m2, decide_true, if_true, if_false]
end
end EK

/-! PK3: filling along the levels, pure. -/
namespace EK
structure FS where
  xs : List Int
  tried : List Nat
  trail : List Nat
  here : Nat
section
variable (as : List Arc) (E : List Int) (L : List Int)
def fillGo (s : FS) : Bool := decide (s.tried.getD 0 0 < (outs as 0).length)
def bump (t : List Nat) (u : Nat) : List Nat := t.set u (t.getD u 0 + 1)
def fillStep (s : FS) : FS :=
  if s.here = 1 then ⟨addF as E s.xs s.trail, s.tried, [], 0⟩
  else if s.tried.getD s.here 0 = (outs as s.here).length then
    ⟨s.xs, bump s.tried (sSrc as (s.trail.getLastD 0)), s.trail.dropLast, sSrc as (s.trail.getLastD 0)⟩
  else
    let e := (outs as s.here).getD (s.tried.getD s.here 0) 0
    if 0 < room E s.xs e ∧ L.getD (sDst as e) 0 = L.getD s.here 0 + 1 then ⟨s.xs, s.tried, s.trail ++ [e], sDst as e⟩
    else ⟨s.xs, bump s.tried s.here, s.trail, s.here⟩
/-- tight sides with room -/
def tights (xs : List Int) : Nat := ((List.range (2 * as.length)).filter fun e => decide (0 < room E xs e ∧ L.getD (sDst as e) 0 = L.getD (sSrc as e) 0 + 1)).length
/-- what is untried -/
def untried (n : Nat) (t : List Nat) : Nat := ((List.range n).map fun u => (outs as u).length - t.getD u 0).sum
def bigF (n : Nat) : Nat := (untried as n [] + 1) * (n + 1) + n + 1
def fillMu (n : Nat) (s : FS) : Nat := tights as E L s.xs * bigF as n + untried as n s.tried * (n + 1) + (n - s.trail.length)
def Dd (t : List Nat) (v : Nat) : Prop := v ≠ 1 ∧ (outs as v).length ≤ t.getD v 0
/-- a THROUGH with its rooms -/
structure Fw (n : Nat) (xs : List Int) : Prop where
  thr : Thr n as xs
  lenE : E.length = as.length
  cap : ∀ i a c, as[i]? = some a → a.2.2 = some c → E.getD i 0 = c
  nn : ∀ e, e < 2 * as.length → 0 ≤ room E xs e
structure Fl (n : Nat) (x0 : List Int) (s : FS) : Prop where
  tl : s.tried.length = n
  hn : s.here < n
  tr : Tr as L 0 s.trail s.here
  low : ∀ e ∈ s.trail, e < 2 * as.length
  pos : ∀ e ∈ s.trail, 0 < room E s.xs e
  cur : ∀ e ∈ s.trail, (outs as (sSrc as e))[s.tried.getD (sSrc as e) 0]? = some e
  dead : ∀ u j e, u < n → (outs as u)[j]? = some e → j < s.tried.getD u 0 → 0 < room E s.xs e → L.getD (sDst as e) 0 = L.getD u 0 + 1 → Dd as s.tried (sDst as e)
  tm : ∀ u, u < n → s.tried.getD u 0 ≤ (outs as u).length
  fw : Fw as E n s.xs
  val : s.xs = x0 ∨ sp 1 as x0 < sp 1 as s.xs
  grow : ∀ i, s.xs.getD i 0 - x0.getD i 0 ≤ sp 1 as s.xs - sp 1 as x0
  in1 : ∀ i a, as[i]? = some a → a.2.1 = 1 → x0.getD i 0 ≤ s.xs.getD i 0
end
section
variable {as : List Arc} {E L x0 : List Int} {n : Nat}
theorem getN_of {l : List Nat} {i x : Nat} (h : l[i]? = some x) : l.getD i 0 = x := by rw [List.getD_eq_getElem?_getD, h]; rfl
theorem sub_len2 : ∀ {l m : List Nat}, l.Nodup → (∀ x ∈ l, x ∈ m) → l.length ≤ m.length
  | [], _, _, _ => Nat.zero_le _
  | x :: l, m, nd, h => by
    rw [List.nodup_cons] at nd
    have := sub_len2 (l := l) (m := m.erase x) nd.2 fun y hy => (List.mem_erase_of_ne (fun z => nd.1 (by rw [← z]; exact hy))).mpr (h y (List.mem_cons_of_mem _ hy))
    have hx := h x List.mem_cons_self
    rw [List.length_erase_of_mem hx] at this
    have := List.length_pos_of_mem hx
    rw [List.length_cons]
    omega
theorem Fl.short {s : FS} (F : Fl as E L n x0 s) (hn : ∀ e, e < 2 * as.length → sSrc as e < n ∧ sDst as e < n) : s.trail.length ≤ n := by
  have := sub_len2 F.tr.snd (m := List.range n) fun x hx => by
    obtain ⟨e, he, rfl⟩ := List.mem_map.mp hx
    exact List.mem_range.mpr (hn e (F.low e he)).1
  rwa [List.length_map, List.length_range] at this
theorem bump_at {t : List Nat} {u v : Nat} (h : u < t.length) : (bump t u).getD v 0 = if u = v then t.getD v 0 + 1 else t.getD v 0 := by
  unfold bump
  rw [getD_set]
  by_cases z : u = v
  · rw [if_pos ⟨z, by rw [← z]; exact h⟩, if_pos z, z]
  · rw [if_neg (fun y => z y.1), if_neg z]
theorem sum_le {f g : Nat → Nat} : ∀ {l : List Nat}, (∀ u ∈ l, f u ≤ g u) → (l.map f).sum ≤ (l.map g).sum
  | [], _ => Nat.le_refl _
  | x :: l, h => by
    have := sum_le (l := l) fun u hu => h u (List.mem_cons_of_mem _ hu)
    have := h x List.mem_cons_self
    simp only [List.map_cons, List.sum_cons]
    omega
theorem sum_lt {f g : Nat → Nat} {v : Nat} : ∀ {l : List Nat}, (∀ u ∈ l, f u ≤ g u) → v ∈ l → f v < g v → (l.map f).sum < (l.map g).sum
  | x :: l, h, hv, k => by
    have h1 := h x List.mem_cons_self
    simp only [List.map_cons, List.sum_cons]
    rcases List.mem_cons.mp hv with z | hv
    · rw [← z] at h1 ⊢
      have := sum_le (l := l) fun u hu => h u (List.mem_cons_of_mem _ hu)
      omega
    · have := sum_lt (l := l) (fun u hu => h u (List.mem_cons_of_mem _ hu)) hv k
      omega
theorem untried_bump {t : List Nat} {u : Nat} (h : u < n) (hl : t.length = n) (lt : t.getD u 0 < (outs as u).length) : untried as n (bump t u) < untried as n t := by
  unfold untried
  refine sum_lt (v := u) (fun w _ => ?_) (List.mem_range.mpr h) ?_
  · rw [bump_at (by omega)]
    split <;> omega
  · rw [bump_at (by omega), if_pos rfl]
    omega
theorem untried_le (t : List Nat) : untried as n t ≤ untried as n [] := by
  unfold untried
  refine sum_le fun u _ => ?_
  rw [show ([] : List Nat).getD u 0 = 0 from rfl]
  omega
theorem Dd.bump {t : List Nat} {u v : Nat} (hl : u < t.length) (h : Dd as t v) : Dd as (bump t u) v := by
  refine ⟨h.1, ?_⟩
  have := h.2
  rw [bump_at hl]
  split <;> omega
/-- one turn -/
theorem fill_ok (hn : ∀ e, e < 2 * as.length → sSrc as e < n ∧ sDst as e < n) (h2 : 2 ≤ n) (L0 : L.getD 0 0 = 0) (s : FS) (F : Fl as E L n x0 s) (g : fillGo as s = true) : Fl as E L n x0 (fillStep as E L s) ∧ fillMu as E L n (fillStep as E L s) < fillMu as E L n s := by
  have g : s.tried.getD 0 0 < (outs as 0).length := of_decide_eq_true g
  have sh := F.short hn
  have lx := F.fw.thr.len
  unfold fillStep
  by_cases c1 : s.here = 1
  · -- a way
    rw [if_pos c1]
    have htr := F.tr
    rw [c1] at htr
    have ne : s.trail ≠ [] := fun z => by rw [z] at htr; cases (show (0 : Nat) = 1 from htr)
    obtain ⟨m1, m2⟩ := minR_ok (l := s.trail.map (room E s.xs)) (fun z => ne (List.map_eq_nil_iff.mp z))
    obtain ⟨eb, heb, eqb⟩ := List.mem_map.mp m1
    have dpos : 0 < minR (s.trail.map (room E s.xs)) := by rw [← eqb]; exact F.pos eb heb
    have dle : ∀ e ∈ s.trail, minR (s.trail.map (room E s.xs)) ≤ room E s.xs e := fun e he => m2 _ (List.mem_map.mpr ⟨e, he, rfl⟩)
    have exs : addF as E s.xs s.trail = led (minR (s.trail.map (room E s.xs))) s.xs (s.trail.map (rwOf as)) := rfl
    rw [exs]
    generalize minR (s.trail.map (room E s.xs)) = d at eqb dpos dle
    have hway := htr.way F.low
    have rows : ∀ r ∈ s.trail.map (rwOf as), ∃ e ∈ s.trail, r = rwOf as e := fun r hr => by
      obtain ⟨e, he, rfl⟩ := List.mem_map.mp hr
      exact ⟨e, he, rfl⟩
    have onx : ∀ e ∈ s.trail, (led d s.xs (s.trail.map (rwOf as))).getD (e / 2) 0 = s.xs.getD (e / 2) 0 + (if e % 2 = 0 then d else 0 - d) := fun e he => by
      have e1 := led_on d (r := rwOf as e) (w := s.trail.map (rwOf as)) (ts := s.xs) (by rw [arcs_eq]; exact htr.nodup) (List.mem_map.mpr ⟨e, he, rfl⟩) (by show e / 2 < _; have := F.low e he; omega)
      have e1 : (led d s.xs (s.trail.map (rwOf as)))[e / 2]? = some (s.xs.getD (e / 2) 0 + (if decide (e % 2 = 0) = true then d else 0 - d)) := e1
      rw [getD_of e1]
      by_cases z : e % 2 = 0 <;> simp [z]
    have offx : ∀ i, (∀ e ∈ s.trail, e / 2 ≠ i) → (led d s.xs (s.trail.map (rwOf as))).getD i 0 = s.xs.getD i 0 := fun i hi => by
      have e1 := led_off d (i := i) (w := s.trail.map (rwOf as)) (ts := s.xs) fun r hr => by
        obtain ⟨e, he, rfl⟩ := List.mem_map.mp hr
        exact hi e he
      rw [List.getD_eq_getElem?_getD, e1, ← List.getD_eq_getElem?_getD]
    obtain ⟨T1, V1⟩ := thr_led (d := d) F.fw.thr hway (fun r hr => by obtain ⟨e, he, rfl⟩ := rows r hr; exact rwOf_ok (F.low e he)) (by rw [arcs_eq]; exact htr.nodup) (by omega) (fun r hr => by
      obtain ⟨e, he, rfl⟩ := rows r hr
      have k1 := dle e he
      unfold room at k1
      by_cases z : e % 2 = 0
      · rw [if_pos z] at k1
        rw [if_pos (show (rwOf as e).2.2.2 = true by simp [rwOf, z])]
        intro a c ha hc
        have := F.fw.cap _ a c ha hc
        have e3 : (rwOf as e).2.2.1 = e / 2 := rfl
        rw [e3] at this ⊢
        omega
      · rw [if_neg z] at k1
        rw [if_neg (show ¬ (rwOf as e).2.2.2 = true by simp [rwOf, z])]
        exact k1)
    -- a side's room behind it
    have rooms : ∀ e, e < 2 * as.length → (e ∈ s.trail ∧ room E (led d s.xs (s.trail.map (rwOf as))) e = room E s.xs e - d) ∨ (e ∉ s.trail ∧ (∃ e' ∈ s.trail, e' / 2 = e / 2 ∧ e' ≠ e) ∧ room E (led d s.xs (s.trail.map (rwOf as))) e = room E s.xs e + d) ∨ room E (led d s.xs (s.trail.map (rwOf as))) e = room E s.xs e := fun e he => by
      by_cases h : e ∈ s.trail
      · exact .inl ⟨h, room_on htr lx h he⟩
      · by_cases h' : ∃ e' ∈ s.trail, e' / 2 = e / 2
        · obtain ⟨e', he', q⟩ := h'
          have ne' : e' ≠ e := fun z => h (by rw [← z]; exact he')
          exact .inr (.inl ⟨h, ⟨e', he', q, ne'⟩, room_flip htr lx he' (F.low e' he') q ne'⟩)
        · exact .inr (.inr (room_off fun e' he' q => h' ⟨e', he', q⟩))
    have lvl : ∀ e, e < 2 * as.length → L.getD (sDst as e) 0 = L.getD (sSrc as e) 0 + 1 → room E (led d s.xs (s.trail.map (rwOf as))) e ≤ room E s.xs e := fun e he hL => by
      rcases rooms e he with ⟨_, q⟩ | ⟨_, ⟨e', he', q, ne'⟩, _⟩ | q
      · omega
      · obtain ⟨f1, f2⟩ := sd_flip (as := as) q ne'
        have := (htr.up e' he').2
        rw [f1, f2] at this
        omega
      · omega
    refine ⟨⟨F.tl, by show 0 < n; omega, rfl, (fun _ z => nomatch z), (fun _ z => nomatch z), (fun _ z => nomatch z), fun u j e hu hj hlt hr hL => ?_, F.tm, ⟨T1, F.fw.lenE, F.fw.cap, fun e he => ?_⟩, .inr ?_, fun i => ?_, fun i a ha h1 => ?_⟩, ?_⟩
    · have me := mem_outs.mp (List.mem_of_getElem? hj)
      have := lvl e me.1 (by rw [me.2]; exact hL)
      have hr : 0 < room E (led d s.xs (s.trail.map (rwOf as))) e := hr
      exact F.dead u j e hu hj hlt (by omega) hL
    · show 0 ≤ room E (led d s.xs (s.trail.map (rwOf as))) e
      have := F.fw.nn e he
      rcases rooms e he with ⟨h, q⟩ | ⟨_, _, q⟩ | q
      · have := dle e h
        omega
      · omega
      · omega
    · show sp 1 as x0 < sp 1 as (led d s.xs (s.trail.map (rwOf as)))
      rw [V1]
      rcases F.val with h | h
      · rw [h]; omega
      · omega
    · show (led d s.xs (s.trail.map (rwOf as))).getD i 0 - _ ≤ sp 1 as (led d s.xs (s.trail.map (rwOf as))) - _
      have := F.grow i
      rw [V1]
      by_cases h : ∃ e ∈ s.trail, e / 2 = i
      · obtain ⟨e, he, rfl⟩ := h
        rw [onx e he]
        split <;> omega
      · rw [offx i fun e he q => h ⟨e, he, q⟩]
        omega
    · show _ ≤ (led d s.xs (s.trail.map (rwOf as))).getD i 0
      have := F.in1 i a ha h1
      by_cases h : ∃ e ∈ s.trail, e / 2 = i
      · obtain ⟨e, he, rfl⟩ := h
        rw [onx e he]
        by_cases z : e % 2 = 0
        · rw [if_pos z]; omega
        · -- a side that leaves 1: not on the trail
          exfalso
          have es : sSrc as e = 1 := by
            unfold sSrc
            rw [ha]
            simp [z, h1]
          obtain ⟨w1, w2, ew⟩ := List.append_of_mem he
          have up := (htr.up e he).2
          have top : ∀ {w : List Nat} {u v : Nat}, Tr as L u w v → ∀ e ∈ w, L.getD (sDst as e) 0 ≤ L.getD v 0 := fun {w} => by
            induction w with
            | nil => exact fun _ _ z => nomatch z
            | cons x w ih =>
              intro u v h e he
              obtain ⟨h1, h2, h3⟩ := h
              rcases List.mem_cons.mp he with rfl | he
              · cases w with
                | nil => rw [show sDst as e = v from h3]; exact Int.le_refl _
                | cons y w =>
                  have a1 := ih h3 y List.mem_cons_self
                  have a2 := h3.2.1
                  have a3 := h3.1
                  omega
              · exact ih h3 e he
          have := top htr e he
          rw [es] at up
          omega
      · rw [offx i fun e he q => h ⟨e, he, q⟩]
        exact this
    · -- the measure
      have less : tights as E L (led d s.xs (s.trail.map (rwOf as))) < tights as E L s.xs := by
        unfold tights
        refine filter_lt (x := eb) (fun e he h => ?_) (List.mem_range.mpr (F.low eb heb)) ?_ ?_
        · have h := of_decide_eq_true h
          have := lvl e (List.mem_range.mp he) h.2
          exact decide_eq_true ⟨by omega, h.2⟩
        · exact decide_eq_true ⟨F.pos eb heb, (htr.up eb heb).2⟩
        · refine decide_eq_false fun h => ?_
          have := room_on (d := d) (E := E) htr lx heb (F.low eb heb)
          omega
      show tights as E L (led d s.xs (s.trail.map (rwOf as))) * bigF as n + untried as n s.tried * (n + 1) + (n - 0) < tights as E L s.xs * bigF as n + untried as n s.tried * (n + 1) + (n - s.trail.length)
      have h1 := Nat.mul_le_mul_right (bigF as n) less
      rw [Nat.succ_mul] at h1
      have h3 : n < bigF as n := by unfold bigF; omega
      omega
  · rw [if_neg c1]
    by_cases c2 : s.tried.getD s.here 0 = (outs as s.here).length
    · -- back
      rw [if_pos c2]
      have h0 : s.here ≠ 0 := fun z => by rw [z] at c2; omega
      have ne : s.trail ≠ [] := fun z => by
        have := F.tr
        rw [z] at this
        exact h0 (show (0 : Nat) = s.here from this).symm
      obtain ⟨e, w', ew, ed⟩ := F.tr.last ne
      have tr := F.tr
      rw [ew] at tr
      obtain ⟨t1, t2, t3⟩ := tr.back
      have em : e ∈ s.trail := by rw [ew]; exact List.mem_append_right _ (List.mem_singleton.mpr rfl)
      have hsrc := (hn e (F.low e em)).1
      have gl : s.trail.getLastD 0 = e := by rw [ew]; simp
      have dl : s.trail.dropLast = w' := by rw [ew]; simp
      rw [gl, dl]
      have sub : ∀ x ∈ w', x ∈ s.trail := fun x hx => by rw [ew]; exact List.mem_append_left _ hx
      have tlu : sSrc as e < s.tried.length := by rw [F.tl]; exact hsrc
      have lt : s.tried.getD (sSrc as e) 0 < (outs as (sSrc as e)).length := (List.getElem?_eq_some_iff.mp (F.cur e em)).1
      refine ⟨⟨by show (bump _ _).length = n; unfold bump; rw [List.length_set]; exact F.tl, hsrc, t1, fun x hx => F.low x (sub x hx), fun x hx => F.pos x (sub x hx), fun x hx => ?_, fun u j x hu hj hlt hr hL => ?_, fun u hu => ?_, F.fw, F.val, F.grow, F.in1⟩, ?_⟩
      · show (outs as (sSrc as x))[(bump s.tried (sSrc as e)).getD (sSrc as x) 0]? = some x
        have dif : sSrc as e ≠ sSrc as x := fun z => by
          have nd := F.tr.snd
          rw [ew, List.map_append, List.nodup_append] at nd
          exact nd.2.2 (sSrc as x) (List.mem_map.mpr ⟨x, hx, rfl⟩) (sSrc as e) (List.mem_map.mpr ⟨e, List.mem_singleton.mpr rfl, rfl⟩) z.symm
        rw [bump_at tlu, if_neg dif]
        exact F.cur x (sub x hx)
      · show Dd as (bump s.tried (sSrc as e)) (sDst as x)
        have hlt : j < (bump s.tried (sSrc as e)).getD u 0 := hlt
        rw [bump_at tlu] at hlt
        by_cases z : sSrc as e = u
        · rw [if_pos z] at hlt
          by_cases y : j < s.tried.getD u 0
          · exact (F.dead u j x hu hj y hr hL).bump tlu
          · have ej : j = s.tried.getD u 0 := by omega
            have := F.cur e em
            rw [z, ← ej, hj] at this
            cases this
            rw [t2]
            exact Dd.bump tlu ⟨c1, by omega⟩
        · rw [if_neg z] at hlt
          exact (F.dead u j x hu hj hlt hr hL).bump tlu
      · show (bump s.tried (sSrc as e)).getD u 0 ≤ _
        rw [bump_at tlu]
        have := F.tm u hu
        split
        · rename_i z
          rw [← z]
          omega
        · exact this
      · show tights as E L s.xs * bigF as n + untried as n (bump s.tried (sSrc as e)) * (n + 1) + (n - w'.length) < tights as E L s.xs * bigF as n + untried as n s.tried * (n + 1) + (n - s.trail.length)
        have h1 := Nat.mul_le_mul_right (n + 1) (untried_bump (as := as) hsrc F.tl lt)
        rw [Nat.succ_mul] at h1
        omega
    · rw [if_neg c2]
      have lt : s.tried.getD s.here 0 < (outs as s.here).length := by
        have := F.tm _ F.hn
        omega
      have at' : (outs as s.here)[s.tried.getD s.here 0]? = some ((outs as s.here).getD (s.tried.getD s.here 0) 0) := by
        have e := List.getElem?_eq_getElem lt
        rw [getN_of e]
        exact e
      show Fl as E L n x0 (if _ then _ else _) ∧ fillMu as E L n (if _ then _ else _) < _
      generalize (outs as s.here).getD (s.tried.getD s.here 0) 0 = e at at' ⊢
      have me := mem_outs.mp (List.mem_of_getElem? at')
      by_cases c3 : 0 < room E s.xs e ∧ L.getD (sDst as e) 0 = L.getD s.here 0 + 1
      · -- on
        rw [if_pos c3]
        have tr' := F.tr.snoc me.2 c3.2
        have F' : Fl as E L n x0 ⟨s.xs, s.tried, s.trail ++ [e], sDst as e⟩ := by
          refine ⟨F.tl, (hn e me.1).2, tr', fun x hx => ?_, fun x hx => ?_, fun x hx => ?_, F.dead, F.tm, F.fw, F.val, F.grow, F.in1⟩
          · rcases List.mem_append.mp hx with h | h
            · exact F.low x h
            · rw [List.mem_singleton.mp h]; exact me.1
          · rcases List.mem_append.mp hx with h | h
            · exact F.pos x h
            · rw [List.mem_singleton.mp h]; exact c3.1
          · rcases List.mem_append.mp hx with h | h
            · exact F.cur x h
            · rw [List.mem_singleton.mp h, me.2]; exact at'
        refine ⟨F', ?_⟩
        have := F'.short hn
        have this : (s.trail ++ [e]).length ≤ n := this
        rw [List.length_append] at this
        have this : s.trail.length + 1 ≤ n := this
        show tights as E L s.xs * bigF as n + untried as n s.tried * (n + 1) + (n - (s.trail ++ [e]).length) < tights as E L s.xs * bigF as n + untried as n s.tried * (n + 1) + (n - s.trail.length)
        rw [List.length_append]
        show _ + (n - (s.trail.length + 1)) < _
        omega
      · -- the next side
        rw [if_neg c3]
        have tlu : s.here < s.tried.length := by rw [F.tl]; exact F.hn
        refine ⟨⟨by show (bump _ _).length = n; unfold bump; rw [List.length_set]; exact F.tl, F.hn, F.tr, F.low, F.pos, fun x hx => ?_, fun u j x hu hj hlt hr hL => ?_, fun u hu => ?_, F.fw, F.val, F.grow, F.in1⟩, ?_⟩
        · show (outs as (sSrc as x))[(bump s.tried s.here).getD (sSrc as x) 0]? = some x
          have dif : s.here ≠ sSrc as x := fun z => by
            have lx' : L.getD (sSrc as x) 0 < L.getD s.here 0 := by
              have up := (F.tr.up x hx).2
              have top : ∀ {w : List Nat} {u v : Nat}, Tr as L u w v → ∀ e ∈ w, L.getD (sDst as e) 0 ≤ L.getD v 0 := fun {w} => by
                induction w with
                | nil => exact fun _ _ z => nomatch z
                | cons x w ih =>
                  intro u v h e he
                  obtain ⟨h1, h2, h3⟩ := h
                  rcases List.mem_cons.mp he with rfl | he
                  · cases w with
                    | nil => rw [show sDst as e = v from h3]; exact Int.le_refl _
                    | cons y w =>
                      have a1 := ih h3 y List.mem_cons_self
                      have a2 := h3.2.1
                      have a3 := h3.1
                      omega
                  · exact ih h3 e he
              have := top F.tr x hx
              omega
            rw [← z] at lx'
            omega
          rw [bump_at tlu, if_neg dif]
          exact F.cur x hx
        · show Dd as (bump s.tried s.here) (sDst as x)
          have hlt : j < (bump s.tried s.here).getD u 0 := hlt
          rw [bump_at tlu] at hlt
          by_cases z : s.here = u
          · rw [if_pos z] at hlt
            by_cases y : j < s.tried.getD u 0
            · exact (F.dead u j x hu hj y hr hL).bump tlu
            · have ej : j = s.tried.getD u 0 := by omega
              rw [← z] at ej hj hL
              rw [ej, at'] at hj
              cases hj
              exact absurd ⟨hr, hL⟩ c3
          · rw [if_neg z] at hlt
            exact (F.dead u j x hu hj hlt hr hL).bump tlu
        · show (bump s.tried s.here).getD u 0 ≤ _
          rw [bump_at tlu]
          have := F.tm u hu
          split
          · rename_i z
            rw [← z]
            omega
          · exact this
        · show tights as E L s.xs * bigF as n + untried as n (bump s.tried s.here) * (n + 1) + (n - s.trail.length) < tights as E L s.xs * bigF as n + untried as n s.tried * (n + 1) + (n - s.trail.length)
          have h1 := Nat.mul_le_mul_right (n + 1) (untried_bump (as := as) F.hn F.tl lt)
          rw [Nat.succ_mul] at h1
          omega
end
end EK

/-! PK4: grown, pure: it ends, and then no way is left. -/
namespace EK
section
variable (as : List Arc) (E : List Int) (n : Nat)
def fs0 (xs : List Int) : FS := ⟨xs, List.replicate n 0, [], 0⟩
def filledS (L : List Int) (xs : List Int) : FS := runW (fillGo as) (fillStep as E L) (fillMu as E L n (fs0 n xs)) (fs0 n xs)
def lvls (xs : List Int) : List Int := levels as (room E xs) n
def gGo (xs : List Int) : Bool := decide (0 < (lvls as E n xs).getD 1 0)
def gStep (xs : List Int) : List Int := (filledS as E n (lvls as E n xs) xs).xs
/-- what is asked of a net: the bounds leave a cut -/
structure Nt (S : Nat → Bool) : Prop where
  n2 : 2 ≤ n
  low : ∀ a ∈ as, a.1 < n ∧ a.2.1 < n
  s0 : S 0 = true
  s1 : S 1 = false
  fin : ∀ a ∈ as, S a.1 = true → S a.2.1 = false → a.2.2 ≠ none
end
section
variable {as : List Arc} {E : List Int} {n : Nat} {S : Nat → Bool}
theorem Nt.sides (N : Nt as n S) : ∀ e, e < 2 * as.length → sSrc as e < n ∧ sDst as e < n := fun e he => by
  have lt : e / 2 < as.length := by omega
  have q := List.getElem?_eq_getElem lt
  have m := N.low _ (List.getElem_mem lt)
  unfold sSrc sDst
  rw [q]
  by_cases z : e % 2 = 0
  · simp only [z, if_true]; exact m
  · simp only [z, if_false]; exact ⟨m.2, m.1⟩
theorem Thr.each {xs : List Int} (T : Thr n as xs) : ∀ p ∈ as.zip xs, In p.1 p.2 := fun p hp => by
  obtain ⟨i, hi, e⟩ := List.getElem_of_mem hp
  have e := (List.getElem?_eq_some_iff.mpr ⟨hi, e⟩)
  rw [List.getElem?_zip_eq_some] at e
  exact T.has i _ _ e.1 e.2
theorem Thr.pos {xs : List Int} (T : Thr n as xs) : ∀ x ∈ xs, 0 ≤ x := fun x hx => by
  obtain ⟨i, hi, e⟩ := List.getElem_of_mem hx
  have l := T.len
  have e2 := (List.getElem?_eq_some_iff.mpr ⟨hi, e⟩)
  exact (T.has i _ _ (List.getElem?_eq_getElem (show i < as.length by omega)) e2).1
/-- no THROUGH is more than the cut -/
theorem Nt.bound (N : Nt as n S) {xs : List Int} (T : Thr n as xs) : sp 1 as xs ≤ cut S as := by
  rw [value_net N.s0 N.s1 N.n2 N.low T.rest]
  exact net_le T.len T.pos (fun p hp c hc => (T.each p hp).2 c hc) N.fin
theorem fs0_ok (N : Nt as n S) {L xs : List Int} (F : Fw as E n xs) : Fl as E L n xs (fs0 n xs) := by
  have z : ∀ u, (List.replicate n 0).getD u 0 = 0 := fun u => by
    rw [List.getD_eq_getElem?_getD, List.getElem?_replicate]
    split <;> rfl
  have n2 := N.n2
  refine ⟨List.length_replicate, by show 0 < n; omega, rfl, (fun _ z => nomatch z), (fun _ z => nomatch z), (fun _ z => nomatch z), fun u j e hu hj hlt => ?_, fun u _ => ?_, F, .inl rfl, fun i => ?_, fun i a _ _ => Int.le_refl _⟩
  · have hlt : j < (List.replicate n 0).getD u 0 := hlt
    rw [z] at hlt
    omega
  · show (List.replicate n 0).getD u 0 ≤ _
    rw [z]
    omega
  · show xs.getD i 0 - xs.getD i 0 ≤ sp 1 as xs - sp 1 as xs
    omega
theorem lv_one {rm : Nat → Int} {L : List Int} {W : List Nat} (P : Lv as rm n L W) (n2 : 2 ≤ n) : L.getD 1 0 < 0 ∨ 0 < L.getD 1 0 := by
  by_cases h : L.getD 1 0 < 0
  · exact .inl h
  · obtain ⟨e, _, _, _, p4, p5⟩ := P.pred 1 (by omega) (by decide) (by omega)
    right
    omega
/-- filled: more than it was -/
theorem filled_ok (N : Nt as n S) {xs : List Int} (F : Fw as E n xs) (g : gGo as E n xs = true) : ∃ s, s = filledS as E n (lvls as E n xs) xs ∧ Fl as E (lvls as E n xs) n xs s ∧ fillGo as s = false ∧ sp 1 as xs < sp 1 as s.xs := by
  obtain ⟨W, P, PW⟩ := levels_ok (as := as) (rm := room E xs) N.sides N.n2
  have P : Lv as (room E xs) n (lvls as E n xs) W := P
  obtain ⟨q1, q2⟩ := runW_end (go := fillGo as) (step := fillStep as E (lvls as E n xs)) (I := Fl as E (lvls as E n xs) n xs) (μ := fillMu as E (lvls as E n xs) n) (fill_ok N.sides N.n2 P.zero) _ (fs0_ok N F) (Nat.le_refl _)
  refine ⟨_, rfl, q1, q2, ?_⟩
  rcases q1.val with h | h
  · exfalso
    have q2 : ¬ _ < _ := of_decide_eq_false q2
    have g : 0 < (lvls as E n xs).getD 1 0 := of_decide_eq_true g
    have n2 := N.n2
    have d1 := P.spread N.sides (D := Dd as (filledS as E n (lvls as E n xs) xs).tried) ⟨by decide, by unfold filledS; omega⟩ (fun e he hD hr h0 hL => by
      have em : e ∈ outs as (sSrc as e) := mem_outs.mpr ⟨he, rfl⟩
      obtain ⟨j, hj, ej⟩ := List.getElem_of_mem em
      have q3 := hD.2
      refine q1.dead (sSrc as e) j e (N.sides e he).1 (List.getElem?_eq_some_iff.mpr ⟨hj, ej⟩) (by unfold filledS at q3; omega) ?_ hL
      rw [h]
      exact hr) _ 1 (by omega) (by omega) (Nat.le_refl _)
    exact d1.1 rfl
  · exact h
/-- amid the growing, from x0 -/
structure Gr (as : List Arc) (E : List Int) (n : Nat) (x0 xs : List Int) : Prop where
  fw : Fw as E n xs
  up : sp 1 as x0 ≤ sp 1 as xs
  grow : ∀ i, xs.getD i 0 - x0.getD i 0 ≤ sp 1 as xs - sp 1 as x0
  in1 : ∀ i a, as[i]? = some a → a.2.1 = 1 → x0.getD i 0 ≤ xs.getD i 0
def gMu (as : List Arc) (S : Nat → Bool) (xs : List Int) : Nat := (cut S as - sp 1 as xs).toNat
theorem gr_step (N : Nt as n S) {x0 : List Int} (xs : List Int) (G : Gr as E n x0 xs) (g : gGo as E n xs = true) : Gr as E n x0 (gStep as E n xs) ∧ gMu as S (gStep as E n xs) < gMu as S xs := by
  obtain ⟨s, es, F, _, lt⟩ := filled_ok N G.fw g
  have e : gStep as E n xs = s.xs := by unfold gStep; rw [← es]
  rw [e]
  have b := N.bound F.fw.thr
  refine ⟨⟨F.fw, by have := G.up; omega, fun i => ?_, fun i a ha h1 => ?_⟩, ?_⟩
  · have := F.grow i
    have := G.grow i
    omega
  · have := F.in1 i a ha h1
    have := G.in1 i a ha h1
    omega
  · unfold gMu
    omega
def grownN (as : List Arc) (E : List Int) (n : Nat) (S : Nat → Bool) (x0 : List Int) : List Int := runW (gGo as E n) (gStep as E n) (gMu as S x0) x0
theorem gr_start {x0 : List Int} (F : Fw as E n x0) : Gr as E n x0 x0 := ⟨F, Int.le_refl _, fun i => by omega, fun i a _ _ => Int.le_refl _⟩
theorem grown_end (N : Nt as n S) {x0 : List Int} (F : Fw as E n x0) : Gr as E n x0 (grownN as E n S x0) ∧ gGo as E n (grownN as E n S x0) = false :=
  runW_end (I := Gr as E n x0) (μ := gMu as S) (gr_step N) _ (gr_start F) (Nat.le_refl _)
/-- the side that is reached -/
def sideOf (L : List Int) (v : Nat) : Bool := decide (0 ≤ L.getD v 0)
/-- no way is left: a greatest THROUGH, and its VALUE is the side's cut -/
theorem no_way (N : Nt as n S) {xs : List Int} (F : Fw as E n xs) (g : gGo as E n xs = false) (roomy : ∀ i a, as[i]? = some a → a.2.2 = none → xs.getD i 0 < E.getD i 0) :
    sideOf (lvls as E n xs) 0 = true ∧ sideOf (lvls as E n xs) 1 = false ∧ (∀ ys, Thr n as ys → sp 1 as ys ≤ sp 1 as xs) ∧ sp 1 as xs = cut (sideOf (lvls as E n xs)) as ∧ ∀ e, e < 2 * as.length → sideOf (lvls as E n xs) (sSrc as e) = true → 0 < room E xs e → sideOf (lvls as E n xs) (sDst as e) = true := by
  obtain ⟨W, P, PW⟩ := levels_ok (as := as) (rm := room E xs) N.sides N.n2
  have P : Lv as (room E xs) n (lvls as E n xs) W := P
  have g : ¬ 0 < (lvls as E n xs).getD 1 0 := of_decide_eq_false g
  have l1 : (lvls as E n xs).getD 1 0 < 0 := (lv_one P N.n2).elim id fun z => absurd z g
  have W0 : W = [] := PW l1
  have cl : ∀ e, e < 2 * as.length → sideOf (lvls as E n xs) (sSrc as e) = true → 0 < room E xs e → sideOf (lvls as E n xs) (sDst as e) = true := fun e he hs hr =>
    decide_eq_true (P.done _ (N.sides e he).1 (of_decide_eq_true hs) (by rw [W0]; exact (fun z => nomatch z)) e he rfl hr)
  have t0 : sideOf (lvls as E n xs) 0 = true := decide_eq_true (by rw [P.zero]; decide)
  have t1 : sideOf (lvls as E n xs) 1 = false := decide_eq_false (by omega)
  have key : ∀ p ∈ as.zip xs, (sideOf (lvls as E n xs) p.1.1 = true → sideOf (lvls as E n xs) p.1.2.1 = false → p.1.2.2 = some p.2) ∧ (sideOf (lvls as E n xs) p.1.1 = false → sideOf (lvls as E n xs) p.1.2.1 = true → p.2 = 0) := fun p hp => by
    obtain ⟨i, hi, e⟩ := List.getElem_of_mem hp
    have e := (List.getElem?_eq_some_iff.mpr ⟨hi, e⟩)
    rw [List.getElem?_zip_eq_some] at e
    obtain ⟨ea, ex⟩ := e
    have lt := (List.getElem?_eq_some_iff.mp ea).1
    have gx : xs.getD i 0 = p.2 := getD_of ex
    have ev : (2 * i) / 2 = i ∧ (2 * i) % 2 = 0 ∧ (2 * i + 1) / 2 = i ∧ (2 * i + 1) % 2 = 1 := by omega
    have b := F.thr.has i _ _ ea ex
    refine ⟨fun h1 h2 => ?_, fun h1 h2 => ?_⟩
    · have c := cl (2 * i) (by omega)
      unfold sSrc sDst room at c
      rw [ev.1, ev.2.1, ea] at c
      have c : sideOf (lvls as E n xs) p.1.1 = true → 0 < E.getD i 0 - xs.getD i 0 → sideOf (lvls as E n xs) p.1.2.1 = true := c
      cases hc : p.1.2.2 with
      | none =>
        have := c h1 (by have := roomy i _ ea hc; omega)
        rw [h2] at this
        cases this
      | some c0 =>
        have e0 := F.cap i _ c0 ea hc
        have b1 := b.2 c0 hc
        by_cases z : 0 < E.getD i 0 - xs.getD i 0
        · have := c h1 z
          rw [h2] at this
          cases this
        · congr 1
          omega
    · have c := cl (2 * i + 1) (by omega)
      unfold sSrc sDst room at c
      rw [ev.2.2.1, ev.2.2.2, ea] at c
      have c : sideOf (lvls as E n xs) p.1.2.1 = true → 0 < xs.getD i 0 → sideOf (lvls as E n xs) p.1.1 = true := c
      by_cases z : 0 < xs.getD i 0
      · have := c h2 z
        rw [h1] at this
        cases this
      · have b0 := b.1
        omega
  refine ⟨t0, t1, fun ys T => ?_, ?_, cl⟩
  · exact (greatest t0 t1 N.n2 N.low F.thr.len T.len F.thr.rest T.rest T.pos (fun p hp c hc => (T.each p hp).2 c hc) key).1
  · exact (greatest t0 t1 N.n2 N.low F.thr.len F.thr.len F.thr.rest F.thr.rest F.thr.pos (fun p hp c hc => (F.thr.each p hp).2 c hc) key).2
end
end EK

/-! PL1: the law's rows and ways, pure. -/
namespace Y
open PySem PySem.Spec PyProof.Rows L2 Ns
def sdR (r : Rw) : Nat := 2 * r.2.2.2.1 + (if r.2.2.2.2 = true then 0 else 1)
def toE (r : Rw) : EK.Rw := (r.1, r.2.1, r.2.2.2.1, r.2.2.2.2)
theorem side_toE (r : Rw) : EK.side (toE r) = sdR r := rfl
theorem mem_rows {rs : List Arc} {ts : List Int} {r : Rw} : ∀ {n : Nat}, r ∈ lawRows rs ts n → ∃ (i : Nat) (a : Arc) (z : Int), i < n ∧ rs[i]? = some a ∧ ts[i]? = some z ∧ ((0 < mostA a z ∧ r = (a.1, a.2.1, mostA a z, i, true)) ∨ (0 < z ∧ r = (a.2.1, a.1, z, i, false))) := fun {n} h => by
  unfold lawRows at h
  obtain ⟨i, hi, h⟩ := List.mem_flatMap.mp h
  have hi := List.mem_range.mp hi
  cases e1 : rs[i]? with
  | none => rw [e1] at h; cases h
  | some a =>
    cases e2 : ts[i]? with
    | none => rw [e1, e2] at h; cases h
    | some z =>
      rw [e1, e2] at h
      refine ⟨i, a, z, hi, e1, e2, ?_⟩
      have h : r ∈ rowsA i a z := h
      unfold rowsA at h
      rcases List.mem_append.mp h with h | h
      · split at h
        · rename_i c
          exact .inl ⟨c, List.mem_singleton.mp h⟩
        · cases h
      · split at h
        · rename_i c
          exact .inr ⟨c, List.mem_singleton.mp h⟩
        · cases h
theorem rows_mem {rs : List Arc} {ts : List Int} {n i : Nat} {a : Arc} {z : Int} (hi : i < n) (h1 : rs[i]? = some a) (h2 : ts[i]? = some z) {r : Rw} (h : (0 < mostA a z ∧ r = (a.1, a.2.1, mostA a z, i, true)) ∨ (0 < z ∧ r = (a.2.1, a.1, z, i, false))) : r ∈ lawRows rs ts n := by
  unfold lawRows
  refine List.mem_flatMap.mpr ⟨i, List.mem_range.mpr hi, ?_⟩
  rw [h1, h2]
  show r ∈ rowsA i a z
  unfold rowsA
  rcases h with ⟨c, rfl⟩ | ⟨c, rfl⟩
  · exact List.mem_append_left _ (by rw [if_pos c]; exact List.mem_singleton.mpr rfl)
  · exact List.mem_append_right _ (by rw [if_pos c]; exact List.mem_singleton.mpr rfl)
theorem toE_ok {rs : List Arc} {ts : List Int} {n : Nat} {r : Rw} (h : r ∈ lawRows rs ts n) : EK.RwOk rs (toE r) := by
  obtain ⟨i, a, z, _, h1, _, ⟨_, rfl⟩ | ⟨_, rfl⟩⟩ := mem_rows h
  · exact ⟨a.2.2, h1⟩
  · exact ⟨a.2.2, h1⟩
theorem sd_src {rs : List Arc} {ts : List Int} {n : Nat} {r : Rw} (h : r ∈ lawRows rs ts n) : EK.sSrc rs (sdR r) = rF r ∧ EK.sDst rs (sdR r) = rG r := ⟨EK.side_src (toE_ok h), EK.side_dst (toE_ok h)⟩
theorem sd_rm {rs : List Arc} {ts : List Int} {n : Nat} {r : Rw} (h : r ∈ lawRows rs ts n) : EK.rm rs ts (sdR r) := by
  obtain ⟨i, a, z, _, h1, h2, ⟨c, rfl⟩ | ⟨c, rfl⟩⟩ := mem_rows h
  · have e : sdR (a.1, a.2.1, mostA a z, i, true) / 2 = i ∧ sdR (a.1, a.2.1, mostA a z, i, true) % 2 = 0 := by
      show (2 * i + 0) / 2 = i ∧ (2 * i + 0) % 2 = 0
      omega
    refine ⟨a, z, by rw [e.1]; exact h1, by rw [e.1]; exact h2, ?_⟩
    rw [if_pos e.2]
    intro x hx
    unfold mostA at c
    rw [hx] at c
    have c : 0 < x - z := c
    omega
  · have e : sdR (a.2.1, a.1, z, i, false) / 2 = i ∧ sdR (a.2.1, a.1, z, i, false) % 2 = 1 := by
      show (2 * i + 1) / 2 = i ∧ (2 * i + 1) % 2 = 1
      omega
    refine ⟨a, z, by rw [e.1]; exact h1, by rw [e.1]; exact h2, ?_⟩
    rw [if_neg (by omega)]
    exact c
theorem rm_row {rs : List Arc} {ts : List Int} {e : Nat} (h : EK.rm rs ts e) : ∃ r ∈ lawRows rs ts rs.length, sdR r = e := by
  obtain ⟨a, z, h1, h2, h3⟩ := h
  have lt := (List.getElem?_eq_some_iff.mp h1).1
  by_cases q : e % 2 = 0
  · rw [if_pos q] at h3
    have c : 0 < mostA a z := by
      unfold mostA
      cases hc : a.2.2 with
      | none => show (0 : Int) < 10 ^ 30; decide
      | some x =>
        have := h3 x hc
        show 0 < x - z
        omega
    refine ⟨_, rows_mem lt h1 h2 (.inl ⟨c, rfl⟩), ?_⟩
    show 2 * (e / 2) + 0 = e
    omega
  · rw [if_neg q] at h3
    refine ⟨_, rows_mem lt h1 h2 (.inr ⟨h3, rfl⟩), ?_⟩
    show 2 * (e / 2) + 1 = e
    omega
theorem rm_is (rs : List Arc) (ts : List Int) : (fun e => ∃ r ∈ lawRows rs ts rs.length, sdR r = e) = EK.rm rs ts := by
  funext e
  exact propext ⟨fun ⟨r, hr, he⟩ => by rw [← he]; exact sd_rm hr, rm_row⟩
section
variable {m : Nat} {rs : List Arc} {ts : List Int}
theorem way_whole (m2 : 2 ≤ m) (low : ∀ a ∈ rs, a.1 < m ∧ a.2.1 < m) : EK.Whole rF rG (lawRows rs ts rs.length) 0 (wayS rs ts m) := by
  have B := EK.bf_at (f := rF) (g := rG) (rows := lawRows rs ts rs.length) (s := 0) m
  refine EK.Bf.whole B fun b hb => ?_
  obtain ⟨n1, n2⟩ := B.src b hb
  cases hr : b.2.2 with
  | none => rw [(n1 hr).1]; omega
  | some r =>
    obtain ⟨r1, r2, _⟩ := n2 r hr
    obtain ⟨i, a, z, _, h1, _, ⟨_, rfl⟩ | ⟨_, rfl⟩⟩ := mem_rows r1
    · rw [← r2]; exact (low a (List.mem_of_getElem? h1)).2
    · rw [← r2]; exact (low a (List.mem_of_getElem? h1)).1
theorem ent_at : ∀ {st : List (EK.Ent Rw)} {b : EK.Ent Rw}, (EK.ids st).Nodup → b ∈ st → ent st b.1 = b.2.2
  | e :: st, b, nd, hb => by
    have nd : (e.1 :: EK.ids st).Nodup := nd
    rw [List.nodup_cons] at nd
    unfold ent
    rw [List.find?_cons]
    rcases List.mem_cons.mp hb with rfl | hb
    · rw [beq_self_eq_true]
      rfl
    · have : (e.1 == b.1) = false := beq_eq_false_iff_ne.mpr fun z => nd.1 (List.mem_map.mpr ⟨b, hb, z.symm⟩)
      rw [this]
      exact ent_at nd.2 hb
theorem way_snoc {as : List Arc} {r : EK.Rw} : ∀ {w : List EK.Rw} {u v : Nat}, EK.Way as u w v → EK.RwOk as r → r.1 = v → EK.Way as u (w ++ [r]) r.2.1
  | [], u, v, h, k, e => ⟨k, e.trans (show u = v from h).symm, rfl⟩
  | x :: w, u, v, h, k, e => ⟨h.1, h.2.1, way_snoc h.2.2 k e⟩
/-- the way back from what was come to -/
theorem bk_ok {st : List (EK.Ent Rw)} (W : EK.Whole rF rG (lawRows rs ts rs.length) 0 st) : ∀ (k K : Nat) (b : EK.Ent Rw), b ∈ st → b.2.1 = k → k ≤ K →
    (bk st K b.1).length = k ∧ EK.Way rs 0 ((bk st K b.1).reverse.map toE) b.1 ∧ (∀ r ∈ bk st K b.1, r ∈ lawRows rs ts rs.length ∧ EK.lv st (rG r) ≤ k ∧ EK.lv st (rG r) = EK.lv st (rF r) + 1) ∧ ((bk st K b.1).map fun r => r.2.2.2.1).Nodup
  | 0, K, b, hb, e, hK => by
    obtain ⟨n1, n2⟩ := W.src b hb
    cases hr : b.2.2 with
    | some r => obtain ⟨_, _, a, _, _, e2⟩ := n2 r hr; omega
    | none =>
      have z : bk st K b.1 = [] := by
        cases K with
        | zero => rfl
        | succ K => show (match ent st b.1 with | some r => r :: bk st K r.1 | none => []) = []; rw [ent_at W.nd hb, hr]
      rw [z]
      exact ⟨rfl, ((n1 hr).1).symm, (fun _ y => nomatch y), List.nodup_nil⟩
  | k + 1, K, b, hb, e, hK => by
    obtain ⟨n1, n2⟩ := W.src b hb
    cases hr : b.2.2 with
    | none => have := (n1 hr).2; omega
    | some r =>
      obtain ⟨r1, r2, a, ha, ea, e2⟩ := n2 r hr
      obtain ⟨J, rfl⟩ : ∃ J, K = J + 1 := ⟨K - 1, by omega⟩
      obtain ⟨q1, q2, q3, q4⟩ := bk_ok W k J a ha (by omega) (by omega)
      have z : bk st (J + 1) b.1 = r :: bk st J r.1 := by show (match ent st b.1 with | some r => r :: bk st J r.1 | none => []) = _; rw [ent_at W.nd hb, hr]
      have ra : r.1 = a.1 := ea.symm
      rw [z, ra]
      have lb : EK.lv st (rG r) = k + 1 := by rw [r2, EK.lv_of W.nd hb, e]
      have la : EK.lv st (rF r) = k := by rw [← ea, EK.lv_of W.nd ha]; omega
      refine ⟨by rw [List.length_cons, q1], ?_, fun x hx => ?_, ?_⟩
      · rw [List.reverse_cons, List.map_append]
        have := way_snoc q2 (toE_ok r1) ra
        rw [← r2]
        exact this
      · rcases List.mem_cons.mp hx with rfl | hx
        · exact ⟨r1, by omega, by omega⟩
        · obtain ⟨p1, p2, p3⟩ := q3 x hx
          exact ⟨p1, by omega, p3⟩
      · rw [List.map_cons, List.nodup_cons]
        refine ⟨fun h => ?_, q4⟩
        obtain ⟨x, hx, ex⟩ := List.mem_map.mp h
        obtain ⟨p1, p2, p3⟩ := q3 x hx
        obtain ⟨i, a1, z1, _, g1, _, c1⟩ := mem_rows r1
        obtain ⟨j, a2, z2, _, g2, _, c2⟩ := mem_rows p1
        have ij : j = i := by
          rcases c1 with ⟨_, rfl⟩ | ⟨_, rfl⟩ <;> rcases c2 with ⟨_, rfl⟩ | ⟨_, rfl⟩ <;> exact ex
        subst ij
        rw [g1] at g2
        cases g2
        rcases c1 with ⟨_, rfl⟩ | ⟨_, rfl⟩ <;> rcases c2 with ⟨_, rfl⟩ | ⟨_, rfl⟩
        · have lb : EK.lv st a1.2.1 = k + 1 := lb
          have p2 : EK.lv st a1.2.1 ≤ k := p2
          omega
        · have la : EK.lv st a1.1 = k := la
          have lb : EK.lv st a1.2.1 = k + 1 := lb
          have p3 : EK.lv st a1.1 = EK.lv st a1.2.1 + 1 := p3
          omega
        · have la : EK.lv st a1.2.1 = k := la
          have lb : EK.lv st a1.1 = k + 1 := lb
          have p3 : EK.lv st a1.2.1 = EK.lv st a1.1 + 1 := p3
          omega
        · have lb : EK.lv st a1.1 = k + 1 := lb
          have p2 : EK.lv st a1.1 ≤ k := p2
          omega
/-- led does not mind the order -/
theorem led_rev {d : Int} {w : List EK.Rw} {xs : List Int} (nd : (w.map fun r => r.2.2.1).Nodup) : EK.led d xs w.reverse = EK.led d xs w := by
  have nr : (w.reverse.map fun r => r.2.2.1).Nodup := by rw [List.map_reverse]; exact (List.reverse_perm _).nodup_iff.mpr nd
  refine List.ext_getElem? fun i => ?_
  by_cases h : ∃ r ∈ w, r.2.2.1 = i
  · obtain ⟨r, hr, rfl⟩ := h
    by_cases hl : r.2.2.1 < xs.length
    · rw [EK.led_on d nr (List.mem_reverse.mpr hr) hl, EK.led_on d nd hr hl]
    · rw [List.getElem?_eq_none (by rw [EK.led_len]; omega), List.getElem?_eq_none (by rw [EK.led_len]; omega)]
  · rw [EK.led_off d fun r hr e => h ⟨r, List.mem_reverse.mp hr, e⟩, EK.led_off d fun r hr e => h ⟨r, hr, e⟩]
/-- the law's way to 1 -/
structure LW (m : Nat) (rs : List Arc) (ts : List Int) (w : List Rw) : Prop where
  ne : w ≠ []
  way : EK.Way rs 0 (w.reverse.map toE) 1
  row : ∀ r ∈ w, r ∈ lawRows rs ts rs.length
  nd : (w.map fun r => r.2.2.2.1).Nodup
  len : w.length < m
  least : ∀ q, EK.Chain (EK.sSrc rs) (EK.sDst rs) (EK.rm rs ts) 0 q 1 → w.length ≤ q.length
theorem law_way (m2 : 2 ≤ m) (low : ∀ a ∈ rs, a.1 < m ∧ a.2.1 < m) (h : 1 ∈ EK.ids (wayS rs ts m)) : LW m rs ts (bk (wayS rs ts m) m 1) := by
  have W := way_whole (ts := ts) m2 low
  obtain ⟨b, hb, eb⟩ := List.mem_map.mp h
  have lowB : ∀ b ∈ wayS rs ts m, b.1 < m := fun b hb => by
    obtain ⟨n1, n2⟩ := W.src b hb
    cases hr : b.2.2 with
    | none => rw [(n1 hr).1]; omega
    | some r =>
      obtain ⟨r1, r2, _⟩ := n2 r hr
      obtain ⟨i, a, z, _, h1, _, ⟨_, rfl⟩ | ⟨_, rfl⟩⟩ := mem_rows r1
      · rw [← r2]; exact (low a (List.mem_of_getElem? h1)).2
      · rw [← r2]; exact (low a (List.mem_of_getElem? h1)).1
  -- a level is less than m
  have lvl : ∀ (k : Nat) (b : EK.Ent Rw), b ∈ wayS rs ts m → b.2.1 = k → ∃ l : List Nat, l.length = k + 1 ∧ l.Nodup ∧ (∀ v ∈ l, v < m ∧ v ∈ EK.ids (wayS rs ts m) ∧ EK.lv (wayS rs ts m) v ≤ k) := fun k => by
    induction k with
    | zero => exact fun b hb e => ⟨[b.1], rfl, List.nodup_cons.mpr ⟨(fun z => nomatch z), List.nodup_nil⟩, fun v hv => by rw [List.mem_singleton.mp hv]; exact ⟨lowB b hb, List.mem_map.mpr ⟨b, hb, rfl⟩, by rw [EK.lv_of W.nd hb, e]; exact Nat.le_refl _⟩⟩
    | succ k ih =>
      intro b hb e
      obtain ⟨n1, n2⟩ := W.src b hb
      cases hr : b.2.2 with
      | none => have := (n1 hr).2; omega
      | some r =>
        obtain ⟨r1, r2, a, ha, ea, e2⟩ := n2 r hr
        obtain ⟨l, l1, l2, l3⟩ := ih a ha (by omega)
        refine ⟨b.1 :: l, by rw [List.length_cons, l1], List.nodup_cons.mpr ⟨fun z => ?_, l2⟩, fun v hv => ?_⟩
        · have := (l3 _ z).2.2
          rw [EK.lv_of W.nd hb] at this
          omega
        · rcases List.mem_cons.mp hv with rfl | hv
          · exact ⟨lowB b hb, List.mem_map.mpr ⟨b, hb, rfl⟩, by rw [EK.lv_of W.nd hb, e]; exact Nat.le_refl _⟩
          · obtain ⟨p1, p2, p3⟩ := l3 v hv
            exact ⟨p1, p2, by omega⟩
  obtain ⟨l, l1, l2, l3⟩ := lvl _ b hb rfl
  have short : b.2.1 + 1 ≤ m := by
    have := EK.sub_le l2 fun v hv => (l3 v hv).1
    omega
  obtain ⟨q1, q2, q3, q4⟩ := bk_ok W _ m b hb rfl (by omega)
  rw [eb] at q1 q2 q3 q4
  refine ⟨fun z => ?_, q2, fun r hr => (q3 r hr).1, q4, by omega, fun q c => ?_⟩
  · rw [z] at q2
    cases (show (0 : Nat) = 1 from q2)
  · have c2 : EK.Chain (EK.sSrc rs) (EK.sDst rs) (fun e => ∃ r ∈ lawRows rs ts rs.length, sdR r = e) 0 q 1 := by rw [rm_is]; exact c
    have := (W.least (sd := sdR) (fun r hr => (sd_src hr).1) (fun r hr => (sd_src hr).2) c2).2
    rw [← eb, EK.lv_of W.nd hb] at this
    omega
end
end Y

/-! PL2: a turn of the law's flow, pure. -/
namespace Y
open PySem PySem.Spec PyProof.Rows L2 Ns
section
variable {m : Nat} {rs : List Arc} {ts : List Int} {S : Nat → Bool} {w : List Rw}
theorem getz {i : Nat} {z : Int} (h : ts[i]? = some z) : ts.getD i 0 = z := EK.getD_of h
theorem rev_map : w.reverse.map toE = (w.map toE).reverse := List.map_reverse
theorem nd_toE (h : (w.map fun r => r.2.2.2.1).Nodup) : ((w.map toE).map fun r => r.2.2.1).Nodup := by
  rw [List.map_map]
  exact h
/-- with no more than there is room for -/
theorem turn_thr (T : EK.Thr m rs ts) (W : LW m rs ts w) {d : Int} (d0 : 0 ≤ d) (hd : ∀ r ∈ w, d ≤ r.2.2.1) : EK.Thr m rs (EK.led d ts (w.map toE)) ∧ EK.sp 1 rs (EK.led d ts (w.map toE)) = EK.sp 1 rs ts + d := by
  have e : EK.led d ts (w.reverse.map toE) = EK.led d ts (w.map toE) := by rw [rev_map, led_rev (nd_toE W.nd)]
  rw [← e]
  refine EK.thr_led T W.way (fun r hr => ?_) ?_ d0 (fun r hr => ?_)
  · obtain ⟨x, hx, rfl⟩ := List.mem_map.mp hr
    exact toE_ok (W.row x (List.mem_reverse.mp hx))
  · rw [rev_map, List.map_reverse]
    exact (List.reverse_perm _).nodup_iff.mpr (nd_toE W.nd)
  · obtain ⟨x, hx, rfl⟩ := List.mem_map.mp hr
    have hx := List.mem_reverse.mp hx
    have h1 := hd x hx
    obtain ⟨i, a, z, _, g1, g2, ⟨c, rfl⟩ | ⟨c, rfl⟩⟩ := mem_rows (W.row x hx)
    · rw [if_pos (show (toE (a.1, a.2.1, mostA a z, i, true)).2.2.2 = true from rfl)]
      intro b cc hb hc
      have hb : rs[i]? = some b := hb
      rw [g1] at hb
      cases hb
      have h1 : d ≤ mostA a z := h1
      unfold mostA at h1
      rw [hc] at h1
      have h1 : d ≤ cc - z := h1
      show ts.getD i 0 + d ≤ cc
      rw [getz g2]
      omega
    · rw [if_neg (show ¬ (toE (a.2.1, a.1, z, i, false)).2.2.2 = true from fun h => nomatch (show false = true from h))]
      show d ≤ ts.getD i 0
      rw [getz g2]
      exact h1
theorem cross {S : Nat → Bool} : ∀ {w : List EK.Rw} {u v : Nat}, EK.Way rs u w v → S u = true → S v = false → ∃ r ∈ w, S r.1 = true ∧ S r.2.1 = false
  | [], u, v, h, h1, h2 => by
    have h : u = v := h
    rw [h, h2] at h1
    cases h1
  | r :: w, u, v, h, h1, h2 => by
    obtain ⟨p1, p2, p3⟩ := h
    by_cases z : S r.2.1 = true
    · obtain ⟨x, hx, q⟩ := cross p3 z h2
      exact ⟨x, List.mem_cons_of_mem _ hx, q⟩
    · exact ⟨r, List.mem_cons_self, by rw [p2]; exact h1, by simpa using z⟩
/-- one turn is a step along a shortest way -/
theorem turn_step (N : EK.Nt rs m S) (T : EK.Thr m rs ts) (cap : ∀ a ∈ rs, ∀ c, a.2.2 = some c → c < 10 ^ 30) (tb : ∀ (i : Nat) (z : Int), ts[i]? = some z → z < 10 ^ 30) (W : LW m rs ts w) {d : Int} (hd : ∀ r ∈ w, d ≤ r.2.2.1) (hx : ∃ r ∈ w, r.2.2.1 = d) :
    EK.Step (EK.sSrc rs) (EK.sDst rs) (2 * rs.length) m 0 1 (EK.rm rs ts) (EK.rm rs (EK.led d ts (w.map toE))) := by
  have e : EK.led d ts (w.reverse.map toE) = EK.led d ts (w.map toE) := by rw [rev_map, led_rev (nd_toE W.nd)]
  rw [← e]
  have small : d < 10 ^ 30 := by
    obtain ⟨r, hr, s1, s2⟩ := cross W.way N.s0 N.s1
    obtain ⟨x, hx, rfl⟩ := List.mem_map.mp hr
    have hx := List.mem_reverse.mp hx
    have h1 := hd x hx
    obtain ⟨i, a, z, _, g1, g2, ⟨c, rfl⟩ | ⟨c, rfl⟩⟩ := mem_rows (W.row x hx)
    · have ha := List.mem_of_getElem? g1
      have nf := N.fin a ha s1 s2
      cases hc : a.2.2 with
      | none => exact absurd hc nf
      | some cc =>
        have h1 : d ≤ mostA a z := h1
        unfold mostA at h1
        rw [hc] at h1
        have h1 : d ≤ cc - z := h1
        have := cap a ha cc hc
        have := (T.has i a z g1 g2).1
        omega
    · have h1 : d ≤ z := h1
      have := tb i z g2
      omega
  refine EK.way_step T.len W.way (fun r hr => ?_) ?_ (fun r hr => ?_) (fun q c => ?_) ?_ ?_
  · obtain ⟨x, hx, rfl⟩ := List.mem_map.mp hr
    exact toE_ok (W.row x (List.mem_reverse.mp hx))
  · rw [rev_map, List.map_reverse]
    exact (List.reverse_perm _).nodup_iff.mpr (nd_toE W.nd)
  · obtain ⟨x, hx, rfl⟩ := List.mem_map.mp hr
    rw [side_toE]
    exact sd_rm (W.row x (List.mem_reverse.mp hx))
  · rw [List.length_map, List.length_reverse]
    exact W.least q c
  · rw [List.length_map, List.length_reverse]
    exact W.len
  · obtain ⟨x, hx, ex⟩ := hx
    refine ⟨toE x, List.mem_map.mpr ⟨x, List.mem_reverse.mpr hx, rfl⟩, ?_⟩
    obtain ⟨i, a, z, _, g1, g2, ⟨c, rfl⟩ | ⟨c, rfl⟩⟩ := mem_rows (W.row x hx)
    · unfold EK.rowRoom
      rw [if_pos (show (toE (a.1, a.2.1, mostA a z, i, true)).2.2.2 = true from rfl)]
      refine ⟨a, g1, ?_⟩
      have ex : mostA a z = d := ex
      show a.2.2 = some (ts.getD i 0 + d)
      rw [getz g2]
      unfold mostA at ex
      cases hc : a.2.2 with
      | none =>
        rw [hc] at ex
        have ex : (10 : Int) ^ 30 = d := ex
        omega
      | some cc =>
        rw [hc] at ex
        have ex : cc - z = d := ex
        congr 1
        omega
    · unfold EK.rowRoom
      rw [if_neg (show ¬ (toE (a.2.1, a.1, z, i, false)).2.2.2 = true from fun h => nomatch (show false = true from h))]
      have ex : z = d := ex
      show ts.getD i 0 = d
      rw [getz g2]
      exact ex
/-- what grows, grows by no more than the VALUE -/
theorem led_grow {d : Int} (d0 : 0 ≤ d) (nd : (w.map fun r => r.2.2.2.1).Nodup) (i : Nat) : (EK.led d ts (w.map toE)).getD i 0 ≤ ts.getD i 0 + d := by
  by_cases h : ∃ r ∈ w, r.2.2.2.1 = i ∧ i < ts.length
  · obtain ⟨r, hr, rfl, hl⟩ := h
    have := EK.led_on d (r := toE r) (nd_toE nd) (List.mem_map.mpr ⟨r, hr, rfl⟩) (ts := ts) hl
    have e : (EK.led d ts (w.map toE)).getD r.2.2.2.1 0 = ts.getD r.2.2.2.1 0 + (if r.2.2.2.2 = true then d else 0 - d) := EK.getD_of this
    rw [e]
    split <;> omega
  · by_cases hl : i < ts.length
    · have := EK.led_off d (i := i) (w := w.map toE) (ts := ts) fun r hr e => by
        obtain ⟨x, hx, rfl⟩ := List.mem_map.mp hr
        exact h ⟨x, hx, e, hl⟩
      rw [List.getD_eq_getElem?_getD, this, ← List.getD_eq_getElem?_getD]
      omega
    · rw [List.getD_eq_getElem?_getD, List.getElem?_eq_none (by rw [EK.led_len]; omega), List.getD_eq_getElem?_getD, List.getElem?_eq_none (by omega)]
      show (0 : Int) ≤ 0 + d
      omega
/-- no way is left: a greatest THROUGH -/
theorem law_end (N : EK.Nt rs m S) (T : EK.Thr m rs ts) (h : 1 ∉ EK.ids (wayS rs ts m)) : (∀ ys, EK.Thr m rs ys → EK.sp 1 rs ys ≤ EK.sp 1 rs ts) ∧ EK.sp 1 rs ts = EK.cut (fun v => decide (v ∈ EK.ids (wayS rs ts m))) rs := by
  have W := way_whole (ts := ts) N.n2 N.low
  have t0 : decide (0 ∈ EK.ids (wayS rs ts m)) = true := decide_eq_true (List.mem_map.mpr ⟨_, W.first, rfl⟩)
  have t1 : decide (1 ∈ EK.ids (wayS rs ts m)) = false := decide_eq_false h
  have cl : ∀ r ∈ lawRows rs ts rs.length, decide (rF r ∈ EK.ids (wayS rs ts m)) = true → decide (rG r ∈ EK.ids (wayS rs ts m)) = true := fun r hr hf => by
    obtain ⟨a, ha, ea⟩ := List.mem_map.mp (of_decide_eq_true hf)
    obtain ⟨b, hb, eb, _⟩ := W.done a ha r hr ea.symm
    exact decide_eq_true (List.mem_map.mpr ⟨b, hb, eb⟩)
  have key : ∀ p ∈ rs.zip ts, (decide (p.1.1 ∈ EK.ids (wayS rs ts m)) = true → decide (p.1.2.1 ∈ EK.ids (wayS rs ts m)) = false → p.1.2.2 = some p.2) ∧ (decide (p.1.1 ∈ EK.ids (wayS rs ts m)) = false → decide (p.1.2.1 ∈ EK.ids (wayS rs ts m)) = true → p.2 = 0) := fun p hp => by
    obtain ⟨i, hi, e⟩ := List.getElem_of_mem hp
    have e := (List.getElem?_eq_some_iff.mpr ⟨hi, e⟩)
    rw [List.getElem?_zip_eq_some] at e
    obtain ⟨ea, ex⟩ := e
    have lt := (List.getElem?_eq_some_iff.mp ea).1
    have b := T.has i _ _ ea ex
    refine ⟨fun h1 h2 => ?_, fun h1 h2 => ?_⟩
    · by_cases c : 0 < mostA p.1 p.2
      · have := cl _ (rows_mem lt ea ex (.inl ⟨c, rfl⟩)) h1
        have h2 : decide (p.1.2.1 ∈ EK.ids (wayS rs ts m)) = false := h2
        rw [show rG (p.1.1, p.1.2.1, mostA p.1 p.2, i, true) = p.1.2.1 from rfl, h2] at this
        cases this
      · unfold mostA at c
        cases hc : p.1.2.2 with
        | none =>
          rw [hc] at c
          exact absurd (show (0 : Int) < 10 ^ 30 by decide) c
        | some cc =>
          rw [hc] at c
          have c : ¬ 0 < cc - p.2 := c
          have := b.2 cc hc
          congr 1
          omega
    · by_cases c : 0 < p.2
      · have := cl _ (rows_mem lt ea ex (.inr ⟨c, rfl⟩)) h2
        rw [show rG (p.1.2.1, p.1.1, p.2, i, false) = p.1.1 from rfl, h1] at this
        cases this
      · have := b.1
        omega
  exact ⟨fun ys Y => (EK.greatest (S := fun v => decide (v ∈ EK.ids (wayS rs ts m))) t0 t1 N.n2 N.low T.len Y.len T.rest Y.rest Y.pos (fun p hp c hc => (Y.each p hp).2 c hc) key).1,
    (EK.greatest (S := fun v => decide (v ∈ EK.ids (wayS rs ts m))) t0 t1 N.n2 N.low T.len T.len T.rest T.rest T.pos (fun p hp c hc => (T.each p hp).2 c hc) key).2⟩
end
end Y

/-! NsFT: the sum of a tuple of numbers; every other item of a list. -/
namespace Ns
open PySem PySem.Spec PyProof.Rows L2
section
variable {prog : Program} {w : World} {A : Around} {E : Value → Shared → Prop} {s : Shared} {l : Addr}
theorem sum_tupraw {its : List Value} {ns : List Int} {Q : Value → Shared → Prop} (hh : A.handled = none) (hl : IsTup s.heap l its.toArray) (hi : IntsAre its ns)
    (h : ∀ h' tk t', (∀ b o, s.heap.get? b = some o → h'.get? b = some o) → Q (.int ns.sum t') { s with heap := h', toks := tk }) : wpAny (model prog w) A (call (.builtin "sum") [.ref l]) Q E s := by
  obtain ⟨xs, e⟩ := hi.allInts.items
  have hn : numsOf (intItems xs).toList = ns := by rw [← e]; exact hi.numsOf
  rw [nums_intItems] at hn
  rw [e] at hl
  have hlt : l < s.heap.objs.size := by obtain ⟨_, e, _⟩ := hl; exact Heap.lt_size e
  refine call_sum_walkG (iter_tuple hl ?_)
  refine ⟨_, [s.heap.objs.size, l], [s.heap.objs.size], _, _, _, numAt xs, rfl, Walks.tuple (A := A.in1) hh _ l (Nat.ne_of_lt hlt) (intItems xs), ?_, fun b hb => ?_, (fun _ _ => intItems_at), fun h' tk t' hk => ?_⟩
  · refine ⟨⟨_, Heap.get?_push_size _ rfl, rfl, rfl⟩, ?_⟩
    obtain ⟨o, h1, h2⟩ := hl
    exact ⟨o, Heap.get?_push_of_some _ h1, h2⟩
  · show b < (s.heap.push _).objs.size
    rw [Heap.size_push]
    rcases List.mem_cons.mp hb with rfl | hb
    · exact Nat.lt_succ_self _
    · rcases List.mem_cons.mp hb with rfl | hb
      · exact Nat.lt_succ_of_lt hlt
      · cases hb
  · have := h h' tk t' (fun b o e => by
      refine hk b o (fun hm => ?_) (Heap.get?_push_of_some _ e)
      rcases List.mem_cons.mp hm with e1 | hm
      · exact absurd (e1 ▸ Heap.lt_size e) (Nat.lt_irrefl _)
      · cases hm)
    rw [← hn] at this
    have sz : (intItems xs).size = xs.size := by simp [intItems]
    rw [sz, PySem.preSum_eq, List.take_of_length_le (by simp)]
    exact this
end
def rSumT (K : PySem.W.Frag) : List V → Hp → VK → Prop := fun vs H Q => ∃ (a : Addr) (ns : List Int), vs = [.ref a] ∧ SqT K H a (ns.map V.int) ∧ Q (.int ns.sum) H
theorem cr_sumT {X : Cx} (hc : X.calm = true) : CallR X (.builtin "sum") (rSumT X.K) := by
  intro pins s σ H vs us Q I r h
  obtain ⟨a, ns, rfl, hs, q⟩ := h
  obtain ⟨its, rv, hl, _⟩ := I.tuple hs
  rw [Vals.ref1 r]
  exact sum_tupraw (I.ok.hd hc) hl rv.ints fun h' tk t' hk => ⟨.int _, H, I.kept hk, ⟨_, rfl⟩, q⟩
def odds {α : Type} : List α → List α
  | _ :: b :: l => b :: odds l
  | _ => []
theorem odds_at {α : Type} : ∀ (l : List α) (j : Nat), (odds l)[j]? = l[2 * j + 1]?
  | [], j => by simp [odds]
  | [a], j => by simp [odds]
  | a :: b :: l, 0 => rfl
  | a :: b :: l, j + 1 => by
    show (odds l)[j]? = (a :: b :: l)[2 * (j + 1) + 1]?
    rw [odds_at l j, show 2 * (j + 1) + 1 = (2 * j + 1) + 1 + 1 by omega, List.getElem?_cons_succ, List.getElem?_cons_succ]
theorem odds_map {α : Type} (f : Nat → α) (k : Nat) : odds ((List.range (2 * k)).map f) = (List.range k).map fun j => f (2 * j + 1) := by
  refine List.ext_getElem? fun j => ?_
  rw [odds_at, List.getElem?_map, List.getElem?_map]
  by_cases h : j < k
  · rw [List.getElem?_range h, List.getElem?_range (by omega)]
    rfl
  · rw [List.getElem?_eq_none (by rw [List.length_range]; omega), List.getElem?_eq_none (by rw [List.length_range]; omega)]
    rfl
theorem vals_odds : ∀ {xs : List V} {us : List Value}, Vals xs us → Vals (odds xs) (odds us)
  | [], _, h => by cases h; exact .nil
  | [x], _, h => by
    cases h with
    | cons a t => cases t; exact .nil
  | x :: y :: xs, _, h => by
    cases h with
    | cons a t => cases t with
      | cons b t => exact .cons b (vals_odds t)
theorem pick_odds (its : List Value) {k : Nat} (h : its.length = 2 * k) : slicePick its.toArray (some 1) none (some 2) = (odds its).toArray := by
  have e1 : sliceRange (sliceBounds (some 1) none (some 2) its.toArray.size).1 (sliceBounds (some 1) none (some 2) its.toArray.size).2.1 (sliceBounds (some 1) none (some 2) its.toArray.size).2.2 = (List.range k).map fun j => 2 * j + 1 := by
    rw [List.size_toArray, h]
    have b1 : (sliceBounds (some 1) none (some 2) (2 * k)).1 = max 0 (min 1 ((2 * k : Nat) : Int)) := rfl
    have b2 : (sliceBounds (some 1) none (some 2) (2 * k)).2.1 = ((2 * k : Nat) : Int) := rfl
    have b3 : (sliceBounds (some 1) none (some 2) (2 * k)).2.2 = 2 := rfl
    rw [b1, b2, b3]
    unfold sliceRange
    rw [if_pos (by decide)]
    cases k with
    | zero => rfl
    | succ k =>
      have m : max 0 (min 1 ((2 * (k + 1) : Nat) : Int)) = 1 := by omega
      rw [m, if_pos (by omega)]
      have c : ((((2 * (k + 1) : Nat) : Int) - 1 + 2 - 1) / 2).toNat = k + 1 := by omega
      show List.map _ (List.range ((((2 * (k + 1) : Nat) : Int) - 1 + 2 - 1) / 2).toNat) = _
      rw [c]
      refine List.map_congr_left fun j _ => ?_
      omega
  unfold slicePick
  rw [e1]
  congr 1
  have e2 : ((List.range k).map fun j => 2 * j + 1).filterMap (fun i => its.toArray[i]?) = (List.range k).map fun j => its.getD (2 * j + 1) .none := by
    rw [List.filterMap_map]
    refine filterMap_some fun j hj => ?_
    have hj := List.mem_range.mp hj
    show its.toArray[2 * j + 1]? = some (its.getD (2 * j + 1) .none)
    rw [List.getElem?_toArray, List.getD_eq_getElem?_getD, List.getElem?_eq_getElem (by omega)]
    rfl
  refine Eq.trans e2 (List.ext_getElem? fun j => ?_)
  rw [odds_at, List.getElem?_map]
  by_cases hj : j < k
  · rw [List.getElem?_range hj, List.getElem?_eq_getElem (show 2 * j + 1 < its.length by omega)]
    show some (its.getD (2 * j + 1) .none) = _
    rw [List.getD_eq_getElem?_getD, List.getElem?_eq_getElem (show 2 * j + 1 < its.length by omega)]
    rfl
  · rw [List.getElem?_eq_none (by rw [List.length_range]; omega), List.getElem?_eq_none (by omega)]
    rfl
/-- xs[1::2], of even length -/
def tOdds (K : PySem.W.Frag) (te : TE) : TE := fun σ H Q => te σ H fun x H1 => ∃ (a : Addr) (xs : List V) (k : Nat), x = .ref a ∧ SqL K H1 a xs ∧ xs.length = 2 * k ∧ ∀ p, H1 p = none → Q (.ref p) (upd H1 p (.lst (odds xs)))
theorem pe_odds {X : Cx} {e : Expr} {te : TE} {j k : Nat} {p1 p2 p3 pos : Pos} (he : PE X e te) : PE X (.Subscript e (.Slice (some (.Constant (.int 1) j p1)) none (some (.Constant (.int 2) k p2)) p3) pos) (tOdds X.K te) := by
  constructor
  intro pins s σ H Q I h
  have st1 : PO X (some (.Constant (.int 1) j p1)) (tPart (tC (.int 1))) := po_some pe_int
  have st2 : PO X (some (.Constant (.int 2) k p2)) (tPart (tC (.int 2))) := po_some pe_int
  refine Subscript_ (thn (he.run pins s σ H _ I h) ?_)
  rintro v s1 ⟨x, H1, I1, r1, a, xs, n, rfl, hx, ln, q⟩
  cases (show v = Value.ref a from r1)
  refine wpAny_Slice (thn (st1.run pins s1 σ H1 (fun o H4 => o = some 1 ∧ H4 = H1) I1 ⟨1, rfl, rfl, rfl⟩) ?_)
  rintro vl s2 ⟨o, H2, I2, pl, rfl, rfl⟩
  refine wpAny_pure (thn (st2.run pins s2 σ H2 (fun o H4 => o = some 2 ∧ H4 = H2) I2 ⟨2, rfl, rfl, rfl⟩) ?_)
  rintro vs s4 ⟨o, H4, I4, ps, rfl, rfl⟩
  have I5 : Inv X pins σ H4 { s4 with heap := s4.heap.push { cls := .type "slice", data := .fields #[vl, .none, vs] } } := I4.kept (t' := s4.toks) fun b ob q => Heap.get?_push_of_some _ q
  obtain ⟨its, r, ht, hz⟩ := I5.list hx
  have lv := r.length
  show wpAny (model X.prog X.w) X.A (subscriptTail e (.Slice (some (.Constant (.int 1) j p1)) none (some (.Constant (.int 2) k p2)) p3) (.ref a) (.ref s4.heap.objs.size)) (EP X pins σ Q) X.xe { s4 with heap := s4.heap.push { cls := .type "slice", data := .fields #[vl, .none, vs] } }
  refine tail_any (ops := [.ref a, .ref s4.heap.objs.size]) ht.isList.typeIs (slot_list_getitem.lookup) ?_ (by with_unfolding_all rfl)
  refine wpAny_getItem_list_slice ht.isList (Heap.IsSliceOf.new _ vl .none vs) pl .none ps (by decide) ?_ (by rw [List.size_toArray, ← lv]; exact hz)
  rw [pick_odds its (by rw [← lv]; exact ln)]
  refine ⟨.ref _, _, I5.laid (t' := s4.toks) (o := .lst (odds xs)) (fun b ob q => Heap.get?_push_of_some _ q) (Nat.le_refl _) ?_, rfl, q _ (I5.hok.fresh (Nat.le_refl _))⟩
  have le : (odds xs).length ≤ sizeLine := by
    have : (odds xs).length ≤ xs.length := by
      have go : ∀ (l : List V), (odds l).length ≤ l.length := fun l => by
        induction l using odds.induct with
        | case1 a b l ih => show (odds l).length + 1 ≤ l.length + 1 + 1; omega
        | case2 l h => unfold odds; split <;> simp_all
      exact go xs
    omega
  exact ⟨le, _, 0, vals_odds r, Heap.get?_push_size _ rfl⟩
end Ns

/-! PN1: the program's nets: _ends, _rooms. -/
namespace Y
open PySem PySem.Spec PyProof.Rows L2 Ns
open C8 (pss_cut)
theorem sp_srp (k : Nat) : ∀ (as : List Arc) (ts : List Int), EK.sp k as ts = srp k as ts
  | [], _ => rfl
  | a :: as, [] => rfl
  | a :: as, t :: ts => by
    show _ + EK.sp k as ts = _ + srp k as ts
    rw [sp_srp k as ts]
theorem range_two {α : Type} (f : Nat → α) (i : Nat) : (List.range (2 * (i + 1))).map f = (List.range (2 * i)).map f ++ [f (2 * i)] ++ [f (2 * i + 1)] := by
  rw [show 2 * (i + 1) = 2 * i + 1 + 1 by omega, List.range_succ, List.range_succ, List.map_append, List.map_append]
  rfl
theorem src_even {rs : List Arc} {i : Nat} {r : Arc} (h : rs[i]? = some r) : EK.sSrc rs (2 * i) = r.1 ∧ EK.sDst rs (2 * i) = r.2.1 ∧ EK.sSrc rs (2 * i + 1) = r.2.1 ∧ EK.sDst rs (2 * i + 1) = r.1 := by
  have e1 : 2 * i / 2 = i ∧ 2 * i % 2 = 0 ∧ (2 * i + 1) / 2 = i ∧ (2 * i + 1) % 2 = 1 := by omega
  unfold EK.sSrc EK.sDst
  rw [e1.1, e1.2.1, e1.2.2.1, e1.2.2.2, h]
  exact ⟨rfl, rfl, rfl, rfl⟩
/-- the bounds there are, summed -/
def capSum (rs : List Arc) : Int := (rs.filterMap fun r => r.2.2).sum
/-- what both sides of an arc have together -/
def both (rs : List Arc) (ts : List Int) : List Int := (rs.zip ts).map fun p => match p.1.2.2 with | some c => c | none => 1 + capSum rs + ts.sum + p.2
def sidesV (f : Nat → Int) (n : Nat) : List V := (List.range n).map fun e => V.int (f e)
theorem sides_len (f : Nat → Int) (n : Nat) : (sidesV f n).length = n := by unfold sidesV; rw [List.length_map, List.length_range]
theorem sides_next (f : Nat → Int) (i : Nat) : sidesV f (2 * (i + 1)) = sidesV f (2 * i) ++ [V.int (f (2 * i))] ++ [V.int (f (2 * i + 1))] := range_two _ i
theorem sides_at (f : Nat → Int) {n e : Nat} (h : e < n) : (sidesV f n)[e]? = some (.int (f e)) := by unfold sidesV; rw [List.getElem?_map, List.getElem?_range h]; rfl
theorem both_at {rs : List Arc} {ts : List Int} {i : Nat} {r : Arc} {z : Int} (h : rs[i]? = some r) (g : ts[i]? = some z) : (both rs ts).getD i 0 = match r.2.2 with | some c => c | none => 1 + capSum rs + ts.sum + z := by
  have e : (rs.zip ts)[i]? = some (r, z) := by rw [List.getElem?_zip_eq_some]; exact ⟨h, g⟩
  unfold both
  rw [List.getD_eq_getElem?_getD, List.getElem?_map, e]
  rfl
theorem room_even {rs : List Arc} {ts : List Int} {i : Nat} {r : Arc} {z : Int} (h : rs[i]? = some r) (g : ts[i]? = some z) : EK.room (both rs ts) ts (2 * i) = (match r.2.2 with | some c => c - z | none => 1 + capSum rs + ts.sum) ∧ EK.room (both rs ts) ts (2 * i + 1) = z := by
  have e1 : 2 * i / 2 = i ∧ 2 * i % 2 = 0 ∧ (2 * i + 1) / 2 = i ∧ (2 * i + 1) % 2 = 1 := by omega
  have e2 : ts.getD i 0 = z := by rw [List.getD_eq_getElem?_getD, g]; rfl
  unfold EK.room
  rw [e1.1, e1.2.1, e1.2.2.1, e1.2.2.2, both_at h g, e2]
  refine ⟨?_, rfl⟩
  rw [if_pos rfl]
  cases r.2.2 with
  | none => show 1 + capSum rs + ts.sum + z - z = 1 + capSum rs + ts.sum; omega
  | some c => rfl
def spEnds (K : PySem.W.Frag) : Sp := fun as H Q _ => ∃ (y : V) (m : Nat) (rs : List Arc), as = [y] ∧ NetV K H y m rs ∧ rs.length ≤ 400 ∧
  ∀ (p : Addr) (H' : Hp), H' p = some (.lst (sidesV (fun e => (EK.sDst rs e : Int)) (2 * rs.length))) → H p = none → Same H H' → Q (.ref p) H'
def spRooms (K : PySem.W.Frag) : Sp := fun as H Q _ => ∃ (y : V) (a : Addr) (m : Nat) (rs : List Arc) (ts : List Int), as = [y, .ref a] ∧ NetV K H y m rs ∧ rs.length ≤ 400 ∧ SqT K H a (ts.map V.int) ∧ ts.length = rs.length ∧
  ∀ (p : Addr) (H' : Hp), H' p = some (.lst (sidesV (EK.room (both rs ts) ts) (2 * rs.length))) → H p = none → Same H H' → Q (.ref p) H'
section
variable {P : Program} {w : World} {K : PySem.W.Frag} {mg : Str → Option Value} {base : Heap}
theorem scEn : FnScope ["net", "ends", "start", "end", "cap"] ["net"] (defScope sEnds) := ⟨rfl, rfl, rfl, by decide +kernel, rfl, by decide +kernel, by decide +kernel⟩
theorem ok_ends {f : Addr} {fd : FuncData} (F : Fun K "_ends" "_ends" sEnds f fd) : FnOk P w K mg base CX0 1 f fd ["net"] (spEnds K) := by
  refine F.ok scEn (fun as H Q E h => ?_) (fun cdv A outer s H as Q E hr h => ?_)
  · obtain ⟨y, m, rs, rfl, _⟩ := h
    rfl
  · obtain ⟨y, m, rs, rfl, hN, hl, k⟩ := h
    refine ⟨_, (pss_cons (ps_set (i := 1) scEn.nd rfl (.inl rfl) (pe_lst pa_nil)) (pss_cons (ps_for PassesOwn.never rfl (pi_tup (pe_ix ix_tup (pv 0) pe_int (fun _ _ => rfl))) (pg_tup (by rfl) (pgs_cons (pg_name (i := 2) scEn.nd rfl (.inl rfl)) (pgs_cons (pg_name (i := 3) scEn.nd rfl (.inl rfl)) (pgs_cons (pg_name (i := 4) scEn.nd rfl (.inl rfl)) pgs_nil)))) (pss_cons (ps_expr (pe_bm PySem.F.plainAttrs_list PySem.F.slot_list_append PySem.F.type_list_append mt_append (pv 1) (pa_cons (pv 3) pa_nil))) (pss_one (ps_expr (pe_bm PySem.F.plainAttrs_list PySem.F.slot_list_append PySem.F.type_list_append mt_append (pv 1) (pa_cons (pv 2) pa_nil)))))) (pss_one (ps_ret (pv 1))))), ?_⟩
    obtain ⟨t, ra, xs, rfl, h1, h2, h3⟩ := hN
    have lx := paired_len h3
    refine ⟨by show 0 ≤ sizeLine; decide, fun p hp => ?_⟩
    have M0 := same_new (o := .lst []) (Same.refl H) hp
    refine ⟨_, rfl, t, _, 1, .ref ra, rfl, rfl, sqt_more M0 h1, at1, ra, rfl, ⟨_, sqt_more M0 h2⟩, ?_⟩
    refine for_tup (K := K) (a := ra) (xs := xs) (fun i σ H' => ∃ v2 v3 v4 : Option V, σ = [some (.ref t), some (.ref p), v2, v3, v4] ∧ H' p = some (.lst (sidesV (fun e => (EK.sDst rs e : Int)) (2 * i))) ∧ Same H H') ?_ ?_ ?_ ?_
    · exact ⟨none, none, none, rfl, upd_same, M0⟩
    · rintro i σ H' _ ⟨_, _, _, _, _, M⟩
      exact sqt_more M h2
    · rintro i x σ H' hx ⟨v2, v3, v4, rfl, e, M⟩
      obtain ⟨r, hr', q, rfl, hq⟩ := paired_at h3 hx
      have hi : i < rs.length := (List.getElem?_eq_some_iff.mp hr').1
      obtain ⟨s1, s2, s3, s4⟩ := src_even hr'
      have ln : (sidesV (fun e => (EK.sDst rs e : Int)) (2 * i)).length = 2 * i := by unfold sidesV; rw [List.length_map, List.length_range]
      refine ⟨q, _, rfl, sqt_more M hq, rfl, _, _, rfl, _, _, rfl, _, _, rfl, rfl, ?_⟩
      refine ⟨_, rfl, .inl ⟨rfl, _, SqL.of e⟩, _, rfl, p, _, _, rfl, rfl, e, small1000 (by omega), ?_⟩
      refine ⟨_, rfl, .inl ⟨rfl, _, SqL.of upd_same⟩, _, rfl, p, _, _, rfl, rfl, upd_same, small1000 (by rw [List.length_append, ln]; show 2 * i + 1 ≤ 1000; omega), ?_⟩
      refine ⟨_, _, _, rfl, ?_, ?_⟩
      · rw [upd_same, sides_next, s2, s4]
      · rw [upd_upd]
        exact same_put M hp
    · rintro σ H' ⟨v2, v3, v4, rfl, e, M⟩
      rw [lx] at e
      exact ⟨_, rfl, k p H' e hp M⟩
theorem scRm : FnScope ["net", "through", "start", "end", "cap", "endless", "rooms", "much"] ["net", "through"] (defScope sRooms) := ⟨rfl, rfl, rfl, by decide +kernel, rfl, by decide +kernel, by decide +kernel⟩
theorem caps_int (rs : List Arc) (i : Nat) : (rs.take i).filterMap (fun r => r.2.2) = (rs.take i).filterMap (fun r => r.2.2) := rfl
theorem ok_rooms {f : Addr} {fd : FuncData} (F : Fun K "_rooms" "_rooms" sRooms f fd) (T : Nat0 mg) : FnOk P w K mg base CX0 1 f fd ["net", "through"] (spRooms K) := by
  refine F.ok scRm (fun as H Q E h => ?_) (fun cdv A outer s H as Q E hr h => ?_)
  · obtain ⟨y, a, m, rs, ts, rfl, _⟩ := h
    rfl
  · obtain ⟨y, a, m, rs, ts, rfl, hN, hl, hT, lt, k⟩ := h
    refine ⟨_, (pss_cons (ps_set (i := 5) scRm.nd rfl (.inl rfl) (pe_op op_add (pe_op op_add pe_int (pe_callB (cr_sum rfl) (by rfl) T.sum (by decide +kernel) (pa_cons (pe_lc (own := [("start", 2), ("end", 3), ("cap", 4)]) (g := gTup K 3 (gCons (gName 2) (gCons (gName 3) (gCons (gName 4) gNil)))) rfl scRm.nd (pi_tup (pe_ix ix_tup (pv 0) pe_int (fun _ _ => rfl))) (blkOk_by (N := ["net", "through", "start", "end", "cap", "endless", "rooms", "much"]) (sc := defScope sRooms) (by decide +kernel)) (fun _ _ _ _ _ => (pg_tup (by rfl) (pgs_cons (pg_name (i := 2) scRm.nd rfl (.inl rfl)) (pgs_cons (pg_name (i := 3) scRm.nd rfl (.inl rfl)) (pgs_cons (pg_name (i := 4) scRm.nd rfl (.inl rfl)) pgs_nil))))) (fun _ _ _ _ _ => pts_one (pt_cmpR op_notN (pv 4) pe_non (nomark _))) (fun _ _ _ _ _ => pv 4)) pa_nil))) (pe_callB (cr_sumT rfl) (by rfl) T.sum (by decide +kernel) (pa_cons (pv 1) pa_nil)))) (pss_cons (ps_set (i := 6) scRm.nd rfl (.inl rfl) (pe_lst pa_nil)) (pss_cons (ps_for PassesOwn.never rfl (RZ.pi_zipA (by rfl) T.zip (pa_cons (pe_ix ix_tup (pv 0) pe_int (fun _ _ => rfl)) (pa_cons (pv 1) pa_nil))) (pg_tup rfl (pgs_cons (pg_tup (by rfl) (pgs_cons (pg_name (i := 2) scRm.nd rfl (.inl rfl)) (pgs_cons (pg_name (i := 3) scRm.nd rfl (.inl rfl)) (pgs_cons (pg_name (i := 4) scRm.nd rfl (.inl rfl)) pgs_nil)))) (pgs_cons (pg_name (i := 7) scRm.nd rfl (.inl rfl)) pgs_nil))) (pss_cons (ps_expr (pe_bm PySem.F.plainAttrs_list PySem.F.slot_list_append PySem.F.type_list_append mt_append (pv 6) (pa_cons (pe_ifExp (pt_cmpR op_isN (pv 4) pe_non (nomark _)) (pv 5) (pe_op op_sub (pv 4) (pv 7))) pa_nil))) (pss_one (ps_expr (pe_bm PySem.F.plainAttrs_list PySem.F.slot_list_append PySem.F.type_list_append mt_append (pv 6) (pa_cons (pv 7) pa_nil)))))) (pss_one (ps_ret (pv 6)))))), ?_⟩
    obtain ⟨t, ra, xs, rfl, h1, h2, h3⟩ := hN
    have lx := paired_len h3
    -- endless
    refine ⟨_, rfl, t, _, 1, .ref ra, rfl, rfl, h1, at1, ra, rfl, ⟨_, h2⟩, fun D hD => ?_⟩
    refine lc_tup (K := K) (a := ra) (xs := xs) (fun i H' => H' D = some (.lst (((rs.take i).filterMap fun r => r.2.2).map V.int)) ∧ Same H H') ?_ ?_ ?_ ?_
    · exact ⟨by rw [List.take_zero, upd_same]; rfl, same_new (Same.refl H) hD⟩
    · rintro i H' _ ⟨_, M⟩
      exact sqt_more M h2
    · rintro i x H' hx ⟨e, M⟩
      obtain ⟨r, hr', q, rfl, hq⟩ := paired_at h3 hx
      have hi : i < rs.length := (List.getElem?_eq_some_iff.mp hr').1
      have et : rs.take (i + 1) = rs.take i ++ [r] := by rw [List.take_succ, hr']; rfl
      refine ⟨q, _, rfl, sqt_more M hq, rfl, _, _, rfl, _, _, rfl, _, _, rfl, rfl, rfl, _, rfl, rfl, _, rfl, ?_⟩
      cases hc : r.2.2 with
      | none =>
        refine ite2 (fun h => absurd h (by simp [capV])) (fun _ => ?_)
        refine ⟨?_, M⟩
        rw [et, List.filterMap_append]
        simp only [List.filterMap_cons, hc, List.filterMap_nil, List.append_nil]
        exact e
      | some c =>
        refine ite2 (fun _ => ?_) (fun h => absurd (by simp [capV]) h)
        refine ⟨_, rfl, _, e, ?_, ?_, same_put M hD⟩
        · rw [List.length_map]
          have := List.length_filterMap_le (fun r : Arc => r.2.2) (rs.take i)
          rw [List.length_take] at this
          exact small1000 (by omega)
        · rw [upd_same, et, List.filterMap_append, List.map_append]
          simp only [List.filterMap_cons, hc, List.filterMap_nil]
          rfl
    rintro H1 ⟨e1, M1⟩
    rw [lx, List.take_length] at e1
    refine ⟨D, _, rfl, SqL.of e1, _, _, rfl, rfl, _, rfl, a, ts, rfl, sqt_more M1 hT, _, _, rfl, rfl, ?_⟩
    refine ⟨by show 0 ≤ sizeLine; decide, fun p hp => ?_⟩
    have M2 := same_new (o := .lst []) M1 hp
    have pn : H p = none := fr_none M1 hp
    have e2 : upd H1 p (.lst []) p = some (.lst []) := upd_same
    generalize upd H1 p (.lst []) = H2 at M2 e2 ⊢
    clear e1 M1 hp hD
    refine ⟨_, rfl, t, _, 1, .ref ra, rfl, rfl, sqt_more M2 h1, at1, _, rfl, ra, a, xs, ts.map V.int, rfl, .inr ⟨sqt_more M2 h2, sqt_more M2 hT, ?_⟩⟩
    refine RZ.for_zipT (K := K) (a := ra) (b := a) (xs := xs) (ys := ts.map V.int) (by rw [List.length_map]; omega) (fun i σ H' => ∃ v2 v3 v4 v7 : Option V, σ = [some (.ref t), some (.ref a), v2, v3, v4, some (.int (1 + capSum rs + ts.sum)), some (.ref p), v7] ∧
      H' p = some (.lst (sidesV (EK.room (both rs ts) ts) (2 * i))) ∧ Same H H') ?_ ?_ ?_ ?_
    · exact ⟨_, _, _, _, rfl, e2, M2⟩
    · rintro i σ H' ⟨_, _, _, _, _, _, M⟩
      exact ⟨sqt_more M h2, sqt_more M hT⟩
    · clear M2 e2
      rintro i x y' T' σ H' hx hy ⟨v2, v3, v4, v7, rfl, e, M⟩ hT'
      obtain ⟨r, hr', q', rfl, hq'⟩ := paired_at h3 hx
      obtain ⟨z, hz, rfl⟩ := ints_at hy
      have hi : i < rs.length := (List.getElem?_eq_some_iff.mp hr').1
      have M2 := same_new (o := .tup [.ref q', .int z]) M hT'
      have e2 := s3u (o := .tup [.ref q', .int z]) hT' e
      have et : upd H' T' (.tup [.ref q', .int z]) T' = some (.tup [.ref q', .int z]) := upd_same
      generalize upd H' T' (.tup [.ref q', .int z]) = H2 at M2 e2 et ⊢
      obtain ⟨r1, r2⟩ := room_even hr' hz
      have ln := sides_len (EK.room (both rs ts) ts) (2 * i)
      refine ⟨T', _, rfl, SqT.of et, rfl, _, _, rfl, q', _, rfl, sqt_more M2 hq', rfl, _, _, rfl, _, _, rfl, _, _, rfl, rfl, _, _, rfl, rfl, ?_⟩
      refine ⟨_, rfl, .inl ⟨rfl, _, SqL.of e2⟩, _, rfl, rfl, _, rfl, ?_⟩
      have last : ∀ u : Int, u = EK.room (both rs ts) ts (2 * i) → H2 p = some (.lst (sidesV (EK.room (both rs ts) ts) (2 * i))) ∧ (sidesV (EK.room (both rs ts) ts) (2 * i) ++ [V.int u] ++ [V.int z] = sidesV (EK.room (both rs ts) ts) (2 * (i + 1))) := fun u hu => ⟨e2, by rw [sides_next, r2, hu]⟩
      cases hc : r.2.2 with
      | none =>
        rw [hc] at r1
        obtain ⟨l1, l2⟩ := last _ r1.symm
        refine ite2 (fun _ => ?_) (fun h => absurd (by simp [capV]) h)
        refine ⟨_, rfl, p, _, _, rfl, rfl, e2, small1000 (by omega), ?_⟩
        refine ⟨_, rfl, .inl ⟨rfl, _, SqL.of upd_same⟩, _, rfl, p, _, _, rfl, rfl, upd_same, small1000 (by rw [List.length_append, ln]; show 2 * i + 1 ≤ 1000; omega), ?_⟩
        refine ⟨_, _, _, _, rfl, ?_, ?_⟩
        · rw [upd_same, l2]
        · rw [upd_upd]
          exact same_put M2 pn
      | some c =>
        rw [hc] at r1
        obtain ⟨l1, l2⟩ := last _ r1.symm
        refine ite2 (fun h => absurd h (by simp [capV])) (fun _ => ?_)
        refine ⟨_, rfl, _, rfl, _, _, rfl, rfl, p, _, _, rfl, rfl, e2, small1000 (by omega), ?_⟩
        refine ⟨_, rfl, .inl ⟨rfl, _, SqL.of upd_same⟩, _, rfl, p, _, _, rfl, rfl, upd_same, small1000 (by rw [List.length_append, ln]; show 2 * i + 1 ≤ 1000; omega), ?_⟩
        refine ⟨_, _, _, _, rfl, ?_, ?_⟩
        · rw [upd_same, l2]
        · rw [upd_upd]
          exact same_put M2 pn
    · rintro σ H' ⟨v2, v3, v4, v7, rfl, e, M⟩
      rw [lx] at e
      exact ⟨_, rfl, k p H' e pn M⟩
end
end Y

/-! PN2: _ways, _add. -/
namespace Y
open PySem PySem.Spec PyProof.Rows L2 Ns
open C8 (pss_cut)
def natV (l : List Nat) : List V := l.map fun (e : Nat) => V.int (e : Int)
def outL (rs : List Arc) (i u : Nat) : List Nat := (List.range (2 * i)).filter fun e => decide (EK.sSrc rs e = u)
theorem outL_next {rs : List Arc} {i : Nat} {r : Arc} (h : rs[i]? = some r) (u : Nat) : outL rs (i + 1) u = outL rs i u ++ (if r.1 = u then [2 * i] else []) ++ (if r.2.1 = u then [2 * i + 1] else []) := by
  obtain ⟨s1, s2, s3, s4⟩ := src_even h
  unfold outL
  rw [show 2 * (i + 1) = 2 * i + 1 + 1 by omega, List.range_succ, List.range_succ, List.filter_append, List.filter_append]
  congr 1
  · congr 1
    rw [List.filter_cons, s1]
    by_cases z : r.1 = u <;> simp [z]
  · rw [List.filter_cons, s3]
    by_cases z : r.2.1 = u <;> simp [z]
theorem outL_len (rs : List Arc) (i u : Nat) : (outL rs i u).length ≤ 2 * i := by
  have := List.length_filter_le (fun e => decide (EK.sSrc rs e = u)) (List.range (2 * i))
  rw [List.length_range] at this
  exact this
/-- lists at ws: at u the list f u -/
def Ls (H : Hp) (ws : List Addr) (f : Nat → List Nat) : Prop := ∀ (u : Nat) (w : Addr), ws[u]? = some w → H w = some (.lst (natV (f u)))
theorem Ls.put {H : Hp} {ws : List Addr} {f : Nat → List Nat} (h : Ls H ws f) (nd : ws.Nodup) {s : Nat} {w0 : Addr} (e : ws[s]? = some w0) (x : Nat) : Ls (upd H w0 (.lst (natV (f s) ++ [V.int (x : Int)]))) ws (fun u => f u ++ if s = u then [x] else []) := fun u w hw => by
  by_cases z : s = u
  · subst z
    rw [e] at hw
    cases hw
    rw [upd_same]
    show _ = some (HO.lst (natV (f s ++ if s = s then [x] else [])))
    rw [if_pos rfl]
    unfold natV
    rw [List.map_append]
    rfl
  · have n : w ≠ w0 := fun y => z (by
      obtain ⟨lu, eu⟩ := List.getElem?_eq_some_iff.mp hw
      obtain ⟨lsx, es⟩ := List.getElem?_eq_some_iff.mp e
      exact ((List.getElem?_inj lsx nd).mp (by rw [e, hw, y])))
    rw [upd_ne n, h u w hw]
    simp [z]
/-- the ways of a net, as a value -/
structure WyV (H : Hp) (p : Addr) (ws : List Addr) (rs : List Arc) (m : Nat) : Prop where
  at' : H p = some (.lst (ws.map V.ref))
  len : ws.length = m
  ls : Ls H ws (EK.outs rs)
theorem WyV.more {H H' : Hp} {p : Addr} {ws : List Addr} {rs : List Arc} {m : Nat} (s : Same H H') (h : WyV H p ws rs m) : WyV H' p ws rs m := ⟨s _ _ h.at', h.len, fun u w hw => s _ _ (h.ls u w hw)⟩
def spWays (K : PySem.W.Frag) : Sp := fun as H Q _ => ∃ (y : V) (m : Nat) (rs : List Arc), as = [y] ∧ NetV K H y m rs ∧ rs.length ≤ 400 ∧ m ≤ 400 ∧ (∀ a ∈ rs, a.1 < m ∧ a.2.1 < m) ∧
  ∀ (p : Addr) (ws : List Addr) (H' : Hp), WyV H' p ws rs m → H p = none → (∀ w ∈ ws, H w = none) → Same H H' → Q (.ref p) H'
/-- the other side of an arc -/
def flp (e : Nat) : Nat := if e % 2 = 0 then e + 1 else e - 1
theorem xor_flp {e : Nat} (h : e < 1000) : Builtin.bitXor (e : Int) 1 = (flp e : Int) := by
  rw [Bits.bitXor_pp (by omega) (by omega)]
  have : ∀ e < 1000, (e ^^^ 1) = flp e := by decide +kernel
  congr 1
  exact this e h
theorem flp_div (e : Nat) : flp e / 2 = e / 2 := by unfold flp; split <;> omega
theorem flp_ne (e : Nat) : flp e ≠ e := by unfold flp; split <;> omega
theorem flp_lt {e n : Nat} (h : e < 2 * n) : flp e < 2 * n := by unfold flp; split <;> omega
theorem flp_or {e x : Nat} (h : x / 2 = e / 2) (n : x ≠ e) : x = flp e := by unfold flp; split <;> omega
theorem src_flp (rs : List Arc) (e : Nat) : EK.sSrc rs (flp e) = EK.sDst rs e ∧ EK.sDst rs (flp e) = EK.sSrc rs e := EK.sd_flip (flp_div e) (flp_ne e)
theorem led1_room {rs : List Arc} {E xs : List Int} {d : Int} {e : Nat} (he : e < 2 * rs.length) (lx : xs.length = rs.length) (x : Nat) :
    EK.room E (EK.led1 d xs (EK.rwOf rs e)) x = if x = e then EK.room E xs e - d else if x = flp e then EK.room E xs (flp e) + d else EK.room E xs x := by
  have g : (EK.led1 d xs (EK.rwOf rs e)).getD (x / 2) 0 = if e / 2 = x / 2 then xs.getD (e / 2) 0 + (if e % 2 = 0 then d else 0 - d) else xs.getD (x / 2) 0 := by
    show (xs.set (e / 2) (xs.getD (e / 2) 0 + (if decide (e % 2 = 0) = true then d else 0 - d))).getD (x / 2) 0 = _
    rw [EK.getD_set]
    by_cases z : e / 2 = x / 2
    · rw [if_pos ⟨z, by omega⟩, if_pos z]
      by_cases y : e % 2 = 0 <;> simp [y]
    · rw [if_neg (fun y => z y.1), if_neg z]
  by_cases z : e / 2 = x / 2
  · by_cases y : x = e
    · subst y
      rw [if_pos rfl]
      unfold EK.room
      rw [g, if_pos rfl]
      by_cases q : x % 2 = 0
      · simp only [q, if_true]; omega
      · simp only [q, if_false]; omega
    · have f := flp_or z.symm y
      rw [if_neg y, if_pos f]
      have fm : flp e % 2 = 0 ↔ ¬ e % 2 = 0 := by unfold flp; split <;> omega
      unfold EK.room
      rw [g, if_pos z, f, flp_div]
      by_cases q : e % 2 = 0
      · rw [if_neg (fun k => fm.mp k q), if_neg (fun k => fm.mp k q), if_pos q]
      · rw [if_pos (fm.mpr q), if_pos (fm.mpr q), if_neg q]; omega
  · have n1 : x ≠ e := fun y => z (by rw [y])
    have n2 : x ≠ flp e := fun y => z (by rw [y, flp_div])
    rw [if_neg n1, if_neg n2]
    unfold EK.room
    rw [g, if_neg z]
theorem led1_sides {rs : List Arc} {E xs : List Int} {d : Int} {e : Nat} (he : e < 2 * rs.length) (lx : xs.length = rs.length) :
    ((sidesV (EK.room E xs) (2 * rs.length)).set e (.int (EK.room E xs e - d))).set (flp e) (.int (EK.room E xs (flp e) + d)) = sidesV (EK.room E (EK.led1 d xs (EK.rwOf rs e))) (2 * rs.length) := by
  refine List.ext_getElem? fun x => ?_
  by_cases hx : x < 2 * rs.length
  · rw [sides_at _ hx, led1_room he lx, List.getElem?_set, List.getElem?_set, List.length_set, sides_len, sides_at _ hx]
    by_cases z : flp e = x
    · have n : x ≠ e := fun y => flp_ne e (z.trans y)
      rw [if_pos z, if_pos (flp_lt he), if_neg n, if_pos z.symm]
    · rw [if_neg z]
      by_cases y : e = x
      · rw [if_pos y, if_pos he, if_pos y.symm]
      · rw [if_neg y, if_neg (Ne.symm y), if_neg (Ne.symm z)]
  · rw [List.getElem?_eq_none (by rw [List.length_set, List.length_set, sides_len]; omega), List.getElem?_eq_none (by rw [sides_len]; omega)]
def spAdd : Sp := fun as H Q _ => ∃ (r tr : Addr) (rs : List Arc) (E xs : List Int) (w : List Nat), as = [.ref r, .ref tr] ∧ H r = some (.lst (sidesV (EK.room E xs) (2 * rs.length))) ∧ H tr = some (.lst (natV w)) ∧ r ≠ tr ∧ w ≠ [] ∧ w.length ≤ 900 ∧ (∀ e ∈ w, e < 2 * rs.length) ∧ rs.length ≤ 400 ∧ xs.length = rs.length ∧
  ∀ H', H' r = some (.lst (sidesV (EK.room E (EK.addF rs E xs w)) (2 * rs.length))) → (∀ a o, a ≠ r → H a = some o → H' a = some o) → Q .non H'
section
variable {P : Program} {w : World} {K : PySem.W.Frag} {mg : Str → Option Value} {base : Heap}
theorem scWs : FnScope ["net", "many", "arcs", "ways", "at", "start", "end", "cap", "_"] ["net"] (defScope sWays) := ⟨rfl, rfl, rfl, by decide +kernel, rfl, by decide +kernel, by decide +kernel⟩
theorem ok_ways {f : Addr} {fd : FuncData} (F : Fun K "_ways" "_ways" sWays f fd) (T : Nat0 mg) (hE : mg "enumerate" = none) : FnOk P w K mg base CX0 1 f fd ["net"] (spWays K) := by
  refine F.ok scWs (fun as H Q E h => ?_) (fun cdv A outer s H as Q E hr h => ?_)
  · obtain ⟨y, m, rs, rfl, _⟩ := h
    rfl
  · obtain ⟨y, m, rs, rfl, hN, hl, hm, hlow, k⟩ := h
    refine ⟨_, (pss_cons (ps_asg (pv 0) (pg_tup (by rfl) (pgs_cons (pg_name (i := 1) scWs.nd rfl (.inl rfl)) (pgs_cons (pg_name (i := 2) scWs.nd rfl (.inl rfl)) pgs_nil)))) (pss_cons (ps_setLc (i := 3) (own := [("_", 8)]) (g := gName 8) (tt := tYes) (by rfl) scWs.nd rfl rfl (sw_true rfl rfl rfl (by decide +kernel)) (pi_range1 (by rfl) T.range (pa_cons (pv 1) pa_nil)) (blkOk_by (N := ["net", "many", "arcs", "ways", "at", "start", "end", "cap", "_"]) (sc := defScope sWays) (by decide +kernel)) (fun _ _ _ _ _ => (pg_name (i := 8) scWs.nd rfl (.inl rfl))) (fun _ _ _ _ _ => by exact pts_nil) (fun _ _ _ _ _ => pe_lst pa_nil)) (pss_cons (ps_for PassesOwn.never rfl (pi_enumT (by rfl) hE (pa_cons (pv 2) pa_nil)) (pg_tup rfl (pgs_cons (pg_name (i := 4) scWs.nd rfl (.inl rfl)) (pgs_cons (pg_tup (by rfl) (pgs_cons (pg_name (i := 5) scWs.nd rfl (.inl rfl)) (pgs_cons (pg_name (i := 6) scWs.nd rfl (.inl rfl)) (pgs_cons (pg_name (i := 7) scWs.nd rfl (.inl rfl)) pgs_nil)))) pgs_nil))) (pss_cons (ps_expr (pe_bm PySem.F.plainAttrs_list PySem.F.slot_list_append PySem.F.type_list_append mt_append (pe_ix ix_list (pv 3) (pv 5) (fun _ _ => rfl)) (pa_cons (pe_op op_mul pe_int (pv 4)) pa_nil))) (pss_one (ps_expr (pe_bm PySem.F.plainAttrs_list PySem.F.slot_list_append PySem.F.type_list_append mt_append (pe_ix ix_list (pv 3) (pv 6) (fun _ _ => rfl)) (pa_cons (pe_op op_add (pe_op op_mul pe_int (pv 4)) pe_int) pa_nil)))))) (pss_one (ps_ret (pv 3)))))), ?_⟩
    obtain ⟨t, ra, xs, rfl, h1, h2, h3⟩ := hN
    have lx := paired_len h3
    refine ⟨_, rfl, t, _, rfl, h1, rfl, _, _, rfl, _, _, rfl, rfl, ?_⟩
    refine ⟨_, rfl, m, rfl, by omega, by omega, fun D hD => ?_⟩
    refine lc_range (lo := 0) (n := (m : Int).toNat) (fun i G => ∃ ws : List Addr, G D = some (.lst (ws.map V.ref)) ∧ ws.length = i ∧ ws.Nodup ∧ D ∉ ws ∧ (∀ w ∈ ws, H w = none ∧ G w = some (.lst [])) ∧ Same H G) ?_ ?_ ?_
    · exact ⟨[], upd_same, rfl, List.nodup_nil, (fun z => nomatch z), (fun _ z => nomatch z), same_new (Same.refl H) hD⟩
    · rintro i G hi ⟨ws, e, lw, nd, hDw, hw, M⟩
      refine ⟨rfl, by show 0 ≤ sizeLine; decide, fun u hu => ?_⟩
      have nu : u ≠ D := fun z => by rw [z, e] at hu; cases hu
      have un : H u = none := fr_none M hu
      have uw : u ∉ ws := fun z => by rw [(hw u z).2] at hu; cases hu
      refine ⟨_, s3u hu e, by rw [List.length_map]; exact small1000 (by omega), ws ++ [u], by rw [upd_same, List.map_append]; rfl, by rw [List.length_append, lw]; rfl, ?_, ?_, fun w hw' => ?_, same_put (same_new M hu) hD⟩
      · rw [List.nodup_append]
        exact ⟨nd, List.nodup_cons.mpr ⟨(fun z => nomatch z), List.nodup_nil⟩, fun a ha b hb z => uw (by rw [List.mem_singleton] at hb; rw [← hb, ← z]; exact ha)⟩
      · intro z
        rcases List.mem_append.mp z with z | z
        · exact hDw z
        · exact nu (List.mem_singleton.mp z).symm
      · rcases List.mem_append.mp hw' with z | z
        · have n1 : w ≠ D := fun y => hDw (by rw [← y]; exact z)
          refine ⟨(hw w z).1, ?_⟩
          rw [upd_ne n1]
          exact s3u hu (hw w z).2
        · rw [List.mem_singleton.mp z]
          exact ⟨un, by rw [upd_ne nu, upd_same]⟩
    rintro G0 ⟨ws, e0, lw0, nd, hDw, hw, M0⟩
    have lw : ws.length = m := by omega
    have wn : ∀ w ∈ ws, H w = none := fun w h => (hw w h).1
    refine ⟨_, rfl, ra, xs, rfl, sqt_more M0 h2, ?_⟩
    refine for_it (walk_enumT (K := K) (a := ra) (xs := xs)) (fun i σ G => ∃ v4 v5 v6 v7 : Option V, σ = [some (.ref t), some (.int m), some (.ref ra), some (.ref D), v4, v5, v6, v7, none] ∧ G D = some (.lst (ws.map V.ref)) ∧ Ls G ws (outL rs i) ∧ Same H G) ?_ ?_ ?_ ?_
    · exact ⟨none, none, none, none, rfl, e0, fun u w hu => by
        rw [show outL rs 0 u = [] from rfl]
        exact (hw w (List.mem_of_getElem? hu)).2, M0⟩
    · rintro i σ G _ ⟨_, _, _, _, _, _, _, M⟩
      exact sqt_more M h2
    · clear e0 hw M0
      rintro i x σ G G' hi ⟨v4, v5, v6, v7, rfl, e, hL, M⟩ ⟨T', x', y', rfl, fT, rfl, hx, hy⟩
      cases (Option.some.inj hx)
      obtain ⟨r, hr', q', rfl, hq'⟩ := paired_at h3 hy
      obtain ⟨b1, b2⟩ := hlow r (List.mem_of_getElem? hr')
      have hi' : i < rs.length := by omega
      have M2 := same_new (o := .tup [.int (i : Nat), .ref q']) M fT
      have e2 := s3u (o := .tup [.int (i : Nat), .ref q']) fT e
      have L2 : Ls (upd G T' (.tup [.int (i : Nat), .ref q'])) ws (outL rs i) := fun u w hu => s3u fT (hL u w hu)
      have et : upd G T' (.tup [.int (i : Nat), .ref q']) T' = some (.tup [.int (i : Nat), .ref q']) := upd_same
      generalize upd G T' (.tup [.int (i : Nat), .ref q']) = H2 at M2 e2 L2 et ⊢
      obtain ⟨w1, hw1⟩ : ∃ w, ws[r.1]? = some w := ⟨_, List.getElem?_eq_getElem (by omega)⟩
      obtain ⟨w2, hw2⟩ : ∃ w, ws[r.2.1]? = some w := ⟨_, List.getElem?_eq_getElem (by omega)⟩
      have g1 : (ws.map V.ref)[r.1]? = some (.ref w1) := by rw [List.getElem?_map, hw1]; rfl
      have g2 : (ws.map V.ref)[r.2.1]? = some (.ref w2) := by rw [List.getElem?_map, hw2]; rfl
      have ol := outL_len rs i
      have nD : ∀ w ∈ ws, D ≠ w := fun w h z => hDw (by rw [z]; exact h)
      refine ⟨T', _, rfl, SqT.of et, rfl, _, _, rfl, _, _, rfl, q', _, rfl, sqt_more M2 hq', rfl, _, _, rfl, _, _, rfl, _, _, rfl, rfl, rfl, ?_⟩
      have two : (2 : Int) * ((i : Nat) : Int) = ((2 * i : Nat) : Int) := by omega
      have two1 : (2 : Int) * ((i : Nat) : Int) + 1 = ((2 * i + 1 : Nat) : Int) := by omega
      refine ⟨_, rfl, _, rfl, D, _, _, _, rfl, rfl, SqL.of e2, atI_nat g1, .inl ⟨rfl, _, SqL.of (L2 _ _ hw1)⟩, _, rfl, _, _, rfl, rfl, .inl ⟨by decide, by decide⟩, w1, _, _, rfl, rfl, L2 _ _ hw1, small1000 (by unfold natV; rw [List.length_map]; have := ol r.1; omega), ?_⟩
      have L3 := L2.put nd hw1 (2 * i)
      rw [← two] at L3
      have M3 := same_put (o := .lst (natV (outL rs i r.1) ++ [V.int (2 * ((i : Nat) : Int))])) M2 (wn _ (List.mem_of_getElem? hw1))
      have e3 : upd H2 w1 (.lst (natV (outL rs i r.1) ++ [V.int (2 * ((i : Nat) : Int))])) D = some (.lst (ws.map V.ref)) := (upd_ne (nD _ (List.mem_of_getElem? hw1))).trans e2
      generalize upd H2 w1 (.lst (natV (outL rs i r.1) ++ [V.int (2 * ((i : Nat) : Int))])) = H3 at L3 M3 e3 ⊢
      have l3 : (outL rs i r.2.1 ++ if r.1 = r.2.1 then [2 * i] else []).length ≤ 900 := by
        rw [List.length_append]
        have := ol r.2.1
        split
        · show _ + 1 ≤ 900; omega
        · show _ + 0 ≤ 900; omega
      refine ⟨_, rfl, _, rfl, D, _, _, _, rfl, rfl, SqL.of e3, atI_nat g2, .inl ⟨rfl, _, SqL.of (L3 _ _ hw2)⟩, _, rfl, _, _, rfl, rfl, .inl ⟨by decide, by decide⟩, _, _, rfl, rfl, w2, _, _, rfl, rfl, L3 _ _ hw2, small1000 (by unfold natV; rw [List.length_map]; exact Nat.le_trans l3 (by decide)), ?_⟩
      have L4 := L3.put nd hw2 (2 * i + 1)
      rw [← two1] at L4
      refine ⟨_, _, _, _, rfl, (upd_ne (nD _ (List.mem_of_getElem? hw2))).trans e3, fun u w hu => ?_, same_put M3 (wn _ (List.mem_of_getElem? hw2))⟩
      rw [outL_next hr' u]
      exact L4 u w hu
    · rintro σ G ⟨v4, v5, v6, v7, rfl, e, hL, M⟩
      rw [lx] at hL
      exact ⟨_, rfl, k D ws G ⟨e, lw, hL⟩ hD wn M⟩
theorem scAd : FnScope ["rooms", "trail", "side", "much"] ["rooms", "trail"] (defScope sAdd) := ⟨rfl, rfl, rfl, by decide +kernel, rfl, by decide +kernel, by decide +kernel⟩
theorem ok_add {f : Addr} {fd : FuncData} (F : Fun K "_add" "_add" sAdd f fd) (T : Nat0 mg) : FnOk P w K mg base CX0 1 f fd ["rooms", "trail"] spAdd := by
  refine F.ok scAd (fun as H Q E h => ?_) (fun cdv A outer s H as Q E hr h => ?_)
  · obtain ⟨r, tr, rs, E, xs, w, rfl, _⟩ := h
    rfl
  · obtain ⟨r, tr, rs, Es, xs, tw, rfl, hR, hT, nrt, ne, hl, hlow, h4, lx, k⟩ := h
    refine ⟨_, (pss_cons (ps_set (i := 3) scAd.nd rfl (.inl rfl) (pe_callB (cr_min rfl) (by rfl) T.min (by decide +kernel) (pa_cons (pe_lc (own := [("side", 2)]) (g := gName 2) (tt := tYes) (te := tOp (rIxL K) (tVar 0) (tVar 2)) rfl scAd.nd (pi_list (pv 1)) (blkOk_by (N := ["rooms", "trail", "side", "much"]) (sc := defScope sAdd) (by decide +kernel)) (fun _ _ _ _ _ => (pg_name (i := 2) scAd.nd rfl (.inl rfl))) (fun _ _ _ _ _ => by exact pts_nil) (fun _ _ _ _ _ => by exact (pe_ix ix_list (pv 0) (pv 2) (fun _ _ => rfl)))) pa_nil))) (pss_one (ps_for PassesOwn.never rfl (pi_list (pv 1)) (pg_name (i := 2) scAd.nd rfl (.inl rfl)) (pss_cons (ps_augS (pv 0) (pv 2) get_list (pv 3) ip_sub set_list) (pss_one (ps_augS (pv 0) (pe_op op_xor (pv 2) pe_int) get_list (pv 3) ip_add set_list)))))), ?_⟩
    have at' : ∀ {xs' : List Int} {e : Nat}, e < 2 * rs.length → (sidesV (EK.room Es xs') (2 * rs.length))[e]? = some (.int (EK.room Es xs' e)) := fun he => sides_at _ he
    have ixo : ∀ {e : Nat}, e < 2 * rs.length → ixN (sidesV (EK.room Es xs) (2 * rs.length)).length (e : Int) = some e := fun {e} he => by rw [sides_len]; exact ixN_nat he
    have tlen : (natV tw).length = tw.length := by unfold natV; rw [List.length_map]
    -- the least
    refine ⟨_, rfl, tr, rfl, ⟨_, SqL.of hT⟩, fun D hD => ?_⟩
    have hTn : tr ≠ D := fun z => by rw [z, hD] at hT; cases hT
    refine lc_list (K := K) (a := tr) (xs := natV tw) (fun i G => G D = some (.lst (((tw.take i).map (EK.room Es xs)).map V.int)) ∧ Same H G) ?_ ?_ ?_ ?_
    · exact ⟨by rw [List.take_zero, upd_same]; rfl, same_new (Same.refl H) hD⟩
    · rintro i G _ ⟨_, M⟩
      exact SqL.of (M _ _ hT)
    · rintro i x G hx ⟨e, M⟩
      obtain ⟨sd, hs, rfl⟩ : ∃ sd : Nat, tw[i]? = some sd ∧ x = .int (sd : Int) := by
        unfold natV at hx
        rw [List.getElem?_map] at hx
        cases h : tw[i]? with
        | none => rw [h] at hx; cases hx
        | some sd => rw [h] at hx; exact ⟨sd, rfl, (Option.some.inj hx).symm⟩
      have hi : i < tw.length := (List.getElem?_eq_some_iff.mp hs).1
      have lo := hlow sd (List.mem_of_getElem? hs)
      refine ⟨rfl, _, rfl, _, rfl, r, _, _, _, rfl, rfl, SqL.of (M _ _ hR), atI_nat (at' lo), _, e, by rw [List.length_map, List.length_map, List.length_take]; exact small1000 (by omega), ?_, same_put M hD⟩
      rw [upd_same, List.take_succ, hs]
      simp
    rintro G ⟨e1, M1⟩
    rw [tlen, List.take_length] at e1
    refine ⟨D, tw.map (EK.room Es xs), rfl, SqL.of e1, by rw [List.length_map]; exact List.length_pos_iff.mpr ne, fun d hd hle => ?_⟩
    have ed : EK.minR (tw.map (EK.room Es xs)) = d := EK.minR_is hd hle
    -- the sides
    refine ⟨_, rfl, tr, rfl, ⟨_, SqL.of (M1 _ _ hT)⟩, ?_⟩
    refine for_list (K := K) (a := tr) (xs := natV tw) (fun i σ G' => ∃ v2 : Option V, σ = [some (.ref r), some (.ref tr), v2, some (.int d)] ∧ G' r = some (.lst (sidesV (EK.room Es (EK.led d xs ((tw.take i).map (EK.rwOf rs)))) (2 * rs.length))) ∧ (∀ a o, a ≠ r → H a = some o → G' a = some o)) ?_ ?_ ?_ ?_
    · exact ⟨_, rfl, by rw [List.take_zero]; exact M1 _ _ hR, fun a o _ h => M1 a o h⟩
    · rintro i σ G' _ ⟨_, _, _, M⟩
      exact SqL.of (M _ _ (Ne.symm nrt) hT)
    · rintro i x σ G' hx ⟨v2, rfl, e, M⟩
      obtain ⟨sd, hs, rfl⟩ : ∃ sd : Nat, tw[i]? = some sd ∧ x = .int (sd : Int) := by
        unfold natV at hx
        rw [List.getElem?_map] at hx
        cases h : tw[i]? with
        | none => rw [h] at hx; cases hx
        | some sd => rw [h] at hx; exact ⟨sd, rfl, (Option.some.inj hx).symm⟩
      have lo := hlow sd (List.mem_of_getElem? hs)
      have lz : (EK.led d xs ((tw.take i).map (EK.rwOf rs))).length = rs.length := by rw [EK.led_len]; exact lx
      have en : EK.led d xs ((tw.take (i + 1)).map (EK.rwOf rs)) = EK.led1 d (EK.led d xs ((tw.take i).map (EK.rwOf rs))) (EK.rwOf rs sd) := by
        rw [List.take_succ, hs]
        unfold EK.led
        rw [List.map_append, List.foldl_append]
        rfl
      rw [en]
      generalize EK.led d xs ((tw.take i).map (EK.rwOf rs)) = zs at e lz ⊢
      have fl := flp_lt lo
      refine ⟨_, rfl, _, rfl, r, _, _, _, rfl, rfl, SqL.of e, atI_nat (at' lo), _, rfl, _, _, rfl, rfl, r, _, _, sd, rfl, rfl, e, by rw [sides_len]; exact ixN_nat lo, ?_⟩
      have a2 : ((sidesV (EK.room Es zs) (2 * rs.length)).set sd (.int (EK.room Es zs sd - d)))[flp sd]? = some (.int (EK.room Es zs (flp sd))) := by
        rw [List.getElem?_set_ne (Ne.symm (flp_ne sd))]
        exact at' fl
      have xf := xor_flp (e := sd) (by omega)
      refine ⟨_, rfl, _, rfl, _, _, rfl, rfl, r, _, _, _, rfl, rfl, SqL.of upd_same, by rw [xf]; exact atI_nat a2, _, rfl, _, _, rfl, rfl, r, _, _, flp sd, rfl, rfl, upd_same, by rw [List.length_set, sides_len, xf]; exact ixN_nat fl, ?_⟩
      refine ⟨_, rfl, ?_, fun a o n h => ?_⟩
      · rw [upd_same, led1_sides lo lz]
      · rw [upd_ne n, upd_ne n]
        exact M a o n h
    · rintro σ G' ⟨v2, rfl, e, M⟩
      rw [tlen, List.take_length] at e
      refine k G' ?_ M
      unfold EK.addF
      rw [ed]
      exact e
end
end Y

/-! NsZ: set(xs) of texts, and sorted of it. -/
namespace Ns
open PySem PySem.Spec PyProof.Rows L2
open PySem.Froz (SD sObj tailTx addTx TxOk)
/-- the set at a holds the texts l, once each, and can be walked -/
def SetX (P : Program) (w : World) (h : Heap) (a : Addr) (l : List Str) : Prop :=
  ∃ D : SD, h.get? a = some (sObj "set" D) ∧ TxOk P w D l ∧ l.Nodup ∧ Ris D.2.2.place.toList ∧ (w.params.followText "set-order" = true ∨ D.2.2.led = true)
theorem ris_tail {ep : Nat} {es : Array (Int × Value)} {t : SetTable} {b : Bool} (r : Ris t.place.toList) : Ris (tailTx ep es t b).2.2.place.toList ∧ (tailTx ep es t b).2.2.led = t.led := by
  unfold tailTx
  split
  · exact ⟨relayAll_ris _ _ _, relayAll_led _ _ _⟩
  · exact ⟨r, rfl⟩
theorem ris_add {h : Int} {v : Value} {D : SD} (r : Ris D.2.2.place.toList) : Ris (addTx h v D).2.2.place.toList ∧ (addTx h v D).2.2.led = D.2.2.led := by
  have r1 := layNew_ris D.2.2 D.1 h v r
  have l1 := layNew_led D.2.2 D.1 h v
  unfold addTx
  split
  · obtain ⟨g1, g2⟩ := ris_tail (ep := D.2.1) (es := (layNew D.2.2 D.1 h v).1) (t := { (layNew D.2.2 D.1 h v).2.1 with plain := false }) (b := (layNew D.2.2 D.1 h v).2.2.1) r1
    exact ⟨g1, g2.trans l1⟩
  · obtain ⟨g1, g2⟩ := ris_tail (ep := D.2.1) (es := (layNew D.2.2 D.1 h v).1) (t := (layNew D.2.2 D.1 h v).2.1) (b := (layNew D.2.2 D.1 h v).2.2.1) r1
    exact ⟨g1, g2.trans l1⟩
section
variable {P : Program} {w : World} {A : Around} {E : Value → Shared → Prop} {s : Shared}
theorem SetX.keep {h h' : Heap} {a : Addr} {l : List Str} (X : SetX P w h a l) (k : ∀ o, h.get? a = some o → h'.get? a = some o) : SetX P w h' a l := by
  obtain ⟨D, hD, r⟩ := X
  exact ⟨D, k _ hD, r⟩
/-- a text that is there: nothing changes -/
theorem add_there {a : Addr} {l : List Str} {k : Str} {u : Tok} {D : SD} {Q : Bool → Shared → Prop} (ho : s.heap.get? a = some (sObj "set" D)) (F : TxOk P w D l) (hk : k ∈ l) (hb : l.length < scanBound) (q : Q false s) :
    wpAny (model P w) A (setAddHashed a (.str k u) (hashStr w k)) Q E s := by
  have isk : (strKind P w).is k (.str k u) = true := PySem.Froz.is_str k u
  have small : D.1.size < scanBound := by rw [F.sz]; exact hb
  obtain ⟨j, hj⟩ : ∃ j, List.findIdx? (fun e => (strKind P w).is k e.2) D.1.toList = some j := by
    cases e : List.findIdx? (fun e => (strKind P w).is k e.2) D.1.toList with
    | some j => exact ⟨j, rfl⟩
    | none =>
      obtain ⟨x, hx, hy⟩ := (F.mem k).mp hk
      have := List.findIdx?_eq_none_iff.mp e x hx
      rw [hy] at this
      cases this
  unfold setAddHashed setAddHashedIn
  refine wpAny_holding (wpAny_bind (wpAny_setState_of ho rfl F.fit ?_))
  dsimp only
  rw [byScan_of (knd := strKind P w) rfl small F.el]
  simp only [↓reduceIte]
  unfold setAddByScan
  refine wpAny_bind (wpAny_bind (wpAny_rule (wpAny_bind (wpAny_setScan_of (knd := strKind P w) (k := k) isk ho rfl F.fit F.el ?_))))
  rw [hj]
  exact wpAny_pure (wpAny_pure q)
/-- one more text -/
theorem setX_add {a : Addr} {l : List Str} {k : Str} {u : Tok} {Q : Bool → Shared → Prop} (X : SetX P w s.heap a l) (hb : l.length + 1 < scanBound)
    (q : ∀ (b : Bool) (h' : Heap) (l' : List Str), SetX P w h' a l' → (∀ m, m ∈ l' ↔ m ∈ l ∨ m = k) → l'.length ≤ l.length + 1 → (∀ c o, c ≠ a → s.heap.get? c = some o → h'.get? c = some o) → Q b { s with heap := h' }) :
    wpAny (model P w) A (setAddHashed a (.str k u) (hashStr w k)) Q E s := by
  obtain ⟨D, hD, F, n, r, led⟩ := id X
  by_cases hk : k ∈ l
  · exact add_there hD F hk (by omega) (q false s.heap l X (fun m => ⟨.inl, fun z => z.elim id fun e => e ▸ hk⟩) (Nat.le_succ _) fun c o _ e => e)
  · refine PySem.Froz.add_x hD F hk hb (q true _ (k :: l) ⟨_, PySem.Froz.get_upd _ hD rfl, PySem.Froz.add_ok u F, List.nodup_cons.mpr ⟨hk, n⟩, (ris_add r).1, led.imp id fun z => (ris_add r).2.trans z⟩ (fun m => ?_) (Nat.le_refl _) fun c o nc e => ?_)
    · rw [List.mem_cons]
      exact Or.comm
    · exact (Heap.get?_update_other _ _ (Ne.symm nc)).trans e
/-- a row of texts goes into the set -/
theorem set_fill {I L S : Addr} {xs : List Str} {items : Array Value} (hh : A.in1.handled = none) (hL : L ≠ I) (hS : S ≠ I) (hSL : S ≠ L) (rel : Vals (xs.map V.str) items.toList) (room : items.size + 1 < scanBound) {R : Result → Shared → Prop} :
    ∀ (k i : Nat) (s : Shared) (l : List Str), items.size - i = k → i ≤ items.size → s.heap.IsListIter I L i → s.heap.IsList L items → SetX P w s.heap S l → l.length ≤ i → (∀ m, m ∈ l ↔ m ∈ xs.take i) →
      (∀ s' l', (∀ c o, c ≠ S → c ≠ I → s.heap.get? c = some o → s'.heap.get? c = some o) → s'.gens = s.gens → s'.drawn = s.drawn → s'.os = s.os → SetX P w s'.heap S l' → (∀ m, m ∈ l' ↔ m ∈ xs) → R (.ok (.ret .none)) s') →
      codeAny (model P w) A (.builtin "set.update.loop" ⟨[.ref S, .ref I], []⟩) R s := by
  have W := Walks.list (prog := P) (w := w) (A := A.in1) hh I L hL items
  have lx : xs.length = items.size := by
    have := rel.length
    rw [List.length_map, Array.length_toList] at this
    exact this
  intro k
  induction k with
  | zero =>
    intro i s l hk hi i1 i2 X hl hm q
    have e : i = items.size := by omega
    rw [e] at hm i1
    refine codeAny_builtin F.entry_set_update_loop ?_
    rw [Around.under_plainId F.plain_set_update_loop _]
    refine wpAny_bind (W.done s _ _ ⟨i1, i2⟩ fun h' tk kp => ?_)
    rw [← lx, List.take_length] at hm
    exact wpAny_pure (q _ l (fun c o _ n2 e => kp c o (by rw [List.mem_singleton]; exact n2) e) rfl rfl rfl (X.keep fun o => kp S o (by rw [List.mem_singleton]; exact hS)) hm)
  | succ k ih =>
    intro i s l hk hi i1 i2 X hl hm q
    have lt : i < items.size := by omega
    refine codeAny_builtin F.entry_set_update_loop ?_
    rw [Around.under_plainId F.plain_set_update_loop _]
    refine wpAny_bind (W.item i s _ _ lt ⟨i1, i2⟩ fun v h' tk hv st kp => ?_)
    obtain ⟨x, hx, rx⟩ : ∃ x, xs[i]? = some x ∧ RelV (.str x) v := by
      have hx : xs[i]? = some xs[i] := List.getElem?_eq_getElem (by omega)
      obtain ⟨u, hu, ru⟩ := rel.get (i := i) (x := .str xs[i]) (by rw [List.getElem?_map, hx]; rfl)
      rw [Array.getElem?_toList] at hu
      rw [hv] at hu
      cases hu
      exact ⟨_, hx, ru⟩
    obtain ⟨t, rfl⟩ := rx
    refine wpAny_bind (wpAny_holding ?_)
    unfold setAdd
    refine wpAny_holding (wpAny_bind ((strKind P w).pyHash (PySem.Froz.is_str x t) ?_))
    have X1 : SetX P w h' S l := X.keep fun o => kp S o (by rw [List.mem_singleton]; exact hS)
    refine setX_add X1 (by omega) fun b h2 l2 X2 m2 n2 k2 => ?_
    have i3 : h2.IsListIter I L (i + 1) := st.1.at fun o e => k2 I o (Ne.symm hS) e
    have i4 : h2.IsList L items := st.2.at fun o e => k2 L o (Ne.symm hSL) e
    refine wpAny_pure ⟨plainId_quiet F.plain_set_update_loop _, ih (i + 1) _ l2 (by omega) lt i3 i4 X2 (by omega) (fun m => ?_) fun s' l' k3 g1 g2 g3 X3 m3 => ?_⟩
    · rw [m2, hm, List.take_succ, hx, List.mem_append]
      simp
    · exact q s' l' (fun c o c1 c2 e => k3 c o c1 c2 (k2 c o c1 (kp c o (by rw [List.mem_singleton]; exact c2) e))) g1 g2 g3 X3 m3
end
end Ns

/-! NsZ2: the calls set(xs), sorted(set). -/
namespace Ns
open PySem PySem.Spec PyProof.Rows L2
open PySem.Froz (SD sObj TxOk)
/-- a set as it is made -/
abbrev set0 (w : World) : Obj := { cls := .type "set", dict := none, data := .set #[] 0 (.fresh 0 0 (!w.params.followText "set-order")) }
theorem setX_new {P : Program} {w : World} {h : Heap} {a : Addr} (e : h.get? a = some (set0 w)) : SetX P w h a [] := by
  refine ⟨(#[], 0, .fresh 0 0 (!w.params.followText "set-order")), e, PySem.Froz.TxOk.nil (by rfl), List.nodup_nil, List.Pairwise.nil, ?_⟩
  show _ ∨ (!w.params.followText "set-order") = true
  cases w.params.followText "set-order" <;> simp
section
variable {P : Program} {w : World} {A : Around} {E : Value → Shared → Prop} {s : Shared}
set_option maxHeartbeats 3200000 in
theorem set_of {l : Addr} {items : Array Value} {xs : List Str} {Q : Value → Shared → Prop} (hh : A.handled = none) (hl : s.heap.IsList l items) (rel : Vals (xs.map V.str) items.toList) (room : items.size + 1 < scanBound)
    (q : ∀ (h' : Heap) (tk : Nat) (ls : List Str), (∀ c o, s.heap.get? c = some o → h'.get? c = some o) → SetX P w h' s.heap.objs.size ls → (∀ m, m ∈ ls ↔ m ∈ xs) → Q (.ref s.heap.objs.size) { s with heap := h', toks := tk }) :
    wpAny (model P w) A (call (.type "set") [.ref l]) Q E s := by
  obtain ⟨c, tl, hmro⟩ := F.called_set.mro
  have f1 := F.called_set.made
  have f2 := F.called_set.sub
  have f3 := F.called_set.notType
  have f4 := F.called_set.canCreate
  have f5 := F.typeCall_set_1 (.ref l)
  refine wpAny_call (codeAny_of_tree ?_)
  show wpAny _ _ (callAny (.type "set") _) _ _ _
  refine wpAny_pure ⟨Code.quiet_builtin _ (by decide +kernel), codeAny_builtin F.entry_type_call ?_⟩
  rw [Around.under_plain (weight_type_call_type "set" [.ref l] []) rfl]
  repeat (any_goals (first | assumption | wp_step))
  refine codeAny_mono (code_set_led1 (.ref l) (E := E) (Q₁ := fun obj s₁ => obj = .ref s.heap.objs.size ∧ s₁ = { s with heap := s.heap.push (set0 w) }) ⟨rfl, rfl⟩) fun r s₁ hr => ?_
  rcases r with e | fl
  · exact hr
  cases fl with
  | ret obj =>
    obtain ⟨rfl, rfl⟩ := hr
    have at0 : (s.heap.push (set0 w)).get? s.heap.objs.size = some (set0 w) := Heap.get?_push_size _ rfl
    have ty0 : Shared.TypeIs { s with heap := s.heap.push (set0 w) } (.ref s.heap.objs.size) "set" := ⟨_, at0, rfl⟩
    have f6 := F.called_set.init.lookup
    have f7 := F.called_set.init.bind (.ref s.heap.objs.size)
    repeat (any_goals (first | assumption | wp_step))
    refine codeAny_mono (codeAny_call_builtin (R := wants (fun r s₂ => r = .none ∧ ∃ h' tk ls, s₂ = { s with heap := h', toks := tk } ∧ (∀ c o, s.heap.get? c = some o → h'.get? c = some o) ∧ SetX P w h' s.heap.objs.size ls ∧ ∀ m, m ∈ ls ↔ m ∈ xs) E)
      F.called_set.init.plain F.entry_set_init (check_set_init_1 ty0 ?_)) fun r₂ s₂ hr₂ => ?_
    · obtain ⟨⟨ocls, odict, odata, oslots⟩, hol, hcl, nl, hdl⟩ := hl
      simp only at hcl hdl
      subst hcl; subst hdl
      have lS : l < s.heap.objs.size := Heap.lt_size hol
      have hol' : (s.heap.push (set0 w)).get? l = some { cls := .type "list", dict := odict, data := .seq items nl, slots := oslots } := Heap.get?_push_of_some _ hol
      have g1 := F.sub_list_set
      have g2 := F.sub_list_frozenset
      have g3 : (Value.type "list" == Value.type "dict") = false := by decide
      have isl : (s.heap.push (set0 w)).IsList l items := ⟨_, hol', rfl, nl, rfl⟩
      unfold Builtin.«set.__init__» noKeywords Builtin.Frozenset.updateFrom
      generalize keep : pyIter = PI
      wp_walk
      subst keep
      refine wpAny_pyIter_list isl (wpAny_bind (wpAny_runValue ?_))
      have up : (s.heap.push (set0 w)).objs.size = s.heap.objs.size + 1 := size_push' _ _
      refine set_fill (xs := xs) (by simp [hh]) (by rw [up]; exact Nat.ne_of_lt (Nat.lt_succ_of_lt lS)) (by rw [up]; exact Nat.ne_of_lt (Nat.lt_succ_self _)) (Nat.ne_of_gt lS) rel room items.size 0 _ [] (Nat.sub_zero _) (Nat.zero_le _) ⟨_, Heap.get?_push_size _ rfl, rfl, rfl⟩ (isl.push _)
        (setX_new (Heap.get?_push_of_some _ at0)) (Nat.le_refl _) (fun m => by rw [List.take_zero]) fun s' ls kp e1 e2 e3 X m => ?_
      obtain ⟨h', g', d', tk', os'⟩ := s'
      cases e1
      cases e2
      cases e3
      refine wpAny_pure (wpAny_pure ⟨rfl, h', tk', ls, rfl, fun c o e => ?_, X, m⟩)
      have cl : c < s.heap.objs.size := Heap.lt_size e
      exact kp c o (Nat.ne_of_lt cl) (by rw [up]; exact Nat.ne_of_lt (Nat.lt_succ_of_lt cl)) (Heap.get?_push_of_some _ (Heap.get?_push_of_some _ e))
    · rcases r₂ with e | fl₂
      · exact hr₂
      cases fl₂ with
      | ret r =>
        obtain ⟨rfl, h', tk, ls, rfl, kp, X, m⟩ := hr₂
        repeat (any_goals (first | assumption | wp_step))
        exact q h' tk ls kp X m
      | _ => exact hr₂.elim
  | _ => exact hr.elim
end
end Ns

/-! NsZ3: sorted of a set of texts. -/
namespace Ns
open PySem PySem.Spec PyProof.Rows L2
open PySem.Froz (SD sObj TxOk)
section
variable {P : Program} {w : World} {A : Around} {E : Value → Shared → Prop} {s : Shared}
theorem texts_of {l : List Value} (h : ∀ v ∈ l, ∃ x t, v = Value.str x t) : ∃ xs, StrsAre l xs := by
  induction l with
  | nil => exact ⟨[], .nil⟩
  | cons v l ih =>
    obtain ⟨x, t, rfl⟩ := h v List.mem_cons_self
    obtain ⟨xs, r⟩ := ih fun u hu => h u (List.mem_cons_of_mem _ hu)
    exact ⟨x :: xs, .cons x t r⟩
theorem strs_mem {vs : List Value} {xs : List Str} (r : StrsAre vs xs) : ∀ m, m ∈ xs ↔ ∃ t, Value.str m t ∈ vs := by
  induction r with
  | nil => simp
  | cons y t _ ih =>
    intro m
    rw [List.mem_cons, ih]
    constructor
    · rintro (rfl | ⟨u, hu⟩)
      · exact ⟨t, List.mem_cons_self⟩
      · exact ⟨u, List.mem_cons_of_mem _ hu⟩
    · rintro ⟨u, hu⟩
      rcases List.mem_cons.mp hu with e | e
      · injection e with e1 _
        exact .inl e1
      · exact .inr ⟨u, e⟩
theorem sorted_setX {a : Addr} {ls : List Str} {Q : Value → Shared → Prop} (X : SetX P w s.heap a ls) (hh : A.handled = none) (few : ls.length < 64)
    (q : ∀ s' p (out : Array Value) (c : Nat) (ys : List Str), (∀ b o, s.heap.get? b = some o → s'.heap.get? b = some o) → s'.gens = s.gens → s'.os = s.os → s.heap.objs.size ≤ p → s'.heap.get? p = some (seqObj "list" out c) →
      StrsAre out.toList ys → sortedS ys = true → ys.length = ls.length → (∀ m, m ∈ ys ↔ m ∈ ls) → Q (.ref p) s') :
    wpAny (model P w) A (call (.builtin "sorted") [.ref a]) Q E s := by
  obtain ⟨D, hD, F, n, r, led⟩ := X
  have sz := F.sz
  refine Calls.call_function_entry kind_sorted plain_sorted entry_sorted (args_sorted1 _) ?_
  unfold Builtin.«sorted»
  refine wpAny_bind (m := checkCount "sorted" 1 1 _) (wpAny_pure ?_)
  refine wpAny_bind (collect_set (A := A.in1) hh ⟨_, hD, rfl, rfl⟩ F.fit (by rw [sz]; exact Nat.lt_trans few (by decide)) r led fun s1 vs k1 z1 g1 o1 pm => ?_)
  have vl : vs.length = ls.length := by rw [pm.length_eq, List.length_map, Array.length_toList]; exact sz
  have isS : ∀ v ∈ vs, ∃ x t, v = Value.str x t := fun v hv => by
    obtain ⟨e, he, rfl⟩ := List.mem_map.mp (pm.mem_iff.mp hv)
    obtain ⟨⟨k, hk, _⟩, _⟩ := F.el e he
    obtain ⟨t, ht⟩ := Value.isStrOf_shape (x := k) (v := e.2) hk
    exact ⟨k, t, ht⟩
  obtain ⟨us, hS⟩ := texts_of isS
  have um : ∀ m, m ∈ us ↔ m ∈ ls := fun m => by
    rw [strs_mem hS, F.mem m]
    constructor
    · rintro ⟨t, ht⟩
      obtain ⟨e, he, ee⟩ := List.mem_map.mp (pm.mem_iff.mp ht)
      exact ⟨e, he, by rw [show e.2 = Value.str m t from ee]; exact PySem.Froz.is_str m t⟩
    · rintro ⟨e, he, ee⟩
      obtain ⟨t, ht⟩ := Value.isStrOf_shape (x := m) (v := e.2) ee
      exact ⟨t, by rw [← ht]; exact pm.mem_iff.mpr (List.mem_map.mpr ⟨e, he, rfl⟩)⟩
  refine wpAny_bind (wpAny_newList ?_ (by rw [vl, sizeLine_eq]; omega))
  have hoL : (s1.heap.push (seqObj "list" vs.toArray 0)).get? s1.heap.objs.size = some (seqObj "list" vs.toArray 0) := Heap.get?_push_size _ rfl
  refine wpAny_bind (wpAny_holding (wpAny_call_entry slot_list_sort ⟨_, hoL, rfl⟩ entry_list_sort
    (list_sort_treeK strKind_oneLt (s := { s1 with heap := s1.heap.push (seqObj "list" vs.toArray 0) }) hoL hS.keysOf (fun v₁ v₂ rest e => keyKind_strs (by rw [← e]; exact hS)) (by rw [vl]; exact few) fun st' hp hs => ⟨_, rfl, ?_⟩) (args_list_sort _)))
  obtain ⟨ys, y1, y2, y3⟩ := sorted_out_str hS hp hs
  obtain ⟨c, hc⟩ := sortedHeap_at (vs := vs) (out := (arrOf st').map (·.2)) hoL
  refine wpAny_pure ⟨_, rfl, q _ s1.heap.objs.size _ c ys (fun b u e => ?_) g1 o1 z1 hc y1 y3 ?_ fun m => (y2.mem_iff).trans (um m)⟩
  · have k := k1 b u e
    have lt := Heap.lt_size k
    have top : b < (s1.heap.push (seqObj "list" vs.toArray 0)).objs.size := by rw [size_push']; exact Nat.lt_succ_of_lt lt
    have k2 : (s1.heap.push (seqObj "list" vs.toArray 0)).get? b = some u := Heap.get?_push_of_some _ k
    have same := sortedHeap_old (h := s1.heap.push (seqObj "list" vs.toArray 0)) (vs := vs) (out := (arrOf st').map (·.2)) (Nat.ne_of_lt lt) top
    rw [k2] at same
    exact same
  · rw [y2.length_eq, ← vl]
    exact hS.len_eq.symm
end
/-- a set of texts -/
def SetS (P : Program) (w : World) (a : Addr) (ls : List Str) : HO := .ext fun h => SetX P w h a ls
theorem setS_ok {P : Program} {w : World} {H : Hp} {h : Heap} {a : Addr} {ls : List Str} (X : SetX P w h a ls) : ObjOk P w H h a (SetS P w a ls) :=
  ⟨X, (by obtain ⟨D, hD, _⟩ := X; exact ⟨_, hD⟩), fun h1 h2 x k => x.keep k⟩
section
variable {X : Cx}
def rSetTx (K : PySem.W.Frag) (P : Program) (w : World) : List V → Hp → VK → Prop := fun xs H Q => ∃ (a : Addr) (ts : List Str), xs = [.ref a] ∧ SqL K H a (ts.map V.str) ∧ ts.length ≤ 1000 ∧ ∀ (p : Addr) (ls : List Str), H p = none → (∀ m, m ∈ ls ↔ m ∈ ts) → Q (.ref p) (upd H p (SetS P w p ls))
theorem call_setTx (hc : X.calm = true) : CallR X (.type "set") (rSetTx X.K X.prog X.w) := by
  intro pins s σ H xs us Q I r h
  obtain ⟨a, ts, rfl, hs, hz, q⟩ := h
  obtain ⟨its, rv, hl, _⟩ := I.list hs
  rw [Vals.ref1 r]
  have il : its.length = ts.length := by rw [← rv.length, List.length_map]
  refine set_of (xs := ts) (I.ok.hd hc) hl.isList (by simpa using rv) (by rw [List.size_toArray, il]; exact Nat.lt_of_le_of_lt (show ts.length + 1 ≤ 1001 by omega) (by decide)) fun h' tk ls kp XX m => ?_
  exact ⟨.ref s.heap.objs.size, upd H s.heap.objs.size (SetS X.prog X.w s.heap.objs.size ls), I.laid (t' := tk) kp (Nat.le_refl _) (setS_ok XX), rfl, q _ ls (I.hok.fresh (Nat.le_refl _)) m⟩
def rSortSet (P : Program) (w : World) : List V → Hp → VK → Prop := fun xs H Q => ∃ (a : Addr) (ls : List Str), xs = [.ref a] ∧ H a = some (SetS P w a ls) ∧ (∀ l : List Str, l.Nodup → (∀ m, m ∈ l ↔ m ∈ ls) → l.length < 64) ∧
  ∀ (p : Addr) (ys : List Str), H p = none → sortedS ys = true → ys.Nodup → (∀ m, m ∈ ys ↔ m ∈ ls) → Q (.ref p) (upd H p (.lst (ys.map V.str)))
theorem perm_of {α : Type} [DecidableEq α] : ∀ {l ys : List α}, l.Nodup → (∀ m ∈ l, m ∈ ys) → ys.length = l.length → ys.Perm l
  | [], ys, _, _, e => by rw [List.length_eq_zero_iff.mp e]
  | x :: l, ys, n, h, e => by
    obtain ⟨n1, n2⟩ := List.nodup_cons.mp n
    have hx : x ∈ ys := h x List.mem_cons_self
    have le : (ys.erase x).length = l.length := by
      rw [List.length_erase_of_mem hx, e, List.length_cons, Nat.add_sub_cancel]
    exact (List.perm_cons_erase hx).trans ((perm_of n2 (fun m hm => (List.mem_erase_of_ne (fun z : m = x => n1 (by rw [← z]; exact hm))).mpr (h m (List.mem_cons_of_mem _ hm))) le).cons x)
theorem cr_sortSet (hc : X.calm = true) : CallR X (.builtin "sorted") (rSortSet X.prog X.w) := by
  intro pins s σ H xs us Q I r h
  obtain ⟨a, ls, rfl, ha, few, q⟩ := h
  obtain rfl := Vals.ref1 r
  have XX : SetX X.prog X.w s.heap a ls := (show ObjOk X.prog X.w H s.heap a (SetS X.prog X.w a ls) from I.hok a _ ha).1
  have nls : ls.Nodup := by
    obtain ⟨_, _, _, n, _⟩ := XX
    exact n
  refine sorted_setX XX (I.ok.hd hc) (few ls nls fun _ => Iff.rfl) fun s' p out c ys kp eg eo hp hat r1 r2 r3 r4 => ?_
  have yl : (ys.map V.str).length ≤ sizeLine := by
    rw [List.length_map, r3, sizeLine_eq]
    have := few ls nls fun _ => Iff.rfl
    omega
  have fr : H p = none := I.hok.fresh hp
  have nys : ys.Nodup := (perm_of nls (fun m hm => (r4 m).mpr hm) r3).nodup_iff.mpr nls
  obtain ⟨h', g', d', tk', os'⟩ := s'
  cases eo
  have J : Inv X pins σ (upd H p (.lst (ys.map V.str))) { s with heap := h', gens := g', drawn := d', toks := tk' } :=
    I.call (ch := []) (Un.laid kp hp fr) (I.hok.laid kp hp ⟨yl, out.toList, c, vals_of_strs r1, hat⟩) (by rw [show g' = s.gens from eg]; exact I.bare) fun _ z => nomatch z
  exact ⟨.ref p, _, J, rfl, q p ys fr r2 nys r4⟩
end
end Ns

/-! NsZT: set of a tuple of texts. -/
namespace Ns
open PySem PySem.Spec PyProof.Rows L2
open PySem.Froz (SD sObj tailTx addTx TxOk)
section
variable {P : Program} {w : World} {A : Around} {E : Value → Shared → Prop} {s : Shared}
theorem set_fillT {I L S : Addr} {xs : List Str} {items : Array Value} (hh : A.in1.handled = none) (hL : L ≠ I) (hS : S ≠ I) (hSL : S ≠ L) (rel : Vals (xs.map V.str) items.toList) (room : items.size + 1 < scanBound) {R : Result → Shared → Prop} :
    ∀ (k i : Nat) (s : Shared) (l : List Str), items.size - i = k → i ≤ items.size → s.heap.IsTupleIter I L i → s.heap.IsTuple L items → SetX P w s.heap S l → l.length ≤ i → (∀ m, m ∈ l ↔ m ∈ xs.take i) →
      (∀ s' l', (∀ c o, c ≠ S → c ≠ I → s.heap.get? c = some o → s'.heap.get? c = some o) → s'.gens = s.gens → s'.drawn = s.drawn → s'.os = s.os → SetX P w s'.heap S l' → (∀ m, m ∈ l' ↔ m ∈ xs) → R (.ok (.ret .none)) s') →
      codeAny (model P w) A (.builtin "set.update.loop" ⟨[.ref S, .ref I], []⟩) R s := by
  have W := Walks.tuple (prog := P) (w := w) (A := A.in1) hh I L hL items
  have lx : xs.length = items.size := by
    have := rel.length
    rw [List.length_map, Array.length_toList] at this
    exact this
  intro k
  induction k with
  | zero =>
    intro i s l hk hi i1 i2 X hl hm q
    have e : i = items.size := by omega
    rw [e] at hm i1
    refine codeAny_builtin F.entry_set_update_loop ?_
    rw [Around.under_plainId F.plain_set_update_loop _]
    refine wpAny_bind (W.done s _ _ ⟨i1, i2⟩ fun h' tk kp => ?_)
    rw [← lx, List.take_length] at hm
    exact wpAny_pure (q _ l (fun c o _ n2 e => kp c o (by rw [List.mem_singleton]; exact n2) e) rfl rfl rfl (X.keep fun o => kp S o (by rw [List.mem_singleton]; exact hS)) hm)
  | succ k ih =>
    intro i s l hk hi i1 i2 X hl hm q
    have lt : i < items.size := by omega
    refine codeAny_builtin F.entry_set_update_loop ?_
    rw [Around.under_plainId F.plain_set_update_loop _]
    refine wpAny_bind (W.item i s _ _ lt ⟨i1, i2⟩ fun v h' tk hv st kp => ?_)
    obtain ⟨x, hx, rx⟩ : ∃ x, xs[i]? = some x ∧ RelV (.str x) v := by
      have hx : xs[i]? = some xs[i] := List.getElem?_eq_getElem (by omega)
      obtain ⟨u, hu, ru⟩ := rel.get (i := i) (x := .str xs[i]) (by rw [List.getElem?_map, hx]; rfl)
      rw [Array.getElem?_toList] at hu
      rw [hv] at hu
      cases hu
      exact ⟨_, hx, ru⟩
    obtain ⟨t, rfl⟩ := rx
    refine wpAny_bind (wpAny_holding ?_)
    unfold setAdd
    refine wpAny_holding (wpAny_bind ((strKind P w).pyHash (PySem.Froz.is_str x t) ?_))
    have X1 : SetX P w h' S l := X.keep fun o => kp S o (by rw [List.mem_singleton]; exact hS)
    refine setX_add X1 (by omega) fun b h2 l2 X2 m2 n2 k2 => ?_
    have i3 : h2.IsTupleIter I L (i + 1) := st.1.at fun o e => k2 I o (Ne.symm hS) e
    have i4 : h2.IsTuple L items := st.2.at fun o e => k2 L o (Ne.symm hSL) e
    refine wpAny_pure ⟨plainId_quiet F.plain_set_update_loop _, ih (i + 1) _ l2 (by omega) lt i3 i4 X2 (by omega) (fun m => ?_) fun s' l' k3 g1 g2 g3 X3 m3 => ?_⟩
    · rw [m2, hm, List.take_succ, hx, List.mem_append]
      simp
    · exact q s' l' (fun c o c1 c2 e => k3 c o c1 c2 (k2 c o c1 (kp c o (by rw [List.mem_singleton]; exact c2) e))) g1 g2 g3 X3 m3
set_option maxHeartbeats 3200000 in
theorem set_ofT {l : Addr} {items : Array Value} {xs : List Str} {Q : Value → Shared → Prop} (hh : A.handled = none) (hl : s.heap.IsTuple l items) (rel : Vals (xs.map V.str) items.toList) (room : items.size + 1 < scanBound)
    (q : ∀ (h' : Heap) (tk : Nat) (ls : List Str), (∀ c o, s.heap.get? c = some o → h'.get? c = some o) → SetX P w h' s.heap.objs.size ls → (∀ m, m ∈ ls ↔ m ∈ xs) → Q (.ref s.heap.objs.size) { s with heap := h', toks := tk }) :
    wpAny (model P w) A (call (.type "set") [.ref l]) Q E s := by
  obtain ⟨c, tl, hmro⟩ := F.called_set.mro
  have f1 := F.called_set.made
  have f2 := F.called_set.sub
  have f3 := F.called_set.notType
  have f4 := F.called_set.canCreate
  have f5 := F.typeCall_set_1 (.ref l)
  refine wpAny_call (codeAny_of_tree ?_)
  show wpAny _ _ (callAny (.type "set") _) _ _ _
  refine wpAny_pure ⟨Code.quiet_builtin _ (by decide +kernel), codeAny_builtin F.entry_type_call ?_⟩
  rw [Around.under_plain (weight_type_call_type "set" [.ref l] []) rfl]
  repeat (any_goals (first | assumption | wp_step))
  refine codeAny_mono (code_set_led1 (.ref l) (E := E) (Q₁ := fun obj s₁ => obj = .ref s.heap.objs.size ∧ s₁ = { s with heap := s.heap.push (set0 w) }) ⟨rfl, rfl⟩) fun r s₁ hr => ?_
  rcases r with e | fl
  · exact hr
  cases fl with
  | ret obj =>
    obtain ⟨rfl, rfl⟩ := hr
    have at0 : (s.heap.push (set0 w)).get? s.heap.objs.size = some (set0 w) := Heap.get?_push_size _ rfl
    have ty0 : Shared.TypeIs { s with heap := s.heap.push (set0 w) } (.ref s.heap.objs.size) "set" := ⟨_, at0, rfl⟩
    have f6 := F.called_set.init.lookup
    have f7 := F.called_set.init.bind (.ref s.heap.objs.size)
    repeat (any_goals (first | assumption | wp_step))
    refine codeAny_mono (codeAny_call_builtin (R := wants (fun r s₂ => r = .none ∧ ∃ h' tk ls, s₂ = { s with heap := h', toks := tk } ∧ (∀ c o, s.heap.get? c = some o → h'.get? c = some o) ∧ SetX P w h' s.heap.objs.size ls ∧ ∀ m, m ∈ ls ↔ m ∈ xs) E)
      F.called_set.init.plain F.entry_set_init (check_set_init_1 ty0 ?_)) fun r₂ s₂ hr₂ => ?_
    · obtain ⟨⟨ocls, odict, odata, oslots⟩, hol, hcl, nl, hdl⟩ := hl
      simp only at hcl hdl
      subst hcl; subst hdl
      have lS : l < s.heap.objs.size := Heap.lt_size hol
      have hol' : (s.heap.push (set0 w)).get? l = some { cls := .type "tuple", dict := odict, data := .seq items nl, slots := oslots } := Heap.get?_push_of_some _ hol
      have g1 := F.sub_tuple_set
      have g2 := F.sub_tuple_frozenset
      have g3 : (Value.type "tuple" == Value.type "dict") = false := by decide
      have isl : (s.heap.push (set0 w)).IsTuple l items := ⟨_, hol', rfl, nl, rfl⟩
      unfold Builtin.«set.__init__» noKeywords Builtin.Frozenset.updateFrom
      generalize keep : pyIter = PI
      wp_walk
      subst keep
      refine wpAny_pyIter_tuple isl (wpAny_bind (wpAny_runValue ?_))
      have up : (s.heap.push (set0 w)).objs.size = s.heap.objs.size + 1 := size_push' _ _
      refine set_fillT (xs := xs) (by simp [hh]) (by rw [up]; exact Nat.ne_of_lt (Nat.lt_succ_of_lt lS)) (by rw [up]; exact Nat.ne_of_lt (Nat.lt_succ_self _)) (Nat.ne_of_gt lS) rel room items.size 0 _ [] (Nat.sub_zero _) (Nat.zero_le _) ⟨_, Heap.get?_push_size _ rfl, rfl, rfl⟩ (isl.push _)
        (setX_new (Heap.get?_push_of_some _ at0)) (Nat.le_refl _) (fun m => by rw [List.take_zero]) fun s' ls kp e1 e2 e3 X m => ?_
      obtain ⟨h', g', d', tk', os'⟩ := s'
      cases e1
      cases e2
      cases e3
      refine wpAny_pure (wpAny_pure ⟨rfl, h', tk', ls, rfl, fun c o e => ?_, X, m⟩)
      have cl : c < s.heap.objs.size := Heap.lt_size e
      exact kp c o (Nat.ne_of_lt cl) (by rw [up]; exact Nat.ne_of_lt (Nat.lt_succ_of_lt cl)) (Heap.get?_push_of_some _ (Heap.get?_push_of_some _ e))
    · rcases r₂ with e | fl₂
      · exact hr₂
      cases fl₂ with
      | ret r =>
        obtain ⟨rfl, h', tk, ls, rfl, kp, X, m⟩ := hr₂
        repeat (any_goals (first | assumption | wp_step))
        exact q h' tk ls kp X m
      | _ => exact hr₂.elim
  | _ => exact hr.elim
end
section
variable {X : Cx}
def rSetTxT (K : PySem.W.Frag) (P : Program) (w : World) : List V → Hp → VK → Prop := fun xs H Q => ∃ (a : Addr) (ts : List Str), xs = [.ref a] ∧ SqT K H a (ts.map V.str) ∧ ts.length ≤ 1000 ∧ ∀ (p : Addr) (ls : List Str), H p = none → (∀ m, m ∈ ls ↔ m ∈ ts) → Q (.ref p) (upd H p (SetS P w p ls))
theorem call_setTxT (hc : X.calm = true) : CallR X (.type "set") (rSetTxT X.K X.prog X.w) := by
  intro pins s σ H xs us Q I r h
  obtain ⟨a, ts, rfl, hs, hz, q⟩ := h
  obtain ⟨its, rv, hl, _⟩ := I.tuple hs
  rw [Vals.ref1 r]
  have il : its.length = ts.length := by rw [← rv.length, List.length_map]
  refine set_ofT (xs := ts) (I.ok.hd hc) (show s.heap.IsTuple a its.toArray from hl) (by simpa using rv) (by rw [List.size_toArray, il]; exact Nat.lt_of_le_of_lt (show ts.length + 1 ≤ 1001 by omega) (by decide)) fun h' tk ls kp XX m => ?_
  exact ⟨.ref s.heap.objs.size, upd H s.heap.objs.size (SetS X.prog X.w s.heap.objs.size ls), I.laid (t' := tk) kp (Nat.le_refl _) (setS_ok XX), rfl, q _ ls (I.hok.fresh (Nat.le_refl _)) m⟩
/-- xs != [], any list -/
def rNeE0 (K : PySem.W.Frag) : R2 := fun x y H Q => ∃ (a b : Addr) (xs : List V), x = .ref a ∧ y = .ref b ∧ SqL K H a xs ∧ SqL K H b [] ∧ Q (.bl (!decide (xs = []))) H
theorem op_neE0 {X : Cx} (hu : X.A.units + 64 < cLine) : OpR X (compareOp .NotEq) (rNeE0 X.K) := by
  intro pins s σ H x y v u Q I rx ry h
  obtain ⟨a, b, xs, rfl, rfl, ha, hb, q⟩ := h
  cases (show v = Value.ref a from rx)
  cases (show u = Value.ref b from ry)
  obtain ⟨us, r1, p1, _⟩ := I.list ha
  obtain ⟨ws, r2, p2, _⟩ := I.list hb
  have z : ws = [] := by cases r2; rfl
  subst z
  have l1 := r1.length
  cases xs with
  | nil =>
    cases us with
    | nil =>
      refine SeqAt.RcNeAt.lists (e := fun _ => true) p1.isList p2.isList rfl (by omega) (fun j h1 _ => absurd h1 (Nat.not_lt_zero j)) _ _ _ _ ?_
      exact ⟨.bl false, H, I, rfl, q⟩
    | cons _ _ => cases l1
  | cons x xs =>
    cases us with
    | nil => cases l1
    | cons u us =>
      refine SeqAt.RcNeAt.lists_lengths p1.isList p2.isList (by simp) (by omega) _ _ _ _ ?_
      exact ⟨.bl true, H, I, rfl, q⟩
end
end Ns

/-! PN3: _levels. -/
namespace Y
open PySem PySem.Spec PyProof.Rows L2 Ns
open C8 (pss_cut)
/-- bounds of a net -/
structure NtB (m : Nat) (rs : List Arc) : Prop where
  m2 : 2 ≤ m
  m4 : m ≤ 400
  len : rs.length ≤ 400
  low : ∀ a ∈ rs, a.1 < m ∧ a.2.1 < m
theorem NtB.sides {m : Nat} {rs : List Arc} (N : NtB m rs) : ∀ e, e < 2 * rs.length → EK.sSrc rs e < m ∧ EK.sDst rs e < m := fun e he => by
  have lt : e / 2 < rs.length := by omega
  have q := List.getElem?_eq_getElem lt
  have b := N.low _ (List.getElem_mem lt)
  unfold EK.sSrc EK.sDst
  rw [q]
  by_cases z : e % 2 = 0
  · simp only [z, if_true]; exact b
  · simp only [z, if_false]; exact ⟨b.2, b.1⟩
theorem nat_at {l : List Nat} {i : Nat} {x : V} (h : (natV l)[i]? = some x) : ∃ e : Nat, l[i]? = some e ∧ x = .int (e : Int) := by
  unfold natV at h
  rw [List.getElem?_map] at h
  cases g : l[i]? with
  | none => rw [g] at h; cases h
  | some e => rw [g] at h; exact ⟨e, rfl, (Option.some.inj h).symm⟩
theorem natV_len (l : List Nat) : (natV l).length = l.length := by unfold natV; rw [List.length_map]
theorem int_at (L : List Int) {v : Nat} (h : v < L.length) : (L.map V.int)[v]? = some (.int (L.getD v 0)) := by
  rw [List.getElem?_map, List.getD_eq_getElem?_getD, List.getElem?_eq_getElem h]
  rfl
def spLevels (K : PySem.W.Frag) : Sp := fun as H Q _ => ∃ (r e p : Addr) (ws : List Addr) (rs : List Arc) (m : Nat) (rm : Nat → Int), as = [.ref r, .ref e, .ref p] ∧ H r = some (.lst (sidesV rm (2 * rs.length))) ∧ H e = some (.lst (sidesV (fun e => (EK.sDst rs e : Int)) (2 * rs.length))) ∧ WyV H p ws rs m ∧ NtB m rs ∧
  ∀ (q : Addr) (H' : Hp), H' q = some (.lst ((EK.levels rs rm m).map V.int)) → H q = none → Same H H' → Q (.ref q) H'
section
variable {P : Program} {w : World} {K : PySem.W.Frag} {mg : Str → Option Value} {base : Heap}
theorem scLe : FnScope ["rooms", "ends", "ways", "levels", "front", "reached", "number", "side"] ["rooms", "ends", "ways"] (defScope sLevels) := ⟨rfl, rfl, rfl, by decide +kernel, rfl, by decide +kernel, by decide +kernel⟩
theorem ok_levels {f : Addr} {fd : FuncData} (F : Fun K "_levels" "_levels" sLevels f fd) (T : Nat0 mg) : FnOk P w K mg base CX0 1 f fd ["rooms", "ends", "ways"] (spLevels K) := by
  refine F.ok scLe (fun as H Q E h => ?_) (fun cdv A outer s H as Q E hr h => ?_)
  · obtain ⟨r, e, p, ws, rs, m, rm, rfl, _⟩ := h
    rfl
  · obtain ⟨r, e, p, ws, rs, m, rm, rfl, hR, hE, hW, N, k⟩ := h
    have hun := hr.units
    refine ⟨_, (pss_cons (ps_set (i := 3) scLe.nd rfl (.inl rfl) (pe_op op_rep (pe_lst (pa_cons (pe_un un_neg pe_int) pa_nil)) (pe_callB call_len_seq (by rfl) T.len PySem.boot_len (pa_cons (pv 2) pa_nil)))) (pss_cons (ps_asg pe_int (pg_sub (pv 3) pe_int set_list)) (pss_cons (ps_set (i := 4) scLe.nd rfl (.inl rfl) (pe_lst (pa_cons pe_int pa_nil))) (pss_cons (ps_while PassesOwn.never (PW.pt (pw_and (pt_cmpR (op_neE0 hun) (pv 4) (pe_lst pa_nil) (nomark _)) (pw_and1 (pt_cmpR op_lt (pe_ix ix_list (pv 3) pe_int (fun _ _ => rfl)) pe_int (nomark _))))) (pss_cons (ps_set (i := 5) scLe.nd rfl (.inl rfl) (pe_lst pa_nil)) (pss_cons (ps_for PassesOwn.never rfl (pi_list (pv 4)) (pg_name (i := 6) scLe.nd rfl (.inl rfl)) (pss_one (ps_for PassesOwn.never rfl (pi_list (pe_ix ix_list (pv 2) (pv 6) (fun _ _ => rfl))) (pg_name (i := 7) scLe.nd rfl (.inl rfl)) (pss_cut (ps_if (PW.pt (pw_and (pt_cmpR op_gt (pe_ix ix_list (pv 0) (pv 7) (fun _ _ => rfl)) pe_int (nomark _)) (pw_and1 (pt_cmpR op_lt (pe_ix ix_list (pv 3) (pe_ix ix_list (pv 1) (pv 7) (fun _ _ => rfl)) (fun _ _ => rfl)) pe_int (nomark _))))) (pss_cons (ps_asg (pe_op op_add (pe_ix ix_list (pv 3) (pv 6) (fun _ _ => rfl)) pe_int) (pg_sub (pv 3) (pe_ix ix_list (pv 1) (pv 7) (fun _ _ => rfl)) set_list)) (pss_one (ps_expr (pe_bm PySem.F.plainAttrs_list PySem.F.slot_list_append PySem.F.type_list_append mt_append (pv 5) (pa_cons (pe_ix ix_list (pv 1) (pv 7) (fun _ _ => rfl)) pa_nil))))) pss_nil) pss_nil)))) (pss_one (ps_set (i := 4) scLe.nd rfl (.inl rfl) (pv 5)))))) (pss_one (ps_ret (pv 3))))))), ?_⟩
    have m2 := N.m2
    have m4 := N.m4
    have wl : (ws.map V.ref).length = m := by rw [List.length_map]; exact hW.len
    -- [-1] * len(ways)
    refine ⟨1, rfl, by show 1 ≤ sizeLine; decide, fun q0 hq0 => ⟨_, rfl, p, ws.map V.ref, rfl, .inl (SqL.of (s3u hq0 hW.at')), q0, ((ws.map V.ref).length : Nat), _, rfl, rfl, upd_same, by omega, by omega, Nat.le_of_lt (small1000 (show 1 * (((ws.map V.ref).length : Nat) : Int).toNat ≤ 1000 by rw [wl]; omega)), fun q hq => ?_⟩⟩
    have M1 := same_new (o := .lst (List.replicate (((ws.map V.ref).length : Nat) : Int).toNat [V.int (-1)]).flatten) (same_new (o := .lst [.int (-1)]) (Same.refl H) hq0) hq
    have qn : H q = none := fr_none (same_new (o := .lst [.int (-1)]) (Same.refl H) hq0) hq
    have e1 : upd (upd H q0 (.lst [.int (-1)])) q (.lst (List.replicate (((ws.map V.ref).length : Nat) : Int).toNat [V.int (-1)]).flatten) q = some (.lst ((List.replicate m (-1 : Int)).map V.int)) := by
      rw [upd_same, wl, Int.toNat_natCast]
      congr 2
      rw [List.map_replicate]
      clear M1 qn hq k N m2 m4 wl hW
      induction m with
      | zero => rfl
      | succ m ih => rw [List.replicate_succ, List.flatten_cons, ih, List.replicate_succ]; rfl
    generalize upd (upd H q0 (.lst [.int (-1)])) q (.lst (List.replicate (((ws.map V.ref).length : Nat) : Int).toNat [V.int (-1)]).flatten) = H1 at M1 e1 ⊢
    -- levels[0] = 0
    refine ⟨_, rfl, q, _, 0, 0, rfl, rfl, e1, by rw [List.length_map, List.length_replicate]; exact ixN_nat (show 0 < m by omega), ?_⟩
    have M2 := same_put (o := .lst (((List.replicate m (-1 : Int)).map V.int).set 0 (.int 0))) M1 qn
    have e2 : upd H1 q (.lst (((List.replicate m (-1 : Int)).map V.int).set 0 (.int 0))) q = some (.lst ((EK.lv0 m).1.map V.int)) := by
      rw [upd_same]
      congr 2
      show _ = ((List.replicate m (-1 : Int)).set 0 0).map V.int
      rw [List.map_set]
    generalize upd H1 q (.lst (((List.replicate m (-1 : Int)).map V.int).set 0 (.int 0))) = H2 at M2 e2 ⊢
    -- front = [0]
    refine ⟨by show 1 ≤ sizeLine; decide, fun fr hfr => ?_⟩
    have M3 := same_new (o := .lst [.int 0]) M2 hfr
    have e3 := s3u (o := .lst [.int 0]) hfr e2
    have f3 : upd H2 fr (.lst [.int 0]) fr = some (.lst (natV (EK.lv0 m).2)) := upd_same
    have nf : fr ≠ q := fun z => by rw [z, e2] at hfr; cases hfr
    generalize upd H2 fr (.lst [.int 0]) = H3 at M3 e3 f3 ⊢
    clear M1 M2 e1 e2 hfr hq hq0
    have lvI : ∀ st : List Int × List Nat, EK.Lv rs rm m st.1 st.2 → EK.lvGo st = true → EK.Lv rs rm m (EK.lvRound rs rm st).1 (EK.lvRound rs rm st).2 ∧ EK.lvMu (EK.lvRound rs rm st) < EK.lvMu st := EK.lvRound_ok N.sides
    refine ⟨fun n σ G => ∃ (st : List Int × List Nat) (fr : Addr) (v5 v6 v7 : Option V), EK.Lv rs rm m st.1 st.2 ∧ n = EK.lvMu st ∧ EK.runW EK.lvGo (EK.lvRound rs rm) n st = EK.runW EK.lvGo (EK.lvRound rs rm) (EK.lvMu (EK.lv0 m)) (EK.lv0 m) ∧ σ = [some (.ref r), some (.ref e), some (.ref p), some (.ref q), some (.ref fr), v5, v6, v7] ∧
      G q = some (.lst (st.1.map V.int)) ∧ G fr = some (.lst (natV st.2)) ∧ fr ≠ q ∧ Same H G, ⟨_, EK.lv0 m, fr, none, none, none, EK.lv0_ok m2, rfl, rfl, rfl, e3, f3, nf, M3⟩, ?_⟩
    clear M3 e3 f3 nf
    rintro n σ G ⟨⟨L, Fr⟩, fr, v5, v6, v7, P0, rfl, run, rfl, g1, g2, nf, M⟩
    have lL : L.length = m := P0.len
    -- the test
    refine ⟨_, rfl, by show 0 ≤ sizeLine; decide, fun z0 hz0 => ⟨fr, z0, _, rfl, rfl, SqL.of (s3u hz0 g2), SqL.of upd_same, _, rfl, ?_⟩⟩
    have M1 := same_new (o := .lst []) M hz0
    have g1 := s3u (o := .lst []) hz0 g1
    have g2 := s3u (o := .lst []) hz0 g2
    generalize upd G z0 (.lst []) = G1 at M1 g1 g2 ⊢
    have fin : EK.lvGo (L, Fr) = false → L = EK.levels rs rm m := fun h => by
      unfold EK.levels
      rw [← run, EK.runW_stop h]
    have out : ∀ G', EK.lvGo (L, Fr) = false → G' q = some (.lst (L.map V.int)) → Same H G' → Q (.ref q) G' := fun G' h g M' => k q G' (by rw [← fin h]; exact g) qn M'
    have fe : ¬ (!decide (natV Fr = [])) = true → Fr = [] := fun he => by
      have he : natV Fr = [] := by simpa using he
      unfold natV at he
      exact List.map_eq_nil_iff.mp he
    refine ite2 (fun hne => ?_) (fun he => ⟨_, rfl, out _ (decide_eq_false fun z => z.1 (fe he)) g1 M1⟩)
    have fne : Fr ≠ [] := fun z => by
      subst z
      simp [natV] at hne
    have one : atI (L.map V.int) 1 = some (.int (L.getD 1 0)) := atI_nat (j := 1) (int_at L (show 1 < L.length by omega))
    refine ⟨_, rfl, q, _, 1, _, rfl, rfl, SqL.of g1, one, _, _, rfl, rfl, _, rfl, ?_⟩
    refine ite2 (fun h1 => ?_) (fun h1 => ⟨_, rfl, out _ (decide_eq_false fun z => h1 (decide_eq_true z.2)) g1 M1⟩)
    have go : EK.lvGo (L, Fr) = true := decide_eq_true ⟨fne, of_decide_eq_true h1⟩
    obtain ⟨P1, mu1⟩ := lvI (L, Fr) P0 go
    have run1 := EK.runW_next (I := fun st => EK.Lv rs rm m st.1 st.2) (μ := EK.lvMu) lvI (s := (L, Fr)) P0 go
    rw [run] at run1
    clear fin out hne fe
    refine ⟨_, fun σ' H' h => ⟨_, mu1, h⟩, ?_⟩
    -- reached = []
    refine ⟨by show 0 ≤ sizeLine; decide, fun rc hrc => ?_⟩
    have M2 := same_new (o := .lst []) M1 hrc
    have rn : H rc = none := fr_none M1 hrc
    have nq : rc ≠ q := fun z => by rw [z, g1] at hrc; cases hrc
    have nfr : rc ≠ fr := fun z => by rw [z, g2] at hrc; cases hrc
    have g1 := s3u (o := .lst []) hrc g1
    have g2 := s3u (o := .lst []) hrc g2
    have g3 : upd G1 rc (.lst []) rc = some (.lst (natV [])) := upd_same
    generalize upd G1 rc (.lst []) = G2 at M2 g1 g2 g3 ⊢
    clear M1 hrc M hz0
    refine ⟨_, rfl, fr, rfl, ⟨_, SqL.of g2⟩, ?_⟩
    refine for_list (K := K) (a := fr) (xs := natV Fr) (fun i σ G => ∃ (v6 v7 : Option V) (L' : List Int) (R : List Nat), σ = [some (.ref r), some (.ref e), some (.ref p), some (.ref q), some (.ref fr), some (.ref rc), v6, v7] ∧ (Fr.take i).foldl (EK.lvNode rs rm) (L, []) = (L', R) ∧ EK.Lv rs rm m L' (Fr.drop i ++ R) ∧ EK.negs L' + R.length = EK.negs L ∧
      G q = some (.lst (L'.map V.int)) ∧ G rc = some (.lst (natV R)) ∧ G fr = some (.lst (natV Fr)) ∧ Same H G) ?_ ?_ ?_ ?_
    · exact ⟨_, _, L, [], rfl, rfl, by rw [List.append_nil]; exact P0, rfl, g1, g3, g2, M2⟩
    · rintro i σ G' _ ⟨_, _, _, _, _, _, _, _, _, _, g, _⟩
      exact SqL.of g
    · clear g1 g2 g3 M2
      rintro i x σ G' hx ⟨v6, v7, L', R, rfl, ef, PL, ng, g1, g3, g2, M⟩
      obtain ⟨u, hu, rfl⟩ := nat_at hx
      have hi := (List.getElem?_eq_some_iff.mp hu).1
      have dr : Fr.drop i = u :: Fr.drop (i + 1) := by
        rw [List.drop_eq_getElem_cons hi]
        congr 1
        exact (List.getElem?_eq_some_iff.mp hu).2
      have tk : Fr.take (i + 1) = Fr.take i ++ [u] := by rw [List.take_succ, hu]; rfl
      rw [dr] at PL
      obtain ⟨um, u0⟩ := PL.fr u List.mem_cons_self
      obtain ⟨wu, hwu⟩ : ∃ w, ws[u]? = some w := ⟨_, List.getElem?_eq_getElem (by rw [hW.len]; exact um)⟩
      have hwu' : (ws.map V.ref)[u]? = some (.ref wu) := by rw [List.getElem?_map, hwu]; rfl
      have hls := hW.ls u wu hwu
      refine ⟨_, rfl, _, rfl, p, _, _, _, rfl, rfl, SqL.of (M _ _ hW.at'), atI_nat hwu', wu, rfl, ⟨_, SqL.of (M _ _ hls)⟩, ?_⟩
      have ek := EK.lvNode_ok N.sides (W0 := Fr.drop (i + 1)) PL
      have en : EK.lvNode rs rm (L', R) u = (EK.outs rs u).foldl (EK.lvSide rs rm u) (L', R) := rfl
      refine for_list (K := K) (a := wu) (xs := natV (EK.outs rs u)) (fun j σ G => ∃ (v7 : Option V) (L2 : List Int) (R2 : List Nat), σ = [some (.ref r), some (.ref e), some (.ref p), some (.ref q), some (.ref fr), some (.ref rc), some (.int (u : Int)), v7] ∧ ((EK.outs rs u).take j).foldl (EK.lvSide rs rm u) (L', R) = (L2, R2) ∧ EK.Lv rs rm m L2 ((u :: Fr.drop (i + 1)) ++ R2) ∧ EK.negs L2 + R2.length = EK.negs L ∧
        G q = some (.lst (L2.map V.int)) ∧ G rc = some (.lst (natV R2)) ∧ G fr = some (.lst (natV Fr)) ∧ Same H G) ?_ ?_ ?_ ?_
      · exact ⟨_, L', R, rfl, rfl, PL, ng, g1, g3, g2, M⟩
      · rintro j σ G'' _ ⟨_, _, _, _, _, _, _, _, _, _, M⟩
        exact SqL.of (M _ _ hls)
      · clear g1 g2 g3 M ek PL ng ef
        rintro j x σ G'' hx ⟨v7, L2, R2, rfl, ef, PL, ng, g1, g3, g2, M⟩
        obtain ⟨sd, hs, rfl⟩ := nat_at hx
        obtain ⟨slo, ssrc⟩ := EK.mem_outs.mp (List.mem_of_getElem? hs)
        have dlo := (N.sides sd slo).2
        obtain ⟨_, u0⟩ := PL.fr u List.mem_cons_self
        have step := EK.lvSide_ok N.sides (W0 := u :: Fr.drop (i + 1)) PL um u0 slo ssrc
        have tks : ((EK.outs rs u).take (j + 1)).foldl (EK.lvSide rs rm u) (L', R) = EK.lvSide rs rm u (L2, R2) sd := by
          rw [List.take_succ, hs, List.foldl_append, ef]
          rfl
        have l2 : L2.length = m := PL.len
        refine ⟨fun σ' G' => ∃ (L3 : List Int) (R3 : List Nat), EK.lvSide rs rm u (L2, R2) sd = (L3, R3) ∧ σ' = [some (.ref r), some (.ref e), some (.ref p), some (.ref q), some (.ref fr), some (.ref rc), some (.int (u : Int)), some (.int (sd : Int))] ∧ G' q = some (.lst (L3.map V.int)) ∧ G' rc = some (.lst (natV R3)) ∧ G' fr = some (.lst (natV Fr)) ∧ Same H G', ?_, ?_⟩
        · have ra := sides_at rm slo
          have ea : (sidesV (fun e => (EK.sDst rs e : Int)) (2 * rs.length))[sd]? = some (.int (EK.sDst rs sd : Int)) := sides_at _ slo
          have la := int_at L2 (show EK.sDst rs sd < L2.length by omega)
          have no : ¬ (0 < rm sd ∧ L2.getD (EK.sDst rs sd) 0 < 0) → EK.lvSide rs rm u (L2, R2) sd = (L2, R2) := fun h => by
            unfold EK.lvSide
            exact if_neg h
          refine ⟨_, rfl, _, rfl, r, _, _, _, rfl, rfl, SqL.of (M _ _ hR), atI_nat ra, _, _, rfl, rfl, _, rfl, ?_⟩
          refine ite2 (fun c1 => ?_) (fun c1 => ⟨L2, R2, no (fun z => c1 (decide_eq_true z.1)), rfl, g1, g3, g2, M⟩)
          have c1 : 0 < rm sd := of_decide_eq_true c1
          refine ⟨_, rfl, _, rfl, _, rfl, e, _, _, _, rfl, rfl, SqL.of (M _ _ hE), atI_nat ea, q, _, _, _, rfl, rfl, SqL.of g1, atI_nat la, _, _, rfl, rfl, _, rfl, ?_⟩
          refine ite2 (fun c2 => ?_) (fun c2 => ⟨L2, R2, no (fun z => c2 (decide_eq_true z.2)), rfl, g1, g3, g2, M⟩)
          have c2 : L2.getD (EK.sDst rs sd) 0 < 0 := of_decide_eq_true c2
          have yes : EK.lvSide rs rm u (L2, R2) sd = (L2.set (EK.sDst rs sd) (L2.getD u 0 + 1), R2 ++ [EK.sDst rs sd]) := by
            unfold EK.lvSide
            exact if_pos ⟨c1, c2⟩
          refine ⟨_, rfl, _, rfl, q, _, _, _, rfl, rfl, SqL.of g1, atI_nat (int_at L2 (show u < L2.length by omega)), _, _, rfl, rfl, ?_⟩
          refine ⟨_, rfl, _, rfl, _, rfl, e, _, _, _, rfl, rfl, SqL.of (M _ _ hE), atI_nat ea, q, _, _, _, rfl, rfl, g1, by rw [List.length_map]; exact ixN_nat (by omega), ?_⟩
          have M3 := same_put (o := .lst ((L2.map V.int).set (EK.sDst rs sd) (.int (L2.getD u 0 + 1)))) M qn
          have k1 : upd G'' q (.lst ((L2.map V.int).set (EK.sDst rs sd) (.int (L2.getD u 0 + 1)))) q = some (.lst ((L2.set (EK.sDst rs sd) (L2.getD u 0 + 1)).map V.int)) := by rw [upd_same, List.map_set]
          have k3 : upd G'' q (.lst ((L2.map V.int).set (EK.sDst rs sd) (.int (L2.getD u 0 + 1)))) rc = some (.lst (natV R2)) := (upd_ne nq).trans g3
          have k2 : upd G'' q (.lst ((L2.map V.int).set (EK.sDst rs sd) (.int (L2.getD u 0 + 1)))) fr = some (.lst (natV Fr)) := (upd_ne nf).trans g2
          generalize upd G'' q (.lst ((L2.map V.int).set (EK.sDst rs sd) (.int (L2.getD u 0 + 1)))) = G3 at M3 k1 k2 k3 ⊢
          have nL : EK.negs L ≤ 400 := by
            have := List.length_filter_le (fun x : Int => decide (x < 0)) L
            unfold EK.negs
            omega
          refine ⟨_, rfl, .inl ⟨rfl, _, SqL.of k3⟩, _, rfl, _, rfl, e, _, _, _, rfl, rfl, SqL.of (M3 _ _ hE), atI_nat ea, rc, _, _, rfl, rfl, k3, small1000 (by rw [natV_len]; omega), ?_⟩
          refine ⟨_, _, yes, rfl, (upd_ne (Ne.symm nq)).trans k1, ?_, (upd_ne (Ne.symm nfr)).trans k2, same_put M3 rn⟩
          rw [upd_same]
          unfold natV
          rw [List.map_append]
          rfl
        · rintro σ3 G3 ⟨L3, R3, e3, rfl, k1, k2, k3, k4⟩
          rw [e3] at step tks
          exact ⟨_, L3, R3, rfl, tks, step.1, by have sq : EK.negs L3 + R3.length = EK.negs L2 + R2.length := step.2.2.2; omega, k1, k2, k3, k4⟩
      · rintro σ G'' ⟨v7, L2, R2, rfl, ef2, PL2, ng2, g1, g3, g2, M⟩
        rw [natV_len, List.take_length] at ef2
        rw [en, ef2] at ek
        refine ⟨_, _, L2, R2, rfl, by rw [tk, List.foldl_append, ef]; exact ef2, ek.1, ng2, g1, g3, g2, M⟩
    · rintro σ G' ⟨v6, v7, L', R, rfl, ef, PL, ng, g1, g3, g2, M⟩
      rw [natV_len, List.take_length] at ef
      have er : EK.lvRound rs rm (L, Fr) = (L', R) := ef
      refine ⟨_, rfl, (L', R), rc, _, _, _, ?_, ?_, ?_, rfl, g1, g3, nq, M⟩
      · rw [← er]; exact P1
      · rw [← er]
      · rw [← er]; exact run1.symm
end
end Y

/-! PN4: _fill. -/
namespace Y
open PySem PySem.Spec PyProof.Rows L2 Ns
open C8 (pss_cut)
theorem natg {l : List Nat} {u : Nat} (h : u < l.length) : (natV l)[u]? = some (.int ((l.getD u 0 : Nat) : Int)) := by
  unfold natV
  rw [List.getElem?_map, List.getD_eq_getElem?_getD, List.getElem?_eq_getElem h]
  rfl
theorem natV_bump {t : List Nat} {u : Nat} (h : u < t.length) : (natV t).set u (.int (((t.getD u 0 : Nat) : Int) + 1)) = natV (EK.bump t u) := by
  unfold natV EK.bump
  rw [List.map_set]
  rfl
def spFill : Sp := fun as H Q _ => ∃ (r e p lv : Addr) (ws : List Addr) (rs : List Arc) (m : Nat) (E xs L : List Int), as = [.ref r, .ref e, .ref p, .ref lv] ∧ H r = some (.lst (sidesV (EK.room E xs) (2 * rs.length))) ∧ H e = some (.lst (sidesV (fun e => (EK.sDst rs e : Int)) (2 * rs.length))) ∧ WyV H p ws rs m ∧ H lv = some (.lst (L.map V.int)) ∧
  e ≠ r ∧ p ≠ r ∧ lv ≠ r ∧ r ∉ ws ∧ L.length = m ∧ L.getD 0 0 = 0 ∧ NtB m rs ∧ EK.Fw rs E m xs ∧
  ∀ H', H' r = some (.lst (sidesV (EK.room E (EK.filledS rs E m L xs).xs) (2 * rs.length))) → (∀ a o, a ≠ r → H a = some o → H' a = some o) → Q .non H'
section
variable {P : Program} {w : World} {K : PySem.W.Frag} {mg : Str → Option Value} {base : Heap}
theorem scFi : FnScope ["rooms", "ends", "ways", "levels", "tried", "trail", "here", "side"] ["rooms", "ends", "ways", "levels"] (defScope sFill) := ⟨rfl, rfl, rfl, by decide +kernel, rfl, by decide +kernel, by decide +kernel⟩
theorem ok_fill {f fA : Addr} {fd dA : FuncData} (F : Fun K "_fill" "_fill" sFill f fd) (T : Nat0 mg) (GA : FnOk P w K mg base CX0 1 fA dA ["rooms", "trail"] spAdd) (FA : Fun K "_add" "_add" sAdd fA dA) (mA : mg "_add" = some (.ref fA)) (bA : Binds K dA ["rooms", "trail"] []) : FnOk P w K mg base CX0 2 f fd ["rooms", "ends", "ways", "levels"] spFill := by
  refine F.ok scFi (fun as H Q E h => ?_) (fun cdv A outer s H as Q E hr h => ?_)
  · obtain ⟨r, e, p, lv, ws, rs, m, Es, xs, L, rfl, _⟩ := h
    rfl
  · obtain ⟨r, e, p, lv, ws, rs, m, Es, xs, L, rfl, hR, hE, hW, hL, ne, np, nl, nw, lL, L0, N, fw, k⟩ := h
    refine ⟨_, (pss_cons (ps_set (i := 4) scFi.nd rfl (.inl rfl) (pe_op op_rep (pe_lst (pa_cons pe_int pa_nil)) (pe_callB call_len_seq (by rfl) T.len PySem.boot_len (pa_cons (pv 2) pa_nil)))) (pss_cons (ps_set (i := 5) scFi.nd rfl (.inl rfl) (pe_lst pa_nil)) (pss_cons (ps_set (i := 6) scFi.nd rfl (.inl rfl) pe_int) (pss_one (ps_while PassesOwn.never (pt_cmpR op_lt (pe_ix ix_list (pv 4) pe_int (fun _ _ => rfl)) (pe_callB call_len_seq (by rfl) T.len PySem.boot_len (pa_cons (pe_ix ix_list (pv 2) pe_int (fun _ _ => rfl)) pa_nil)) (nomark _)) (pss_one (ps_if (pt_cmpR op_eq (pv 6) pe_int (nomark _)) (pss_cons (ps_expr (pe_call GA hr rfl mA FA.kp bA .nil pass0 (pa_cons (pv 0) (pa_cons (pv 5) pa_nil)))) (pss_cons (ps_set (i := 5) scFi.nd rfl (.inl rfl) (pe_lst pa_nil)) (pss_one (ps_set (i := 6) scFi.nd rfl (.inl rfl) pe_int)))) (pss_one (ps_if (pt_cmpR op_eq (pe_ix ix_list (pv 4) (pv 6) (fun _ _ => rfl)) (pe_callB call_len_seq (by rfl) T.len PySem.boot_len (pa_cons (pe_ix ix_list (pv 2) (pv 6) (fun _ _ => rfl)) pa_nil)) (nomark _)) (pss_cons (ps_set (i := 6) scFi.nd rfl (.inl rfl) (pe_ix ix_list (pv 1) (pe_op op_xor (pe_bm0 PySem.F.plainAttrs_list PySem.F.slot_list_pop PySem.F.type_list_pop mt_pop (pv 5)) pe_int) (fun _ _ => rfl))) (pss_one (ps_augS (pv 4) (pv 6) get_list pe_int ip_add set_list))) (pss_cons (ps_set (i := 7) scFi.nd rfl (.inl rfl) (pe_ix ix_list (pe_ix ix_list (pv 2) (pv 6) (fun _ _ => rfl)) (pe_ix ix_list (pv 4) (pv 6) (fun _ _ => rfl)) (fun _ _ => rfl))) (pss_one (ps_if (PW.pt (pw_and (pt_cmpR op_gt (pe_ix ix_list (pv 0) (pv 7) (fun _ _ => rfl)) pe_int (nomark _)) (pw_and1 (pt_cmpR op_eq (pe_ix ix_list (pv 3) (pe_ix ix_list (pv 1) (pv 7) (fun _ _ => rfl)) (fun _ _ => rfl)) (pe_op op_add (pe_ix ix_list (pv 3) (pv 6) (fun _ _ => rfl)) pe_int) (nomark _))))) (pss_cons (ps_expr (pe_bm PySem.F.plainAttrs_list PySem.F.slot_list_append PySem.F.type_list_append mt_append (pv 5) (pa_cons (pv 7) pa_nil))) (pss_one (ps_set (i := 6) scFi.nd rfl (.inl rfl) (pe_ix ix_list (pv 1) (pv 7) (fun _ _ => rfl))))) (pss_one (ps_augS (pv 4) (pv 6) get_list pe_int ip_add set_list)))))))))))))), ?_⟩
    have m2 := N.m2
    have m4 := N.m4
    have wl : (ws.map V.ref).length = m := by rw [List.length_map]; exact hW.len
    have wne : ∀ {u : Nat} {w : Addr}, ws[u]? = some w → w ≠ r := fun h z => nw (by rw [← z]; exact List.mem_of_getElem? h)
    -- tried, trail, here
    refine ⟨by show 1 ≤ sizeLine; decide, fun q0 hq0 => ⟨_, rfl, p, ws.map V.ref, rfl, .inl (SqL.of (s3u hq0 hW.at')), q0, ((ws.map V.ref).length : Nat), _, rfl, rfl, upd_same, by omega, by omega, Nat.le_of_lt (small1000 (show 1 * (((ws.map V.ref).length : Nat) : Int).toNat ≤ 1000 by rw [wl]; omega)), fun tq htq => ?_⟩⟩
    have M1 := same_new (o := .lst (List.replicate (((ws.map V.ref).length : Nat) : Int).toNat [V.int 0]).flatten) (same_new (o := .lst [.int 0]) (Same.refl H) hq0) htq
    have tn : H tq = none := fr_none (same_new (o := .lst [.int 0]) (Same.refl H) hq0) htq
    have e1 : upd (upd H q0 (.lst [.int 0])) tq (.lst (List.replicate (((ws.map V.ref).length : Nat) : Int).toNat [V.int 0]).flatten) tq = some (.lst (natV (List.replicate m 0))) := by
      rw [upd_same, wl, Int.toNat_natCast]
      congr 2
      unfold natV
      rw [List.map_replicate]
      clear M1 tn htq k N m2 m4 wl hW fw lL
      induction m with
      | zero => rfl
      | succ m ih => rw [List.replicate_succ, List.flatten_cons, ih, List.replicate_succ]; rfl
    generalize upd (upd H q0 (.lst [.int 0])) tq (.lst (List.replicate (((ws.map V.ref).length : Nat) : Int).toNat [V.int 0]).flatten) = H1 at M1 e1 ⊢
    refine ⟨by show 0 ≤ sizeLine; decide, fun tr htr => ?_⟩
    have M2 := same_new (o := .lst []) M1 htr
    have rn : H tr = none := fr_none M1 htr
    have e2 := s3u (o := .lst []) htr e1
    have f2 : upd H1 tr (.lst []) tr = some (.lst (natV [])) := upd_same
    have nt : tr ≠ tq := fun z => by rw [z, e1] at htr; cases htr
    generalize upd H1 tr (.lst []) = H2 at M2 e2 f2 ⊢
    clear M1 e1 htr htq hq0
    have st0 := EK.fs0_ok (S := fun _ => true) (L := L) (n := m) (E := Es) (as := rs) (xs := xs)
    have ntq : tq ≠ r := fun z => by rw [z, hR] at tn; cases tn
    have stI : ∀ s : EK.FS, EK.Fl rs Es L m xs s → EK.fillGo rs s = true → EK.Fl rs Es L m xs (EK.fillStep rs Es L s) ∧ EK.fillMu rs Es L m (EK.fillStep rs Es L s) < EK.fillMu rs Es L m s := EK.fill_ok N.sides m2 L0
    have start : EK.Fl rs Es L m xs (EK.fs0 m xs) := by
      have z : ∀ u, (List.replicate m 0).getD u 0 = 0 := fun u => by
        rw [List.getD_eq_getElem?_getD, List.getElem?_replicate]
        split <;> rfl
      refine ⟨List.length_replicate, by show 0 < m; omega, rfl, (fun _ z => nomatch z), (fun _ z => nomatch z), (fun _ z => nomatch z), fun u j e hu hj hlt => ?_, fun u _ => ?_, fw, .inl rfl, fun i => ?_, fun i a _ _ => Int.le_refl _⟩
      · have hlt : j < (List.replicate m 0).getD u 0 := hlt
        rw [z] at hlt
        omega
      · show (List.replicate m 0).getD u 0 ≤ _
        rw [z]
        omega
      · show xs.getD i 0 - xs.getD i 0 ≤ EK.sp 1 rs xs - EK.sp 1 rs xs
        omega
    refine ⟨fun n σ G => ∃ (st : EK.FS) (tr : Addr) (v7 : Option V), EK.Fl rs Es L m xs st ∧ n = EK.fillMu rs Es L m st ∧ EK.runW (EK.fillGo rs) (EK.fillStep rs Es L) n st = EK.filledS rs Es m L xs ∧ σ = [some (.ref r), some (.ref e), some (.ref p), some (.ref lv), some (.ref tq), some (.ref tr), some (.int (st.here : Int)), v7] ∧
      G r = some (.lst (sidesV (EK.room Es st.xs) (2 * rs.length))) ∧ G tq = some (.lst (natV st.tried)) ∧ G tr = some (.lst (natV st.trail)) ∧ tr ≠ tq ∧ H tr = none ∧ (∀ a o, a ≠ r → H a = some o → G a = some o), ⟨_, EK.fs0 m xs, tr, none, start, rfl, rfl, rfl, M2 _ _ hR, e2, f2, nt, rn, fun a o _ h => M2 a o h⟩, ?_⟩
    clear M2 e2 f2 nt rn start st0
    rintro n σ G ⟨st, tr, v7, Fl, rfl, run, rfl, g1, g2, g3, nt, rn, M⟩
    have ntr : tr ≠ r := fun z => by rw [z, hR] at rn; cases rn
    have tl := Fl.tl
    have GE := M _ _ ne hE
    have GL := M _ _ nl hL
    have GW := M _ _ np hW.at'
    have way : ∀ {u : Nat}, u < m → ∃ w, (ws.map V.ref)[u]? = some (.ref w) ∧ G w = some (.lst (natV (EK.outs rs u))) := fun {u} hu => by
      obtain ⟨w, hw⟩ : ∃ w, ws[u]? = some w := ⟨_, List.getElem?_eq_getElem (by rw [hW.len]; exact hu)⟩
      exact ⟨w, by rw [List.getElem?_map, hw]; rfl, M _ _ (wne hw) (hW.ls u w hw)⟩
    -- the test
    obtain ⟨w0, hw0, gw0⟩ := way (u := 0) (by omega)
    have t0 : atI (natV st.tried) 0 = some (.int ((st.tried.getD 0 0 : Nat) : Int)) := atI_nat (j := 0) (natg (by omega))
    have p0 : atI (ws.map V.ref) 0 = some (.ref w0) := atI_nat (j := 0) hw0
    refine ⟨_, rfl, tq, _, 0, _, rfl, rfl, SqL.of g2, t0, _, rfl, p, _, 0, _, rfl, rfl, SqL.of GW, p0, w0, _, rfl, .inl (SqL.of gw0), _, _, rfl, rfl, _, rfl, ?_⟩
    rw [natV_len]
    refine ite2 (fun c => ?_) (fun c => ?_)
    · have c : ((st.tried.getD 0 0 : Nat) : Int) < ((EK.outs rs 0).length : Nat) := of_decide_eq_true c
      have goT : EK.fillGo rs st = true := decide_eq_true (by omega)
      obtain ⟨F1, mu1⟩ := stI st Fl goT
      have run1 := EK.runW_next (I := EK.Fl rs Es L m xs) (μ := EK.fillMu rs Es L m) stI Fl goT
      rw [run] at run1
      refine ⟨_, fun σ' H' h => ⟨_, mu1, h⟩, ?_⟩
      have sh := Fl.short N.sides
      have hh : st.here < st.tried.length := by rw [tl]; exact Fl.hn
      have lx := Fl.fw.thr.len
      have l4 := N.len
      refine ⟨_, rfl, rfl, _, rfl, ?_⟩
      refine ite2 (fun c1 => ?_) (fun c1 => ?_)
      · have c1 : st.here = 1 := by
          have := of_decide_eq_true c1
          injection this with z
          omega
        have eA : EK.fillStep rs Es L st = ⟨EK.addF rs Es st.xs st.trail, st.tried, [], 0⟩ := by unfold EK.fillStep; exact if_pos c1
        have tne : st.trail ≠ [] := fun z => by
          have := Fl.tr
          rw [z, c1] at this
          cases (show (0 : Nat) = 1 from this)
        refine ⟨_, rfl, _, rfl, r, tr, rs, Es, st.xs, st.trail, rfl, g1, g3, Ne.symm ntr, tne, by omega, Fl.low, l4, lx.symm, fun G1 h1 M1 => ?_⟩
        refine ⟨by show 0 ≤ sizeLine; decide, fun tr2 htr2 => ?_⟩
        have n2r : tr2 ≠ r := fun z => by rw [z, h1] at htr2; cases htr2
        have old : ∀ a o, a ≠ r → H a = some o → G1 a = some o := fun a o n h => M1 a o n (M a o n h)
        have n2 : H tr2 = none := by
          cases z : H tr2 with
          | none => rfl
          | some o => rw [old _ _ n2r z] at htr2; cases htr2
        have tq1 := M1 _ _ ntq g2
        have n3 : tr2 ≠ tq := fun z => by rw [z, tq1] at htr2; cases htr2
        refine ⟨EK.fillStep rs Es L st, tr2, _, F1, rfl, run1.symm, by rw [eA]; rfl, ?_, ?_, ?_, n3, n2, fun a o n h => s3u htr2 (old a o n h)⟩
        · rw [eA]; exact s3u htr2 h1
        · rw [eA]; exact s3u htr2 tq1
        · rw [eA]; exact upd_same
      · have c1 : st.here ≠ 1 := fun z => c1 (decide_eq_true (by rw [z]; rfl))
        obtain ⟨wh, hwh, gwh⟩ := way Fl.hn
        refine ⟨_, rfl, _, rfl, tq, _, _, _, rfl, rfl, SqL.of g2, atI_nat (natg hh), _, rfl, _, rfl, p, _, _, _, rfl, rfl, SqL.of GW, atI_nat hwh, wh, _, rfl, .inl (SqL.of gwh), rfl, _, rfl, ?_⟩
        refine ite2 (fun c2 => ?_) (fun c2 => ?_)
        · have c2 : st.tried.getD st.here 0 = (EK.outs rs st.here).length := by
            have := of_decide_eq_true c2
            injection this with z
            rw [natV_len] at z
            omega
          have h0 : st.here ≠ 0 := fun z => by rw [z] at c2; omega
          have tne : st.trail ≠ [] := fun z => by
            have := Fl.tr
            rw [z] at this
            exact h0 (show (0 : Nat) = st.here from this).symm
          obtain ⟨sd, w', ew, ed⟩ := Fl.tr.last tne
          have sdm : sd ∈ st.trail := by rw [ew]; exact List.mem_append_right _ (List.mem_singleton.mpr rfl)
          have slo := Fl.low sd sdm
          have src := (N.sides sd slo).1
          have gl : st.trail.getLastD 0 = sd := by rw [ew]; simp
          have dl : st.trail.dropLast = w' := by rw [ew]; simp
          have eB : EK.fillStep rs Es L st = ⟨st.xs, EK.bump st.tried (EK.sSrc rs sd), w', EK.sSrc rs sd⟩ := by
            unfold EK.fillStep
            rw [if_neg c1, if_pos c2, gl, dl]
          have nv : natV st.trail = natV w' ++ [V.int (sd : Int)] := by
            rw [ew]
            unfold natV
            rw [List.map_append]
            rfl
          have lastV : (natV st.trail)[(natV st.trail).length - 1]? = some (.int (sd : Int)) := by
            rw [nv, List.length_append]
            show (natV w' ++ [V.int (sd : Int)])[(natV w').length + 1 - 1]? = _
            rw [Nat.add_sub_cancel, List.getElem?_append_right (Nat.le_refl _), Nat.sub_self]
            rfl
          have dropV : (natV st.trail).dropLast = natV w' := by rw [nv, List.dropLast_concat]
          have fl := flp_lt slo
          have xf := xor_flp (e := sd) (by omega)
          have ea : atI (sidesV (fun e => (EK.sDst rs e : Int)) (2 * rs.length)) (Builtin.bitXor (sd : Int) 1) = some (.int (EK.sSrc rs sd : Int)) := by
            rw [xf, atI_nat (sides_at _ fl), (src_flp rs sd).2]
          have htu : EK.sSrc rs sd < st.tried.length := by rw [tl]; exact src
          have ner : e ≠ tr := fun z => by rw [z, rn] at hE; cases hE
          refine ⟨_, rfl, _, rfl, .inl ⟨rfl, _, SqL.of g3⟩, tr, _, _, rfl, rfl, g3, lastV, _, _, rfl, rfl, e, _, _, _, rfl, rfl, SqL.of ((upd_ne ner).trans GE), ea, ?_⟩
          rw [dropV]
          refine ⟨_, rfl, _, rfl, tq, _, _, _, rfl, rfl, SqL.of ((upd_ne (Ne.symm nt)).trans g2), atI_nat (natg htu), _, _, rfl, rfl, tq, _, _, EK.sSrc rs sd, rfl, rfl, (upd_ne (Ne.symm nt)).trans g2, by rw [natV_len]; exact ixN_nat htu, ?_⟩
          refine ⟨EK.fillStep rs Es L st, tr, _, F1, rfl, run1.symm, by rw [eB]; rfl, ?_, ?_, ?_, nt, rn, fun a o n h => ?_⟩
          · rw [eB]; exact (upd_ne (Ne.symm ntq)).trans ((upd_ne (Ne.symm ntr)).trans g1)
          · rw [eB, upd_same, natV_bump htu]
          · rw [eB]; exact (upd_ne nt).trans upd_same
          · exact (upd_ne (fun z => by rw [z, tn] at h; cases h)).trans ((upd_ne (fun z => by rw [z, rn] at h; cases h)).trans (M a o n h))
        · have c2 : st.tried.getD st.here 0 ≠ (EK.outs rs st.here).length := fun z => c2 (decide_eq_true (by rw [natV_len, z]))
          have lt : st.tried.getD st.here 0 < (EK.outs rs st.here).length := by
            have := Fl.tm _ Fl.hn
            omega
          have sdat : (natV (EK.outs rs st.here))[st.tried.getD st.here 0]? = some (.int (((EK.outs rs st.here).getD (st.tried.getD st.here 0) 0 : Nat) : Int)) := natg lt
          have sm : (EK.outs rs st.here).getD (st.tried.getD st.here 0) 0 ∈ EK.outs rs st.here := by
            have := List.getElem?_eq_getElem lt
            rw [EK.getN_of this]
            exact List.getElem_mem lt
          have eCD : EK.fillStep rs Es L st = (let e := (EK.outs rs st.here).getD (st.tried.getD st.here 0) 0; if 0 < EK.room Es st.xs e ∧ L.getD (EK.sDst rs e) 0 = L.getD st.here 0 + 1 then ⟨st.xs, st.tried, st.trail ++ [e], EK.sDst rs e⟩ else ⟨st.xs, EK.bump st.tried st.here, st.trail, st.here⟩) := by
            unfold EK.fillStep
            rw [if_neg c1, if_neg c2]
          generalize (EK.outs rs st.here).getD (st.tried.getD st.here 0) 0 = sd at sdat sm eCD
          obtain ⟨slo, ssrc⟩ := EK.mem_outs.mp sm
          have dlo := (N.sides sd slo).2
          have eC : (0 < EK.room Es st.xs sd ∧ L.getD (EK.sDst rs sd) 0 = L.getD st.here 0 + 1) → EK.fillStep rs Es L st = ⟨st.xs, st.tried, st.trail ++ [sd], EK.sDst rs sd⟩ := fun h => eCD.trans (if_pos h)
          have dD : ¬ (0 < EK.room Es st.xs sd ∧ L.getD (EK.sDst rs sd) 0 = L.getD st.here 0 + 1) → EK.fillStep rs Es L st = ⟨st.xs, EK.bump st.tried st.here, st.trail, st.here⟩ := fun h => eCD.trans (if_neg h)
          have ea : (sidesV (fun e => (EK.sDst rs e : Int)) (2 * rs.length))[sd]? = some (.int (EK.sDst rs sd : Int)) := sides_at _ slo
          refine ⟨_, rfl, _, rfl, p, _, _, _, rfl, rfl, SqL.of GW, atI_nat hwh, _, rfl, _, rfl, tq, _, _, _, rfl, rfl, SqL.of g2, atI_nat (natg hh), wh, _, _, _, rfl, rfl, SqL.of gwh, atI_nat sdat, ?_⟩
          refine ⟨_, rfl, _, rfl, r, _, _, _, rfl, rfl, SqL.of g1, atI_nat (sides_at _ slo), _, _, rfl, rfl, _, rfl, ?_⟩
          refine ite2 (fun c3 => ?_) (fun c3 => ?_)
          · have c3 : 0 < EK.room Es st.xs sd := of_decide_eq_true c3
            refine ⟨_, rfl, _, rfl, _, rfl, e, _, _, _, rfl, rfl, SqL.of GE, atI_nat ea, lv, _, _, _, rfl, rfl, SqL.of GL, atI_nat (int_at L (show EK.sDst rs sd < L.length by omega)), _, rfl, _, rfl, lv, _, _, _, rfl, rfl, SqL.of GL, atI_nat (int_at L (show st.here < L.length by rw [lL]; exact Fl.hn)), _, _, rfl, rfl, rfl, _, rfl, ?_⟩
            refine ite2 (fun c4 => ?_) (fun c4 => ?_)
            · have c4 : L.getD (EK.sDst rs sd) 0 = L.getD st.here 0 + 1 := by
                have := of_decide_eq_true c4
                injection this
              have eC := eC ⟨c3, c4⟩
              refine ⟨_, rfl, .inl ⟨rfl, _, SqL.of g3⟩, _, rfl, tr, _, _, rfl, rfl, g3, small1000 (by rw [natV_len]; omega), ?_⟩
              have ner : e ≠ tr := fun z => by rw [z, rn] at hE; cases hE
              refine ⟨_, rfl, _, rfl, e, _, _, _, rfl, rfl, SqL.of ((upd_ne ner).trans GE), atI_nat ea, ?_⟩
              refine ⟨EK.fillStep rs Es L st, tr, _, F1, rfl, run1.symm, by rw [eC]; rfl, ?_, ?_, ?_, nt, rn, fun a o n h => ?_⟩
              · rw [eC]; exact (upd_ne (Ne.symm ntr)).trans g1
              · rw [eC]; exact (upd_ne (Ne.symm nt)).trans g2
              · rw [eC, upd_same]
                unfold natV
                rw [List.map_append]
                rfl
              · exact (upd_ne (fun z => by rw [z, rn] at h; cases h)).trans (M a o n h)
            · have d1 : EK.fillStep rs Es L st = ⟨st.xs, EK.bump st.tried st.here, st.trail, st.here⟩ := dD fun z => c4 (decide_eq_true (by rw [z.2]))
              refine ⟨_, rfl, _, rfl, tq, _, _, _, rfl, rfl, SqL.of g2, atI_nat (natg hh), _, _, rfl, rfl, tq, _, _, st.here, rfl, rfl, g2, by rw [natV_len]; exact ixN_nat hh, ?_⟩
              refine ⟨EK.fillStep rs Es L st, tr, _, F1, rfl, run1.symm, by rw [d1]; rfl, ?_, ?_, ?_, nt, rn, fun a o n h => ?_⟩
              · rw [d1]; exact (upd_ne (Ne.symm ntq)).trans g1
              · rw [d1, upd_same, natV_bump hh]
              · rw [d1]; exact (upd_ne nt).trans g3
              · exact (upd_ne (fun z => by rw [z, tn] at h; cases h)).trans (M a o n h)
          · have d1 : EK.fillStep rs Es L st = ⟨st.xs, EK.bump st.tried st.here, st.trail, st.here⟩ := dD fun z => c3 (decide_eq_true z.1)
            refine ⟨_, rfl, _, rfl, tq, _, _, _, rfl, rfl, SqL.of g2, atI_nat (natg hh), _, _, rfl, rfl, tq, _, _, st.here, rfl, rfl, g2, by rw [natV_len]; exact ixN_nat hh, ?_⟩
            refine ⟨EK.fillStep rs Es L st, tr, _, F1, rfl, run1.symm, by rw [d1]; rfl, ?_, ?_, ?_, nt, rn, fun a o n h => ?_⟩
            · rw [d1]; exact (upd_ne (Ne.symm ntq)).trans g1
            · rw [d1, upd_same, natV_bump hh]
            · rw [d1]; exact (upd_ne nt).trans g3
            · exact (upd_ne (fun z => by rw [z, tn] at h; cases h)).trans (M a o n h)
    · have c : ¬ ((st.tried.getD 0 0 : Nat) : Int) < ((EK.outs rs 0).length : Nat) := of_decide_eq_false (by simpa using c)
      have es : st = EK.filledS rs Es m L xs := by
        rw [← run]
        have off : EK.fillGo rs st = false := decide_eq_false (by omega)
        exact (EK.runW_stop off _).symm
      exact k G (by rw [← es]; exact g1) M
end
end Y

/-! PN5: grown, most_through, source_side. -/
namespace Y
open PySem PySem.Spec PyProof.Rows L2 Ns
open C8 (pss_cut)
theorem both_fw {m : Nat} {rs : List Arc} {ts : List Int} (T : EK.Thr m rs ts) (C : ∀ a ∈ rs, ∀ c, a.2.2 = some c → 0 ≤ c) : EK.Fw rs (both rs ts) m ts := by
  have lt := T.len
  have cs : 0 ≤ capSum rs := by
    unfold capSum
    have go : ∀ l : List Int, (∀ x ∈ l, 0 ≤ x) → 0 ≤ l.sum := fun l => by
      induction l with
      | nil => exact fun _ => Int.le_refl _
      | cons x l ih =>
        intro h
        rw [List.sum_cons]
        have := ih fun y hy => h y (List.mem_cons_of_mem _ hy)
        have := h x List.mem_cons_self
        omega
    refine go _ fun x hx => ?_
    obtain ⟨a, ha, e⟩ := List.mem_filterMap.mp hx
    exact C a ha x e
  have ss : 0 ≤ ts.sum := by
    have go : ∀ l : List Int, (∀ x ∈ l, 0 ≤ x) → 0 ≤ l.sum := fun l => by
      induction l with
      | nil => exact fun _ => Int.le_refl _
      | cons x l ih =>
        intro h
        rw [List.sum_cons]
        have := ih fun y hy => h y (List.mem_cons_of_mem _ hy)
        have := h x List.mem_cons_self
        omega
    exact go _ T.pos
  have row : ∀ i, i < rs.length → ∃ r z, rs[i]? = some r ∧ ts[i]? = some z := fun i hi => ⟨_, _, List.getElem?_eq_getElem hi, List.getElem?_eq_getElem (by omega)⟩
  refine ⟨T, by unfold both; rw [List.length_map, List.length_zip]; omega, fun i a c ha hc => ?_, fun e he => ?_⟩
  · obtain ⟨z, hz⟩ : ∃ z, ts[i]? = some z := ⟨_, List.getElem?_eq_getElem (by have := (List.getElem?_eq_some_iff.mp ha).1; omega)⟩
    rw [both_at ha hz, hc]
  · obtain ⟨r, z, h1, h2⟩ := row (e / 2) (by omega)
    obtain ⟨p1, p2⟩ := room_even h1 h2
    have b := T.has _ _ _ h1 h2
    by_cases q : e % 2 = 0
    · rw [show e = 2 * (e / 2) by omega, p1]
      cases hc : r.2.2 with
      | none => show 0 ≤ 1 + capSum rs + ts.sum; omega
      | some c =>
        have := b.2 c hc
        show 0 ≤ c - z
        omega
    · rw [show e = 2 * (e / 2) + 1 by omega, p2]
      exact b.1
theorem odds_room {E zs : List Int} {n : Nat} (h : zs.length = n) : odds (sidesV (EK.room E zs) (2 * n)) = zs.map V.int := by
  unfold sidesV
  rw [odds_map]
  refine List.ext_getElem? fun j => ?_
  rw [List.getElem?_map, List.getElem?_map]
  by_cases hj : j < n
  · rw [List.getElem?_range hj, List.getElem?_eq_getElem (by omega)]
    show some (V.int (EK.room E zs (2 * j + 1))) = some (V.int zs[j])
    have e1 : (2 * j + 1) / 2 = j ∧ ¬ (2 * j + 1) % 2 = 0 := by omega
    unfold EK.room
    rw [if_neg e1.2, e1.1, List.getD_eq_getElem?_getD, List.getElem?_eq_getElem (by omega)]
    rfl
  · rw [List.getElem?_eq_none (by rw [List.length_range]; omega), List.getElem?_eq_none (by omega)]
    rfl
def spGrown (K : PySem.W.Frag) : Sp := fun as H Q _ => ∃ (y : V) (a : Addr) (m : Nat) (rs : List Arc) (ts : List Int) (S : Nat → Bool), as = [y, .ref a] ∧ NetV K H y m rs ∧ NtB m rs ∧ EK.Nt rs m S ∧ (∀ a ∈ rs, ∀ c, a.2.2 = some c → 0 ≤ c) ∧ SqT K H a (ts.map V.int) ∧ EK.Thr m rs ts ∧
  ∀ (p : Addr) (H' : Hp), H' p = some (.tup ((EK.grownN rs (both rs ts) m S ts).map V.int)) → H p = none → Same H H' → Q (.ref p) H'
def spMost (K : PySem.W.Frag) : Sp := fun as H Q _ => ∃ (y : V) (m : Nat) (rs : List Arc) (S : Nat → Bool), as = [y] ∧ NetV K H y m rs ∧ NtB m rs ∧ EK.Nt rs m S ∧ (∀ a ∈ rs, ∀ c, a.2.2 = some c → 0 ≤ c) ∧
  ∀ (p : Addr) (H' : Hp), H' p = some (.tup ((EK.grownN rs (both rs (List.replicate rs.length 0)) m S (List.replicate rs.length 0)).map V.int)) → H p = none → Same H H' → Q (.ref p) H'
def spSource (K : PySem.W.Frag) : Sp := fun as H Q _ => ∃ (y : V) (a : Addr) (m : Nat) (rs : List Arc) (ts : List Int), as = [y, .ref a] ∧ NetV K H y m rs ∧ NtB m rs ∧ SqT K H a (ts.map V.int) ∧ ts.length = rs.length ∧
  ∀ (p : Addr) (H' : Hp), H' p = some (.tup (natV ((List.range m).filter (EK.sideOf (EK.lvls rs (both rs ts) m ts))))) → H p = none → Same H H' → Q (.ref p) H'
theorem zero_thr (m : Nat) (rs : List Arc) (C : ∀ a ∈ rs, ∀ c, a.2.2 = some c → 0 ≤ c) : EK.Thr m rs (List.replicate rs.length 0) := by
  refine ⟨by rw [List.length_replicate], fun i a x ha hx => ?_, fun k _ _ => ?_⟩
  · rw [List.getElem?_replicate] at hx
    split at hx
    · cases hx
      exact ⟨Int.le_refl _, fun c hc => C a (List.mem_of_getElem? ha) c hc⟩
    · cases hx
  · have go : ∀ l : List Arc, EK.sp k l (List.replicate l.length 0) = 0 := fun l => by
      induction l with
      | nil => rfl
      | cons b l ih =>
        show ((if b.2.1 = k then (0 : Int) else 0) - (if b.1 = k then (0 : Int) else 0)) + EK.sp k l (List.replicate l.length 0) = 0
        rw [ih]
        split <;> split <;> rfl
    exact go rs
section
variable {P : Program} {w : World} {K : PySem.W.Frag} {mg : Str → Option Value} {base : Heap}
theorem scGr : FnScope ["net", "through", "rooms", "ends", "ways", "levels"] ["net", "through"] (defScope sGrown) := ⟨rfl, rfl, rfl, by decide +kernel, rfl, by decide +kernel, by decide +kernel⟩
theorem ok_grown {f fR fE fW fL fF : Addr} {fd dR dE dW dL dF : FuncData} (F : Fun K "grown" "grown" sGrown f fd) (T : Nat0 mg)
    (GR : FnOk P w K mg base CX0 1 fR dR ["net", "through"] (spRooms K)) (FR : Fun K "_rooms" "_rooms" sRooms fR dR) (mR : mg "_rooms" = some (.ref fR)) (bR : Binds K dR ["net", "through"] [])
    (GE : FnOk P w K mg base CX0 1 fE dE ["net"] (spEnds K)) (FE : Fun K "_ends" "_ends" sEnds fE dE) (mE : mg "_ends" = some (.ref fE)) (bE : Binds K dE ["net"] [])
    (GW : FnOk P w K mg base CX0 1 fW dW ["net"] (spWays K)) (FW : Fun K "_ways" "_ways" sWays fW dW) (mW : mg "_ways" = some (.ref fW)) (bW : Binds K dW ["net"] [])
    (GL : FnOk P w K mg base CX0 1 fL dL ["rooms", "ends", "ways"] (spLevels K)) (FL : Fun K "_levels" "_levels" sLevels fL dL) (mL : mg "_levels" = some (.ref fL)) (bL : Binds K dL ["rooms", "ends", "ways"] [])
    (GF : FnOk P w K mg base CX0 2 fF dF ["rooms", "ends", "ways", "levels"] spFill) (FF : Fun K "_fill" "_fill" sFill fF dF) (mF : mg "_fill" = some (.ref fF)) (bF : Binds K dF ["rooms", "ends", "ways", "levels"] []) :
    FnOk P w K mg base CX0 3 f fd ["net", "through"] (spGrown K) := by
  refine F.ok scGr (fun as H Q E h => ?_) (fun cdv A outer s H as Q E hr h => ?_)
  · obtain ⟨y, a, m, rs, ts, S, rfl, _⟩ := h
    rfl
  · obtain ⟨y, a, m, rs, ts, S, rfl, hN, N, NT, C, hT, thr, k⟩ := h
    have hr1 : Room 1 _ := hr.mono (by decide)
    refine ⟨_, (pss_cons (ps_par3 (i := 2) (j := 3) (k := 4) rfl scGr.nd rfl rfl rfl (by decide) (by decide) (by decide) rfl rfl rfl (pa_cons (pe_call GR hr1 rfl mR FR.kp bR .nil pass0 (pa_cons (pv 0) (pa_cons (pv 1) pa_nil))) (pa_cons (pe_call GE hr1 rfl mE FE.kp bE .nil pass0 (pa_cons (pv 0) pa_nil)) (pa_cons (pe_call GW hr1 rfl mW FW.kp bW .nil pass0 (pa_cons (pv 0) pa_nil)) pa_nil))) (by rfl)) (pss_cons (ps_set (i := 5) scGr.nd rfl (.inl rfl) (pe_call GL hr1 rfl mL FL.kp bL .nil pass0 (pa_cons (pv 2) (pa_cons (pv 3) (pa_cons (pv 4) pa_nil))))) (pss_cons (ps_while PassesOwn.never (pt_cmpR op_gt (pe_ix ix_list (pv 5) pe_int (fun _ _ => rfl)) pe_int (nomark _)) (pss_cons (ps_expr (pe_call GF hr rfl mF FF.kp bF .nil pass0 (pa_cons (pv 2) (pa_cons (pv 3) (pa_cons (pv 4) (pa_cons (pv 5) pa_nil)))))) (pss_one (ps_set (i := 5) scGr.nd rfl (.inl rfl) (pe_call GL hr1 rfl mL FL.kp bL .nil pass0 (pa_cons (pv 2) (pa_cons (pv 3) (pa_cons (pv 4) pa_nil)))))))) (pss_one (ps_ret (pe_callTy call_tuple_of (by rfl) T.tuple (by decide +kernel) (pa_cons (pe_odds (pv 2)) pa_nil))))))), ?_⟩
    have fw0 := both_fw thr C
    refine ⟨_, rfl, _, rfl, y, a, m, rs, ts, rfl, hN, N.len, hT, thr.len.symm, fun r H1 e1 n1 M1 => ?_⟩
    refine ⟨_, rfl, y, m, rs, rfl, hN.more M1, N.len, fun e H2 e2 n2 M2 => ?_⟩
    refine ⟨_, rfl, y, m, rs, rfl, (hN.more M1).more M2, N.len, N.m4, N.low, fun p ws H3 W3 n3 nws M3 => ⟨_, _, _, rfl, ?_⟩⟩
    have M13 := (M1.trans M2).trans M3
    have ner : e ≠ r := fun z => by rw [z, e1] at n2; cases n2
    have npr : p ≠ r := fun z => by rw [z, M2 _ _ e1] at n3; cases n3
    have nwr : r ∉ ws := fun z => by
      have := nws r z
      rw [M2 _ _ e1] at this
      cases this
    have e13 := M3 _ _ (M2 _ _ e1)
    have e23 := M3 _ _ e2
    clear e1 e2 n2 n3 nws M1 M2 M3
    -- levels
    refine ⟨_, rfl, _, rfl, _, rfl, r, e, p, ws, rs, m, EK.room (both rs ts) ts, rfl, e13, e23, W3, N, fun lv H4 e4 n4 M4 => ?_⟩
    have nlr : lv ≠ r := fun z => by rw [z, e13] at n4; cases n4
    have M14 := M13.trans M4
    have gI : ∀ xs, EK.Gr rs (both rs ts) m ts xs → EK.gGo rs (both rs ts) m xs = true → EK.Gr rs (both rs ts) m ts (EK.gStep rs (both rs ts) m xs) ∧ EK.gMu rs S (EK.gStep rs (both rs ts) m xs) < EK.gMu rs S xs := EK.gr_step NT
    refine ⟨fun n σ G => ∃ (zs : List Int) (lv : Addr), EK.Gr rs (both rs ts) m ts zs ∧ n = EK.gMu rs S zs ∧ EK.runW (EK.gGo rs (both rs ts) m) (EK.gStep rs (both rs ts) m) n zs = EK.grownN rs (both rs ts) m S ts ∧ σ = [some y, some (.ref a), some (.ref r), some (.ref e), some (.ref p), some (.ref lv)] ∧
      G r = some (.lst (sidesV (EK.room (both rs ts) zs) (2 * rs.length))) ∧ G e = some (.lst (sidesV (fun e => (EK.sDst rs e : Int)) (2 * rs.length))) ∧ WyV G p ws rs m ∧ G lv = some (.lst ((EK.lvls rs (both rs ts) m zs).map V.int)) ∧ lv ≠ r ∧ Same H G, ⟨_, ts, lv, EK.gr_start fw0, rfl, rfl, rfl, M4 _ _ e13, M4 _ _ e23, W3.more M4, e4, nlr, M14⟩, ?_⟩
    clear M14 M4 e4 n4 nlr e13 e23 W3 M13
    rintro n σ G ⟨zs, lv, Gr, rfl, run, rfl, g1, g2, g3, g4, nlr, M⟩
    obtain ⟨Wk, PL, _⟩ := EK.levels_ok (as := rs) (rm := EK.room (both rs ts) zs) N.sides N.m2
    have PL : EK.Lv rs (EK.room (both rs ts) zs) m (EK.lvls rs (both rs ts) m zs) Wk := PL
    have m2 := N.m2
    have one : atI ((EK.lvls rs (both rs ts) m zs).map V.int) 1 = some (.int ((EK.lvls rs (both rs ts) m zs).getD 1 0)) := atI_nat (j := 1) (int_at _ (show 1 < (EK.lvls rs (both rs ts) m zs).length by rw [PL.len]; omega))
    refine ⟨_, rfl, lv, _, 1, _, rfl, rfl, SqL.of g4, one, _, _, rfl, rfl, _, rfl, ?_⟩
    refine ite2 (fun c => ?_) (fun c => ?_)
    · have go : EK.gGo rs (both rs ts) m zs = true := c
      obtain ⟨G1, mu1⟩ := gI zs Gr go
      have run1 := EK.runW_next (I := EK.Gr rs (both rs ts) m ts) (μ := EK.gMu rs S) gI Gr go
      rw [run] at run1
      refine ⟨_, fun σ' H' h => ⟨_, mu1, h⟩, ?_⟩
      refine ⟨_, rfl, _, rfl, _, rfl, _, rfl, r, e, p, lv, ws, rs, m, both rs ts, zs, _, rfl, g1, g2, g3, g4, ner, npr, nlr, nwr, PL.len, PL.zero, N, Gr.fw, fun H5 e5 M5 => ?_⟩
      have W5 : WyV H5 p ws rs m := ⟨M5 _ _ npr g3.at', g3.len, fun u w hw => M5 _ _ (fun z => nwr (by rw [← z]; exact List.mem_of_getElem? hw)) (g3.ls u w hw)⟩
      have e5 : H5 r = some (.lst (sidesV (EK.room (both rs ts) (EK.gStep rs (both rs ts) m zs)) (2 * rs.length))) := e5
      have MH : Same H H5 := fun c o h => M5 _ _ (fun z => by rw [z, n1] at h; cases h) (M _ _ h)
      refine ⟨_, rfl, _, rfl, _, rfl, r, e, p, ws, rs, m, EK.room (both rs ts) (EK.gStep rs (both rs ts) m zs), rfl, e5, M5 _ _ ner g2, W5, N, fun lv2 H6 e6 n6 M6 => ?_⟩
      exact ⟨EK.gStep rs (both rs ts) m zs, lv2, G1, rfl, run1.symm, rfl, M6 _ _ e5, M6 _ _ (M5 _ _ ner g2), W5.more M6, e6, (fun z => by rw [z, e5] at n6; cases n6), MH.trans M6⟩
    · have off : EK.gGo rs (both rs ts) m zs = false := by
        cases z : EK.gGo rs (both rs ts) m zs with
        | false => rfl
        | true => exact absurd z c
      have ez : zs = EK.grownN rs (both rs ts) m S ts := by
        rw [← run]
        exact (EK.runW_stop off _).symm
      have lz := Gr.fw.thr.len
      refine ⟨_, rfl, r, _, rs.length, rfl, SqL.of g1, sides_len _ _, fun q hq => ⟨q, _, rfl, .inl ⟨SqL.of upd_same, fun l hl => ?_⟩⟩⟩
      rw [odds_room lz.symm] at hl ⊢
      have M7 := same_new (o := .lst (zs.map V.int)) M hq
      exact k l _ (by rw [upd_same, ← ez]) (fr_none M7 hl) (same_new M7 hl)
theorem scMo : FnScope ["net"] ["net"] (defScope sMostThrough) := ⟨rfl, rfl, rfl, by decide +kernel, rfl, by decide +kernel, by decide +kernel⟩
theorem ok_most {f fG : Addr} {fd dG : FuncData} (F : Fun K "most_through" "most_through" sMostThrough f fd) (T : Nat0 mg) (GG : FnOk P w K mg base CX0 3 fG dG ["net", "through"] (spGrown K)) (FG : Fun K "grown" "grown" sGrown fG dG) (mG : mg "grown" = some (.ref fG)) (bG : Binds K dG ["net", "through"] []) : FnOk P w K mg base CX0 4 f fd ["net"] (spMost K) := by
  refine F.ok scMo (fun as H Q E h => ?_) (fun cdv A outer s H as Q E hr h => ?_)
  · obtain ⟨y, m, rs, S, rfl, _⟩ := h
    rfl
  · obtain ⟨y, m, rs, S, rfl, hN, N, NT, C, k⟩ := h
    refine ⟨_, (pss_one (ps_ret (pe_call GG hr rfl mG FG.kp bG .nil pass0 (pa_cons (pv 0) (pa_cons (pe_op op_repN (pe_tup (pa_cons pe_int pa_nil)) (pe_callB call_len_seq (by rfl) T.len PySem.boot_len (pa_cons (pe_ix ix_tup (pv 0) pe_int (fun _ _ => rfl)) pa_nil))) pa_nil))))), ?_⟩
    obtain ⟨t, ra, xs, rfl, h1, h2, h3⟩ := id hN
    have lx := paired_len h3
    have l4 := N.len
    refine ⟨_, rfl, by show 1 ≤ sizeLine; decide, fun z hz => ?_⟩
    have M1 := same_new (o := .tup [.int 0]) (Same.refl H) hz
    have e1 : upd H z (.tup [.int 0]) z = some (.tup [.int 0]) := upd_same
    generalize upd H z (.tup [.int 0]) = H1 at M1 e1 ⊢
    refine ⟨_, rfl, t, _, 1, .ref ra, rfl, rfl, sqt_more M1 h1, at1, ra, xs, rfl, .inr (sqt_more M1 h2), z, xs.length, _, rfl, rfl, SqT.of e1, (fun z => nomatch z), by omega, by show 1 ≤ 1000; decide, fun a H2 M2 hT => ?_⟩
    have er : (List.replicate xs.length [V.int 0]).flatten = (List.replicate rs.length (0 : Int)).map V.int := by
      rw [lx]
      clear hT k
      induction rs.length with
      | zero => rfl
      | succ j ih => rw [List.replicate_succ, List.flatten_cons, ih, List.replicate_succ]; rfl
    rw [er] at hT
    have M12 := M1.trans M2
    exact ⟨.ref t, a, m, rs, _, S, rfl, hN.more M12, N, NT, C, hT, zero_thr m rs C, fun p H' e n M' => k p H' e (fr_none M12 n) (M12.trans M')⟩
theorem scSs : FnScope ["net", "through", "levels", "number", "level"] ["net", "through"] (defScope sSourceSide) := ⟨rfl, rfl, rfl, by decide +kernel, rfl, by decide +kernel, by decide +kernel⟩
theorem ok_source {f fR fE fW fL : Addr} {fd dR dE dW dL : FuncData} (F : Fun K "source_side" "source_side" sSourceSide f fd) (T : Nat0 mg) (hE : mg "enumerate" = none)
    (GR : FnOk P w K mg base CX0 1 fR dR ["net", "through"] (spRooms K)) (FR : Fun K "_rooms" "_rooms" sRooms fR dR) (mR : mg "_rooms" = some (.ref fR)) (bR : Binds K dR ["net", "through"] [])
    (GE : FnOk P w K mg base CX0 1 fE dE ["net"] (spEnds K)) (FE : Fun K "_ends" "_ends" sEnds fE dE) (mE : mg "_ends" = some (.ref fE)) (bE : Binds K dE ["net"] [])
    (GW : FnOk P w K mg base CX0 1 fW dW ["net"] (spWays K)) (FW : Fun K "_ways" "_ways" sWays fW dW) (mW : mg "_ways" = some (.ref fW)) (bW : Binds K dW ["net"] [])
    (GL : FnOk P w K mg base CX0 1 fL dL ["rooms", "ends", "ways"] (spLevels K)) (FL : Fun K "_levels" "_levels" sLevels fL dL) (mL : mg "_levels" = some (.ref fL)) (bL : Binds K dL ["rooms", "ends", "ways"] []) :
    FnOk P w K mg base CX0 2 f fd ["net", "through"] (spSource K) := by
  refine F.ok scSs (fun as H Q E h => ?_) (fun cdv A outer s H as Q E hr h => ?_)
  · obtain ⟨y, a, m, rs, ts, rfl, _⟩ := h
    rfl
  · obtain ⟨y, a, m, rs, ts, rfl, hN, N, hT, lt, k⟩ := h
    refine ⟨_, (pss_cons (ps_set (i := 2) scSs.nd rfl (.inl rfl) (pe_call GL hr rfl mL FL.kp bL .nil pass0 (pa_cons (pe_call GR hr rfl mR FR.kp bR .nil pass0 (pa_cons (pv 0) (pa_cons (pv 1) pa_nil))) (pa_cons (pe_call GE hr rfl mE FE.kp bE .nil pass0 (pa_cons (pv 0) pa_nil)) (pa_cons (pe_call GW hr rfl mW FW.kp bW .nil pass0 (pa_cons (pv 0) pa_nil)) pa_nil))))) (pss_one (ps_ret (pe_callTy call_tuple_of (by rfl) T.tuple (by decide +kernel) (pa_cons (pe_lc (own := [("number", 3), ("level", 4)]) (g := gTup K 2 (gCons (gName 3) (gCons (gName 4) gNil))) (tt := tTest (tOp (rI0 fun i j => .bl (decide (j ≤ i))) (tVar 4) (tC (V.int 0)))) rfl scSs.nd (pi_enum (by rfl) hE (pa_cons (pv 2) pa_nil)) (blkOk_by (N := ["net", "through", "levels", "number", "level"]) (sc := defScope sSourceSide) (by decide +kernel)) (fun _ _ _ _ _ => (pg_tup (by rfl) (pgs_cons (pg_name (i := 3) scSs.nd rfl (.inl rfl)) (pgs_cons (pg_name (i := 4) scSs.nd rfl (.inl rfl)) pgs_nil)))) (fun _ _ _ _ _ => by exact pts_one (pt_cmpR op_ge (pv 4) pe_int (nomark _))) (fun _ _ _ _ _ => pv 3)) pa_nil))))), ?_⟩
    refine ⟨_, rfl, _, rfl, y, a, m, rs, ts, rfl, hN, N.len, hT, lt, fun r H1 e1 n1 M1 => ?_⟩
    refine ⟨_, rfl, y, m, rs, rfl, hN.more M1, N.len, fun e H2 e2 n2 M2 => ?_⟩
    refine ⟨_, rfl, y, m, rs, rfl, (hN.more M1).more M2, N.len, N.m4, N.low, fun p ws H3 W3 n3 nws M3 => ?_⟩
    refine ⟨r, e, p, ws, rs, m, EK.room (both rs ts) ts, rfl, M3 _ _ (M2 _ _ e1), M3 _ _ e2, W3, N, fun lv H4 e4 n4 M4 => ?_⟩
    have M := ((M1.trans M2).trans M3).trans M4
    obtain ⟨Wk, PL, _⟩ := EK.levels_ok (as := rs) (rm := EK.room (both rs ts) ts) N.sides N.m2
    have ll : (EK.levels rs (EK.room (both rs ts) ts) m).length = m := PL.len
    have m4 := N.m4
    have eL : EK.lvls rs (both rs ts) m ts = EK.levels rs (EK.room (both rs ts) ts) m := rfl
    rw [eL] at k
    generalize EK.levels rs (EK.room (both rs ts) ts) m = L at e4 ll k
    clear PL eL
    refine ⟨_, rfl, lv, L.map V.int, rfl, SqL.of e4, fun D hD => ?_⟩
    refine lc_it (walk_enum (K := K) (a := lv) (xs := L.map V.int)) (fun i H' => H' D = some (.lst (natV ((List.range i).filter (EK.sideOf L)))) ∧ Same H4 H') ?_ ?_ ?_ ?_
    · exact ⟨upd_same, same_new (Same.refl H4) hD⟩
    · rintro i H' _ ⟨_, M⟩
      exact SqL.of (M _ _ e4)
    · rintro i u H' H'' hi ⟨q1, M⟩ ⟨T', x', y', rfl, fT, rfl, hx, hy⟩
      cases (Option.some.inj hx)
      have hi' : i < m := by rw [List.length_map] at hi; omega
      have hy' : y' = .int (L.getD i 0) := by
        have := int_at L (show i < L.length by omega)
        exact (Option.some.inj (this.symm.trans hy)).symm
      subst hy'
      have M2 := same_new (o := .tup [.int (i : Nat), .int (L.getD i 0)]) M fT
      have e2 := s3u (o := .tup [.int (i : Nat), .int (L.getD i 0)]) fT q1
      have et : upd H' T' (.tup [.int (i : Nat), .int (L.getD i 0)]) T' = some (.tup [.int (i : Nat), .int (L.getD i 0)]) := upd_same
      generalize upd H' T' (.tup [.int (i : Nat), .int (L.getD i 0)]) = H5 at M2 e2 et ⊢
      refine ⟨T', _, rfl, SqT.of et, rfl, _, _, rfl, _, _, rfl, rfl, rfl, _, rfl, _, _, rfl, rfl, _, rfl, ?_⟩
      refine ite2 (fun c => ?_) (fun c => ?_)
      · refine ⟨_, rfl, _, e2, ?_, ?_, same_put M2 hD⟩
        · rw [natV_len]
          have := List.length_filter_le (EK.sideOf L) (List.range i)
          rw [List.length_range] at this
          exact small1000 (by omega)
        · rw [upd_same, List.range_succ, List.filter_append]
          have : EK.sideOf L i = true := c
          simp only [List.filter_cons, this, if_true, List.filter_nil]
          unfold natV
          rw [List.map_append]
          rfl
      · refine ⟨?_, M2⟩
        rw [List.range_succ, List.filter_append]
        have : EK.sideOf L i = false := by
          cases z : EK.sideOf L i with
          | false => rfl
          | true => exact absurd z c
        simp only [List.filter_cons, this, Bool.false_eq_true, if_false, List.filter_nil, List.append_nil]
        exact e2
    · rintro H' ⟨q1, M5⟩
      rw [List.length_map, ll] at q1
      refine ⟨D, _, rfl, .inl ⟨SqL.of q1, fun l hl => ?_⟩⟩
      have M6 := M.trans M5
      exact k l _ upd_same (fr_none M6 hl) (same_new M6 hl)
end
end Y

/-! PL3: _law_led. -/
namespace Y
open PySem PySem.Spec PyProof.Rows L2 Ns
open C8 (pss_cut)
theorem runs_snoc {src dst : Nat → Nat} {m n s t k : Nat} {r r1 r2 : Nat → Prop} (h : EK.Runs src dst m n s t k r r1) (g : EK.Step src dst m n s t r1 r2) : EK.Runs src dst m n s t (k + 1) r r2 := by
  induction h with
  | nil r => exact .cons g (.nil _)
  | cons h _ ih => exact .cons h (ih g)
def spLed (K : PySem.W.Frag) : Sp := fun as H Q _ => ∃ (y : V) (a : Addr) (m : Nat) (rs : List Arc) (S : Nat → Bool), as = [y, .ref a, .int 200] ∧ NetV K H y m rs ∧ NetP m rs ∧ EK.Nt rs m S ∧ EK.cut S rs < 10 ^ 30 ∧ SqT K H a ((List.replicate rs.length (0 : Int)).map V.int) ∧
  ∀ (p : Addr) (ts : List Int) (H' : Hp), SqT K H' p (ts.map V.int) → EK.Thr m rs ts → (∀ t ∈ ts, t < 10 ^ 30) → 1 ∉ EK.ids (wayS rs ts m) → Same H H' → Q (.ref p) H'
section
variable {P : Program} {w : World} {K : PySem.W.Frag} {mg : Str → Option Value} {base : Heap}
theorem scLd : FnScope ["net", "through", "times", "turn", "way", "most", "rows", "start", "end", "room", "at", "onwards", "row"] ["net", "through", "times"] (defScope sLed) := ⟨rfl, rfl, rfl, by decide +kernel, rfl, by decide +kernel, by decide +kernel⟩
theorem ok_led {f fW : Addr} {fd dW : FuncData} (F : Fun K "_law_led" "_law_led" sLed f fd) (T : Nat0 mg) (GW : FnOk P w K mg base CX0 2 fW dW ["net", "through"] (spWay K)) (FW : Fun K "_law_way" "_law_way" sWay fW dW) (mW : mg "_law_way" = some (.ref fW)) (bW : Binds K dW ["net", "through"] []) : FnOk P w K mg base CX0 3 f fd ["net", "through", "times"] (spLed K) := by
  refine F.ok scLd (fun as H Q E h => ?_) (fun cdv A outer s H as Q E hr h => ?_)
  · obtain ⟨y, a, m, rs, S, rfl, _⟩ := h
    rfl
  · obtain ⟨y, a, m, rs, S, rfl, hN, hP, NT, hS, hT0, k⟩ := h
    refine ⟨_, (pss_cons (ps_for PassesOwn.never rfl (pi_range1 (by rfl) T.range (pa_cons (pv 2) pa_nil)) (pg_name (i := 3) scLd.nd rfl (.inl rfl)) (pss_cons (ps_set (i := 4) scLd.nd rfl (.inl rfl) (pe_call GW hr rfl mW FW.kp bW .nil pass0 (pa_cons (pv 0) (pa_cons (pv 1) pa_nil)))) (pss_cons (ps_if (pt_cmpR op_isN (pv 4) pe_non (nomark _)) (pss_one (ps_ret (pv 1))) pss_nil) (pss_cons (ps_par (i := 5) (j := 6) rfl scLd.nd rfl rfl (by decide) rfl rfl (pa_cons (pe_callB (cr_min rfl) (by rfl) T.min (by decide +kernel) (pa_cons (pe_lc (own := [("row", 12)]) (g := gName 12) (tt := tYes) (te := tOp (rIxT K) (tVar 12) (tC (V.int 2))) rfl scLd.nd (pi_list (pv 4)) (blkOk_by (N := ["net", "through", "times", "turn", "way", "most", "rows", "start", "end", "room", "at", "onwards", "row"]) (sc := defScope sLed) (by decide +kernel)) (fun _ _ _ _ _ => (pg_name (i := 12) scLd.nd rfl (.inl rfl))) (fun _ _ _ _ _ => pts_nil) (fun _ _ _ _ _ => by exact (pe_ix ix_tup (pv 12) pe_int (fun _ _ => rfl)))) pa_nil)) (pa_cons (pe_callTy call_list_of (by rfl) T.list_ (by decide +kernel) (pa_cons (pv 1) pa_nil)) pa_nil)) (by rfl)) (pss_cons (ps_for PassesOwn.never rfl (pi_list (pv 4)) (pg_tup (by rfl) (pgs_cons (pg_name (i := 7) scLd.nd rfl (.inl rfl)) (pgs_cons (pg_name (i := 8) scLd.nd rfl (.inl rfl)) (pgs_cons (pg_name (i := 9) scLd.nd rfl (.inl rfl)) (pgs_cons (pg_name (i := 10) scLd.nd rfl (.inl rfl)) (pgs_cons (pg_name (i := 11) scLd.nd rfl (.inl rfl)) pgs_nil)))))) (pss_one (ps_augS (pv 6) (pv 10) get_list (pe_ifExp (pt_val (pv 11)) (pv 5) (pe_op op_sub pe_int (pv 5))) ip_add set_list))) (pss_one (ps_set (i := 1) scLd.nd rfl (.inl rfl) (pe_callTy call_tuple_of (by rfl) T.tuple (by decide +kernel) (pa_cons (pv 6) pa_nil))))))))) (pss_one (ps_ret (pv 1)))), ?_⟩
    have low := NT.low
    have m2 := hP.m2
    have m7 := hP.m7
    have l14 := hP.len
    have z0 : EK.Thr m rs (List.replicate rs.length 0) := zero_thr m rs fun a ha c hc => ((hP.each a ha).2.2.2 c hc).1
    have caps : ∀ a ∈ rs, ∀ c, a.2.2 = some c → c < 10 ^ 30 := fun a ha c hc => Int.lt_of_le_of_lt ((hP.each a ha).2.2.2 c hc).2 (by decide)
    have p30 : (10 : Int) ^ 30 = 1000000000000000000000000000000 := by decide
    refine ⟨_, rfl, 200, rfl, by decide, by decide, for_range (n := (200 : Int).toNat) (fun i σ G => ∃ (v3 v4 v5 v6 v7 v8 v9 v10 v11 : Option V) (a' : Addr) (ts : List Int), σ = [some y, some (.ref a'), some (.int 200), v3, v4, v5, v6, v7, v8, v9, v10, v11, none] ∧ SqT K G a' (ts.map V.int) ∧ EK.Thr m rs ts ∧ (∀ j, ts.getD j 0 ≤ EK.sp 1 rs ts) ∧
      EK.Runs (EK.sSrc rs) (EK.sDst rs) (2 * rs.length) m 0 1 i (EK.rm rs (List.replicate rs.length 0)) (EK.rm rs ts) ∧ Same H G) ?_ ?_ ?_⟩
    · refine ⟨none, none, none, none, none, none, none, none, none, a, _, rfl, hT0, z0, fun j => ?_, .nil _, Same.refl H⟩
      have e : EK.sp 1 rs (List.replicate rs.length 0) = 0 := by
        have go : ∀ l : List Arc, EK.sp 1 l (List.replicate l.length 0) = 0 := fun l => by
          induction l with
          | nil => rfl
          | cons b l ih =>
            show ((if b.2.1 = 1 then (0 : Int) else 0) - (if b.1 = 1 then (0 : Int) else 0)) + EK.sp 1 l (List.replicate l.length 0) = 0
            rw [ih]
            split <;> split <;> rfl
        exact go rs
      rw [e, List.getD_eq_getElem?_getD, List.getElem?_replicate]
      split <;> exact Int.le_refl _
    · rintro i σ G hi ⟨v3, v4, v5, v6, v7, v8, v9, v10, v11, a', ts, rfl, hT, thr, gr, runs, M⟩
      have hl := thr.len
      have bs : ∀ t ∈ ts, t ≤ EK.cut S rs := fun t ht => by
        obtain ⟨j, hj, e⟩ := List.getElem_of_mem ht
        have h1 := gr j
        rw [List.getD_eq_getElem?_getD, List.getElem?_eq_getElem hj] at h1
        have h1 : ts[j] ≤ EK.sp 1 rs ts := h1
        have := NT.bound thr
        omega
      have bt : ∀ t ∈ ts, t ≤ (10 : Int) ^ 30 ∧ -(10 : Int) ^ 30 ≤ t := fun t ht => by
        have h0 := thr.pos t ht
        have := bs t ht
        exact ⟨by omega, by omega⟩
      have tb : ∀ (j : Nat) (z : Int), ts[j]? = some z → z < 10 ^ 30 := fun j z hz => by
        have := bs z (List.mem_of_getElem? hz)
        omega
      refine ⟨_, rfl, _, rfl, y, a', m, rs, ts, 10 ^ 30, rfl, hN.more M, hP, hT, hl.symm, bt, by decide, fun n1 H4 M4 => ?_, fun in1 p us ws H4 ew e4 p4 q4 ne4 l7 f4 M4 => ?_⟩
      · refine ⟨_, rfl, rfl, _, rfl, ?_⟩
        refine ite2 (fun _ => ?_) (fun h => absurd (by decide) h)
        exact ⟨_, rfl, k a' ts H4 (sqt_more M4 hT) thr (fun t ht => by have := bs t ht; omega) n1 (M.trans M4)⟩
      · have LWx := law_way (ts := ts) m2 low in1
        rw [← ew] at LWx
        have M4' := M.trans M4
        refine ⟨_, rfl, rfl, _, rfl, ?_⟩
        refine ite2 (fun h => absurd h (show ¬ (decide (V.ref p = V.non)) = true by simp)) (fun _ => ?_)
        refine ⟨_, rfl, p, rfl, ⟨_, SqL.of e4⟩, fun D hD => ?_⟩
        refine lc_list (K := K) (a := p) (xs := us.map V.ref) (fun j H' => H' D = some (.lst (((ws.take j).map fun r => r.2.2.1).map V.int)) ∧ Same H4 H') ?_ ?_ ?_ ?_
        · exact ⟨by rw [List.take_zero, upd_same]; rfl, same_new (Same.refl H4) hD⟩
        · rintro j H' _ ⟨_, M⟩
          exact SqL.of (M _ _ e4)
        · rintro j u H' hu ⟨q1, M⟩
          rw [List.getElem?_map] at hu
          obtain ⟨t, ht, rfl⟩ := Option.map_eq_some_iff.mp hu
          obtain ⟨r, hr', et⟩ := paired_at p4 ht
          have et' : H4 t = some (.tup (rwV r)) := et
          refine ⟨rfl, _, rfl, t, _, 2, _, rfl, rfl, SqT.of (M _ _ et'), at2, _, q1, ?_, ?_, same_put M hD⟩
          · rw [List.length_map, List.length_map, List.length_take]
            exact small1000 (by omega)
          · rw [upd_same, List.take_succ, hr']
            simp
        rintro H5 ⟨q5, M5⟩
        rw [List.length_map, paired_len p4, List.take_length] at q5
        refine ⟨D, _, rfl, SqL.of q5, by rw [List.length_map]; exact List.length_pos_iff.mpr ne4, fun mo hmo hle => ?_⟩
        have hd : ∀ r ∈ ws, mo ≤ r.2.2.1 := fun r hr => hle _ (List.mem_map.mpr ⟨r, hr, rfl⟩)
        obtain ⟨r0, hr0, er0⟩ := List.mem_map.mp hmo
        have mo0 : 0 < mo := by rw [← er0]; exact (q4 r0 hr0).2.2.1
        clear q5 hle
        refine ⟨_, rfl, a', _, rfl, .inr (sqt_more M5 (sqt_more M4 hT)), fun R hR => ⟨_, _, rfl, ?_⟩⟩
        have M6 := same_new (o := .lst (ts.map V.int)) M5 hR
        have M6' := M4'.trans M6
        have RN : H R = none := fr_none (M4'.trans M5) hR
        have e6 := M6 _ _ e4
        have p6 := rwT_more M6 p4
        have r6 : upd H5 R (.lst (ts.map V.int)) R = some (.lst (ts.map V.int)) := upd_same
        have npR : p ≠ R := fun z => by rw [← z, M5 _ _ e4] at hR; cases hR
        generalize upd H5 R (.lst (ts.map V.int)) = H6 at M6 M6' e6 p6 r6 ⊢
        clear M5 M6 hR hD e4 p4 M4 M4'
        refine ⟨_, rfl, p, rfl, ⟨_, SqL.of e6⟩, ?_⟩
        refine for_list (K := K) (a := p) (xs := us.map V.ref) (fun j σ H' => ∃ (v7 v8 v9 v10 v11 : Option V), σ = [some y, some (.ref a'), some (.int 200), some (.int (0 + (i : Int))), some (.ref p), some (.int mo), some (.ref R), v7, v8, v9, v10, v11, none] ∧
          H' R = some (.lst ((EK.led mo ts ((ws.take j).map toE)).map V.int)) ∧ H' p = some (.lst (us.map V.ref)) ∧ Paired (RwT H') us ws ∧ Same H H') ?_ ?_ ?_ ?_
        · exact ⟨_, _, _, _, _, rfl, by rw [List.take_zero]; exact r6, e6, p6, M6'⟩
        · rintro j σ H' _ ⟨_, _, _, _, _, _, _, e, _⟩
          exact SqL.of e
        · clear e6 p6 r6 M6'
          rintro j u σ H8 hu ⟨v7, v8, v9, v10, v11, rfl, r8, e8, p8, M8⟩
          rw [List.getElem?_map] at hu
          obtain ⟨t, ht, rfl⟩ := Option.map_eq_some_iff.mp hu
          obtain ⟨r, hr', et⟩ := paired_at p8 ht
          have et' : H8 t = some (.tup (rwV r)) := et
          have rn := (q4 r (List.mem_of_getElem? hr')).2.2.2.2
          have en : EK.led mo ts ((ws.take (j + 1)).map toE) = EK.led1 mo (EK.led mo ts ((ws.take j).map toE)) (toE r) := by
            rw [List.take_succ, hr']
            unfold EK.led
            rw [Option.toList_some, List.map_append, List.foldl_append]
            rfl
          have lx : (EK.led mo ts ((ws.take j).map toE)).length = rs.length := by rw [EK.led_len]; exact hl.symm
          rw [en]
          generalize EK.led mo ts ((ws.take j).map toE) = xs at r8 lx ⊢
          have hx := int_at xs (v := r.2.2.2.1) (by omega)
          have put : ∀ v : Int, v = (if r.2.2.2.2 = true then mo else 0 - mo) → ∃ (v7 v8 v9 v10 v11 : Option V), [some y, some (.ref a'), some (.int 200), some (.int (0 + (i : Int))), some (.ref p), some (.int mo), some (.ref R), some (.int r.1), some (.int r.2.1), some (.int r.2.2.1), some (.int r.2.2.2.1), some (.bl r.2.2.2.2), none] = [some y, some (.ref a'), some (.int 200), some (.int (0 + (i : Int))), some (.ref p), some (.int mo), some (.ref R), v7, v8, v9, v10, v11, none] ∧
              upd H8 R (.lst ((xs.map V.int).set r.2.2.2.1 (.int (xs.getD r.2.2.2.1 0 + v)))) R = some (.lst ((EK.led1 mo xs (toE r)).map V.int)) ∧ upd H8 R (.lst ((xs.map V.int).set r.2.2.2.1 (.int (xs.getD r.2.2.2.1 0 + v)))) p = some (.lst (us.map V.ref)) ∧ Paired (RwT (upd H8 R (.lst ((xs.map V.int).set r.2.2.2.1 (.int (xs.getD r.2.2.2.1 0 + v)))))) us ws ∧ Same H (upd H8 R (.lst ((xs.map V.int).set r.2.2.2.1 (.int (xs.getD r.2.2.2.1 0 + v))))) := fun v hv => by
            refine ⟨_, _, _, _, _, rfl, ?_, by rw [upd_ne npR]; exact e8, rwT_put r8 (fun xs z => nomatch z) p8, same_put M8 RN⟩
            rw [upd_same, ← List.map_set, hv]
            rfl
          refine ⟨t, _, rfl, SqT.of et', rfl, _, _, rfl, _, _, rfl, _, _, rfl, _, _, rfl, _, _, rfl, rfl, ?_⟩
          refine ⟨_, rfl, _, rfl, R, _, _, _, rfl, rfl, SqL.of r8, atI_nat hx, _, rfl, _, rfl, ?_⟩
          refine ite2 (fun c => ?_) (fun c => ?_)
          · exact ⟨_, rfl, _, mo, rfl, rfl, R, _, _, r.2.2.2.1, rfl, rfl, r8, ixN_nat (by rw [List.length_map]; omega), put mo (by rw [if_pos c])⟩
          · exact ⟨_, rfl, 0, mo, rfl, rfl, _, 0 - mo, rfl, rfl, R, _, _, r.2.2.2.1, rfl, rfl, r8, ixN_nat (by rw [List.length_map]; omega), put (0 - mo) (by rw [if_neg c])⟩
        · clear e6 p6 r6 M6'
          rintro σ H8 ⟨v7, v8, v9, v10, v11, rfl, r8, e8, p8, M8⟩
          rw [List.length_map, paired_len p8, List.take_length] at r8
          obtain ⟨t1, t2⟩ := turn_thr thr LWx (Int.le_of_lt mo0) hd
          have st := turn_step NT thr caps tb LWx hd ⟨r0, hr0, er0⟩
          refine ⟨_, rfl, R, _, rfl, .inl ⟨SqL.of r8, fun l hl' => ?_⟩⟩
          refine ⟨_, _, _, _, _, _, _, _, _, l, _, rfl, SqT.of upd_same, t1, fun j => ?_, runs_snoc runs st, same_new M8 hl'⟩
          have := led_grow (ts := ts) (Int.le_of_lt mo0) LWx.nd j
          have := gr j
          rw [t2]
          omega
    · rintro σ G ⟨v3, v4, v5, v6, v7, v8, v9, v10, v11, a', ts, rfl, hT, thr, gr, runs, M⟩
      exfalso
      have h1 := EK.runs_all runs
      have h2 : m * (2 * rs.length) ≤ 7 * (2 * 14) := Nat.mul_le_mul m7 (by omega)
      have h3 : (200 : Int).toNat = 200 := rfl
      omega
end
end Y

/-! PL4: _law_side, _law_out_of. -/
namespace Y
open PySem PySem.Spec PyProof.Rows L2 Ns
open C8 (pss_cut)
theorem sum_nn : ∀ l : List Int, (∀ x ∈ l, 0 ≤ x) → 0 ≤ l.sum
  | [], _ => Int.le_refl _
  | x :: l, h => by
    rw [List.sum_cons]
    have := sum_nn l fun y hy => h y (List.mem_cons_of_mem _ hy)
    have := h x List.mem_cons_self
    omega
theorem mem_sum : ∀ l : List Int, (∀ x ∈ l, 0 ≤ x) → ∀ x ∈ l, x ≤ l.sum
  | y :: l, h, x, hx => by
    rw [List.sum_cons]
    have h1 := sum_nn l fun z hz => h z (List.mem_cons_of_mem _ hz)
    have h2 := h y List.mem_cons_self
    rcases List.mem_cons.mp hx with rfl | hx
    · omega
    · have := mem_sum l (fun z hz => h z (List.mem_cons_of_mem _ hz)) x hx
      omega
theorem endless_pos {m : Nat} {rs : List Arc} {ts : List Int} (T : EK.Thr m rs ts) (C : ∀ a ∈ rs, ∀ c, a.2.2 = some c → 0 ≤ c) : 0 < 1 + capSum rs + ts.sum := by
  have h1 : 0 ≤ capSum rs := by
    unfold capSum
    refine sum_nn _ fun x hx => ?_
    obtain ⟨a, ha, e⟩ := List.mem_filterMap.mp hx
    exact C a ha x e
  have h2 := sum_nn ts T.pos
  omega
/-- a THROUGH with no greater one -/
structure Mx (m : Nat) (rs : List Arc) (ts : List Int) : Prop where
  thr : EK.Thr m rs ts
  max : ∀ ys, EK.Thr m rs ys → EK.sp 1 rs ys ≤ EK.sp 1 rs ts
/-- the side of a greatest one -/
structure Sid (m : Nat) (rs : List Arc) (ts : List Int) (S : Nat → Bool) : Prop where
  s0 : S 0 = true
  s1 : S 1 = false
  cl : ∀ r ∈ lawRows rs ts rs.length, S r.1 = true → S r.2.1 = true
  least : ∀ D : Nat → Prop, D 0 → (∀ r ∈ lawRows rs ts rs.length, D r.1 → D r.2.1) → ∀ v, v < m → S v = true → D v
  cut : EK.sp 1 rs ts = EK.cut S rs
  fin : ∀ a ∈ rs, S a.1 = true → S a.2.1 = false → a.2.2 ≠ none
theorem max_side {m : Nat} {rs : List Arc} {ts : List Int} {S : Nat → Bool} (N : EK.Nt rs m S) (C : ∀ a ∈ rs, ∀ c, a.2.2 = some c → 0 ≤ c) (X : Mx m rs ts) : Sid m rs ts (EK.sideOf (EK.lvls rs (both rs ts) m ts)) := by
  have T := X.thr
  have F := both_fw T C
  have ep := endless_pos T C
  have g : EK.gGo rs (both rs ts) m ts = false := by
    cases z : EK.gGo rs (both rs ts) m ts with
    | false => rfl
    | true =>
      obtain ⟨s, _, Fl, _, lt⟩ := EK.filled_ok N F z
      have := X.max s.xs Fl.fw.thr
      omega
  have both' : ∀ (i : Nat) (a : Arc), rs[i]? = some a → ∃ z, ts[i]? = some z ∧ ts.getD i 0 = z := fun i a ha => by
    have lt := (List.getElem?_eq_some_iff.mp ha).1
    have l := T.len
    refine ⟨_, List.getElem?_eq_getElem (show i < ts.length by omega), ?_⟩
    rw [List.getD_eq_getElem?_getD, List.getElem?_eq_getElem (show i < ts.length by omega)]
    rfl
  obtain ⟨p0, p1, _, p3, p4⟩ := EK.no_way N F g fun i a ha hc => by
    obtain ⟨z, hz, ez⟩ := both' i a ha
    rw [ez, both_at ha hz, hc]
    show z < 1 + capSum rs + ts.sum + z
    omega
  have rowRoom : ∀ r ∈ lawRows rs ts rs.length, sdR r < 2 * rs.length ∧ 0 < EK.room (both rs ts) ts (sdR r) := fun r hr => by
    obtain ⟨i, a, z, hi, h1, h2, ⟨c, rfl⟩ | ⟨c, rfl⟩⟩ := mem_rows hr
    · obtain ⟨q1, q2⟩ := room_even h1 h2
      refine ⟨by show 2 * i + 0 < _; omega, ?_⟩
      show 0 < EK.room (both rs ts) ts (2 * i + 0)
      rw [Nat.add_zero, q1]
      unfold mostA at c
      cases hc : a.2.2 with
      | none => exact ep
      | some cc =>
        rw [hc] at c
        exact c
    · obtain ⟨q1, q2⟩ := room_even h1 h2
      refine ⟨by show 2 * i + 1 < _; omega, ?_⟩
      show 0 < EK.room (both rs ts) ts (2 * i + 1)
      rw [q2]
      exact c
  have roomRow : ∀ e, e < 2 * rs.length → 0 < EK.room (both rs ts) ts e → ∃ r ∈ lawRows rs ts rs.length, sdR r = e := fun e he hr => by
    have lt : e / 2 < rs.length := by omega
    have h1 := List.getElem?_eq_getElem lt
    obtain ⟨z, h2, ez⟩ := both' (e / 2) _ h1
    obtain ⟨q1, q2⟩ := room_even h1 h2
    refine rm_row ⟨_, z, h1, h2, ?_⟩
    by_cases q : e % 2 = 0
    · rw [if_pos q]
      intro c hc
      rw [show e = 2 * (e / 2) by omega, q1, hc] at hr
      have hr : 0 < c - z := hr
      omega
    · rw [if_neg q]
      rw [show e = 2 * (e / 2) + 1 by omega, q2] at hr
      exact hr
  refine ⟨p0, p1, fun r hr h => ?_, fun D d0 dc v hv hS => ?_, p3, fun a ha h1 h2 hc => ?_⟩
  · obtain ⟨w1, w2⟩ := rowRoom r hr
    obtain ⟨s1, s2⟩ := sd_src hr
    have := p4 (sdR r) w1 (by rw [s1]; exact h) w2
    rwa [s2] at this
  · obtain ⟨Wk, PL, _⟩ := EK.levels_ok (as := rs) (rm := EK.room (both rs ts) ts) N.sides N.n2
    have hS : 0 ≤ (EK.levels rs (EK.room (both rs ts) ts) m).getD v 0 := of_decide_eq_true hS
    refine PL.spread N.sides (D := D) d0 (fun e he hD hr _ _ => ?_) _ v hv hS (Nat.le_refl _)
    obtain ⟨r, hr', er⟩ := roomRow e he hr
    obtain ⟨s1, s2⟩ := sd_src hr'
    rw [er] at s1 s2
    rw [s1] at hD
    rw [s2]
    exact dc r hr' hD
  · obtain ⟨i, hi, e⟩ := List.getElem_of_mem ha
    have h1' := (List.getElem?_eq_some_iff.mpr ⟨hi, e⟩)
    obtain ⟨z, h2', ez⟩ := both' i a h1'
    obtain ⟨s1, s2, _, _⟩ := src_even h1'
    obtain ⟨q1, _⟩ := room_even h1' h2'
    have := p4 (2 * i) (by omega) (by rw [s1]; exact h1) (by rw [q1, hc]; exact ep)
    rw [s2, h2] at this
    cases this
theorem inV_nat (u : Nat) : ∀ l : List Nat, inV (.int (u : Int)) (natV l) = decide (u ∈ l)
  | [] => rfl
  | x :: l => by
    have ih := inV_nat u l
    have e : inV (.int (u : Int)) (natV (x :: l)) = ((x : Int) == (u : Int) || inV (.int (u : Int)) (natV l)) := rfl
    rw [e, ih]
    by_cases z : u = x
    · simp [z]
    · have : ((x : Int) == (u : Int)) = false := beq_eq_false_iff_ne.mpr fun y => z (by omega)
      simp [this, z]
theorem natV_flat (l : List Nat) : (natV l).all flatV = true := by
  unfold natV
  rw [List.all_map]
  exact List.all_eq_true.mpr fun _ _ => rfl
def crossA (S : Nat → Bool) (r : Arc) : Bool := S r.1 && !S r.2.1
def cint (r : Arc) : Int := r.2.2.getD 0
theorem cut_sum' (S : Nat → Bool) : ∀ rs : List Arc, ((rs.filter (crossA S)).map cint).sum = EK.cut S rs
  | [] => rfl
  | r :: rs => by
    have ih := cut_sum' S rs
    show _ = (if S r.1 = true ∧ S r.2.1 = false then r.2.2.getD 0 else 0) + EK.cut S rs
    rw [List.filter_cons]
    by_cases c : S r.1 = true ∧ S r.2.1 = false
    · have : crossA S r = true := by unfold crossA; rw [c.1, c.2]; rfl
      rw [if_pos c, if_pos this, List.map_cons, List.sum_cons, ih]
      rfl
    · have : ¬ crossA S r = true := fun h => c (by simpa [crossA] using h)
      rw [if_neg c, if_neg this, ih]
      omega
theorem inV_non (l : List Int) : inV .non (l.map V.int) = false := by
  unfold inV
  rw [List.any_map]
  exact List.any_eq_false.mpr fun x _ => by simp [eqV]
theorem side_mem {S : Nat → Bool} {m u : Nat} (h : u < m) : decide (u ∈ (List.range m).filter S) = S u := by
  cases e : S u with
  | true => exact decide_eq_true (List.mem_filter.mpr ⟨List.mem_range.mpr h, e⟩)
  | false => exact decide_eq_false fun z => by rw [(List.mem_filter.mp z).2] at e; cases e
def spSideL (K : PySem.W.Frag) : Sp := fun as H Q _ => ∃ (y : V) (a : Addr) (m : Nat) (rs : List Arc) (ts : List Int) (S : Nat → Bool), as = [y, .ref a] ∧ NetV K H y m rs ∧ NetP m rs ∧ SqT K H a (ts.map V.int) ∧ EK.Thr m rs ts ∧ Sid m rs ts S ∧
  ∀ (p : Addr) (H' : Hp), H' p = some (.tup (natV ((List.range m).filter S))) → H p = none → Same H H' → Q (.ref p) H'
def spOutOf (K : PySem.W.Frag) : Sp := fun as H Q _ => ∃ (y : V) (a : Addr) (m : Nat) (rs : List Arc) (S : Nat → Bool), as = [y, .ref a] ∧ NetV K H y m rs ∧ NetP m rs ∧ SqT K H a (natV ((List.range m).filter S)) ∧ (∀ a ∈ rs, S a.1 = true → S a.2.1 = false → a.2.2 ≠ none) ∧ ∀ H', Same H H' → Q (.int (EK.cut S rs)) H'
section
variable {P : Program} {w : World} {K : PySem.W.Frag} {mg : Str → Option Value} {base : Heap}
theorem scSd : FnScope ["net", "through", "found", "room", "turn", "start", "end", "most", "at", "onwards"] ["net", "through"] (defScope sSide) := ⟨rfl, rfl, rfl, by decide +kernel, rfl, by decide +kernel, by decide +kernel⟩
theorem ok_sideL {f fR : Addr} {fd dR : FuncData} (F : Fun K "_law_side" "_law_side" sSide f fd) (T : Nat0 mg) (GR : FnOk P w K mg base CX0 1 fR dR ["net", "through"] (spRoom K)) (FR : Fun K "_law_room" "_law_room" sRoom fR dR) (mR : mg "_law_room" = some (.ref fR)) (bR : Binds K dR ["net", "through"] []) : FnOk P w K mg base CX0 2 f fd ["net", "through"] (spSideL K) := by
  refine F.ok scSd (fun as H Q E h => ?_) (fun cdv A outer s H as Q E hr h => ?_)
  · obtain ⟨y, a, m, rs, ts, S, rfl, _⟩ := h
    rfl
  · obtain ⟨y, a, m, rs, ts, S, rfl, hN, hP, hT, thr, sd, k⟩ := h
    refine ⟨_, (pss_cons (ps_par (i := 2) (j := 3) rfl scSd.nd rfl rfl (by decide) rfl rfl (pa_cons (pe_lst (pa_cons pe_int pa_nil)) (pa_cons (pe_call GR hr rfl mR FR.kp bR .nil pass0 (pa_cons (pv 0) (pa_cons (pv 1) pa_nil))) pa_nil)) (by rfl)) (pss_cons (ps_for PassesOwn.never rfl (pi_range1 (by rfl) T.range (pa_cons (pe_ix ix_tup (pv 0) pe_int (fun _ _ => rfl)) pa_nil)) (pg_name (i := 4) scSd.nd rfl (.inl rfl)) (pss_one (ps_for PassesOwn.never rfl (pi_list (pv 3)) (pg_tup (by rfl) (pgs_cons (pg_name (i := 5) scSd.nd rfl (.inl rfl)) (pgs_cons (pg_name (i := 6) scSd.nd rfl (.inl rfl)) (pgs_cons (pg_name (i := 7) scSd.nd rfl (.inl rfl)) (pgs_cons (pg_name (i := 8) scSd.nd rfl (.inl rfl)) (pgs_cons (pg_name (i := 9) scSd.nd rfl (.inl rfl)) pgs_nil)))))) (pss_one (ps_if (PW.pt (pw_and (pt_cmpR op_in_seq (pv 5) (pv 2) (by rfl)) (pw_and1 (pt_cmpR op_notIn_seq (pv 6) (pv 2) (by rfl))))) (pss_one (ps_expr (pe_bm PySem.F.plainAttrs_list PySem.F.slot_list_append PySem.F.type_list_append mt_append (pv 2) (pa_cons (pv 6) pa_nil)))) pss_nil))))) (pss_one (ps_ret (pe_callTy call_tuple_of (by rfl) T.tuple (by decide +kernel) (pa_cons (pe_callB cr_sorted (by rfl) T.sorted (by decide +kernel) (pa_cons (pv 2) pa_nil)) pa_nil)))))), ?_⟩
    obtain ⟨t, ra, zs, rfl, h1, h2, h3⟩ := id hN
    have m2 := hP.m2
    have m7 := hP.m7
    have low : ∀ r ∈ lawRows rs ts rs.length, r.1 < m ∧ r.2.1 < m := fun r hr => by
      obtain ⟨i, a, z, _, g1, _, ⟨_, rfl⟩ | ⟨_, rfl⟩⟩ := mem_rows hr
      · exact ⟨(hP.each a (List.mem_of_getElem? g1)).1, (hP.each a (List.mem_of_getElem? g1)).2.1⟩
      · exact ⟨(hP.each a (List.mem_of_getElem? g1)).2.1, (hP.each a (List.mem_of_getElem? g1)).1⟩
    have hb2 : ∀ x ∈ ts, x ≤ ts.sum ∧ -ts.sum ≤ x := fun x hx => by
      have h1 := mem_sum ts thr.pos x hx
      have h2 := thr.pos x hx
      have h3 := sum_nn ts thr.pos
      exact ⟨h1, by omega⟩
    refine ⟨by show 1 ≤ sizeLine; decide, fun fo hfo => ?_⟩
    have M0 := same_new (o := .lst [.int 0]) (Same.refl H) hfo
    have e0 : upd H fo (.lst [.int 0]) fo = some (.lst (natV [0])) := upd_same
    generalize upd H fo (.lst [.int 0]) = H0 at M0 e0 ⊢
    refine ⟨_, rfl, _, rfl, .ref t, a, m, rs, ts, ts.sum, rfl, hN.more M0, hP, sqt_more M0 hT, thr.len.symm, hb2, sum_nn ts thr.pos, fun p us ws H1 e1 p1 q1 l28 ew n1 M1 => ⟨_, _, rfl, ?_⟩⟩
    have M := M0.trans M1
    have npf : p ≠ fo := fun z => by rw [z, e0] at n1; cases n1
    have e01 := M1 _ _ e0
    have lus := paired_len p1
    refine ⟨_, rfl, t, _, 0, _, rfl, rfl, sqt_more M h1, at0, m, rfl, by omega, by omega, for_range (n := ((m : Int)).toNat) (fun i σ G => ∃ (v4 v5 v6 v7 v8 v9 : Option V) (fs : List Nat), σ = [some (.ref t), some (.ref a), some (.ref fo), some (.ref p), v4, v5, v6, v7, v8, v9] ∧ G fo = some (.lst (natV fs)) ∧ fs.Nodup ∧ 0 ∈ fs ∧ (∀ v ∈ fs, v < m ∧ S v = true) ∧ ((∀ r ∈ ws, r.1 ∈ fs → r.2.1 ∈ fs) ∨ i + 1 ≤ fs.length) ∧ G p = some (.lst (us.map V.ref)) ∧ Paired (RwT G) us ws ∧ Same H G) ?_ ?_ ?_⟩
    · exact ⟨none, none, none, none, none, none, [0], rfl, e01, by decide, List.mem_singleton.mpr rfl, fun v hv => by rw [List.mem_singleton.mp hv]; exact ⟨by omega, sd.s0⟩, .inr (Nat.le_refl _), e1, p1, M⟩
    · clear e01 e1 p1 M n1 M1 e0 M0
      rintro i σ G hi ⟨v4, v5, v6, v7, v8, v9, fs, rfl, g1, nd, z0, ok, pr, g2, g3, M⟩
      have fln : fs.length ≤ m := EK.sub_le nd fun v hv => (ok v hv).1
      refine ⟨_, rfl, p, rfl, ⟨_, SqL.of g2⟩, ?_⟩
      refine for_list (K := K) (a := p) (xs := us.map V.ref) (fun j σ G' => ∃ (v5 v6 v7 v8 v9 : Option V) (gs : List Nat), σ = [some (.ref t), some (.ref a), some (.ref fo), some (.ref p), some (.int (0 + (i : Int))), v5, v6, v7, v8, v9] ∧ G' fo = some (.lst (natV gs)) ∧ gs.Nodup ∧ 0 ∈ gs ∧ (∀ v ∈ gs, v < m ∧ S v = true) ∧ ((gs = fs ∧ ∀ r ∈ ws.take j, r.1 ∈ fs → r.2.1 ∈ fs) ∨ (fs.length + 1 ≤ gs.length ∧ ¬ ∀ r ∈ ws, r.1 ∈ fs → r.2.1 ∈ fs)) ∧ G' p = some (.lst (us.map V.ref)) ∧ Paired (RwT G') us ws ∧ Same H G') ?_ ?_ ?_ ?_
      · exact ⟨_, _, _, _, _, fs, rfl, g1, nd, z0, ok, .inl ⟨rfl, fun r hr => by rw [List.take_zero] at hr; cases hr⟩, g2, g3, M⟩
      · rintro j σ G' _ ⟨_, _, _, _, _, _, _, _, _, _, _, _, g2, _⟩
        exact SqL.of g2
      · clear g1 g2 g3 M
        rintro j x σ G' hx ⟨v5, v6, v7, v8, v9, gs, rfl, g1, nd', z0', ok', pr', g2, g3, M⟩
        rw [List.getElem?_map] at hx
        obtain ⟨u, hu, rfl⟩ := Option.map_eq_some_iff.mp hx
        obtain ⟨r, hr', eu⟩ := paired_at g3 hu
        have eu' : G' u = some (.tup (rwV r)) := eu
        have rm := List.mem_of_getElem? hr'
        have rl : r ∈ lawRows rs ts rs.length := by rw [← ew]; exact rm
        have tk : ws.take (j + 1) = ws.take j ++ [r] := by rw [List.take_succ, hr']; rfl
        have gln : gs.length ≤ m := EK.sub_le nd' fun v hv => (ok' v hv).1
        have stay : (r.1 ∈ gs → r.2.1 ∈ gs) → ((gs = fs ∧ ∀ r ∈ ws.take (j + 1), r.1 ∈ fs → r.2.1 ∈ fs) ∨ (fs.length + 1 ≤ gs.length ∧ ¬ ∀ r ∈ ws, r.1 ∈ fs → r.2.1 ∈ fs)) := fun h => by
          rcases pr' with ⟨e, q⟩ | q
          · refine .inl ⟨e, fun x hx => ?_⟩
            rw [tk] at hx
            rcases List.mem_append.mp hx with hx | hx
            · exact q x hx
            · rw [List.mem_singleton.mp hx, ← e]; exact h
          · exact .inr q
        refine ⟨u, _, rfl, SqT.of eu', rfl, _, _, rfl, _, _, rfl, _, _, rfl, _, _, rfl, _, _, rfl, rfl, ?_⟩
        refine ⟨_, rfl, _, rfl, fo, _, rfl, .inl (SqL.of g1), rfl, natV_flat gs, _, rfl, ?_⟩
        rw [inV_nat]
        refine ite2 (fun c => ?_) (fun c => ⟨_, _, _, _, _, gs, rfl, g1, nd', z0', ok', stay (fun z => absurd (decide_eq_true z) c), g2, g3, M⟩)
        have c : r.1 ∈ gs := of_decide_eq_true c
        refine ⟨_, rfl, _, rfl, fo, _, rfl, .inl (SqL.of g1), rfl, natV_flat gs, _, rfl, ?_⟩
        rw [inV_nat]
        refine ite2 (fun c2 => ?_) (fun c2 => ⟨_, _, _, _, _, gs, rfl, g1, nd', z0', ok', stay (fun _ => by simpa using c2), g2, g3, M⟩)
        have c2 : r.2.1 ∉ gs := by simpa using c2
        have fn : H fo = none := hfo
        refine ⟨_, rfl, .inl ⟨rfl, _, SqL.of g1⟩, _, rfl, fo, _, _, rfl, rfl, g1, small1000 (by rw [natV_len]; omega), ?_⟩
        refine ⟨_, _, _, _, _, gs ++ [r.2.1], rfl, ?_, ?_, List.mem_append_left _ z0', fun v hv => ?_, .inr ?_, (upd_ne npf).trans g2, rwT_put g1 (fun xs z => nomatch z) g3, same_put M fn⟩
        · rw [upd_same]
          unfold natV
          rw [List.map_append]
          rfl
        · rw [List.nodup_append]
          exact ⟨nd', List.nodup_cons.mpr ⟨(fun z => nomatch z), List.nodup_nil⟩, fun a ha b hb z => c2 (by rw [List.mem_singleton] at hb; rw [← hb, ← z]; exact ha)⟩
        · rcases List.mem_append.mp hv with hv | hv
          · exact ok' v hv
          · rw [List.mem_singleton.mp hv]
            exact ⟨(low r rl).2, sd.cl r rl (ok' _ c).2⟩
        · rw [List.length_append]
          rcases pr' with ⟨e, q⟩ | ⟨q1, q2⟩
          · refine ⟨by rw [e]; exact Nat.le_refl _, fun h => ?_⟩
            rw [e] at c c2
            exact c2 (h r rm c)
          · exact ⟨by omega, q2⟩
      · clear g1 g2 g3 M
        rintro σ G' ⟨v5, v6, v7, v8, v9, gs, rfl, g1, nd', z0', ok', pr', g2, g3, M⟩
        rw [List.length_map, lus, List.take_length] at pr'
        refine ⟨_, _, _, _, _, _, gs, rfl, g1, nd', z0', ok', ?_, g2, g3, M⟩
        rcases pr' with ⟨e, q⟩ | ⟨q1, q2⟩
        · rw [e]
          exact .inl q
        · rcases pr with q | q
          · exact absurd q q2
          · exact .inr (by omega)
    · rintro σ G ⟨v4, v5, v6, v7, v8, v9, fs, rfl, g1, nd, z0, ok, pr, g2, g3, M⟩
      have fln : fs.length ≤ m := EK.sub_le nd fun v hv => (ok v hv).1
      have cl : ∀ r ∈ ws, r.1 ∈ fs → r.2.1 ∈ fs := pr.resolve_right (by rw [Int.toNat_natCast]; omega)
      have mem : ∀ v, v ∈ fs ↔ v ∈ (List.range m).filter S := fun v => by
        rw [List.mem_filter, List.mem_range]
        exact ⟨fun h => ok v h, fun h => sd.least (· ∈ fs) z0 (fun r hr h => cl r (by rw [ew]; exact hr) h) v h.1 h.2⟩
      refine ⟨_, rfl, fo, fs.map fun (e : Nat) => (e : Int), rfl, SqL.of (by rw [List.map_map]; exact g1), by rw [List.length_map]; omega, fun ns q pm srt hq => ?_⟩
      have en : ns = ((List.range m).filter S).map fun (e : Nat) => (e : Int) := by
        have nd2 : ((List.range m).filter S).Nodup := List.Pairwise.filter _ List.nodup_range
        have pm2 : fs.Perm ((List.range m).filter S) := (List.perm_ext_iff_of_nodup nd nd2).mpr mem
        refine List.Perm.eq_of_pairwise (le := fun a b : Int => a ≤ b) (fun a b _ _ h1 h2 => by omega) srt ?_ (pm.trans (pm2.map _))
        rw [List.pairwise_map]
        refine List.Pairwise.filter _ ?_
        refine List.pairwise_lt_range.imp fun h => ?_
        omega
      have M2 := same_new (o := .lst (ns.map V.int)) M hq
      refine ⟨q, ns.map V.int, rfl, .inl ⟨SqL.of upd_same, fun l hl => ?_⟩⟩
      refine k l _ ?_ (fr_none M2 hl) (same_new M2 hl)
      rw [upd_same, en, List.map_map]
      rfl
theorem scOo : FnScope ["net", "side", "caps", "start", "end", "cap"] ["net", "side"] (defScope sOutOf) := ⟨rfl, rfl, rfl, by decide +kernel, rfl, by decide +kernel, by decide +kernel⟩
theorem ok_outOf {f : Addr} {fd : FuncData} (F : Fun K "_law_out_of" "_law_out_of" sOutOf f fd) (T : Nat0 mg) : FnOk P w K mg base CX0 1 f fd ["net", "side"] (spOutOf K) := by
  refine F.ok scOo (fun as H Q E h => ?_) (fun cdv A outer s H as Q E hr h => ?_)
  · obtain ⟨y, a, m, rs, S, rfl, _⟩ := h
    rfl
  · obtain ⟨y, a, m, rs, S, rfl, hN, hP, hT, fin, k⟩ := h
    refine ⟨_, (pss_cons (ps_setLc (i := 2) (own := [("start", 3), ("end", 4), ("cap", 5)]) (g := gTup K 3 (gCons (gName 3) (gCons (gName 4) (gCons (gName 5) gNil)))) (tt := tAnd (tTest (tOp (rIn K false) (tVar 3) (tVar 1))) (tTest (tOp (rIn K true) (tVar 4) (tVar 1)))) (by rfl) scOo.nd rfl rfl (sw_true rfl rfl rfl (by decide +kernel)) (pi_tup (pe_ix ix_tup (pv 0) pe_int (fun _ _ => rfl))) (blkOk_by (N := ["net", "side", "caps", "start", "end", "cap"]) (sc := defScope sOutOf) (by decide +kernel)) (fun _ _ _ _ _ => (pg_tup (by rfl) (pgs_cons (pg_name (i := 3) scOo.nd rfl (.inl rfl)) (pgs_cons (pg_name (i := 4) scOo.nd rfl (.inl rfl)) (pgs_cons (pg_name (i := 5) scOo.nd rfl (.inl rfl)) pgs_nil))))) (fun _ _ _ _ _ => by exact pts_one (PW.pt (pw_and (pt_cmpR op_in_seq (pv 3) (pv 1) (by rfl)) (pw_and1 (pt_cmpR op_notIn_seq (pv 4) (pv 1) (by rfl)))))) (fun _ _ _ _ _ => pv 5)) (pss_one (ps_ret (pe_ifExp (pt_cmpR op_in_seq pe_non (pv 2) (by rfl)) pe_non (pe_callB (cr_sum rfl) (by rfl) T.sum (by decide +kernel) (pa_cons (pv 2) pa_nil)))))), ?_⟩
    obtain ⟨t, ra, xs, rfl, h1, h2, h3⟩ := hN
    have lx := paired_len h3
    have l14 := hP.len
    refine ⟨_, rfl, t, _, 1, .ref ra, rfl, rfl, h1, at1, ra, rfl, ⟨_, h2⟩, fun D hD => ?_⟩
    refine lc_tup (K := K) (a := ra) (xs := xs) (fun i G => G D = some (.lst ((((rs.take i).filter (crossA S)).map cint).map V.int)) ∧ Same H G) ?_ ?_ ?_ ?_
    · exact ⟨by rw [List.take_zero, upd_same]; rfl, same_new (Same.refl H) hD⟩
    · rintro i G _ ⟨_, M⟩
      exact sqt_more M h2
    · rintro i x G hx ⟨e, M⟩
      obtain ⟨r, hr', q, rfl, hq⟩ := paired_at h3 hx
      have ra' := List.mem_of_getElem? hr'
      obtain ⟨b1, b2, _, _⟩ := hP.each r ra'
      have hi : i < rs.length := (List.getElem?_eq_some_iff.mp hr').1
      have et : rs.take (i + 1) = rs.take i ++ [r] := by rw [List.take_succ, hr']; rfl
      have no : crossA S r = false → G D = some (.lst ((((rs.take (i + 1)).filter (crossA S)).map cint).map V.int)) ∧ Same H G := fun h => by
        rw [et, List.filter_append]
        simp only [List.filter_cons, h, Bool.false_eq_true, if_false, List.filter_nil, List.append_nil]
        exact ⟨e, M⟩
      refine ⟨q, _, rfl, sqt_more M hq, rfl, _, _, rfl, _, _, rfl, _, _, rfl, rfl, rfl, ?_⟩
      refine ⟨_, rfl, _, rfl, a, _, rfl, .inr (sqt_more M hT), rfl, natV_flat _, _, rfl, ?_⟩
      rw [inV_nat, side_mem b1]
      refine ite2 (fun c => ?_) (fun c => no (by have c : S r.1 = false := Bool.eq_false_iff.mpr c
                                                 unfold crossA
                                                 rw [c]
                                                 rfl))
      have c : S r.1 = true := c
      refine ⟨_, rfl, _, rfl, a, _, rfl, .inr (sqt_more M hT), rfl, natV_flat _, _, rfl, ?_⟩
      rw [inV_nat, side_mem b2]
      refine ite2 (fun c2 => ?_) (fun c2 => no (by unfold crossA; rw [c]; simpa using c2))
      have c2 : S r.2.1 = false := by simpa using c2
      have cr : crossA S r = true := by unfold crossA; rw [c, c2]; rfl
      have ev : capV r.2.2 = .int (cint r) := by
        unfold cint
        cases hc : r.2.2 with
        | none => exact absurd hc (fin r ra' c c2)
        | some cc => rfl
      refine ⟨_, rfl, _, e, ?_, ?_, same_put M hD⟩
      · rw [List.length_map, List.length_map]
        have := List.length_filter_le (crossA S) (rs.take i)
        rw [List.length_take] at this
        exact small1000 (by omega)
      · rw [upd_same, et, List.filter_append, List.map_append, List.map_append, ev]
        simp only [List.filter_cons, cr, if_true, List.filter_nil]
        rfl
    rintro G ⟨e, M⟩
    rw [lx, List.take_length] at e
    refine ⟨_, rfl, D, _, rfl, .inl (SqL.of e), rfl, ?_, _, rfl, ?_⟩
    · rw [List.all_map]
      exact List.all_eq_true.mpr fun _ _ => rfl
    rw [inV_non]
    refine ite2 (fun h => absurd h (by decide)) (fun _ => ?_)
    refine ⟨_, rfl, D, _, rfl, SqL.of e, ?_⟩
    rw [cut_sum']
    exact k G M
end
end Y

/-! PL5: _law_is_side_right. -/
namespace Y
open PySem PySem.Spec PyProof.Rows L2 Ns
open C8 (pss_cut)
theorem eq_nats {K : PySem.W.Frag} {H : Hp} : ∀ l : List Nat, Paired (EqT K H 3) (natV l) (natV l)
  | [] => .nil
  | x :: l => .cons (.inl ⟨rfl, rfl⟩) (eq_nats l)
theorem datA_nats {K : PySem.W.Frag} {H : Hp} : ∀ l : List Nat, DatA K H (natV l) (l.map fun (e : Nat) => PyData.int (e : Int))
  | [] => .nil
  | x :: l => .cons (.int _) (datA_nats l)
theorem fit_nats {l : List Nat} (hl : l.length ≤ 10) (h : ∀ x ∈ l, x < 10) : (PyData.tuple (l.map fun (e : Nat) => PyData.int (e : Int))).showable = true ∧ (PyData.tuple (l.map fun (e : Nat) => PyData.int (e : Int))).shown.length ≤ sizeLine ∧ (PyData.tuple (l.map fun (e : Nat) => PyData.int (e : Int))).depth ≤ 60 := by
  obtain ⟨f1, f2, f3⟩ := fit_tuple (m := 3) (k := 0) (ds := l.map fun (e : Nat) => PyData.int (e : Int)) fun d hd => by
    obtain ⟨x, hx, rfl⟩ := List.mem_map.mp hd
    exact (fit_int (n := 2) (by decide) (by have := h x hx; omega) (by decide)).mono (by decide) (Nat.le_refl _)
  rw [List.length_map] at f2
  exact ⟨f1, Nat.le_trans f2 (by rw [sizeLine_eq]; omega), Nat.le_trans f3 (by decide)⟩
def spRight (K : PySem.W.Frag) : Sp := fun as H Q _ => ∃ (y : V) (a : Addr) (m : Nat) (rs : List Arc) (ts : List Int) (S : Nat → Bool), as = [y, .ref a, .int (EK.sp 1 rs ts)] ∧ NetV K H y m rs ∧ NetP m rs ∧ EK.Nt rs m S ∧ SqT K H a (ts.map V.int) ∧ Mx m rs ts ∧ ∀ H', Same H H' → Q (.bl true) H'
theorem NetP.ntb {m : Nat} {rs : List Arc} (h : NetP m rs) : NtB m rs := ⟨h.m2, by have := h.m7; omega, by have := h.len; omega, fun a ha => ⟨(h.each a ha).1, (h.each a ha).2.1⟩⟩
theorem NetP.cap0 {m : Nat} {rs : List Arc} (h : NetP m rs) : ∀ a ∈ rs, ∀ c, a.2.2 = some c → 0 ≤ c := fun a ha c hc => ((h.each a ha).2.2.2 c hc).1
section
variable {P : Program} {w : World} {K : PySem.W.Frag} {mg : Str → Option Value} {base : Heap}
theorem scSr : FnScope ["net", "through", "value", "side"] ["net", "through", "value"] (defScope sIsSideRight) := ⟨rfl, rfl, rfl, by decide +kernel, rfl, by decide +kernel, by decide +kernel⟩
theorem ok_right {f fSo fSd fOo fA : Addr} {fd dSo dSd dOo dA : FuncData} (F : Fun K "_law_is_side_right" "_law_is_side_right" sIsSideRight f fd) (T : Nat0 mg)
    (GSo : FnOk P w K mg base CX0 2 fSo dSo ["net", "through"] (spSource K)) (FSo : Fun K "source_side" "source_side" sSourceSide fSo dSo) (mSo : mg "source_side" = some (.ref fSo)) (bSo : Binds K dSo ["net", "through"] [])
    (GSd : FnOk P w K mg base CX0 2 fSd dSd ["net", "through"] (spSideL K)) (FSd : Fun K "_law_side" "_law_side" sSide fSd dSd) (mSd : mg "_law_side" = some (.ref fSd)) (bSd : Binds K dSd ["net", "through"] [])
    (GOo : FnOk P w K mg base CX0 1 fOo dOo ["net", "side"] (spOutOf K)) (FOo : Fun K "_law_out_of" "_law_out_of" sOutOf fOo dOo) (mOo : mg "_law_out_of" = some (.ref fOo)) (bOo : Binds K dOo ["net", "side"] [])
    (GA : GnOk P w K mg base 1 fA dA ["found", "due"] (spAlike K)) (FA : Fun K "_law_alike" "_law_alike" sAlike fA dA) (mA : mg "_law_alike" = some (.ref fA)) (bA : Binds K dA ["found", "due"] []) : GnOk P w K mg base 3 f fd ["net", "through", "value"] (spRight K) := by
  refine Fun.okG F scSr (fun as H Q E h => ?_) (fun cdv A outer s H as Q E hr hgd h => ?_)
  · obtain ⟨y, a, m, rs, ts, S, rfl, _⟩ := h
    rfl
  · obtain ⟨y, a, m, rs, ts, S, rfl, hN, hP, NT, hT, X, k⟩ := h
    have hr1 : Room 1 _ := hr.mono (by decide)
    have hr2 : Room 2 _ := hr.mono (by decide)
    refine ⟨_, (pss_cons (ps_set (i := 3) scSr.nd rfl (.inl rfl) (pe_call GSo hr2 rfl mSo FSo.kp bSo .nil pass0 (pa_cons (pv 0) (pa_cons (pv 1) pa_nil)))) (pss_one (ps_ret (pe_and (pe_callG GA hr1 hgd rfl mA FA.kp bA (pa_cons (pv 3) (pa_cons (pe_call GSd hr2 rfl mSd FSd.kp bSd .nil pass0 (pa_cons (pv 0) (pa_cons (pv 1) pa_nil))) pa_nil))) (pe_and (pe_cmpR op_eq (pe_call GOo hr1 rfl mOo FOo.kp bOo .nil pass0 (pa_cons (pv 0) (pa_cons (pv 3) pa_nil))) (pv 2) (nomark _)) (pe_one (pe_cmpR op_notIn_seq pe_int (pv 3) (by rfl)))))))), ?_⟩
    have sd := max_side NT hP.cap0 X
    have m7 := hP.m7
    have m2 := hP.m2
    refine ⟨_, rfl, _, rfl, y, a, m, rs, ts, rfl, hN, hP.ntb, hT, X.thr.len.symm, fun p H1 e1 n1 M1 => ?_⟩
    generalize EK.sideOf (EK.lvls rs (both rs ts) m ts) = Sd at sd e1
    refine ⟨_, rfl, _, rfl, _, rfl, y, a, m, rs, ts, Sd, rfl, hN.more M1, hP, sqt_more M1 hT, X.thr, sd, fun q H2 e2 n2 M2 => ?_⟩
    have e12 := M2 _ _ e1
    have M12 := M1.trans M2
    have ll : ((List.range m).filter Sd).length ≤ 10 := by
      have := List.length_filter_le Sd (List.range m)
      rw [List.length_range] at this
      omega
    have lm : ∀ x ∈ (List.range m).filter Sd, x < 10 := fun x hx => by
      have := List.mem_range.mp (List.mem_filter.mp hx).1
      omega
    obtain ⟨u1, u2, u3⟩ := fit_nats ll lm
    refine ⟨.ref p, .ref q, _, rfl, .inr ⟨3, by decide, .inr ⟨p, q, _, _, rfl, rfl, SqT.of e12, SqT.of e2, eq_nats _⟩⟩, .tup (SqT.of e12) (datA_nats _), .tup (SqT.of e2) (datA_nats _), u1, u2, u3, _, rfl, ?_⟩
    refine ite2 (fun _ => ?_) (fun h => absurd rfl h)
    refine ⟨_, rfl, _, rfl, y, p, m, rs, Sd, rfl, hN.more M12, hP, SqT.of e12, sd.fin, fun H3 M3 => ?_⟩
    refine ⟨_, rfl, rfl, _, rfl, ?_⟩
    refine ite2 (fun _ => ?_) (fun h => absurd (by rw [sd.cut]; exact decide_eq_true rfl) h)
    refine ⟨_, rfl, p, _, rfl, .inr (SqT.of (M3 _ _ e12)), rfl, natV_flat _, ?_⟩
    have e1' : inV (.int 1) (natV ((List.range m).filter Sd)) = false := by
      have := inV_nat 1 ((List.range m).filter Sd)
      rw [side_mem (show 1 < m by omega), sd.s1] at this
      exact this
    rw [e1']
    exact k H3 (M12.trans M3)
end
end Y

/-! PL6: _law_grows. -/
namespace Y
open PySem PySem.Spec PyProof.Rows L2 Ns
open C8 (pss_cut)
theorem cut_le {S : Nat → Bool} : ∀ {rs : List Arc}, (∀ a ∈ rs, ∀ c, a.2.2 = some c → 0 ≤ c) → EK.cut S rs ≤ capSum rs
  | [], _ => Int.le_refl _
  | r :: rs, h => by
    have ih := cut_le (S := S) (rs := rs) fun a ha => h a (List.mem_cons_of_mem _ ha)
    have hr := h r List.mem_cons_self
    show (if S r.1 = true ∧ S r.2.1 = false then r.2.2.getD 0 else 0) + EK.cut S rs ≤ _
    unfold capSum at ih ⊢
    cases e : r.2.2 with
    | none =>
      rw [List.filterMap_cons, e]
      show (if _ then (0 : Int) else 0) + _ ≤ _
      split <;> simpa using ih
    | some c =>
      have := hr c e
      rw [List.filterMap_cons, e]
      show (if _ then c else 0) + _ ≤ (c :: rs.filterMap _).sum
      rw [List.sum_cons]
      split <;> omega
theorem sp_ge : ∀ (rs : List Arc) {ts : List Int}, (∀ t ∈ ts, 0 ≤ t) → - ts.sum ≤ EK.sp 1 rs ts
  | [], ts, h => by
    have := sum_nn ts h
    show - ts.sum ≤ 0
    omega
  | r :: rs, [], _ => Int.le_refl _
  | r :: rs, t :: ts, h => by
    have ih := sp_ge rs (ts := ts) fun x hx => h x (List.mem_cons_of_mem _ hx)
    have := h t List.mem_cons_self
    rw [List.sum_cons]
    show _ ≤ ((if r.2.1 = 1 then t else 0) - (if r.1 = 1 then t else 0)) + EK.sp 1 rs ts
    split <;> split <;> omega
theorem sum_top {B : Int} : ∀ {l : List Int}, (∀ x ∈ l, x ≤ B) → l.sum ≤ l.length * B
  | [], _ => by simp
  | x :: l, h => by
    have ih := sum_top (l := l) fun y hy => h y (List.mem_cons_of_mem _ hy)
    have := h x List.mem_cons_self
    rw [List.sum_cons, List.length_cons]
    have e : ((l.length + 1 : Nat) : Int) * B = (l.length : Int) * B + B := by push_cast; rw [Int.add_mul, Int.one_mul]
    omega
theorem grown_max {m : Nat} {rs : List Arc} {ts : List Int} {S : Nat → Bool} (N : EK.Nt rs m S) (C : ∀ a ∈ rs, ∀ c, a.2.2 = some c → 0 ≤ c) (T : EK.Thr m rs ts) : Mx m rs (EK.grownN rs (both rs ts) m S ts) ∧ (∀ i a, rs[i]? = some a → a.2.1 = 1 → ts.getD i 0 ≤ (EK.grownN rs (both rs ts) m S ts).getD i 0) ∧ ∀ i, (EK.grownN rs (both rs ts) m S ts).getD i 0 ≤ ts.getD i 0 + capSum rs + ts.sum := by
  obtain ⟨G, g⟩ := EK.grown_end N (both_fw T C)
  generalize EK.grownN rs (both rs ts) m S ts = zs at G g ⊢
  have b := N.bound G.fw.thr
  have c := cut_le (S := S) C
  have d := sp_ge rs T.pos
  refine ⟨⟨G.fw.thr, (EK.no_way N G.fw g fun i a ha hc => ?_).2.2.1⟩, G.in1, fun i => ?_⟩
  · have lt := (List.getElem?_eq_some_iff.mp ha).1
    have l := T.len
    have hz : ts[i]? = some ts[i] := List.getElem?_eq_getElem (show i < ts.length by omega)
    have e : ts.getD i 0 = ts[i] := EK.getD_of hz
    rw [both_at ha hz, hc]
    have := G.grow i
    rw [e] at this
    show zs.getD i 0 < 1 + capSum rs + ts.sum + ts[i]
    omega
  · have := G.grow i
    omega
theorem thr_true {m : Nat} {rs : List Arc} {zs : List Int} (T : EK.Thr m rs zs) : isThr m rs (.tuple (zs.map PyData.int)) = true := by
  rw [isThr_tup, intD_ints]
  rw [Bool.and_eq_true, Bool.and_eq_true]
  refine ⟨decide_eq_true (by rw [List.length_map]; exact T.len.symm), ?_, ?_⟩
  · rw [List.all_map]
    refine List.all_eq_true.mpr fun z hz => ?_
    have := T.pos z hz
    show isCnt (.int z) = true
    exact decide_eq_true this
  · unfold thrOk
    rw [Bool.and_eq_true]
    refine ⟨List.all_eq_true.mpr fun p hp => ?_, List.all_eq_true.mpr fun k hk => ?_⟩
    · have := T.each p hp
      cases hc : p.1.2.2 with
      | none => rfl
      | some c => exact decide_eq_true (this.2 c hc)
    · have hk := List.mem_range.mp hk
      refine decide_eq_true ?_
      rw [← sp_srp]
      exact T.rest (k + 2) (by omega) (by omega)
theorem eq_ints' {K : PySem.W.Frag} {H : Hp} : ∀ l : List Int, Paired (EqT K H 3) (l.map V.int) (l.map V.int)
  | [] => .nil
  | x :: l => .cons (.inl ⟨rfl, rfl⟩) (eq_ints' l)
theorem fit_bigs {l : List Int} (hl : l.length ≤ 14) (h : ∀ x ∈ l, 0 ≤ x ∧ x ≤ 10 ^ 40) : (PyData.tuple (l.map PyData.int)).showable = true ∧ (PyData.tuple (l.map PyData.int)).shown.length ≤ sizeLine ∧ (PyData.tuple (l.map PyData.int)).depth ≤ 60 := by
  obtain ⟨f1, f2, f3⟩ := fit_tuple (m := 42) (k := 0) (ds := l.map PyData.int) fun d hd => by
    obtain ⟨x, hx, rfl⟩ := List.mem_map.mp hd
    obtain ⟨a, b⟩ := h x hx
    have p : (10 : Int) ^ 40 = 10000000000000000000000000000000000000000 := by decide
    have q : (10 : Nat) ^ 41 = 100000000000000000000000000000000000000000 := by decide
    exact (fit_int (n := 41) (by decide) (by omega) (by decide)).mono (by decide) (Nat.le_refl _)
  rw [List.length_map] at f2
  exact ⟨f1, Nat.le_trans f2 (by rw [sizeLine_eq]; omega), Nat.le_trans f3 (by decide)⟩
theorem caps_top {m : Nat} {rs : List Arc} (hP : NetP m rs) : capSum rs ≤ 14 * 10 ^ 12 := by
  unfold capSum
  have h1 := sum_top (B := 10 ^ 12) (l := rs.filterMap fun r => r.2.2) fun x hx => by
    obtain ⟨a, ha, e⟩ := List.mem_filterMap.mp hx
    exact ((hP.each a ha).2.2.2 x e).2
  have h2 := List.length_filterMap_le (fun r : Arc => r.2.2) rs
  have h3 := hP.len
  have p : (10 : Int) ^ 12 = 1000000000000 := by decide
  have h4 : ((rs.filterMap fun r => r.2.2).length : Int) * 10 ^ 12 ≤ 14 * 10 ^ 12 := by
    rw [p]
    omega
  omega
def spGrows (K : PySem.W.Frag) : Sp := fun as H Q _ => ∃ (y : V) (a : Addr) (m : Nat) (rs : List Arc) (ts os : List Int) (S : Nat → Bool), as = [y, .ref a, .int (EK.sp 1 rs os)] ∧ NetV K H y m rs ∧ NetP m rs ∧ EK.Nt rs m S ∧ SqT K H a (ts.map V.int) ∧ EK.Thr m rs ts ∧ (∀ t ∈ ts, t ≤ 10 ^ 35) ∧ Mx m rs os ∧ ∀ H', Same H H' → Q (.bl true) H'
section
variable {P : Program} {w : World} {K : PySem.W.Frag} {mg : Str → Option Value} {base : Heap}
theorem scGw : FnScope ["net", "through", "value", "more", "less", "at", "arc"] ["net", "through", "value"] (defScope sGrows) := ⟨rfl, rfl, rfl, by decide +kernel, rfl, by decide +kernel, by decide +kernel⟩
theorem ok_grows {f fG fLT fLV fRt fA : Addr} {fd dG dLT dLV dRt dA : FuncData} (F : Fun K "_law_grows" "_law_grows" sGrows f fd) (T : Nat0 mg) (hE : mg "enumerate" = none)
    (GG : FnOk P w K mg base CX0 3 fG dG ["net", "through"] (spGrown K)) (FG : Fun K "grown" "grown" sGrown fG dG) (mG : mg "grown" = some (.ref fG)) (bG : Binds K dG ["net", "through"] [])
    (GLT : FnOk P w K mg base CX0 2 fLT dLT ["net", "thing"] (spThr K)) (FLT : Fun K "_law_is_through" "_law_is_through" sLIsThrough fLT dLT) (mLT : mg "_law_is_through" = some (.ref fLT)) (bLT : Binds K dLT ["net", "thing"] [])
    (GLV : FnOk P w K mg base CX0 1 fLV dLV ["net", "through"] (spVal K)) (FLV : Fun K "_law_value" "_law_value" sValue fLV dLV) (mLV : mg "_law_value" = some (.ref fLV)) (bLV : Binds K dLV ["net", "through"] [])
    (GRt : GnOk P w K mg base 3 fRt dRt ["net", "through", "value"] (spRight K)) (FRt : Fun K "_law_is_side_right" "_law_is_side_right" sIsSideRight fRt dRt) (mRt : mg "_law_is_side_right" = some (.ref fRt)) (bRt : Binds K dRt ["net", "through", "value"] [])
    (GA : GnOk P w K mg base 1 fA dA ["found", "due"] (spAlike K)) (FA : Fun K "_law_alike" "_law_alike" sAlike fA dA) (mA : mg "_law_alike" = some (.ref fA)) (bA : Binds K dA ["found", "due"] []) : GnOk P w K mg base 4 f fd ["net", "through", "value"] (spGrows K) := by
  refine Fun.okG F scGw (fun as H Q E h => ?_) (fun cdv A outer s H as Q E hr hgd h => ?_)
  · obtain ⟨y, a, m, rs, ts, os, S, rfl, _⟩ := h
    rfl
  · obtain ⟨y, a, m, rs, ts, os, S, rfl, hN, hP, NT, hT, thr, tb, X, k⟩ := h
    have hr1 : Room 1 _ := hr.mono (by decide)
    have hr2 : Room 2 _ := hr.mono (by decide)
    have hun := hr.units
    refine ⟨_, (pss_cons (ps_set (i := 3) scGw.nd rfl (.inr rfl) (pe_call GG hr rfl mG FG.kp bG .nil pass0 (pa_cons (pv 0) (pa_cons (pv 1) pa_nil)))) (pss_cons (ps_if (PW.pt (pw_or (pt_not (pt_val (pe_call GLT hr2 rfl mLT FLT.kp bLT .nil pass0 (pa_cons (pv 0) (pa_cons (pv 3) pa_nil))))) (pw_or (pt_cmpR op_ne (pe_call GLV hr1 rfl mLV FLV.kp bLV .nil pass0 (pa_cons (pv 0) (pa_cons (pv 3) pa_nil))) (pv 2) (nomark _)) (pw_or1 (pt_not (pt_val (pe_callG GA hr1 hgd rfl mA FA.kp bA (pa_cons (pe_call GG hr rfl mG FG.kp bG .nil pass0 (pa_cons (pv 0) (pa_cons (pv 1) pa_nil))) (pa_cons (pv 3) pa_nil))))))))) (pss_one (ps_ret pe_bl)) pss_nil) (pss_cons (ps_setLc (i := 4) (own := [("at", 5), ("arc", 6)]) (g := gTup K 2 (gCons (gName 5) (gCons (gName 6) gNil))) (tt := tAnd (tTest (tOp _ (tOp (rIxT K) (tVar 6) (tC (V.int 1))) (tC (V.int 1)))) (tTest (tOp _ (tOp (rIxT K) (tVar 3) (tVar 5)) (tOp (rIxT K) (tVar 1) (tVar 5))))) (by rfl) scGw.nd rfl rfl (sw_true rfl rfl rfl (by decide +kernel)) (pi_enumT (by rfl) hE (pa_cons (pe_ix ix_tup (pv 0) pe_int (fun _ _ => rfl)) pa_nil)) (blkOk_by (N := ["net", "through", "value", "more", "less", "at", "arc"]) (sc := defScope sGrows) (by decide +kernel)) (fun _ _ _ _ _ => (pg_tup (by rfl) (pgs_cons (pg_name (i := 5) scGw.nd rfl (.inl rfl)) (pgs_cons (pg_name (i := 6) scGw.nd rfl (.inl rfl)) pgs_nil)))) (fun _ _ _ _ _ => by exact pts_one (PW.pt (pw_and (pt_cmpR op_eq (pe_ix ix_tup (pv 6) pe_int (fun _ _ => rfl)) pe_int (nomark _)) (pw_and1 (pt_cmpR op_lt (pe_ix ix_tup (pv 3) (pv 5) (fun _ _ => rfl)) (pe_ix ix_tup (pv 1) (pv 5) (fun _ _ => rfl)) (nomark _)))))) (fun _ _ _ _ _ => pv 5)) (pss_one (ps_ret (pe_and (pe_cmpR (op_eqT hun) (pv 4) (pe_lst pa_nil) (nomark _)) (pe_one (pe_callG GRt hr hgd rfl mRt FRt.kp bRt (pa_cons (pv 0) (pa_cons (pv 3) (pa_cons (pv 2) pa_nil))))))))))), ?_⟩
    obtain ⟨GX, Gin, Gtop⟩ := grown_max NT hP.cap0 thr
    have l14 := hP.len
    refine ⟨_, rfl, _, rfl, y, a, m, rs, ts, S, rfl, hN, hP.ntb, NT, hP.cap0, hT, thr, fun p H1 e1 n1 M1 => ?_⟩
    have back : ∀ (q : Addr) (H' : Hp), H' q = some (.tup ((EK.grownN rs (both rs ts) m S ts).map V.int)) → H' q = some (.tup ((EK.grownN rs (both rs ts) m S ts).map V.int)) := fun _ _ h => h
    obtain ⟨zs, ez⟩ : ∃ zs, zs = EK.grownN rs (both rs ts) m S ts := ⟨_, rfl⟩
    rw [← ez] at GX Gin Gtop e1
    have lz := GX.thr.len
    have val : EK.sp 1 rs zs = EK.sp 1 rs os := Int.le_antisymm (X.max _ GX.thr) (GX.max _ X.thr)
    have ct := caps_top hP
    have zb : ∀ z ∈ zs, 0 ≤ z ∧ z ≤ 10 ^ 40 := fun z hz => by
      refine ⟨GX.thr.pos z hz, ?_⟩
      obtain ⟨i, hi, e⟩ := List.getElem_of_mem hz
      have h1 := Gtop i
      rw [List.getD_eq_getElem?_getD, List.getElem?_eq_getElem hi] at h1
      have h1 : zs[i] ≤ _ := h1
      rw [e] at h1
      have lt := thr.len
      have h2 : ts.getD i 0 ≤ 10 ^ 35 := by
        rw [List.getD_eq_getElem?_getD, List.getElem?_eq_getElem (show i < ts.length by omega)]
        exact tb _ (List.getElem_mem _)
      have h3 := sum_top tb
      have p35 : (10 : Int) ^ 35 = 100000000000000000000000000000000000 := by decide
      have p12 : (10 : Int) ^ 12 = 1000000000000 := by decide
      have p40 : (10 : Int) ^ 40 = 10000000000000000000000000000000000000000 := by decide
      rw [p35] at h2 h3
      rw [p12] at ct
      rw [p40]
      omega
    obtain ⟨u1, u2, u3⟩ := fit_bigs (by omega) zb
    refine ⟨_, rfl, _, rfl, y, .ref p, m, rs, .tuple (zs.map PyData.int), rfl, hN.more M1, hP, .tup (SqT.of e1) (datA_ints zs), fun H2 M2 => ?_⟩
    rw [thr_true GX.thr]
    refine ⟨_, rfl, ?_⟩
    refine ite2 (fun h => by cases h) (fun _ => ?_)
    have M12 := M1.trans M2
    have e2 := M2 _ _ e1
    refine ⟨_, rfl, _, rfl, y, p, m, rs, zs, rfl, hN.more M12, hP, SqT.of e2, lz.symm, fun H3 M3 => ?_⟩
    have M13 := M12.trans M3
    have e3 := M3 _ _ e2
    rw [← sp_srp, val]
    refine ⟨_, rfl, rfl, _, rfl, ?_⟩
    refine ite2 (fun h => absurd h (by simp)) (fun _ => ?_)
    refine ⟨_, rfl, _, rfl, y, a, m, rs, ts, S, rfl, hN.more M13, hP.ntb, NT, hP.cap0, sqt_more M13 hT, thr, fun q H4 e4 n4 M4 => ?_⟩
    rw [← ez] at e4
    have M14 := M13.trans M4
    have e5 := M4 _ _ e3
    refine ⟨_, rfl, .ref q, .ref p, .tuple (zs.map PyData.int), rfl, .inr ⟨3, by decide, .inr ⟨q, p, _, _, rfl, rfl, SqT.of e4, SqT.of e5, eq_ints' zs⟩⟩, .tup (SqT.of e4) (datA_ints zs), .tup (SqT.of e5) (datA_ints zs), u1, u2, u3, ?_⟩
    refine ⟨_, rfl, ?_⟩
    refine ite2 (fun h => by cases h) (fun _ => ?_)
    -- less
    obtain ⟨t, ra, xs, rfl, h1, h2, h3⟩ := id hN
    have lx := paired_len h3
    have lt := thr.len
    refine ⟨_, rfl, t, _, 1, .ref ra, rfl, rfl, sqt_more M14 h1, at1, ra, xs, rfl, sqt_more M14 h2, fun D hD => ?_⟩
    refine lc_it (walk_enumT (K := K) (a := ra) (xs := xs)) (fun i G => G D = some (.lst []) ∧ Same H4 G) ?_ ?_ ?_ ?_
    · exact ⟨upd_same, same_new (Same.refl H4) hD⟩
    · rintro i G _ ⟨_, M⟩
      exact sqt_more (M14.trans M) h2
    · rintro i u G G' hi ⟨g1, M⟩ ⟨T', x', y', rfl, fT, rfl, hx, hy⟩
      cases (Option.some.inj hx)
      obtain ⟨r, hr', q', rfl, hq'⟩ := paired_at h3 hy
      have hi' : i < rs.length := by omega
      have M2 := same_new (o := .tup [.int (i : Nat), .ref q']) M fT
      have g2 := s3u (o := .tup [.int (i : Nat), .ref q']) fT g1
      have et : upd G T' (.tup [.int (i : Nat), .ref q']) T' = some (.tup [.int (i : Nat), .ref q']) := upd_same
      generalize upd G T' (.tup [.int (i : Nat), .ref q']) = G2 at M2 g2 et ⊢
      refine ⟨T', _, rfl, SqT.of et, rfl, _, _, rfl, _, _, rfl, rfl, rfl, ?_⟩
      refine ⟨_, rfl, q', _, 1, _, rfl, rfl, sqt_more (M14.trans M2) hq', at1, rfl, _, rfl, ?_⟩
      refine ite2 (fun c => ?_) (fun _ => ⟨g2, M2⟩)
      have c1 : r.2.1 = 1 := by
        have := of_decide_eq_true c
        injection this with z
        omega
      refine ⟨_, rfl, _, rfl, p, _, _, _, rfl, rfl, SqT.of (M2 _ _ e5), atI_nat (int_at zs (show i < zs.length by omega)), _, rfl, _, rfl, a, _, _, _, rfl, rfl, sqt_more (M14.trans M2) hT, atI_nat (int_at ts (show i < ts.length by omega)), _, _, rfl, rfl, _, rfl, ?_⟩
      refine ite2 (fun c2 => ?_) (fun _ => ⟨g2, M2⟩)
      have c2 : zs.getD i 0 < ts.getD i 0 := of_decide_eq_true c2
      have := Gin i r hr' c1
      omega
    rintro G ⟨g1, M⟩
    refine ⟨_, rfl, by show 0 ≤ sizeLine; decide, fun e he => ?_⟩
    have g2 := s3u (o := .lst []) he g1
    have M5 := (M14.trans M).trans (same_new (o := .lst []) (Same.refl G) he)
    have eE : upd G e (.lst []) e = some (.lst []) := upd_same
    have ep := s3u (o := .lst []) he (M _ _ e5)
    generalize upd G e (.lst []) = G5 at g2 M5 eE ep ⊢
    refine ⟨.inr ⟨3, by decide, .inl (.inl ⟨D, e, [], [], rfl, rfl, SqL.of g2, SqL.of eE, .nil⟩)⟩, _, rfl, ?_⟩
    refine ite2 (fun _ => ?_) (fun h => absurd rfl h)
    exact ⟨_, rfl, _, rfl, _, rfl, .ref t, p, m, rs, zs, S, by rw [val]; rfl, hN.more M5, hP, NT, SqT.of ep, GX, fun H' M' => k H' (M5.trans M')⟩
end
end Y

/-! PL7: _law_part. -/
namespace Y
open PySem PySem.Spec PyProof.Rows L2 Ns
open C8 (pss_cut)
def bnd : Nat → Int
  | 0 => 10000000000000000000000000000000
  | i + 1 => 10 * bnd i
theorem bnd_low : ∀ i, 10000000000000000000000000000000 ≤ bnd i
  | 0 => Int.le_refl _
  | i + 1 => by
    have := bnd_low i
    show _ ≤ 10 * bnd i
    omega
theorem bnd_up {i j : Nat} (h : i ≤ j) : bnd i ≤ bnd j := by
  induction h with
  | refl => exact Int.le_refl _
  | @step m _ ih =>
    have := bnd_low m
    show _ ≤ 10 * bnd m
    omega
def stp (B k : Int) : Nat → Int
  | 0 => B
  | j + 1 => stp B k j + k
theorem stp_7 {B k : Int} (h : 0 ≤ k) {j : Nat} (hj : j ≤ 7) : stp B k j ≤ B + 7 * k := by
  have e : stp B k 7 = B + 7 * k := by
    show B + k + k + k + k + k + k + k = _
    omega
  have up : ∀ {i j : Nat}, i ≤ j → stp B k i ≤ stp B k j := fun {i j} hij => by
    induction hij with
    | refl => exact Int.le_refl _
    | @step n _ ih => exact Int.le_trans ih (by show _ ≤ stp B k n + k; omega)
  rw [← e]
  exact up hj
theorem rep_flat (k : Nat) : (List.replicate k [V.int 0]).flatten = (List.replicate k (0 : Int)).map V.int := by
  rw [List.map_replicate]
  induction k with
  | zero => rfl
  | succ k ih => rw [List.replicate_succ, List.flatten_cons, ih, List.replicate_succ]; rfl
theorem rwT_sb {b : Addr} {H H' : Hp} (B : Bag H b) (s : Sb b H H') {us : List Addr} {ws : List Rw} (h : Paired (RwT H) us ws) : Paired (RwT H') us ws := paired_imp (fun t r e => by
  have e' : H t = some (.tup (rwV r)) := e
  refine s.get e' fun z => ?_
  obtain ⟨_, _, _, _, _, h1, _⟩ := B
  rw [z, h1] at e'
  cases e') h
/-- one more on two arcs that are each other's way back -/
theorem ring_thr {m : Nat} {rs : List Arc} {ts : List Int} (T : EK.Thr m rs ts) {i j : Nat} {a c : Arc} (ne : i ≠ j) (h1 : rs[i]? = some a) (h2 : rs[j]? = some c) (e1 : a.1 = c.2.1) (e2 : a.2.1 = c.1) (f1 : ∀ x, a.2.2 = some x → ts.getD i 0 < x) (f2 : ∀ x, c.2.2 = some x → ts.getD j 0 < x) :
    EK.Thr m rs ((ts.set i (ts.getD i 0 + 1)).set j (ts.getD j 0 + 1)) := by
  have l := T.len
  have l1 := (List.getElem?_eq_some_iff.mp h1).1
  have l2 := (List.getElem?_eq_some_iff.mp h2).1
  have g1 : ts[i]? = some (ts.getD i 0) := by rw [List.getD_eq_getElem?_getD, List.getElem?_eq_getElem (show i < ts.length by omega)]; rfl
  have g2 : ts[j]? = some (ts.getD j 0) := by rw [List.getD_eq_getElem?_getD, List.getElem?_eq_getElem (show j < ts.length by omega)]; rfl
  have g3 : (ts.set i (ts.getD i 0 + 1))[j]? = some (ts.getD j 0) := by rw [List.getElem?_set_ne ne]; exact g2
  refine ⟨by rw [List.length_set, List.length_set]; exact l, fun k b x hb hx => ?_, fun k k1 k2 => ?_⟩
  · rw [List.getElem?_set] at hx
    by_cases z : j = k
    · subst z
      rw [h2] at hb
      cases hb
      rw [if_pos rfl, List.length_set, if_pos (by omega)] at hx
      cases hx
      have := T.has _ _ _ h2 g2
      exact ⟨by have := this.1; omega, fun y hy => by have := f2 y hy; omega⟩
    · rw [if_neg z, List.getElem?_set] at hx
      by_cases y : i = k
      · subst y
        rw [h1] at hb
        cases hb
        rw [if_pos rfl, if_pos (by omega)] at hx
        cases hx
        have := T.has _ _ _ h1 g1
        exact ⟨by have := this.1; omega, fun y hy => by have := f1 y hy; omega⟩
      · rw [if_neg y] at hx
        exact T.has _ _ _ hb hx
  · rw [EK.sp_set k (d := 1) h2 g3, EK.sp_set k (d := 1) h1 g1, T.rest k k1 k2, ← e1, ← e2]
    omega
def spPart (K : PySem.W.Frag) : Sp := fun as H Q _ => ∃ (b : Addr) (y : V) (m : Nat) (rs : List Arc) (S : Nat → Bool), as = [.ref b, y] ∧ Bag H b ∧ NetV K (wo H b) y m rs ∧ NetP m rs ∧ EK.Nt rs m S ∧
  ∀ (a : Addr) (ts : List Int) (H' : Hp), SqT K (wo H' b) a (ts.map V.int) → EK.Thr m rs ts → (∀ t ∈ ts, t ≤ 10 ^ 35) → Bag H' b → Sb b H H' → Q (.ref a) H'
section
variable {P : Program} {w : World} {K : PySem.W.Frag} {mg : Str → Option Value} {base : Heap}
theorem scPt : FnScope ["bag", "net", "through", "turn", "way", "most", "rows", "many", "start", "end", "room", "at", "onwards", "one", "other", "back", "row"] ["bag", "net"] (defScope sPart) := ⟨rfl, rfl, rfl, by decide +kernel, rfl, by decide +kernel, by decide +kernel⟩
theorem ok_part {f fT fS fW : Addr} {fd dT dS dW : FuncData} (F : Fun K "_law_part" "_law_part" sPart f fd) (T : Nat0 mg) (hE : mg "enumerate" = none) (FT : Fun K "_law_take" "_law_take" sTake fT dT) (mT : mg "_law_take" = some (.ref fT)) (bT : Binds K dT ["bag", "many"] [])
    (FS : Fun K "_law_some" "_law_some" sSome fS dS) (mS : mg "_law_some" = some (.ref fS)) (bS : Binds K dS ["bag", "things"] [])
    (GW : FnOk P w K mg base CX0 2 fW dW ["net", "through"] (spWay K)) (FW : Fun K "_law_way" "_law_way" sWay fW dW) (mW : mg "_law_way" = some (.ref fW)) (bW : Binds K dW ["net", "through"] []) : FnOk P w K mg base CX0 3 f fd ["bag", "net"] (spPart K) := by
  have GT : FnOk P w K mg base CX0 1 fT dT ["bag", "many"] spTake := ok_take FT T
  have GS : FnOk P w K mg base CX0 2 fS dS ["bag", "things"] (spSome K) := ok_some FS T FT mT bT
  refine F.ok scPt (fun as H Q E h => ?_) (fun cdv A outer s H as Q E hr h => ?_)
  · obtain ⟨b, y, m, rs, S, rfl, _⟩ := h
    rfl
  · obtain ⟨b, y, m, rs, S, rfl, hB, hN, hP, NT, k⟩ := h
    have hr1 : Room 1 _ := hr.mono (by decide)
    refine ⟨_, (pss_cons (ps_set (i := 2) scPt.nd rfl (.inl rfl) (pe_op op_repN (pe_tup (pa_cons pe_int pa_nil)) (pe_callB call_len_seq (by rfl) T.len PySem.boot_len (pa_cons (pe_ix ix_tup (pv 1) pe_int (fun _ _ => rfl)) pa_nil)))) (pss_cut (ps_for PassesOwn.never rfl (pi_range1 (by rfl) T.range (pa_cons (pe_call GT hr1 rfl mT FT.kp bT .nil pass0 (pa_cons (pv 0) (pa_cons pe_int pa_nil))) pa_nil)) (pg_name (i := 3) scPt.nd rfl (.inl rfl)) (pss_cons (ps_set (i := 4) scPt.nd rfl (.inl rfl) (pe_call GW hr rfl mW FW.kp bW .nil pass0 (pa_cons (pv 1) (pa_cons (pv 2) pa_nil)))) (pss_one (ps_if (pt_cmpR op_notN (pv 4) pe_non (nomark _)) (pss_cons (ps_par (i := 5) (j := 6) rfl scPt.nd rfl rfl (by decide) rfl rfl (pa_cons (pe_callB (cr_min rfl) (by rfl) T.min (by decide +kernel) (pa_cons (pe_lc (own := [("row", 16)]) (g := gName 16) (tt := tYes) (te := tOp (rIxT K) (tVar 16) (tC (V.int 2))) rfl scPt.nd (pi_list (pv 4)) (blkOk_by (N := ["bag", "net", "through", "turn", "way", "most", "rows", "many", "start", "end", "room", "at", "onwards", "one", "other", "back", "row"]) (sc := defScope sPart) (by decide +kernel)) (fun _ _ _ _ _ => (pg_name (i := 16) scPt.nd rfl (.inl rfl))) (fun _ _ _ _ _ => pts_nil) (fun _ _ _ _ _ => by exact (pe_ix ix_tup (pv 16) pe_int (fun _ _ => rfl)))) pa_nil)) (pa_cons (pe_callTy call_list_of (by rfl) T.list_ (by decide +kernel) (pa_cons (pv 2) pa_nil)) pa_nil)) (by rfl)) (pss_cut (ps_set (i := 7) scPt.nd rfl (.inl rfl) (pe_call GS hr rfl mS FS.kp bS .nil pass0 (pa_cons (pv 0) (pa_cons (pe_lst (pa_cons (pv 5) (pa_cons pe_int (pa_cons (pe_op op_add pe_int (pe_call GT hr1 rfl mT FT.kp bT .nil pass0 (pa_cons (pv 0) (pa_cons (pv 5) pa_nil)))) pa_nil)))) pa_nil)))) (pss_cons (ps_for PassesOwn.never rfl (pi_list (pv 4)) (pg_tup (by rfl) (pgs_cons (pg_name (i := 8) scPt.nd rfl (.inl rfl)) (pgs_cons (pg_name (i := 9) scPt.nd rfl (.inl rfl)) (pgs_cons (pg_name (i := 10) scPt.nd rfl (.inl rfl)) (pgs_cons (pg_name (i := 11) scPt.nd rfl (.inl rfl)) (pgs_cons (pg_name (i := 12) scPt.nd rfl (.inl rfl)) pgs_nil)))))) (pss_one (ps_augS (pv 6) (pv 11) get_list (pe_ifExp (pt_val (pv 12)) (pv 7) (pe_op op_sub pe_int (pv 7))) ip_add set_list))) (pss_one (ps_set (i := 2) scPt.nd rfl (.inl rfl) (pe_callTy call_tuple_of (by rfl) T.tuple (by decide +kernel) (pa_cons (pv 6) pa_nil))))))) pss_nil)))) (pss_cons (ps_for PassesOwn.never rfl (pi_enumT (by rfl) hE (pa_cons (pe_ix ix_tup (pv 1) pe_int (fun _ _ => rfl)) pa_nil)) (pg_tup (by rfl) (pgs_cons (pg_name (i := 11) scPt.nd rfl (.inl rfl)) (pgs_cons (pg_name (i := 13) scPt.nd rfl (.inl rfl)) pgs_nil))) (pss_one (ps_for PassesOwn.never rfl (pi_enumT (by rfl) hE (pa_cons (pe_ix ix_tup (pv 1) pe_int (fun _ _ => rfl)) pa_nil)) (pg_tup (by rfl) (pgs_cons (pg_name (i := 14) scPt.nd rfl (.inl rfl)) (pgs_cons (pg_name (i := 15) scPt.nd rfl (.inl rfl)) pgs_nil))) (pss_one (ps_if (PW.pt (pw_and (pt_cmpR (op_eqD hr.units) (pe_slice sl_tupP (pv 13) po_none (po_some pe_int)) (pe_tup (pa_cons (pe_ix ix_tup (pv 15) pe_int (fun _ _ => rfl)) (pa_cons (pe_ix ix_tup (pv 15) pe_int (fun _ _ => rfl)) pa_nil))) (nomark _)) (pw_and (pt_cmpR op_lt (pv 11) (pv 14) (nomark _)) (pw_and1 (pt_cmpR op_eq (pe_call GT hr1 rfl mT FT.kp bT .nil pass0 (pa_cons (pv 0) (pa_cons pe_int pa_nil))) pe_int (nomark _)))))) (pss_cons (ps_set (i := 6) scPt.nd rfl (.inl rfl) (pe_callTy call_list_of (by rfl) T.list_ (by decide +kernel) (pa_cons (pv 2) pa_nil))) (pss_one (ps_if (PW.pt (pw_and (PW.pt (pw_or (pt_cmpR op_isN (pe_ix ix_tup (pv 13) pe_int (fun _ _ => rfl)) pe_non (nomark _)) (pw_or1 (pt_cmpR op_lt (pe_ix ix_list (pv 6) (pv 11) (fun _ _ => rfl)) (pe_ix ix_tup (pv 13) pe_int (fun _ _ => rfl)) (nomark _))))) (pw_and1 (PW.pt (pw_or (pt_cmpR op_isN (pe_ix ix_tup (pv 15) pe_int (fun _ _ => rfl)) pe_non (nomark _)) (pw_or1 (pt_cmpR op_lt (pe_ix ix_list (pv 6) (pv 14) (fun _ _ => rfl)) (pe_ix ix_tup (pv 15) pe_int (fun _ _ => rfl)) (nomark _)))))))) (pss_cons (ps_asg (pe_tup (pa_cons (pe_op op_add (pe_ix ix_list (pv 6) (pv 11) (fun _ _ => rfl)) pe_int) (pa_cons (pe_op op_add (pe_ix ix_list (pv 6) (pv 14) (fun _ _ => rfl)) pe_int) pa_nil))) (pg_tup (by rfl) (pgs_cons (pg_sub (pv 6) (pv 11) set_list) (pgs_cons (pg_sub (pv 6) (pv 14) set_list) pgs_nil)))) (pss_one (ps_set (i := 2) scPt.nd rfl (.inl rfl) (pe_callTy call_tuple_of (by rfl) T.tuple (by decide +kernel) (pa_cons (pv 6) pa_nil))))) pss_nil))) pss_nil))))) (pss_one (ps_ret (pv 2)))))), ?_⟩
    obtain ⟨tn, ra, zs, rfl, h1, h2, h3⟩ := id hN
    have lz := paired_len h3
    have l14 := hP.len
    have m2 := hP.m2
    have m7 := hP.m7
    have vN : ∀ {G : Hp}, Sb b H G → NetV K G (.ref tn) m rs := fun {G} s => (hN.more s.1).more (wo_sub G b)
    have v1 : ∀ {G : Hp}, Sb b H G → SqT K G tn [.int m, .ref ra] := fun {G} s => sqt_more (wo_sub G b) (sqt_more s.1 h1)
    have v2 : ∀ {G : Hp}, Sb b H G → SqT K G ra zs := fun {G} s => sqt_more (wo_sub G b) (sqt_more s.1 h2)
    refine ⟨by show 1 ≤ sizeLine; decide, fun t0 ht0 => ?_⟩
    have s1 := (Sb.refl b H).new (o := .tup [.int 0]) ht0
    have B1 := hB.new (o := .tup [.int 0]) ht0
    refine ⟨_, rfl, tn, _, 1, .ref ra, rfl, rfl, v1 s1, at1, ra, zs, rfl, .inr (v2 s1), t0, zs.length, _, rfl, rfl, SqT.of upd_same, (fun z => nomatch z), by omega, by show 1 ≤ 1000; decide, fun p0 H1 M1 q1 => ?_⟩
    rw [rep_flat, lz] at q1
    have s1 := s1.same M1
    have B1 := B1.keep M1
    have q1 := sqt_wo' q1 B1
    clear M1 ht0
    refine ⟨fun σ' G => ∃ (v3 v4 v5 v6 v7 v8 v9 v10 v11 v12 : Option V) (a' : Addr) (ts : List Int), σ' = [some (.ref b), some (.ref tn), some (.ref a'), v3, v4, v5, v6, v7, v8, v9, v10, v11, v12, none, none, none, none] ∧ SqT K (wo G b) a' (ts.map V.int) ∧ EK.Thr m rs ts ∧ (∀ t ∈ ts, t ≤ bnd 3) ∧ Bag G b ∧ Sb b H G, ?_, ?_⟩
    · refine ⟨_, rfl, b, 4, rfl, B1, by decide, by decide, fun n H2 n0 n1 B2 s2' => ?_⟩
      have q2 := sqt_more s2'.1 q1
      have s2 := s1.trans s2'
      clear B1 s1 q1 s2'
      refine ⟨n, rfl, by omega, by omega, for_range (n := n.toNat) (fun i σ H' => ∃ (v3 v4 v5 v6 v7 v8 v9 v10 v11 v12 : Option V) (a' : Addr) (ts : List Int), σ = [some (.ref b), some (.ref tn), some (.ref a'), v3, v4, v5, v6, v7, v8, v9, v10, v11, v12, none, none, none, none] ∧
        SqT K (wo H' b) a' (ts.map V.int) ∧ EK.Thr m rs ts ∧ (∀ t ∈ ts, t ≤ bnd i) ∧ Bag H' b ∧ Sb b H H') ?_ ?_ ?_⟩
      · exact ⟨none, none, none, none, none, none, none, none, none, none, p0, _, rfl, q2, zero_thr m rs hP.cap0, fun t ht => by rw [(List.mem_replicate.mp ht).2]; decide, B2, s2⟩
      · clear B2 s2 q2
        rintro i σ H3 hi ⟨v3, v4, v5, v6, v7, v8, v9, v10, v11, v12, a', ts, rfl, hT, thr, hb, B3, s3⟩
        have hl := thr.len
        have bl := bnd_low i
        have i2 : i ≤ 2 := by omega
        have bu : bnd i ≤ bnd 2 := bnd_up i2
        have b2 : bnd 2 = 1000000000000000000000000000000000 := by decide
        have bs : bnd (i + 1) = 10 * bnd i := rfl
        have p30 : (10 : Int) ^ 30 = 1000000000000000000000000000000 := by decide
        have hT' : ∀ {G : Hp}, Sb b H3 G → SqT K G a' (ts.map V.int) := fun {G} s => sqt_more (wo_sub G b) (sqt_more s.1 hT)
        refine ⟨_, rfl, _, rfl, .ref tn, a', m, rs, ts, bnd i, rfl, vN s3, hP, hT' (Sb.refl b H3), hl.symm, (fun t ht => ⟨hb t ht, by have := thr.pos t ht; omega⟩), by omega, fun _ H4 M4 => ?_, fun in1 p us ws H4 ew e4 p4 q4 ne4 l7 f4 M4 => ?_⟩
        · refine ⟨_, rfl, rfl, _, rfl, ?_⟩
          refine ite2 (fun h => absurd h (by decide)) (fun _ => ?_)
          exact ⟨_, _, _, _, _, _, _, _, _, _, a', ts, rfl, sqt_more (wo_same M4) hT, thr, fun t ht => by have := hb t ht; omega, B3.keep M4, s3.same M4⟩
        · have LWx := law_way (ts := ts) m2 NT.low in1
          rw [← ew] at LWx
          have B4 := B3.keep M4
          have s4 := s3.same M4
          have s34 := (Sb.refl b H3).same M4
          have npb := B3.ne f4
          refine ⟨_, rfl, rfl, _, rfl, ?_⟩
          refine ite2 (fun _ => ?_) (fun h => absurd (show (!decide (V.ref p = V.non)) = true by simp) h)
          refine ⟨_, rfl, p, rfl, ⟨_, SqL.of e4⟩, fun D hD => ?_⟩
          refine lc_list (K := K) (a := p) (xs := us.map V.ref) (fun j H' => H' D = some (.lst (((ws.take j).map fun r => r.2.2.1).map V.int)) ∧ Same H4 H') ?_ ?_ ?_ ?_
          · exact ⟨by rw [List.take_zero, upd_same]; rfl, same_new (Same.refl H4) hD⟩
          · rintro j H' _ ⟨_, M⟩
            exact SqL.of (M _ _ e4)
          · rintro j u H' hu ⟨q1, M⟩
            rw [List.getElem?_map] at hu
            obtain ⟨t, ht, rfl⟩ := Option.map_eq_some_iff.mp hu
            obtain ⟨r, hr', et⟩ := paired_at p4 ht
            have et' : H4 t = some (.tup (rwV r)) := et
            refine ⟨rfl, _, rfl, t, _, 2, _, rfl, rfl, SqT.of (M _ _ et'), at2, _, q1, ?_, ?_, same_put M hD⟩
            · rw [List.length_map, List.length_map, List.length_take]
              exact small1000 (by omega)
            · rw [upd_same, List.take_succ, hr']
              simp
          rintro H5 ⟨q5, M5⟩
          rw [List.length_map, paired_len p4, List.take_length] at q5
          refine ⟨D, _, rfl, SqL.of q5, by rw [List.length_map]; exact List.length_pos_iff.mpr ne4, fun mo hmo hle => ?_⟩
          have hd : ∀ r ∈ ws, mo ≤ r.2.2.1 := fun r hr => hle _ (List.mem_map.mpr ⟨r, hr, rfl⟩)
          obtain ⟨r0, hr0, er0⟩ := List.mem_map.mp hmo
          obtain ⟨_, _, mo0, mo1, _⟩ := q4 r0 hr0
          have er0 : r0.2.2.1 = mo := er0
          rw [er0] at mo0 mo1
          clear q5 hle
          have s35 := s34.same M5
          refine ⟨_, rfl, a', _, rfl, .inr (hT' s35), fun R hR => ⟨_, _, rfl, ?_⟩⟩
          have B5 := B4.keep M5
          have s5 := s4.same M5
          have nRb := B5.ne hR
          have fR : H R = none := s5.free hR nRb
          have M6 := same_new (o := .lst (ts.map V.int)) (Same.refl H5) hR
          have e6 := M6 _ _ (M5 _ _ e4)
          have p6 := rwT_more M6 (rwT_more M5 p4)
          have r6 : upd H5 R (.lst (ts.map V.int)) R = some (.lst (ts.map V.int)) := upd_same
          have npR : p ≠ R := fun z => by rw [← z, M5 _ _ e4] at hR; cases hR
          have B6 := B5.keep M6
          have s6 := s5.same M6
          generalize upd H5 R (.lst (ts.map V.int)) = H6 at M6 e6 p6 r6 B6 s6 ⊢
          clear M5 s35 B5 s5 hR hD D e4 p4 B4 s4 s34 M6 H5
          refine ⟨fun σ' H' => ∃ many : Int, 1 ≤ many ∧ many ≤ mo ∧ σ' = [some (.ref b), some (.ref tn), some (.ref a'), some (.int (0 + (i : Int))), some (.ref p), some (.int mo), some (.ref R), some (.int many), v8, v9, v10, v11, v12, none, none, none, none] ∧ H' p = some (.lst (us.map V.ref)) ∧ Paired (RwT H') us ws ∧ H' R = some (.lst (ts.map V.int)) ∧ Bag H' b ∧ Sb b H H', ?_, ?_⟩
          · refine ⟨_, rfl, _, rfl, _, rfl, _, rfl, b, mo, rfl, B6, mo0, Nat.lt_of_le_of_lt (show mo.natAbs ≤ 10000000000000000000000000000000000 by omega) (by decide), fun v H7 v0 v1 B7 s7 => ⟨1, v, rfl, rfl, by show 3 ≤ sizeLine; decide, fun q hq => ?_⟩⟩
            refine ⟨b, q, _, rfl, B7.new hq, sql_new upd_same (B7.ne hq), (fun z => nomatch z), by show 3 ≤ 1000000; decide, fun x H8 hx B8 s8 => ?_⟩
            have s68 := s7.trans (((Sb.refl b H7).new hq).trans s8)
            have fin : ∀ c : Int, 1 ≤ c → c ≤ mo → ∃ many : Int, 1 ≤ many ∧ many ≤ mo ∧ [some (V.ref b), some (.ref tn), some (.ref a'), some (.int (0 + (i : Int))), some (.ref p), some (.int mo), some (.ref R), some (.int c), v8, v9, v10, v11, v12, none, none, none, none] = [some (.ref b), some (.ref tn), some (.ref a'), some (.int (0 + (i : Int))), some (.ref p), some (.int mo), some (.ref R), some (.int many), v8, v9, v10, v11, v12, none, none, none, none] ∧ H8 p = some (.lst (us.map V.ref)) ∧ Paired (RwT H8) us ws ∧ H8 R = some (.lst (ts.map V.int)) ∧ Bag H8 b ∧ Sb b H H8 :=
              fun c c1 c2 => ⟨c, c1, c2, rfl, s68.get e6 npb, rwT_sb B6 s68 p6, s68.get r6 nRb, B8, s6.trans s68⟩
            simp only [List.mem_cons, List.not_mem_nil, or_false] at hx
            rcases hx with rfl | rfl | rfl
            · exact fin mo (by omega) (Int.le_refl _)
            · exact fin 1 (by omega) (by omega)
            · exact fin (1 + v) (by omega) (by omega)
          clear e6 p6 r6 B6 s6 H6
          rintro σ7 H7 ⟨many, c1, c2, rfl, e7, p7, r7, B7, s7⟩
          refine ⟨_, rfl, p, rfl, ⟨_, SqL.of e7⟩, ?_⟩
          refine for_list (K := K) (a := p) (xs := us.map V.ref) (fun j σ H' => ∃ (v8 v9 v10 v11 v12 : Option V), σ = [some (.ref b), some (.ref tn), some (.ref a'), some (.int (0 + (i : Int))), some (.ref p), some (.int mo), some (.ref R), some (.int many), v8, v9, v10, v11, v12, none, none, none, none] ∧
            H' R = some (.lst ((EK.led many ts ((ws.take j).map toE)).map V.int)) ∧ H' p = some (.lst (us.map V.ref)) ∧ Paired (RwT H') us ws ∧ Bag H' b ∧ Sb b H H') ?_ ?_ ?_ ?_
          · exact ⟨_, _, _, _, _, rfl, by rw [List.take_zero]; exact r7, e7, p7, B7, s7⟩
          · rintro j σ H' _ ⟨_, _, _, _, _, _, _, e, _⟩
            exact SqL.of e
          · clear e7 p7 r7 B7 s7
            rintro j u σ H8 hu ⟨v8, v9, v10, v11, v12, rfl, r8, e8, p8, B8, s8⟩
            rw [List.getElem?_map] at hu
            obtain ⟨t, ht, rfl⟩ := Option.map_eq_some_iff.mp hu
            obtain ⟨r, hr', et⟩ := paired_at p8 ht
            have et' : H8 t = some (.tup (rwV r)) := et
            have rn := (q4 r (List.mem_of_getElem? hr')).2.2.2.2
            have en : EK.led many ts ((ws.take (j + 1)).map toE) = EK.led1 many (EK.led many ts ((ws.take j).map toE)) (toE r) := by
              rw [List.take_succ, hr']
              unfold EK.led
              rw [Option.toList_some, List.map_append, List.foldl_append]
              rfl
            have lx : (EK.led many ts ((ws.take j).map toE)).length = rs.length := by rw [EK.led_len]; exact hl.symm
            rw [en]
            generalize EK.led many ts ((ws.take j).map toE) = xs at r8 lx ⊢
            have hx := int_at xs (v := r.2.2.2.1) (by omega)
            have put : ∀ v : Int, v = (if r.2.2.2.2 = true then many else 0 - many) → ∃ (v8 v9 v10 v11 v12 : Option V), [some (V.ref b), some (.ref tn), some (.ref a'), some (.int (0 + (i : Int))), some (.ref p), some (.int mo), some (.ref R), some (.int many), some (.int r.1), some (.int r.2.1), some (.int r.2.2.1), some (.int r.2.2.2.1), some (.bl r.2.2.2.2), none, none, none, none] = [some (V.ref b), some (.ref tn), some (.ref a'), some (.int (0 + (i : Int))), some (.ref p), some (.int mo), some (.ref R), some (.int many), v8, v9, v10, v11, v12, none, none, none, none] ∧
                upd H8 R (.lst ((xs.map V.int).set r.2.2.2.1 (.int (xs.getD r.2.2.2.1 0 + v)))) R = some (.lst ((EK.led1 many xs (toE r)).map V.int)) ∧ upd H8 R (.lst ((xs.map V.int).set r.2.2.2.1 (.int (xs.getD r.2.2.2.1 0 + v)))) p = some (.lst (us.map V.ref)) ∧ Paired (RwT (upd H8 R (.lst ((xs.map V.int).set r.2.2.2.1 (.int (xs.getD r.2.2.2.1 0 + v)))))) us ws ∧ Bag (upd H8 R (.lst ((xs.map V.int).set r.2.2.2.1 (.int (xs.getD r.2.2.2.1 0 + v))))) b ∧ Sb b H (upd H8 R (.lst ((xs.map V.int).set r.2.2.2.1 (.int (xs.getD r.2.2.2.1 0 + v))))) := fun v hv => by
              refine ⟨_, _, _, _, _, rfl, ?_, by rw [upd_ne npR]; exact e8, rwT_put r8 (fun xs z => nomatch z) p8, hB.wr fR s8 B8, s8.wr fR⟩
              rw [upd_same, ← List.map_set, hv]
              rfl
            refine ⟨t, _, rfl, SqT.of et', rfl, _, _, rfl, _, _, rfl, _, _, rfl, _, _, rfl, _, _, rfl, rfl, ?_⟩
            refine ⟨_, rfl, _, rfl, R, _, _, _, rfl, rfl, SqL.of r8, atI_nat hx, _, rfl, _, rfl, ?_⟩
            refine ite2 (fun c => ?_) (fun c => ?_)
            · exact ⟨_, rfl, _, many, rfl, rfl, R, _, _, r.2.2.2.1, rfl, rfl, r8, ixN_nat (by rw [List.length_map]; omega), put many (by rw [if_pos c])⟩
            · exact ⟨_, rfl, 0, many, rfl, rfl, _, 0 - many, rfl, rfl, R, _, _, r.2.2.2.1, rfl, rfl, r8, ixN_nat (by rw [List.length_map]; omega), put (0 - many) (by rw [if_neg c])⟩
          · clear e7 p7 r7 B7 s7
            rintro σ H8 ⟨v8, v9, v10, v11, v12, rfl, r8, e8, p8, B8, s8⟩
            rw [List.length_map, paired_len p8, List.take_length] at r8
            obtain ⟨t1, t2⟩ := turn_thr thr LWx (d := many) (by omega) (fun r hr => by have := hd r hr; omega)
            refine ⟨_, rfl, R, _, rfl, .inl ⟨SqL.of r8, fun l hl' => ?_⟩⟩
            refine ⟨_, _, _, _, _, _, _, _, _, _, l, _, rfl, sqt_new upd_same (B8.ne hl'), t1, fun t ht => ?_, B8.new hl', s8.new hl'⟩
            obtain ⟨j, hj, ej⟩ := List.getElem_of_mem ht
            have g := led_grow (ts := ts) (d := many) (by omega) LWx.nd j
            rw [List.getD_eq_getElem?_getD, List.getElem?_eq_getElem hj] at g
            have g : (EK.led many ts (ws.map toE))[j] ≤ ts.getD j 0 + many := g
            rw [ej] at g
            have hjl : j < ts.length := by rw [EK.led_len] at hj; exact hj
            have := hb (ts.getD j 0) (by rw [List.getD_eq_getElem?_getD, List.getElem?_eq_getElem hjl]; exact List.getElem_mem _)
            omega
      · clear B2 s2 q2
        rintro σ H3 ⟨v3, v4, v5, v6, v7, v8, v9, v10, v11, v12, a', ts, rfl, hT, thr, hb, B3, s3⟩
        have up : bnd n.toNat ≤ bnd 3 := bnd_up (by omega)
        exact ⟨_, _, _, _, _, _, _, _, _, _, a', ts, rfl, hT, thr, fun t ht => by have := hb t ht; omega, B3, s3⟩
    clear B1 s1 q1
    rintro σ1 H1 ⟨v3, v4, v5, v6, v7, v8, v9, v10, v11, v12, a', ts, rfl, hT, thr, hb, B1, s1⟩
    have b3 : bnd 3 = 10000000000000000000000000000000000 := by decide
    have p35 : (10 : Int) ^ 35 = 100000000000000000000000000000000000 := by decide
    -- the rings
    refine ⟨_, rfl, tn, _, 1, .ref ra, rfl, rfl, v1 s1, at1, ra, zs, rfl, v2 s1, ?_⟩
    refine for_it (walk_enumT (K := K) (a := ra) (xs := zs)) (fun i σ G => ∃ (v3 v4 v5 v6 v7 v8 v9 v10 v11 v12 v13 v14 v15 : Option V) (a' : Addr) (ts : List Int), σ = [some (.ref b), some (.ref tn), some (.ref a'), v3, v4, v5, v6, v7, v8, v9, v10, v11, v12, v13, v14, v15, none] ∧ SqT K (wo G b) a' (ts.map V.int) ∧ EK.Thr m rs ts ∧ (∀ t ∈ ts, t ≤ bnd 3 + 1000 * (i : Int)) ∧ Bag G b ∧ Sb b H G) ?_ ?_ ?_ ?_
    · exact ⟨_, _, _, _, _, _, _, _, _, _, _, _, _, a', ts, rfl, hT, thr, fun t ht => by have := hb t ht; omega, B1, s1⟩
    · rintro i σ G _ ⟨_, _, _, _, _, _, _, _, _, _, _, _, _, _, _, _, _, _, _, _, s⟩
      exact v2 s
    · clear hT thr hb B1 s1 a' ts
      rintro i x σ G G' hi ⟨v3, v4, v5, v6, v7, v8, v9, v10, v11, v12, v13, v14, v15, a', ts, rfl, hT, thr, hb, B, s⟩ ⟨T', x', y', rfl, fT, rfl, hx, hy⟩
      cases (Option.some.inj hx)
      obtain ⟨r1, hr1', q1, rfl, hq1⟩ := paired_at h3 hy
      have hi' : i < rs.length := by omega
      have B2 := B.new (o := .tup [.int (i : Nat), .ref q1]) fT
      have s2 := s.new (o := .tup [.int (i : Nat), .ref q1]) fT
      have hT2 := sqt_more (wo_same (b := b) (same_new (o := .tup [.int (i : Nat), .ref q1]) (Same.refl G) fT)) hT
      have et : upd G T' (.tup [.int (i : Nat), .ref q1]) T' = some (.tup [.int (i : Nat), .ref q1]) := upd_same
      generalize upd G T' (.tup [.int (i : Nat), .ref q1]) = G2 at B2 s2 hT2 et ⊢
      clear B s hT
      refine ⟨T', _, rfl, SqT.of et, rfl, _, _, rfl, _, _, rfl, rfl, ?_⟩
      refine ⟨_, rfl, tn, _, 1, .ref ra, rfl, rfl, v1 s2, at1, ra, zs, rfl, v2 s2, ?_⟩
      refine for_it (walk_enumT (K := K) (a := ra) (xs := zs)) (fun j σ G => ∃ (v3 v4 v5 v6 v7 v8 v9 v10 v12 v14 v15 : Option V) (a' : Addr) (ts : List Int), σ = [some (.ref b), some (.ref tn), some (.ref a'), v3, v4, v5, v6, v7, v8, v9, v10, some (.int (i : Nat)), v12, some (.ref q1), v14, v15, none] ∧ SqT K (wo G b) a' (ts.map V.int) ∧ EK.Thr m rs ts ∧ (∀ t ∈ ts, t ≤ bnd 3 + 1000 * (i : Int) + (j : Int)) ∧ Bag G b ∧ Sb b H G) ?_ ?_ ?_ ?_
      · exact ⟨_, _, _, _, _, _, _, _, _, _, _, a', ts, rfl, hT2, thr, fun t ht => by have := hb t ht; omega, B2, s2⟩
      · rintro j σ G _ ⟨_, _, _, _, _, _, _, _, _, _, _, _, _, _, _, _, _, _, s⟩
        exact v2 s
      · clear hT2 thr hb B2 s2 et a' ts
        rintro j x σ G G' hj ⟨v3, v4, v5, v6, v7, v8, v9, v10, v12, v14, v15, a', ts, rfl, hT, thr, hb, B, s⟩ ⟨T2, x2, y2, rfl, fT2, rfl, hx2, hy2⟩
        cases (Option.some.inj hx2)
        obtain ⟨r2, hr2', q2, rfl, hq2⟩ := paired_at h3 hy2
        have hj' : j < rs.length := by omega
        have B2 := B.new (o := .tup [.int (j : Nat), .ref q2]) fT2
        have s2 := s.new (o := .tup [.int (j : Nat), .ref q2]) fT2
        have hT2 := sqt_more (wo_same (b := b) (same_new (o := .tup [.int (j : Nat), .ref q2]) (Same.refl G) fT2)) hT
        have et : upd G T2 (.tup [.int (j : Nat), .ref q2]) T2 = some (.tup [.int (j : Nat), .ref q2]) := upd_same
        generalize upd G T2 (.tup [.int (j : Nat), .ref q2]) = G2 at B2 s2 hT2 et ⊢
        clear B s hT
        have up : ∀ t ∈ ts, t ≤ bnd 3 + 1000 * (i : Int) + ((j + 1 : Nat) : Int) := fun t ht => by have := hb t ht; omega
        have w1 : ∀ {G : Hp}, Sb b H G → SqT K G q1 [.int r1.1, .int r1.2.1, capV r1.2.2] := fun {G} s => sqt_more (wo_sub G b) (sqt_more s.1 hq1)
        have w2 : ∀ {G : Hp}, Sb b H G → SqT K G q2 [.int r2.1, .int r2.2.1, capV r2.2.2] := fun {G} s => sqt_more (wo_sub G b) (sqt_more s.1 hq2)
        refine ⟨T2, _, rfl, SqT.of et, rfl, _, _, rfl, _, _, rfl, rfl, ?_⟩
        refine ⟨_, rfl, _, rfl, q1, _, rfl, w1 s2, fun p3 G3 M3 c3 => ?_⟩
        have c3 : SqT K G3 p3 [.int r1.1, .int r1.2.1] := c3
        have s3 := s2.same M3
        have B3 := B2.keep M3
        have hT3 := sqt_more (wo_same (b := b) M3) hT2
        refine ⟨_, rfl, q2, _, 1, _, rfl, rfl, w2 s3, at1, _, rfl, q2, _, 0, _, rfl, rfl, w2 s3, at0, by show 2 ≤ sizeLine; decide, fun t4 ht4 => ?_⟩
        have M4 := same_new (o := .tup [.int r2.2.1, .int r2.1]) (Same.refl G3) ht4
        have c4 := sqt_more M4 c3
        have e4 : upd G3 t4 (.tup [.int r2.2.1, .int r2.1]) t4 = some (.tup [.int r2.2.1, .int r2.1]) := upd_same
        have B4 := B3.keep M4
        have s4 := s3.same M4
        have hT4 := sqt_more (wo_same (b := b) M4) hT3
        generalize upd G3 t4 (.tup [.int r2.2.1, .int r2.1]) = G4 at M4 c4 e4 B4 s4 hT4 ⊢
        clear s2 B2 hT2 s3 B3 hT3 c3 M3 M4 ht4 et
        have shp : ∀ a c : Int, SeqAt.shaped (.tuple [.int a, .int c]) = true := fun a c => by simp [SeqAt.shaped, PyData.canLay0, PyData.canLayAll0, PyData.depth, PyData.depthAll]
        refine ⟨.tuple [.int r1.1, .int r1.2.1], .tuple [.int r2.2.1, .int r2.1], .tup c4 (.cons (.int _) (.cons (.int _) .nil)), .tup (SqT.of e4) (.cons (.int _) (.cons (.int _) .nil)), shp _ _, shp _ _, _, rfl, ?_⟩
        refine ite2 (fun ce => ?_) (fun _ => ⟨_, _, _, _, _, _, _, _, _, _, _, a', ts, rfl, hT4, thr, up, B4, s4⟩)
        have ce : r1.1 = r2.2.1 ∧ r1.2.1 = r2.1 := by
          simp [PyData.eqv, PyData.eqvAll] at ce
          omega
        refine ⟨_, rfl, _, rfl, _, _, rfl, rfl, _, rfl, ?_⟩
        refine ite2 (fun cl => ?_) (fun _ => ⟨_, _, _, _, _, _, _, _, _, _, _, a', ts, rfl, hT4, thr, up, B4, s4⟩)
        have cl : (i : Int) < (j : Int) := of_decide_eq_true cl
        refine ⟨_, rfl, b, 2, rfl, B4, by decide, by decide, fun v G5 _ _ B5 s5' => ⟨rfl, _, rfl, ?_⟩⟩
        have s5 := s4.trans s5'
        have hT5 := sqt_more s5'.1 hT4
        refine ite2 (fun _ => ?_) (fun _ => ⟨_, _, _, _, _, _, _, _, _, _, _, a', ts, rfl, hT5, thr, up, B5, s5⟩)
        -- rows
        refine ⟨_, rfl, a', _, rfl, .inr (sqt_more (wo_sub G5 b) hT5), fun R hR => ?_⟩
        have nRb := B5.ne hR
        have fR : H R = none := s5.free hR nRb
        have B6 := B5.new (o := .lst (ts.map V.int)) hR
        have s6 := s5.new (o := .lst (ts.map V.int)) hR
        have hT6 := sqt_more (wo_same (b := b) (same_new (o := .lst (ts.map V.int)) (Same.refl G5) hR)) hT5
        have e6 : upd G5 R (.lst (ts.map V.int)) R = some (.lst (ts.map V.int)) := upd_same
        generalize upd G5 R (.lst (ts.map V.int)) = G6 at B6 s6 hT6 e6 ⊢
        have lt := thr.len
        have x1 := int_at ts (show i < ts.length by omega)
        have x2 := int_at ts (show j < ts.length by omega)
        have ij : i ≠ j := by omega
        refine ⟨_, rfl, q1, _, 2, _, rfl, rfl, w1 s6, at2, rfl, _, rfl, ?_⟩
        cases hc1 : r1.2.2 with
        | none =>
          refine ite2 (fun _ => ?_) (fun h => absurd (by simp [capV]) h)
          refine ⟨_, rfl, q2, _, 2, _, rfl, rfl, w2 s6, at2, rfl, _, rfl, ?_⟩
          cases hc2 : r2.2.2 with
          | none =>
            refine ite2 (fun _ => ?_) (fun h => absurd (by simp [capV]) h)
            have T8 := ring_thr thr ij hr1' hr2' ce.1 ce.2 (fun x hx => by rw [hc1] at hx; cases hx) (fun x hx => by rw [hc2] at hx; cases hx)
            refine ⟨_, rfl, _, rfl, R, _, _, _, rfl, rfl, SqL.of e6, atI_nat x1, _, _, rfl, rfl, _, rfl, _, rfl, R, _, _, _, rfl, rfl, SqL.of e6, atI_nat x2, _, _, rfl, rfl, by show 2 ≤ sizeLine; decide, fun tt htt => ?_⟩
            refine ⟨tt, _, rfl, SqT.of upd_same, rfl, _, _, rfl, _, rfl, _, rfl, R, _, _, i, rfl, rfl, s3u htt e6, by rw [List.length_map]; exact ixN_nat (by omega), _, _, rfl, _, rfl, _, rfl, R, _, _, j, rfl, rfl, upd_same, by rw [List.length_set, List.length_map]; exact ixN_nat (by omega), rfl, ?_⟩
            have B7 := B6.new (o := .tup [.int (ts.getD i 0 + 1), .int (ts.getD j 0 + 1)]) htt
            have s7 := s6.new (o := .tup [.int (ts.getD i 0 + 1), .int (ts.getD j 0 + 1)]) htt
            have B8 := hB.wr (o := .lst ((ts.map V.int).set i (.int (ts.getD i 0 + 1)))) fR s7 B7
            have s8 := s7.wr (o := .lst ((ts.map V.int).set i (.int (ts.getD i 0 + 1)))) fR
            have B9 := hB.wr (o := .lst (((ts.map V.int).set i (.int (ts.getD i 0 + 1))).set j (.int (ts.getD j 0 + 1)))) fR s8 B8
            have s9 := s8.wr (o := .lst (((ts.map V.int).set i (.int (ts.getD i 0 + 1))).set j (.int (ts.getD j 0 + 1)))) fR
            refine ⟨_, rfl, R, _, rfl, .inl ⟨SqL.of upd_same, fun l hl => ?_⟩⟩
            refine ⟨_, _, _, _, _, _, _, _, _, _, _, l, _, rfl, sqt_new (by rw [upd_same, ← List.map_set, ← List.map_set]) (B9.ne hl), T8, fun t ht => ?_, B9.new hl, s9.new hl⟩
            have o1 := hb (ts.getD i 0) (by rw [List.getD_eq_getElem?_getD, List.getElem?_eq_getElem (show i < ts.length by omega)]; exact List.getElem_mem _)
            have o2 := hb (ts.getD j 0) (by rw [List.getD_eq_getElem?_getD, List.getElem?_eq_getElem (show j < ts.length by omega)]; exact List.getElem_mem _)
            rcases List.mem_or_eq_of_mem_set ht with ht | ht
            · rcases List.mem_or_eq_of_mem_set ht with ht | ht
              · exact up t ht
              · omega
            · omega
          | some d2 =>
            refine ite2 (fun h => absurd h (by simp [capV])) (fun _ => ?_)
            refine ⟨_, rfl, _, rfl, R, _, _, _, rfl, rfl, SqL.of e6, atI_nat x2, _, rfl, q2, _, 2, _, rfl, rfl, w2 s6, at2, _, _, rfl, by rw [hc2]; rfl, _, rfl, ?_⟩
            refine ite2 (fun lt2 => ?_) (fun _ => ⟨_, _, _, _, _, _, _, _, _, _, _, a', ts, rfl, hT6, thr, up, B6, s6⟩)
            have lt2 : ts.getD j 0 < d2 := of_decide_eq_true lt2
            have T8 := ring_thr thr ij hr1' hr2' ce.1 ce.2 (fun x hx => by rw [hc1] at hx; cases hx) (fun x hx => by rw [hc2] at hx; cases hx; exact lt2)
            refine ⟨_, rfl, _, rfl, R, _, _, _, rfl, rfl, SqL.of e6, atI_nat x1, _, _, rfl, rfl, _, rfl, _, rfl, R, _, _, _, rfl, rfl, SqL.of e6, atI_nat x2, _, _, rfl, rfl, by show 2 ≤ sizeLine; decide, fun tt htt => ?_⟩
            refine ⟨tt, _, rfl, SqT.of upd_same, rfl, _, _, rfl, _, rfl, _, rfl, R, _, _, i, rfl, rfl, s3u htt e6, by rw [List.length_map]; exact ixN_nat (by omega), _, _, rfl, _, rfl, _, rfl, R, _, _, j, rfl, rfl, upd_same, by rw [List.length_set, List.length_map]; exact ixN_nat (by omega), rfl, ?_⟩
            have B7 := B6.new (o := .tup [.int (ts.getD i 0 + 1), .int (ts.getD j 0 + 1)]) htt
            have s7 := s6.new (o := .tup [.int (ts.getD i 0 + 1), .int (ts.getD j 0 + 1)]) htt
            have B8 := hB.wr (o := .lst ((ts.map V.int).set i (.int (ts.getD i 0 + 1)))) fR s7 B7
            have s8 := s7.wr (o := .lst ((ts.map V.int).set i (.int (ts.getD i 0 + 1)))) fR
            have B9 := hB.wr (o := .lst (((ts.map V.int).set i (.int (ts.getD i 0 + 1))).set j (.int (ts.getD j 0 + 1)))) fR s8 B8
            have s9 := s8.wr (o := .lst (((ts.map V.int).set i (.int (ts.getD i 0 + 1))).set j (.int (ts.getD j 0 + 1)))) fR
            refine ⟨_, rfl, R, _, rfl, .inl ⟨SqL.of upd_same, fun l hl => ?_⟩⟩
            refine ⟨_, _, _, _, _, _, _, _, _, _, _, l, _, rfl, sqt_new (by rw [upd_same, ← List.map_set, ← List.map_set]) (B9.ne hl), T8, fun t ht => ?_, B9.new hl, s9.new hl⟩
            have o1 := hb (ts.getD i 0) (by rw [List.getD_eq_getElem?_getD, List.getElem?_eq_getElem (show i < ts.length by omega)]; exact List.getElem_mem _)
            have o2 := hb (ts.getD j 0) (by rw [List.getD_eq_getElem?_getD, List.getElem?_eq_getElem (show j < ts.length by omega)]; exact List.getElem_mem _)
            rcases List.mem_or_eq_of_mem_set ht with ht | ht
            · rcases List.mem_or_eq_of_mem_set ht with ht | ht
              · exact up t ht
              · omega
            · omega
        | some d1 =>
          refine ite2 (fun h => absurd h (by simp [capV])) (fun _ => ?_)
          refine ⟨_, rfl, _, rfl, R, _, _, _, rfl, rfl, SqL.of e6, atI_nat x1, _, rfl, q1, _, 2, _, rfl, rfl, w1 s6, at2, _, _, rfl, by rw [hc1]; rfl, _, rfl, ?_⟩
          refine ite2 (fun lt1 => ?_) (fun _ => ⟨_, _, _, _, _, _, _, _, _, _, _, a', ts, rfl, hT6, thr, up, B6, s6⟩)
          have lt1 : ts.getD i 0 < d1 := of_decide_eq_true lt1
          refine ⟨_, rfl, q2, _, 2, _, rfl, rfl, w2 s6, at2, rfl, _, rfl, ?_⟩
          cases hc2 : r2.2.2 with
          | none =>
            refine ite2 (fun _ => ?_) (fun h => absurd (by simp [capV]) h)
            have T8 := ring_thr thr ij hr1' hr2' ce.1 ce.2 (fun x hx => by rw [hc1] at hx; cases hx; exact lt1) (fun x hx => by rw [hc2] at hx; cases hx)
            refine ⟨_, rfl, _, rfl, R, _, _, _, rfl, rfl, SqL.of e6, atI_nat x1, _, _, rfl, rfl, _, rfl, _, rfl, R, _, _, _, rfl, rfl, SqL.of e6, atI_nat x2, _, _, rfl, rfl, by show 2 ≤ sizeLine; decide, fun tt htt => ?_⟩
            refine ⟨tt, _, rfl, SqT.of upd_same, rfl, _, _, rfl, _, rfl, _, rfl, R, _, _, i, rfl, rfl, s3u htt e6, by rw [List.length_map]; exact ixN_nat (by omega), _, _, rfl, _, rfl, _, rfl, R, _, _, j, rfl, rfl, upd_same, by rw [List.length_set, List.length_map]; exact ixN_nat (by omega), rfl, ?_⟩
            have B7 := B6.new (o := .tup [.int (ts.getD i 0 + 1), .int (ts.getD j 0 + 1)]) htt
            have s7 := s6.new (o := .tup [.int (ts.getD i 0 + 1), .int (ts.getD j 0 + 1)]) htt
            have B8 := hB.wr (o := .lst ((ts.map V.int).set i (.int (ts.getD i 0 + 1)))) fR s7 B7
            have s8 := s7.wr (o := .lst ((ts.map V.int).set i (.int (ts.getD i 0 + 1)))) fR
            have B9 := hB.wr (o := .lst (((ts.map V.int).set i (.int (ts.getD i 0 + 1))).set j (.int (ts.getD j 0 + 1)))) fR s8 B8
            have s9 := s8.wr (o := .lst (((ts.map V.int).set i (.int (ts.getD i 0 + 1))).set j (.int (ts.getD j 0 + 1)))) fR
            refine ⟨_, rfl, R, _, rfl, .inl ⟨SqL.of upd_same, fun l hl => ?_⟩⟩
            refine ⟨_, _, _, _, _, _, _, _, _, _, _, l, _, rfl, sqt_new (by rw [upd_same, ← List.map_set, ← List.map_set]) (B9.ne hl), T8, fun t ht => ?_, B9.new hl, s9.new hl⟩
            have o1 := hb (ts.getD i 0) (by rw [List.getD_eq_getElem?_getD, List.getElem?_eq_getElem (show i < ts.length by omega)]; exact List.getElem_mem _)
            have o2 := hb (ts.getD j 0) (by rw [List.getD_eq_getElem?_getD, List.getElem?_eq_getElem (show j < ts.length by omega)]; exact List.getElem_mem _)
            rcases List.mem_or_eq_of_mem_set ht with ht | ht
            · rcases List.mem_or_eq_of_mem_set ht with ht | ht
              · exact up t ht
              · omega
            · omega
          | some d2 =>
            refine ite2 (fun h => absurd h (by simp [capV])) (fun _ => ?_)
            refine ⟨_, rfl, _, rfl, R, _, _, _, rfl, rfl, SqL.of e6, atI_nat x2, _, rfl, q2, _, 2, _, rfl, rfl, w2 s6, at2, _, _, rfl, by rw [hc2]; rfl, _, rfl, ?_⟩
            refine ite2 (fun lt2 => ?_) (fun _ => ⟨_, _, _, _, _, _, _, _, _, _, _, a', ts, rfl, hT6, thr, up, B6, s6⟩)
            have lt2 : ts.getD j 0 < d2 := of_decide_eq_true lt2
            have T8 := ring_thr thr ij hr1' hr2' ce.1 ce.2 (fun x hx => by rw [hc1] at hx; cases hx; exact lt1) (fun x hx => by rw [hc2] at hx; cases hx; exact lt2)
            refine ⟨_, rfl, _, rfl, R, _, _, _, rfl, rfl, SqL.of e6, atI_nat x1, _, _, rfl, rfl, _, rfl, _, rfl, R, _, _, _, rfl, rfl, SqL.of e6, atI_nat x2, _, _, rfl, rfl, by show 2 ≤ sizeLine; decide, fun tt htt => ?_⟩
            refine ⟨tt, _, rfl, SqT.of upd_same, rfl, _, _, rfl, _, rfl, _, rfl, R, _, _, i, rfl, rfl, s3u htt e6, by rw [List.length_map]; exact ixN_nat (by omega), _, _, rfl, _, rfl, _, rfl, R, _, _, j, rfl, rfl, upd_same, by rw [List.length_set, List.length_map]; exact ixN_nat (by omega), rfl, ?_⟩
            have B7 := B6.new (o := .tup [.int (ts.getD i 0 + 1), .int (ts.getD j 0 + 1)]) htt
            have s7 := s6.new (o := .tup [.int (ts.getD i 0 + 1), .int (ts.getD j 0 + 1)]) htt
            have B8 := hB.wr (o := .lst ((ts.map V.int).set i (.int (ts.getD i 0 + 1)))) fR s7 B7
            have s8 := s7.wr (o := .lst ((ts.map V.int).set i (.int (ts.getD i 0 + 1)))) fR
            have B9 := hB.wr (o := .lst (((ts.map V.int).set i (.int (ts.getD i 0 + 1))).set j (.int (ts.getD j 0 + 1)))) fR s8 B8
            have s9 := s8.wr (o := .lst (((ts.map V.int).set i (.int (ts.getD i 0 + 1))).set j (.int (ts.getD j 0 + 1)))) fR
            refine ⟨_, rfl, R, _, rfl, .inl ⟨SqL.of upd_same, fun l hl => ?_⟩⟩
            refine ⟨_, _, _, _, _, _, _, _, _, _, _, l, _, rfl, sqt_new (by rw [upd_same, ← List.map_set, ← List.map_set]) (B9.ne hl), T8, fun t ht => ?_, B9.new hl, s9.new hl⟩
            have o1 := hb (ts.getD i 0) (by rw [List.getD_eq_getElem?_getD, List.getElem?_eq_getElem (show i < ts.length by omega)]; exact List.getElem_mem _)
            have o2 := hb (ts.getD j 0) (by rw [List.getD_eq_getElem?_getD, List.getElem?_eq_getElem (show j < ts.length by omega)]; exact List.getElem_mem _)
            rcases List.mem_or_eq_of_mem_set ht with ht | ht
            · rcases List.mem_or_eq_of_mem_set ht with ht | ht
              · exact up t ht
              · omega
            · omega
      · rintro σ G ⟨v3, v4, v5, v6, v7, v8, v9, v10, v12, v14, v15, a', ts, rfl, hT, thr, hb, B, s⟩
        exact ⟨_, _, _, _, _, _, _, _, _, _, _, _, _, a', ts, rfl, hT, thr, fun t ht => by have := hb t ht; omega, B, s⟩
    · rintro σ G ⟨v3, v4, v5, v6, v7, v8, v9, v10, v11, v12, v13, v14, v15, a', ts, rfl, hT, thr, hb, B, s⟩
      exact ⟨_, rfl, k a' ts G hT thr (fun t ht => by have := hb t ht; omega) B s⟩
end
end Y

/-! PL8: _law_planted. -/
namespace Y
open PySem PySem.Spec PyProof.Rows L2 Ns
open C8 (pss_cut)
theorem paired_perm {α β : Type} {R : α → β → Prop} {xs ys : List α} (p : ys.Perm xs) : ∀ {as : List β}, Paired R xs as → ∃ bs, bs.Perm as ∧ Paired R ys bs := by
  induction p with
  | nil => exact fun h => ⟨_, List.Perm.refl _, h⟩
  | cons x _ ih =>
    intro as h
    cases h with
    | cons h t =>
      obtain ⟨bs, b1, b2⟩ := ih t
      exact ⟨_, b1.cons _, .cons h b2⟩
  | swap x y l =>
    intro as h
    cases h with
    | cons h1 t => cases t with
      | cons h2 t => exact ⟨_, List.Perm.swap _ _ _, .cons h2 (.cons h1 t)⟩
  | trans _ _ ih1 ih2 =>
    intro as h
    obtain ⟨bs, b1, b2⟩ := ih2 h
    obtain ⟨cs, c1, c2⟩ := ih1 b2
    exact ⟨cs, c1.trans b1, c2⟩
theorem paired_app {α β : Type} {R : α → β → Prop} {xs : List α} {ys : List β} (h : Paired R xs ys) {us : List α} {vs : List β} (g : Paired R us vs) : Paired R (xs ++ us) (ys ++ vs) := by
  induction h with
  | nil => exact g
  | cons h _ ih => exact .cons h ih
theorem paired_take {α β : Type} {R : α → β → Prop} : ∀ (n : Nat) {xs : List α} {as : List β}, Paired R xs as → Paired R (xs.take n) (as.take n)
  | 0, _, _, _ => .nil
  | n + 1, _, _, .nil => .nil
  | n + 1, _, _, .cons h t => .cons h (paired_take n t)
/-- an arc of a planted net -/
def PlA (m : Nat) (a : Arc) : Prop := a.1 < m ∧ a.2.1 < m ∧ a.1 ≠ a.2.1 ∧ (∀ c, a.2.2 = some c → 0 ≤ c ∧ c ≤ 10 ^ 12) ∧ (a.2.2 = none → a.2.1 = 2)
def spPlanted (K : PySem.W.Frag) : Sp := fun as H Q _ => ∃ (b : Addr) (y : V) (m : Nat) (rs : List Arc), as = [.ref b, y] ∧ Bag H b ∧ NetV K (wo H b) y m rs ∧ NetP m rs ∧
  ∀ (y' : V) (m' : Nat) (rs' : List Arc) (S : Nat → Bool) (H' : Hp), NetP m' rs' → EK.Nt rs' m' S → NetV K (wo H' b) y' m' rs' → Bag H' b → Sb b H H' → Q y' H'
section
variable {P : Program} {w : World} {K : PySem.W.Frag} {mg : Str → Option Value} {base : Heap}
theorem scPd : FnScope ["bag", "net", "far", "rows", "arc"] ["bag", "net"] (defScope sPlanted) := ⟨rfl, rfl, rfl, by decide +kernel, rfl, by decide +kernel, by decide +kernel⟩
theorem ok_planted {f fS fM : Addr} {fd dS dM : FuncData} (F : Fun K "_law_planted" "_law_planted" sPlanted f fd) (T : Nat0 mg) (GS : FnOk P w K mg base CX0 2 fS dS ["bag", "things"] (spSome K)) (FS : Fun K "_law_some" "_law_some" sSome fS dS) (mS : mg "_law_some" = some (.ref fS)) (bS : Binds K dS ["bag", "things"] [])
    (GM : FnOk P w K mg base CX0 2 fM dM ["bag", "things"] (spMixed K)) (FM : Fun K "_law_mixed" "_law_mixed" sMixed fM dM) (mM : mg "_law_mixed" = some (.ref fM)) (bM : Binds K dM ["bag", "things"] []) : FnOk P w K mg base CX0 3 f fd ["bag", "net"] (spPlanted K) := by
  refine F.ok scPd (fun as H Q E h => ?_) (fun cdv A outer s H as Q E hr h => ?_)
  · obtain ⟨b, y, m, rs, rfl, _⟩ := h
    rfl
  · obtain ⟨b, y, m, rs, rfl, hB, hN, hP, k⟩ := h
    refine ⟨_, (pss_cons (ps_set (i := 2) scPd.nd rfl (.inl rfl) (pe_call GS hr rfl mS FS.kp bS .nil pass0 (pa_cons (pv 0) (pa_cons (pe_lst (pa_cons (pe_op op_sub (pe_op op_pow pe_int pe_int) pe_int) (pa_cons (pe_op op_pow pe_int pe_int) (pa_cons pe_int pa_nil)))) pa_nil)))) (pss_cons (ps_set (i := 3) scPd.nd rfl (.inl rfl) (pe_lst (pa_cons (pe_tup (pa_cons pe_int (pa_cons pe_int (pa_cons (pe_call GS hr rfl mS FS.kp bS .nil pass0 (pa_cons (pv 0) (pa_cons (pe_lst (pa_cons (pv 2) (pa_cons pe_non pa_nil))) pa_nil))) pa_nil)))) (pa_cons (pe_tup (pa_cons pe_int (pa_cons pe_int (pa_cons (pv 2) pa_nil)))) (pa_cons (pe_tup (pa_cons pe_int (pa_cons pe_int (pa_cons (pv 2) pa_nil)))) (pa_cons (pe_tup (pa_cons pe_int (pa_cons pe_int (pa_cons (pv 2) pa_nil)))) (pa_cons (pe_tup (pa_cons pe_int (pa_cons pe_int (pa_cons pe_int pa_nil)))) pa_nil))))))) (pss_cons (ps_expr (pe_bm PySem.F.plainAttrs_list PySem.F.slot_list_append PySem.F.type_list_append mt_append (pv 3) (pa_cons (pe_tup (pa_cons pe_int (pa_cons pe_int (pa_cons (pe_call GS hr rfl mS FS.kp bS .nil pass0 (pa_cons (pv 0) (pa_cons (pe_lst (pa_cons pe_int (pa_cons pe_int pa_nil))) pa_nil))) pa_nil)))) pa_nil))) (pss_cons (ps_set (i := 3) scPd.nd rfl (.inl rfl) (pe_op op_cat (pe_op op_cat (pv 3) (pe_lst (pa_cons (pe_tup (pa_cons pe_int (pa_cons pe_int (pa_cons pe_int pa_nil)))) (pa_cons (pe_tup (pa_cons pe_int (pa_cons pe_int (pa_cons pe_int pa_nil)))) pa_nil)))) (pe_slice sl_list (pe_lc (own := [("arc", 4)]) (g := gName 4) (tt := tTest (tOp _ (tOp (rIxT K) (tVar 4) (tC (V.int 2))) (tC V.non))) rfl scPd.nd (pi_tup (pe_ix ix_tup (pv 1) pe_int (fun _ _ => rfl))) (blkOk_by (N := ["bag", "net", "far", "rows", "arc"]) (sc := defScope sPlanted) (by decide +kernel)) (fun _ _ _ _ _ => (pg_name (i := 4) scPd.nd rfl (.inl rfl))) (fun _ _ _ _ _ => by exact pts_one (pt_cmpR op_notN (pe_ix ix_tup (pv 4) pe_int (fun _ _ => rfl)) pe_non (nomark _))) (fun _ _ _ _ _ => pv 4)) po_none (po_some pe_int)))) (pss_one (ps_ret (pe_tup (pa_cons (pe_callB (call_max2 rfl) (by rfl) T.max (by decide +kernel) (pa_cons pe_int (pa_cons (pe_ix ix_tup (pv 1) pe_int (fun _ _ => rfl)) pa_nil))) (pa_cons (pe_callTy call_tuple_of (by rfl) T.tuple (by decide +kernel) (pa_cons (pe_call GM hr rfl mM FM.kp bM .nil pass0 (pa_cons (pv 0) (pa_cons (pv 3) pa_nil))) pa_nil)) pa_nil))))))))), ?_⟩
    obtain ⟨tn, ra, zs, rfl, h1, h2, h3⟩ := id hN
    have lz := paired_len h3
    have l14 := hP.len
    have m2 := hP.m2
    have m7 := hP.m7
    -- far
    refine ⟨_, rfl, _, _, rfl, rfl, ⟨by decide, by decide, by decide⟩, _, _, rfl, rfl, _, _, rfl, rfl, ⟨by decide, by decide, by decide⟩, by show 3 ≤ sizeLine; decide, fun q0 hq0 => ⟨b, q0, _, rfl, hB.new hq0, sql_new upd_same (hB.ne hq0), (fun z => nomatch z), by show 3 ≤ 1000000; decide, fun x H1 hx B1 s1' => ?_⟩⟩
    obtain ⟨fa, rfl, fa0, fa1⟩ : ∃ fa : Int, x = .int fa ∧ 0 ≤ fa ∧ fa ≤ 10 ^ 12 := by
      simp only [List.mem_cons, List.not_mem_nil, or_false] at hx
      rcases hx with rfl | rfl | rfl
      · exact ⟨_, rfl, by decide, by decide⟩
      · exact ⟨_, rfl, by decide, by decide⟩
      · exact ⟨_, rfl, by decide, by decide⟩
    have s1 := ((Sb.refl b H).new (o := .lst [.int (10 ^ 12 - 1), .int (10 ^ 9), .int 7]) hq0).trans s1'
    clear hx s1' hq0
    -- the first arcs
    refine ⟨_, rfl, _, rfl, by show 2 ≤ sizeLine; decide, fun q1 hq1 => ⟨b, q1, _, rfl, B1.new hq1, sql_new upd_same (B1.ne hq1), (fun z => nomatch z), by show 2 ≤ 1000000; decide, fun x H2 hx B2 s2' => ?_⟩⟩
    obtain ⟨c0, rfl, hc0⟩ : ∃ c : Option Int, x = capV c ∧ ∀ z, c = some z → 0 ≤ z ∧ z ≤ 10 ^ 12 := by
      simp only [List.mem_cons, List.not_mem_nil, or_false] at hx
      rcases hx with rfl | rfl
      · exact ⟨some fa, rfl, fun z hz => by cases hz; exact ⟨fa0, fa1⟩⟩
      · exact ⟨none, rfl, fun z hz => nomatch hz⟩
    have s2 := s1.trans (((Sb.refl b H1).new (o := .lst [.int fa, .non]) hq1).trans s2')
    clear hx s2' hq1 B1 s1
    have put : ∀ {G : Hp} {t : Addr} (a : Arc), Bag G b → Sb b H G → G t = none → Bag (upd G t (.tup [.int a.1, .int a.2.1, capV a.2.2])) b ∧ Sb b H (upd G t (.tup [.int a.1, .int a.2.1, capV a.2.2])) ∧ ArcT (upd G t (.tup [.int a.1, .int a.2.1, capV a.2.2])) b t a ∧ Same G (upd G t (.tup [.int a.1, .int a.2.1, capV a.2.2])) := fun {G t} a B s ht => ⟨B.new ht, s.new ht, ⟨B.ne ht, upd_same⟩, same_new (Same.refl G) ht⟩
    have mv : ∀ {G G' : Hp} {t : Addr} {a : Arc}, Same G G' → ArcT G b t a → ArcT G' b t a := fun s h => ⟨h.1, s _ _ h.2⟩
    refine ⟨by show 3 ≤ sizeLine; decide, fun t1 u1 => ?_⟩
    obtain ⟨A1, A2, A3, A4⟩ := put (0, 2, c0) B2 s2 u1
    have A1 : Bag (upd H2 t1 (.tup [.int 0, .int 2, capV c0])) b := A1
    have A2 : Sb b H (upd H2 t1 (.tup [.int 0, .int 2, capV c0])) := A2
    have A3 : ArcT (upd H2 t1 (.tup [.int 0, .int 2, capV c0])) b t1 (0, 2, c0) := A3
    generalize upd H2 t1 (.tup [.int 0, .int 2, capV c0]) = G1 at A1 A2 A3 ⊢
    clear A4 u1 B2 s2
    have A3_1 := A3
    clear A3
    refine ⟨_, rfl, by show 3 ≤ sizeLine; decide, fun t2 u2 => ?_⟩
    obtain ⟨A1, A2, A3_2, A4⟩ := put (0, 3, some (fa)) A1 A2 u2
    have A3_1 := mv A4 A3_1
    have A1 : Bag (upd G1 t2 (.tup [.int 0, .int 3, .int fa])) b := A1
    have A2 : Sb b H (upd G1 t2 (.tup [.int 0, .int 3, .int fa])) := A2
    have A3_2 : ArcT (upd G1 t2 (.tup [.int 0, .int 3, .int fa])) b t2 (0, 3, some (fa)) := A3_2
    have A3_1 : ArcT (upd G1 t2 (.tup [.int 0, .int 3, .int fa])) b t1 _ := A3_1
    generalize upd G1 t2 (.tup [.int 0, .int 3, .int fa]) = G2 at A1 A2 A3_1 A3_2 ⊢
    clear A4 u2
    refine ⟨_, rfl, by show 3 ≤ sizeLine; decide, fun t3 u3 => ?_⟩
    obtain ⟨A1, A2, A3_3, A4⟩ := put (2, 1, some (fa)) A1 A2 u3
    have A3_1 := mv A4 A3_1
    have A3_2 := mv A4 A3_2
    have A1 : Bag (upd G2 t3 (.tup [.int 2, .int 1, .int fa])) b := A1
    have A2 : Sb b H (upd G2 t3 (.tup [.int 2, .int 1, .int fa])) := A2
    have A3_3 : ArcT (upd G2 t3 (.tup [.int 2, .int 1, .int fa])) b t3 (2, 1, some (fa)) := A3_3
    have A3_1 : ArcT (upd G2 t3 (.tup [.int 2, .int 1, .int fa])) b t1 _ := A3_1
    have A3_2 : ArcT (upd G2 t3 (.tup [.int 2, .int 1, .int fa])) b t2 _ := A3_2
    generalize upd G2 t3 (.tup [.int 2, .int 1, .int fa]) = G3 at A1 A2 A3_1 A3_2 A3_3 ⊢
    clear A4 u3
    refine ⟨_, rfl, by show 3 ≤ sizeLine; decide, fun t4 u4 => ?_⟩
    obtain ⟨A1, A2, A3_4, A4⟩ := put (3, 1, some (fa)) A1 A2 u4
    have A3_1 := mv A4 A3_1
    have A3_2 := mv A4 A3_2
    have A3_3 := mv A4 A3_3
    have A1 : Bag (upd G3 t4 (.tup [.int 3, .int 1, .int fa])) b := A1
    have A2 : Sb b H (upd G3 t4 (.tup [.int 3, .int 1, .int fa])) := A2
    have A3_4 : ArcT (upd G3 t4 (.tup [.int 3, .int 1, .int fa])) b t4 (3, 1, some (fa)) := A3_4
    have A3_1 : ArcT (upd G3 t4 (.tup [.int 3, .int 1, .int fa])) b t1 _ := A3_1
    have A3_2 : ArcT (upd G3 t4 (.tup [.int 3, .int 1, .int fa])) b t2 _ := A3_2
    have A3_3 : ArcT (upd G3 t4 (.tup [.int 3, .int 1, .int fa])) b t3 _ := A3_3
    generalize upd G3 t4 (.tup [.int 3, .int 1, .int fa]) = G4 at A1 A2 A3_1 A3_2 A3_3 A3_4 ⊢
    clear A4 u4
    refine ⟨by show 3 ≤ sizeLine; decide, fun t5 u5 => ?_⟩
    obtain ⟨A1, A2, A3_5, A4⟩ := put (2, 3, some (1)) A1 A2 u5
    have A3_1 := mv A4 A3_1
    have A3_2 := mv A4 A3_2
    have A3_3 := mv A4 A3_3
    have A3_4 := mv A4 A3_4
    have A1 : Bag (upd G4 t5 (.tup [.int 2, .int 3, .int 1])) b := A1
    have A2 : Sb b H (upd G4 t5 (.tup [.int 2, .int 3, .int 1])) := A2
    have A3_5 : ArcT (upd G4 t5 (.tup [.int 2, .int 3, .int 1])) b t5 (2, 3, some (1)) := A3_5
    have A3_1 : ArcT (upd G4 t5 (.tup [.int 2, .int 3, .int 1])) b t1 _ := A3_1
    have A3_2 : ArcT (upd G4 t5 (.tup [.int 2, .int 3, .int 1])) b t2 _ := A3_2
    have A3_3 : ArcT (upd G4 t5 (.tup [.int 2, .int 3, .int 1])) b t3 _ := A3_3
    have A3_4 : ArcT (upd G4 t5 (.tup [.int 2, .int 3, .int 1])) b t4 _ := A3_4
    generalize upd G4 t5 (.tup [.int 2, .int 3, .int 1]) = G5 at A1 A2 A3_1 A3_2 A3_3 A3_4 A3_5 ⊢
    clear A4 u5
    refine ⟨by show 5 ≤ sizeLine; decide, fun R hR => ?_⟩
    have nRb := A1.ne hR
    have fR : H R = none := A2.free hR nRb
    have B6 := A1.new (o := .lst [.ref t1, .ref t2, .ref t3, .ref t4, .ref t5]) hR
    have s6 := A2.new (o := .lst [.ref t1, .ref t2, .ref t3, .ref t4, .ref t5]) hR
    have e6 : upd G5 R (.lst [.ref t1, .ref t2, .ref t3, .ref t4, .ref t5]) R = some (.lst [.ref t1, .ref t2, .ref t3, .ref t4, .ref t5]) := upd_same
    have P6 : Paired (ArcT (upd G5 R (.lst [.ref t1, .ref t2, .ref t3, .ref t4, .ref t5])) b) [t1, t2, t3, t4, t5] [(0, 2, c0), (0, 3, some fa), (2, 1, some fa), (3, 1, some fa), (2, 3, some 1)] := by
      have M := same_new (o := .lst [.ref t1, .ref t2, .ref t3, .ref t4, .ref t5]) (Same.refl G5) hR
      exact .cons (mv M A3_1) (.cons (mv M A3_2) (.cons (mv M A3_3) (.cons (mv M A3_4) (.cons (mv M A3_5) .nil))))
    generalize upd G5 R (.lst [.ref t1, .ref t2, .ref t3, .ref t4, .ref t5]) = G6 at B6 s6 e6 P6 ⊢
    clear A1 A2 A3_1 A3_2 A3_3 A3_4 A3_5 hR
    -- one more
    refine ⟨_, rfl, .inl ⟨rfl, _, SqL.of e6⟩, _, rfl, by show 2 ≤ sizeLine; decide, fun q7 hq7 => ⟨b, q7, _, rfl, B6.new hq7, sql_new upd_same (B6.ne hq7), (fun z => nomatch z), by show 2 ≤ 1000000; decide, fun x G7 hx B7 s7' => ⟨by show 3 ≤ sizeLine; decide, fun t6 u6 => ?_⟩⟩⟩
    obtain ⟨c6, rfl, c60, c61⟩ : ∃ c : Int, x = .int c ∧ 0 ≤ c ∧ c ≤ 1 := by
      simp only [List.mem_cons, List.not_mem_nil, or_false] at hx
      rcases hx with rfl | rfl
      · exact ⟨1, rfl, by decide, by decide⟩
      · exact ⟨0, rfl, by decide, by decide⟩
    have s67 := ((Sb.refl b G6).new (o := .lst [.int 1, .int 0]) hq7).trans s7'
    have P7 := arcT_sb s67 P6
    have e7 := s67.get e6 nRb
    have s7 := s6.trans s67
    clear hx s7' hq7 P6 e6 s6 B6 s67
    have B8 := B7.new (o := .tup [.int 3, .int 2, .int c6]) u6
    have s8 := s7.new (o := .tup [.int 3, .int 2, .int c6]) u6
    have M8 := same_new (o := .tup [.int 3, .int 2, .int c6]) (Same.refl G7) u6
    have e8 := s3u (o := .tup [.int 3, .int 2, .int c6]) u6 e7
    have n6 := B7.ne u6
    have f6 : upd G7 t6 (.tup [.int 3, .int 2, .int c6]) t6 = some (.tup [.int 3, .int 2, .int c6]) := upd_same
    have P8 : Paired (ArcT (upd G7 t6 (.tup [.int 3, .int 2, .int c6])) b) ([t1, t2, t3, t4, t5] ++ [t6]) ([(0, 2, c0), (0, 3, some fa), (2, 1, some fa), (3, 1, some fa), (2, 3, some 1)] ++ [(3, 2, some c6)]) := paired_snoc ⟨n6, f6⟩ (paired_imp (fun _ _ h => mv M8 h) P7)
    generalize upd G7 t6 (.tup [.int 3, .int 2, .int c6]) = G8 at B8 s8 e8 f6 P8 ⊢
    clear M8 P7 e7 s7 B7 u6 f6
    refine ⟨R, _, _, rfl, rfl, e8, by show 5 < sizeLine; decide, ?_⟩
    have B9 := hB.wr (o := .lst ([.ref t1, .ref t2, .ref t3, .ref t4, .ref t5] ++ [.ref t6])) fR s8 B8
    have s9 := s8.wr (o := .lst ([.ref t1, .ref t2, .ref t3, .ref t4, .ref t5] ++ [.ref t6])) fR
    have e9 : upd G8 R (.lst ([.ref t1, .ref t2, .ref t3, .ref t4, .ref t5] ++ [.ref t6])) R = some (.lst [.ref t1, .ref t2, .ref t3, .ref t4, .ref t5, .ref t6]) := upd_same
    have P9 : Paired (ArcT (upd G8 R (.lst ([.ref t1, .ref t2, .ref t3, .ref t4, .ref t5] ++ [.ref t6]))) b) [t1, t2, t3, t4, t5, t6] [(0, 2, c0), (0, 3, some fa), (2, 1, some fa), (3, 1, some fa), (2, 3, some 1), (3, 2, some c6)] := paired_imp (fun t a h => ⟨h.1, (upd_ne (fun z => by have h2 := h.2; rw [z, e8] at h2; cases h2)).trans h.2⟩) P8
    generalize upd G8 R (.lst ([.ref t1, .ref t2, .ref t3, .ref t4, .ref t5] ++ [.ref t6])) = G9 at B9 s9 e9 P9 ⊢
    clear B8 s8 e8 P8
    -- two more
    refine ⟨_, rfl, by show 3 ≤ sizeLine; decide, fun t7 u7 => ⟨by show 3 ≤ sizeLine; decide, fun t8 u8 => ⟨by show 2 ≤ sizeLine; decide, fun q9 hq9 => ?_⟩⟩⟩
    have M10 := same_new (o := .lst [.ref t7, .ref t8]) (same_new (o := .tup [.int 5, .int 4, .int 2]) (same_new (o := .tup [.int 4, .int 5, .int 3]) (Same.refl G9) u7) u8) hq9
    have B10 := B9.keep M10
    have s10 := s9.same M10
    have e10 := M10 _ _ e9
    have f7 : ArcT (upd (upd (upd G9 t7 (.tup [.int 4, .int 5, .int 3])) t8 (.tup [.int 5, .int 4, .int 2])) q9 (.lst [.ref t7, .ref t8])) b t7 (4, 5, some 3) := ⟨B9.ne u7, s3u hq9 (s3u u8 upd_same)⟩
    have f8 : ArcT (upd (upd (upd G9 t7 (.tup [.int 4, .int 5, .int 3])) t8 (.tup [.int 5, .int 4, .int 2])) q9 (.lst [.ref t7, .ref t8])) b t8 (5, 4, some 2) := ⟨(B9.new u7).ne u8, s3u hq9 upd_same⟩
    have g9 : upd (upd (upd G9 t7 (.tup [.int 4, .int 5, .int 3])) t8 (.tup [.int 5, .int 4, .int 2])) q9 (.lst [.ref t7, .ref t8]) q9 = some (.lst [.ref t7, .ref t8]) := upd_same
    have P10 := paired_snoc f8 (paired_snoc f7 (paired_imp (fun t a h => mv M10 h) P9))
    generalize upd (upd (upd G9 t7 (.tup [.int 4, .int 5, .int 3])) t8 (.tup [.int 5, .int 4, .int 2])) q9 (.lst [.ref t7, .ref t8]) = G10 at M10 B10 s10 e10 f7 f8 g9 P10 ⊢
    clear B9 s9 e9 P9 u7 u8 hq9 M10 f7 f8
    refine ⟨R, q9, _, _, rfl, rfl, e10, g9, by show 6 + 2 ≤ sizeLine; decide, fun R2 hR2 => ?_⟩
    have M11 := same_new (o := .lst ([.ref t1, .ref t2, .ref t3, .ref t4, .ref t5, .ref t6] ++ [.ref t7, .ref t8])) (Same.refl G10) hR2
    have B11 := B10.keep M11
    have s11 := s10.same M11
    have e11 : upd G10 R2 (.lst ([.ref t1, .ref t2, .ref t3, .ref t4, .ref t5, .ref t6] ++ [.ref t7, .ref t8])) R2 = some (.lst (([t1, t2, t3, t4, t5, t6] ++ [t7] ++ [t8]).map V.ref)) := upd_same
    have n11 := B10.ne hR2
    have P11 := arcs_of (K := K) (paired_imp (fun t a h => mv M11 h) P10)
    generalize upd G10 R2 (.lst ([.ref t1, .ref t2, .ref t3, .ref t4, .ref t5, .ref t6] ++ [.ref t7, .ref t8])) = G11 at M11 B11 s11 e11 P11 ⊢
    clear B10 s10 e10 g9 P10 hR2 M11
    -- of the net's own
    refine ⟨_, rfl, tn, _, 1, .ref ra, rfl, rfl, sqt_more (wo_sub G11 b) (sqt_more s11.1 h1), at1, ra, rfl, ⟨_, sqt_more (wo_sub G11 b) (sqt_more s11.1 h2)⟩, fun D hD => ?_⟩
    have nDb := B11.ne hD
    refine lc_tup (K := K) (a := ra) (xs := zs) (fun i G => ∃ (ys : List V) (cs : List Arc), G D = some (.lst ys) ∧ Paired (ArcV K (wo H b)) ys cs ∧ (∀ a ∈ cs, a ∈ rs ∧ a.2.2 ≠ none) ∧ ys.length ≤ i ∧ Same G11 G) ?_ ?_ ?_ ?_
    · exact ⟨[], [], upd_same, .nil, (fun _ z => nomatch z), Nat.le_refl _, same_new (Same.refl G11) hD⟩
    · rintro i G _ ⟨_, _, _, _, _, _, M⟩
      exact sqt_more M (sqt_more (wo_sub G11 b) (sqt_more s11.1 h2))
    · rintro i x G hx ⟨ys, cs, g1, g2, g3, g4, M⟩
      obtain ⟨r, hr', q, rfl, hq⟩ := paired_at h3 hx
      have hi : i < rs.length := (List.getElem?_eq_some_iff.mp hr').1
      refine ⟨rfl, _, rfl, q, _, 2, _, rfl, rfl, sqt_more M (sqt_more (wo_sub G11 b) (sqt_more s11.1 hq)), at2, rfl, _, rfl, ?_⟩
      cases hc : r.2.2 with
      | none =>
        refine ite2 (fun h => absurd h (by simp [capV])) (fun _ => ⟨ys, cs, g1, g2, g3, by omega, M⟩)
      | some c =>
        refine ite2 (fun _ => ?_) (fun h => absurd (by simp [capV]) h)
        refine ⟨_, rfl, _, g1, small1000 (by omega), ys ++ [.ref q], cs ++ [r], upd_same, paired_snoc ⟨q, rfl, hq⟩ g2, fun a ha => ?_, by rw [List.length_append]; show _ + 1 ≤ _; omega, same_put M hD⟩
        rcases List.mem_append.mp ha with h | h
        · exact g3 a h
        · rw [List.mem_singleton.mp h]
          exact ⟨List.mem_of_getElem? hr', by rw [hc]; exact (fun z => nomatch z)⟩
    rintro G12 ⟨ys, cs, g1, g2, g3, g4, M12⟩
    refine ⟨_, rfl, D, _, rfl, SqL.of g1, fun p4 hp4 => ?_⟩
    have ec : cutV ys none (some (4 : Int)) = ys.take 4 := by rw [show (4 : Int) = ((4 : Nat) : Int) from rfl, cut_upto]
    have M13 := same_new (o := .lst (cutV ys none (some (4 : Int)))) M12 hp4
    have e13 := M13 _ _ e11
    have f13 : upd G12 p4 (.lst (cutV ys none (some (4 : Int)))) p4 = some (.lst (cutV ys none (some (4 : Int)))) := upd_same
    generalize upd G12 p4 (.lst (cutV ys none (some (4 : Int)))) = G13 at M13 e13 f13 ⊢
    rw [ec] at f13
    have l4 : (ys.take 4).length ≤ 4 := by rw [List.length_take]; omega
    refine ⟨R2, p4, _, _, rfl, rfl, e13, f13, Nat.le_of_lt (small1000 (show 8 + (ys.take 4).length ≤ 1000 by omega)), fun R3 hR3 => ?_⟩
    have M14 := same_new (o := .lst (([t1, t2, t3, t4, t5, t6] ++ [t7] ++ [t8]).map V.ref ++ ys.take 4)) M13 hR3
    have B14 := B11.keep M14
    have s14 := s11.same M14
    have n14 := (B11.keep M13).ne hR3
    have e14 : upd G13 R3 (.lst (([t1, t2, t3, t4, t5, t6] ++ [t7] ++ [t8]).map V.ref ++ ys.take 4)) R3 = some (.lst (([t1, t2, t3, t4, t5, t6] ++ [t7] ++ [t8]).map V.ref ++ ys.take 4)) := upd_same
    generalize upd G13 R3 (.lst (([t1, t2, t3, t4, t5, t6] ++ [t7] ++ [t8]).map V.ref ++ ys.take 4)) = G14 at M14 B14 s14 e14 ⊢
    have P14 : Paired (ArcV K (wo G14 b)) (([t1, t2, t3, t4, t5, t6] ++ [t7] ++ [t8]).map V.ref ++ ys.take 4) (([(0, 2, c0), (0, 3, some fa), (2, 1, some fa), (3, 1, some fa), (2, 3, some 1), (3, 2, some c6)] ++ [(4, 5, some 3)] ++ [(5, 4, some 2)]) ++ cs.take 4) :=
      paired_app (arcs_more P11 (wo_same M14)) (arcs_more (paired_take 4 g2) s14.1)
    have each : ∀ a ∈ ([(0, 2, c0), (0, 3, some fa), (2, 1, some fa), (3, 1, some fa), (2, 3, some 1), (3, 2, some c6)] ++ [(4, 5, some 3)] ++ [(5, 4, some 2)] : List Arc) ++ cs.take 4, PlA (if 6 < m then m else 6) a := fun a ha => by
      have m6 : 6 ≤ (if 6 < m then m else 6) ∧ m ≤ (if 6 < m then m else 6) := by split <;> omega
      have p12 : (10 : Int) ^ 12 = 1000000000000 := by decide
      rcases List.mem_append.mp ha with h | h
      · simp only [List.cons_append, List.nil_append, List.mem_cons, List.not_mem_nil, or_false] at h
        rcases h with rfl | rfl | rfl | rfl | rfl | rfl | rfl | rfl
        · exact ⟨by show 0 < _; omega, by show 2 < _; omega, by show (0 : Nat) ≠ 2; decide, hc0, fun _ => rfl⟩
        · exact ⟨by show 0 < _; omega, by show 3 < _; omega, by show (0 : Nat) ≠ 3; decide, (fun c hc => by cases hc; exact ⟨fa0, fa1⟩), fun z => nomatch z⟩
        · exact ⟨by show 2 < _; omega, by show 1 < _; omega, by show (2 : Nat) ≠ 1; decide, (fun c hc => by cases hc; exact ⟨fa0, fa1⟩), fun z => nomatch z⟩
        · exact ⟨by show 3 < _; omega, by show 1 < _; omega, by show (3 : Nat) ≠ 1; decide, (fun c hc => by cases hc; exact ⟨fa0, fa1⟩), fun z => nomatch z⟩
        · exact ⟨by show 2 < _; omega, by show 3 < _; omega, by show (2 : Nat) ≠ 3; decide, (fun c hc => by cases hc; exact ⟨by decide, by decide⟩), fun z => nomatch z⟩
        · exact ⟨by show 3 < _; omega, by show 2 < _; omega, by show (3 : Nat) ≠ 2; decide, (fun c hc => by cases hc; exact ⟨c60, by omega⟩), fun z => nomatch z⟩
        · exact ⟨by show 4 < _; omega, by show 5 < _; omega, by show (4 : Nat) ≠ 5; decide, (fun c hc => by cases hc; exact ⟨by decide, by decide⟩), fun z => nomatch z⟩
        · exact ⟨by show 5 < _; omega, by show 4 < _; omega, by show (5 : Nat) ≠ 4; decide, (fun c hc => by cases hc; exact ⟨by decide, by decide⟩), fun z => nomatch z⟩
      · obtain ⟨ar, an⟩ := g3 a (List.mem_of_mem_take h)
        obtain ⟨w1, w2, w3, w4⟩ := hP.each a ar
        exact ⟨by omega, by omega, w3, w4, fun z => absurd z an⟩
    have lall : ((([(0, 2, c0), (0, 3, some fa), (2, 1, some fa), (3, 1, some fa), (2, 3, some 1), (3, 2, some c6)] ++ [(4, 5, some 3)] ++ [(5, 4, some 2)]) ++ cs.take 4 : List Arc)).length ≤ 12 := by
      rw [List.length_append]
      have : (cs.take 4).length ≤ 4 := by rw [List.length_take]; omega
      show 8 + _ ≤ 12
      omega
    generalize (([(0, 2, c0), (0, 3, some fa), (2, 1, some fa), (3, 1, some fa), (2, 3, some 1), (3, 2, some c6)] ++ [(4, 5, some 3)] ++ [(5, 4, some 2)]) ++ cs.take 4 : List Arc) = as0 at P14 each lall
    generalize ([t1, t2, t3, t4, t5, t6] ++ [t7] ++ [t8]).map V.ref ++ ys.take 4 = xs0 at e14 P14
    have lx0 := paired_len P14
    refine ⟨_, rfl, tn, _, 0, _, rfl, rfl, sqt_more (wo_sub G14 b) (sqt_more s14.1 h1), at0, 6, (m : Int), rfl, ?_⟩
    refine ⟨_, rfl, _, rfl, b, R3, xs0, rfl, B14, sql_new e14 n14, by omega, fun p ws H' pm e' f' n' B' s' => ⟨p, ws, rfl, .inl ⟨SqL.of e', fun l hl => ⟨by show 2 ≤ sizeLine; decide, fun t ht => ?_⟩⟩⟩⟩
    obtain ⟨bs, pb, Pb⟩ := paired_perm pm (arcs_more P14 s'.1)
    have Ma := same_new (o := .tup ws) (Same.refl H') hl
    have B2 := B'.new (o := .tup ws) hl
    have nlb := B'.ne hl
    have ntb := B2.ne ht
    have Mb := same_new (o := .tup [.int (if (m : Int) > 6 then (m : Int) else 6), .ref l]) Ma ht
    have em : (if (m : Int) > 6 then (m : Int) else 6) = (((if 6 < m then m else 6 : Nat)) : Int) := by split <;> split <;> omega
    have ebs : ∀ a ∈ bs, PlA (if 6 < m then m else 6) a := fun a ha => each a (pb.mem_iff.mp ha)
    have m67 : 6 ≤ (if 6 < m then m else 6) ∧ (if 6 < m then m else 6) ≤ 7 := by split <;> omega
    refine k (.ref t) (if 6 < m then m else 6) bs (fun v => decide (v = 0) || decide (v = 2)) _ ⟨by omega, by omega, by rw [pb.length_eq]; omega, fun a ha => ⟨(ebs a ha).1, (ebs a ha).2.1, (ebs a ha).2.2.1, (ebs a ha).2.2.2.1⟩⟩ ⟨by omega, fun a ha => ⟨(ebs a ha).1, (ebs a ha).2.1⟩, rfl, rfl, fun a ha s1 s2 hn => ?_⟩ ⟨t, l, ws, rfl, sqt_new (by rw [upd_same, em]) ntb, sqt_new (s3u ht upd_same) nlb, arcs_more Pb (wo_same Mb)⟩ (B2.new ht) ((s14.trans s').same Mb)
    have := (ebs a ha).2.2.2.2 hn
    rw [this] at s2
    cases s2
end
end Y

/-! PL9: the law. -/
namespace Y
open PySem PySem.Spec PyProof.Rows L2 Ns
open C8 (pss_cut)
def arcD (a : Arc) : PyData := .tuple [.int a.1, .int a.2.1, capD a.2.2]
theorem dat_cap {K : PySem.W.Frag} {H : Hp} (c : Option Int) : DatV K H (capV c) (capD c) := by
  cases c with
  | none => exact .non
  | some c => exact .int c
theorem dat_arcs {K : PySem.W.Frag} {H : Hp} : ∀ {xs : List V} {rs : List Arc}, Paired (ArcV K H) xs rs → DatA K H xs (rs.map arcD)
  | _, _, .nil => .nil
  | _, _, .cons h t => by
    obtain ⟨a, rfl, q⟩ := h
    exact .cons (.tup q (.cons (.int _) (.cons (.int _) (.cons (dat_cap _) .nil)))) (dat_arcs t)
theorem dat_net {K : PySem.W.Frag} {H : Hp} {y : V} {m : Nat} {rs : List Arc} (h : NetV K H y m rs) : DatV K H y (.tuple [.int m, .tuple (rs.map arcD)]) := by
  obtain ⟨t, a, xs, rfl, h1, h2, h3⟩ := h
  exact .tup h1 (.cons (.int _) (.cons (.tup h2 (dat_arcs h3)) .nil))
theorem fitI {i : Int} (h : i.natAbs < 10 ^ 299) : Fit 300 0 (.int i) := fit_int (n := 299) (by decide) h (by decide)
theorem fitN : Fit 300 0 .none := ⟨rfl, by decide +kernel, by decide⟩
theorem small_abs {i : Int} (h : i.natAbs ≤ 100000000000000000000000000000000000) : i.natAbs < 10 ^ 299 := Nat.lt_of_le_of_lt h (by decide +kernel)
theorem fit_arc {m : Nat} {a : Arc} (h1 : a.1 < m) (h2 : a.2.1 < m) (hm : m ≤ 7) (h : ∀ c, a.2.2 = some c → 0 ≤ c ∧ c ≤ 10 ^ 12) : Fit 1000 1 (arcD a) := by
  refine (fit_tuple (m := 300) (k := 0) fun d hd => ?_).mono (by show 3 * 302 + 3 ≤ 1000; decide) (Nat.le_refl _)
  simp only [List.mem_cons, List.not_mem_nil, or_false] at hd
  rcases hd with rfl | rfl | rfl
  · exact fitI (small_abs (by omega))
  · exact fitI (small_abs (by omega))
  · cases hc : a.2.2 with
    | none => exact fitN
    | some c =>
      have := h c hc
      exact fitI (small_abs (by omega))
theorem fit_netD {m : Nat} {rs : List Arc} (hP : NetP m rs) : Fit 40000 3 (.tuple [.int m, .tuple (rs.map arcD)]) := by
  have l14 := hP.len
  have m7 := hP.m7
  have f1 : Fit 15000 2 (.tuple (rs.map arcD)) := (fit_tuple (m := 1000) (k := 1) fun d hd => by
    obtain ⟨a, ha, rfl⟩ := List.mem_map.mp hd
    obtain ⟨h1, h2, _, h4⟩ := hP.each a ha
    exact fit_arc h1 h2 m7 h4).mono (by rw [List.length_map]; omega) (Nat.le_refl _)
  exact (fit_tuple (m := 15000) (k := 2) fun d hd => by
    simp only [List.mem_cons, List.not_mem_nil, or_false] at hd
    rcases hd with rfl | rfl
    · exact (fitI (small_abs (by omega))).mono (by decide) (by decide)
    · exact f1).mono (by show 2 * 15002 + 3 ≤ 40000; decide) (Nat.le_refl _)
section
variable {P : Program} {w : World} {K : PySem.W.Frag} {mg : Str → Option Value} {base : Heap} {fB fT fNt fPl fLd fLV fMo fLT fIT fVO fPt fRt fGw fA : Addr} {dB dT dNt dPl dLd dLV dMo dLT dIT dVO dPt dRt dGw dA : FuncData}
structure D12 (P : Program) (w : World) (K : PySem.W.Frag) (mg : Str → Option Value) (base : Heap) (fB fT fNt fPl fLd fLV fMo fLT fIT fVO fPt fRt fGw fA : Addr) (dB dT dNt dPl dLd dLV dMo dLT dIT dVO dPt dRt dGw dA : FuncData) : Prop where
  B : Fun K "_law_bag" "_law_bag" sBag fB dB
  mB : mg "_law_bag" = some (.ref fB)
  bB : Binds K dB ["script"] []
  gB : FnOk P w K mg base CX0 1 fB dB ["script"] (spBag K)
  T : Fun K "_law_take" "_law_take" sTake fT dT
  mT : mg "_law_take" = some (.ref fT)
  bT : Binds K dT ["bag", "many"] []
  gT : FnOk P w K mg base CX0 1 fT dT ["bag", "many"] (spTake)
  Nt : Fun K "_law_net" "_law_net" sNet fNt dNt
  mNt : mg "_law_net" = some (.ref fNt)
  bNt : Binds K dNt ["bag"] []
  gNt : FnOk P w K mg base CX0 4 fNt dNt ["bag"] (spNet K)
  Pl : Fun K "_law_planted" "_law_planted" sPlanted fPl dPl
  mPl : mg "_law_planted" = some (.ref fPl)
  bPl : Binds K dPl ["bag", "net"] []
  gPl : FnOk P w K mg base CX0 3 fPl dPl ["bag", "net"] (spPlanted K)
  Ld : Fun K "_law_led" "_law_led" sLed fLd dLd
  mLd : mg "_law_led" = some (.ref fLd)
  bLd : Binds K dLd ["net", "through", "times"] []
  gLd : FnOk P w K mg base CX0 3 fLd dLd ["net", "through", "times"] (spLed K)
  LV : Fun K "_law_value" "_law_value" sValue fLV dLV
  mLV : mg "_law_value" = some (.ref fLV)
  bLV : Binds K dLV ["net", "through"] []
  gLV : FnOk P w K mg base CX0 1 fLV dLV ["net", "through"] (spVal K)
  Mo : Fun K "most_through" "most_through" sMostThrough fMo dMo
  mMo : mg "most_through" = some (.ref fMo)
  bMo : Binds K dMo ["net"] []
  gMo : FnOk P w K mg base CX0 4 fMo dMo ["net"] (spMost K)
  LT : Fun K "_law_is_through" "_law_is_through" sLIsThrough fLT dLT
  mLT : mg "_law_is_through" = some (.ref fLT)
  bLT : Binds K dLT ["net", "thing"] []
  gLT : FnOk P w K mg base CX0 2 fLT dLT ["net", "thing"] (spThr K)
  IT : Fun K "is_through" "is_through" sIsThrough fIT dIT
  mIT : mg "is_through" = some (.ref fIT)
  bIT : Binds K dIT ["net", "thing"] []
  gIT : FnOk P w K mg base CX0 3 fIT dIT ["net", "thing"] (spThr K)
  VO : Fun K "value_of" "value_of" sValueOf fVO dVO
  mVO : mg "value_of" = some (.ref fVO)
  bVO : Binds K dVO ["net", "through"] []
  gVO : FnOk P w K mg base CX0 2 fVO dVO ["net", "through"] (spVal K)
  Pt : Fun K "_law_part" "_law_part" sPart fPt dPt
  mPt : mg "_law_part" = some (.ref fPt)
  bPt : Binds K dPt ["bag", "net"] []
  gPt : FnOk P w K mg base CX0 3 fPt dPt ["bag", "net"] (spPart K)
  Rt : Fun K "_law_is_side_right" "_law_is_side_right" sIsSideRight fRt dRt
  mRt : mg "_law_is_side_right" = some (.ref fRt)
  bRt : Binds K dRt ["net", "through", "value"] []
  gRt : GnOk P w K mg base 3 fRt dRt ["net", "through", "value"] (spRight K)
  Gw : Fun K "_law_grows" "_law_grows" sGrows fGw dGw
  mGw : mg "_law_grows" = some (.ref fGw)
  bGw : Binds K dGw ["net", "through", "value"] []
  gGw : GnOk P w K mg base 4 fGw dGw ["net", "through", "value"] (spGrows K)
  A : Fun K "_law_alike" "_law_alike" sAlike fA dA
  mA : mg "_law_alike" = some (.ref fA)
  bA : Binds K dA ["found", "due"] []
  gA : GnOk P w K mg base 1 fA dA ["found", "due"] (spAlike K)
theorem scL : FnScope ["script", "bag", "turn", "net", "own", "said", "value", "told", "part"] ["script"] (defScope sLaw) := ⟨rfl, rfl, rfl, by decide +kernel, rfl, by decide +kernel, by decide +kernel⟩
theorem ok_law {f : Addr} {fd : FuncData} (F : Fun K "law" "law" sLaw f fd) (T : Nat0 mg) (D : D12 P w K mg base fB fT fNt fPl fLd fLV fMo fLT fIT fVO fPt fRt fGw fA dB dT dNt dPl dLd dLV dMo dLT dIT dVO dPt dRt dGw dA) : GnOk P w K mg base 5 f fd ["script"] (spTop K) := by
  refine Fun.okG F scL (fun as H Q E h => ?_) (fun cdv A outer s H as Q E hr hgd h => ?_)
  · obtain ⟨a, ns, rfl, _⟩ := h
    rfl
  · obtain ⟨a, ns, rfl, hS, hl, k⟩ := h
    have hr1 : Room 1 _ := hr.mono (by decide)
    have hr2 : Room 2 _ := hr.mono (by decide)
    have hr3 : Room 3 _ := hr.mono (by decide)
    have hun := hr.units
    refine ⟨_, (pss_cons (ps_set (i := 1) scL.nd rfl (.inl rfl) (pe_call D.gB hr1 rfl D.mB D.B.kp D.bB .nil pass0 (pa_cons (pv 0) pa_nil))) (pss_cons (ps_for PassesOwn.never rfl (pi_range1 (by rfl) T.range (pa_cons pe_int pa_nil)) (pg_name (i := 2) scL.nd rfl (.inl rfl)) (pss_cons (ps_set (i := 3) scL.nd rfl (.inl rfl) (pe_call D.gNt hr rfl D.mNt D.Nt.kp D.bNt .nil pass0 (pa_cons (pv 1) pa_nil))) (pss_cut (ps_set (i := 3) scL.nd rfl (.inl rfl) (pe_ifExp (pt_cmpR op_eq (pe_call D.gT hr1 rfl D.mT D.T.kp D.bT .nil pass0 (pa_cons (pv 1) (pa_cons pe_int pa_nil))) pe_int (nomark _)) (pe_call D.gPl hr3 rfl D.mPl D.Pl.kp D.bPl .nil pass0 (pa_cons (pv 1) (pa_cons (pv 3) pa_nil))) (pv 3))) (pss_cons (ps_par (i := 4) (j := 5) rfl scL.nd rfl rfl (by decide) rfl rfl (pa_cons (pe_call D.gLd hr3 rfl D.mLd D.Ld.kp D.bLd .nil pass0 (pa_cons (pv 3) (pa_cons (pe_op op_repN (pe_tup (pa_cons pe_int pa_nil)) (pe_callB call_len_seq (by rfl) T.len PySem.boot_len (pa_cons (pe_ix ix_tup (pv 3) pe_int (fun _ _ => rfl)) pa_nil))) (pa_cons pe_int pa_nil)))) (pa_cons (pe_callB (call_reprD hgd hun) (by rfl) T.repr (by decide +kernel) (pa_cons (pv 3) pa_nil)) pa_nil)) (by rfl)) (pss_cons (ps_par (i := 6) (j := 7) rfl scL.nd rfl rfl (by decide) rfl rfl (pa_cons (pe_call D.gLV hr1 rfl D.mLV D.LV.kp D.bLV .nil pass0 (pa_cons (pv 3) (pa_cons (pv 4) pa_nil))) (pa_cons (pe_call D.gMo hr rfl D.mMo D.Mo.kp D.bMo .nil pass0 (pa_cons (pv 3) pa_nil)) pa_nil)) (by rfl)) (pss_cons (ps_if (PW.pt (pw_or (pt_not (pt_val (pe_call D.gLT hr2 rfl D.mLT D.LT.kp D.bLT .nil pass0 (pa_cons (pv 3) (pa_cons (pv 7) pa_nil))))) (pw_or (pt_cmpR op_ne (pe_call D.gLV hr1 rfl D.mLV D.LV.kp D.bLV .nil pass0 (pa_cons (pv 3) (pa_cons (pv 7) pa_nil))) (pv 6) (nomark _)) (pw_or1 (pt_not (pt_val (pe_callG D.gA hr1 hgd rfl D.mA D.A.kp D.bA (pa_cons (pe_call D.gMo hr rfl D.mMo D.Mo.kp D.bMo .nil pass0 (pa_cons (pv 3) pa_nil)) (pa_cons (pv 7) pa_nil))))))))) (pss_one (ps_ret pe_bl)) pss_nil) (pss_cons (ps_if (pt_not (pt_val (pe_callG D.gA hr1 hgd rfl D.mA D.A.kp D.bA (pa_cons (pe_lst (pa_cons (pe_call D.gIT hr3 rfl D.mIT D.IT.kp D.bIT .nil pass0 (pa_cons (pv 3) (pa_cons (pv 7) pa_nil))) (pa_cons (pe_call D.gVO hr2 rfl D.mVO D.VO.kp D.bVO .nil pass0 (pa_cons (pv 3) (pa_cons (pv 7) pa_nil))) pa_nil))) (pa_cons (pe_lst (pa_cons pe_bl (pa_cons (pv 6) pa_nil))) pa_nil))))) (pss_one (ps_ret pe_bl)) pss_nil) (pss_cons (ps_if (PW.pt (pw_or (pt_not (pt_val (pe_callG D.gRt hr3 hgd rfl D.mRt D.Rt.kp D.bRt (pa_cons (pv 3) (pa_cons (pv 7) (pa_cons (pv 6) pa_nil)))))) (pw_or1 (pt_not (pt_val (pe_callG D.gRt hr3 hgd rfl D.mRt D.Rt.kp D.bRt (pa_cons (pv 3) (pa_cons (pv 4) (pa_cons (pv 6) pa_nil))))))))) (pss_one (ps_ret pe_bl)) pss_nil) (pss_cons (ps_set (i := 8) scL.nd rfl (.inl rfl) (pe_call D.gPt hr3 rfl D.mPt D.Pt.kp D.bPt .nil pass0 (pa_cons (pv 1) (pa_cons (pv 3) pa_nil)))) (pss_one (ps_if (PW.pt (pw_or (pt_not (pt_val (pe_callG D.gGw hr hgd rfl D.mGw D.Gw.kp D.bGw (pa_cons (pv 3) (pa_cons (pv 8) (pa_cons (pv 6) pa_nil)))))) (pw_or (pt_not (pt_val (pe_callG D.gGw hr hgd rfl D.mGw D.Gw.kp D.bGw (pa_cons (pv 3) (pa_cons (pv 4) (pa_cons (pv 6) pa_nil)))))) (pw_or1 (pt_cmpR op_ne (pe_callB (call_reprD hgd hun) (by rfl) T.repr (by decide +kernel) (pa_cons (pv 3) pa_nil)) (pv 5) (nomark _)))))) (pss_one (ps_ret pe_bl)) pss_nil))))))))))) (pss_one (ps_ret pe_bl)))), ?_⟩
    refine ⟨_, rfl, a, ns, rfl, hS, hl, fun b H1 hB1 _ _ => ?_⟩
    refine ⟨6, rfl, by decide, by decide, for_range (n := 6) (fun i σ H' => ∃ v2 v3 v4 v5 v6 v7 v8 : Option V, σ = [some (.ref a), some (.ref b), v2, v3, v4, v5, v6, v7, v8] ∧ Bag H' b) ?_ ?_ ?_⟩
    · exact ⟨none, none, none, none, none, none, none, rfl, hB1⟩
    · clear hB1
      rintro i σ H0 hi ⟨v2, v3, v4, v5, v6, v7, v8, rfl, hB⟩
      refine ⟨_, rfl, b, rfl, hB, fun y0 m0 rs0 H2 hP0 ca0 hN0 B2 s2 => ?_⟩
      refine ⟨fun σ' G => ∃ (y : V) (m : Nat) (rs : List Arc) (S : Nat → Bool), σ' = [some (.ref a), some (.ref b), some (.int (0 + (i : Int))), some y, v4, v5, v6, v7, v8] ∧ NetP m rs ∧ EK.Nt rs m S ∧ NetV K (wo G b) y m rs ∧ Bag G b, ?_, ?_⟩
      · refine ⟨_, rfl, b, 3, rfl, B2, by decide, by decide, fun v H3 v0 v1 B3 s3 => ⟨rfl, _, rfl, ?_⟩⟩
        refine ite2 (fun _ => ?_) (fun _ => ?_)
        · exact ⟨_, rfl, _, rfl, b, y0, m0, rs0, rfl, B3, hN0.more s3.1, hP0, fun y m rs S H4 hP NT hN B4 s4 => ⟨y, m, rs, S, rfl, hP, NT, hN, B4⟩⟩
        · exact ⟨_, rfl, y0, m0, rs0, fun v => decide (v = 0), rfl, hP0, ⟨hP0.m2, fun a ha => ⟨(hP0.each a ha).1, (hP0.each a ha).2.1⟩, rfl, rfl, fun a ha s1 _ => ca0 a ha (of_decide_eq_true s1)⟩, hN0.more s3.1, B3⟩
      clear hB hP0 ca0 hN0 B2 s2 H2
      rintro σ1 H1 ⟨y, m, rs, S, rfl, hP, NT, hN, B1⟩
      obtain ⟨tn, ra, zs, rfl, h1, h2, h3⟩ := id hN
      have lz := paired_len h3
      have l14 := hP.len
      have cl : EK.cut S rs < 10 ^ 30 := by
        have c1 := cut_le (S := S) hP.cap0
        have c2 := caps_top hP
        exact Int.lt_of_le_of_lt (Int.le_trans c1 c2) (by decide)
      obtain ⟨w1, w2, w3⟩ := fit_netD hP
      have w2' : (PyData.tuple [.int m, .tuple (rs.map arcD)]).shown.length ≤ sizeLine := Nat.le_trans w2 (by rw [sizeLine_eq]; decide)
      have w3' : (PyData.tuple [.int m, .tuple (rs.map arcD)]).depth ≤ 60 := Nat.le_trans w3 (by decide)
      clear w2 w3
      -- own
      refine ⟨_, rfl, by show 1 ≤ sizeLine; decide, fun t0 ht0 => ?_⟩
      have M1 := same_new (o := .tup [.int 0]) (Same.refl H1) ht0
      have q0 : upd H1 t0 (.tup [.int 0]) t0 = some (.tup [.int 0]) := upd_same
      generalize upd H1 t0 (.tup [.int 0]) = H2 at M1 q0 ⊢
      have vN : ∀ {G : Hp}, Same H1 G → NetV K G (.ref tn) m rs := fun {G} M => (hN.more (wo_same M)).more (wo_sub G b)
      refine ⟨_, rfl, tn, _, 1, .ref ra, rfl, rfl, sqt_more (wo_sub H2 b) (sqt_more (wo_same M1) h1), at1, ra, zs, rfl, .inr (sqt_more (wo_sub H2 b) (sqt_more (wo_same M1) h2)), t0, zs.length, _, rfl, rfl, SqT.of q0, (fun z => nomatch z), by omega, by show 1 ≤ 1000; decide, fun p0 H3 M2 q1 => ?_⟩
      rw [rep_flat, lz] at q1
      have M13 := M1.trans M2
      refine ⟨.ref tn, p0, m, rs, S, rfl, vN M13, hP, NT, cl, q1, fun ow os H4 qo To bo no M4 => ?_⟩
      have M14 := M13.trans M4
      have XO : Mx m rs os := ⟨To, (law_end NT To no).1⟩
      clear M1 M2 q0 q1 ht0
      refine ⟨_, rfl, .ref tn, _, rfl, dat_net (vN M14), w1, w2', w3', ⟨_, _, rfl, ?_⟩⟩
      refine ⟨_, rfl, _, rfl, .ref tn, ow, m, rs, os, rfl, vN M14, hP, qo, To.len.symm, fun H5 M5 => ?_⟩
      have M15 := M14.trans M5
      refine ⟨_, rfl, .ref tn, m, rs, S, rfl, vN M15, hP.ntb, NT, hP.cap0, fun p H6 e6 n6 M6 => ⟨_, _, rfl, ?_⟩⟩
      have M16 := M15.trans M6
      have qo6 := sqt_more M6 (sqt_more M5 qo)
      obtain ⟨GX, _, Gtop⟩ := grown_max NT hP.cap0 (zero_thr m rs hP.cap0)
      obtain ⟨gs, eg⟩ : ∃ gs, gs = EK.grownN rs (both rs (List.replicate rs.length 0)) m S (List.replicate rs.length 0) := ⟨_, rfl⟩
      rw [← eg] at GX Gtop e6
      have lg := GX.thr.len
      have val : EK.sp 1 rs gs = EK.sp 1 rs os := Int.le_antisymm (XO.max _ GX.thr) (GX.max _ XO.thr)
      have ct := caps_top hP
      have p12 : (10 : Int) ^ 12 = 1000000000000 := by decide
      have p40 : (10 : Int) ^ 40 = 10000000000000000000000000000000000000000 := by decide
      have z0 : ∀ i, (List.replicate rs.length (0 : Int)).getD i 0 = 0 := fun i => by
        rw [List.getD_eq_getElem?_getD, List.getElem?_replicate]
        split <;> rfl
      have zs0 : (List.replicate rs.length (0 : Int)).sum = 0 := by
        have h1 := sum_nn _ (zero_thr m rs hP.cap0).pos
        have h2 := sum_top (B := 0) (l := List.replicate rs.length (0 : Int)) fun x hx => by rw [(List.mem_replicate.mp hx).2]; exact Int.le_refl _
        omega
      have gb : ∀ z ∈ gs, 0 ≤ z ∧ z ≤ 10 ^ 40 := fun z hz => by
        refine ⟨GX.thr.pos z hz, ?_⟩
        obtain ⟨i, hi', e⟩ := List.getElem_of_mem hz
        have h1 := Gtop i
        rw [List.getD_eq_getElem?_getD, List.getElem?_eq_getElem hi', z0, zs0] at h1
        have h1 : gs[i] ≤ 0 + capSum rs + 0 := h1
        rw [e] at h1
        rw [p12] at ct
        rw [p40]
        omega
      obtain ⟨u1, u2, u3⟩ := fit_bigs (by omega) gb
      have vpos : 0 ≤ EK.sp 1 rs os := by
        have h1 := XO.max _ (zero_thr m rs hP.cap0)
        have h2 := sp_ge rs (zero_thr m rs hP.cap0).pos
        rw [zs0] at h2
        omega
      have vtop : EK.sp 1 rs os ≤ 14 * 10 ^ 12 := by
        have h1 := NT.bound XO.thr
        have h2 := cut_le (S := S) hP.cap0
        omega
      rw [← sp_srp]
      -- the first test
      refine ⟨_, rfl, _, rfl, .ref tn, .ref p, m, rs, .tuple (gs.map PyData.int), rfl, vN M16, hP, .tup (SqT.of e6) (datA_ints gs), fun H7 M7 => ?_⟩
      rw [thr_true GX.thr]
      refine ⟨_, rfl, ?_⟩
      refine ite2 (fun h => by cases h) (fun _ => ?_)
      have M17 := M16.trans M7
      have e7 := M7 _ _ e6
      refine ⟨_, rfl, _, rfl, .ref tn, p, m, rs, gs, rfl, vN M17, hP, SqT.of e7, lg.symm, fun H8 M8 => ?_⟩
      rw [← sp_srp, val]
      have M18 := M17.trans M8
      have e8 := M8 _ _ e7
      refine ⟨_, rfl, rfl, _, rfl, ?_⟩
      refine ite2 (fun h => absurd h (by simp)) (fun _ => ?_)
      refine ⟨_, rfl, .ref tn, m, rs, S, rfl, vN M18, hP.ntb, NT, hP.cap0, fun q H9 e9 n9 M9 => ?_⟩
      rw [← eg] at e9
      have M19 := M18.trans M9
      have f9 := M9 _ _ e8
      refine ⟨_, rfl, .ref q, .ref p, .tuple (gs.map PyData.int), rfl, .inr ⟨3, by decide, .inr ⟨q, p, _, _, rfl, rfl, SqT.of e9, SqT.of f9, eq_ints' gs⟩⟩, .tup (SqT.of e9) (datA_ints gs), .tup (SqT.of f9) (datA_ints gs), u1, u2, u3, ?_⟩
      refine ⟨_, rfl, ?_⟩
      refine ite2 (fun h => by cases h) (fun _ => ?_)
      -- the second
      refine ⟨_, rfl, _, rfl, .ref tn, .ref p, m, rs, .tuple (gs.map PyData.int), rfl, vN M19, hP, .tup (SqT.of f9) (datA_ints gs), fun HA MA => ?_⟩
      rw [thr_true GX.thr]
      have M1A := M19.trans MA
      have fA := MA _ _ f9
      refine ⟨_, rfl, _, rfl, .ref tn, p, m, rs, gs, rfl, vN M1A, hP, SqT.of fA, lg.symm, fun HB MB => ?_⟩
      rw [← sp_srp, val]
      have M1B := M1A.trans MB
      have fB := MB _ _ fA
      refine ⟨by show 2 ≤ sizeLine; decide, fun x1 hx1 => ⟨_, rfl, by show 2 ≤ sizeLine; decide, fun x2 hx2 => ?_⟩⟩
      have MBC := same_new (o := .lst [.bl true, .int (EK.sp 1 rs os)]) (same_new (o := .lst [.bl true, .int (EK.sp 1 rs os)]) (Same.refl HB) hx1) hx2
      have M1C := M1B.trans MBC
      have g1 := s3u (o := .lst [.bl true, .int (EK.sp 1 rs os)]) hx2 (upd_same (H := HB) (a := x1) (o := .lst [.bl true, .int (EK.sp 1 rs os)]))
      have g2 : upd (upd HB x1 (.lst [.bl true, .int (EK.sp 1 rs os)])) x2 (.lst [.bl true, .int (EK.sp 1 rs os)]) x2 = some (.lst [.bl true, .int (EK.sp 1 rs os)]) := upd_same
      have fC := s3u (o := .lst [.bl true, .int (EK.sp 1 rs os)]) hx2 (s3u (o := .lst [.bl true, .int (EK.sp 1 rs os)]) hx1 fB)
      generalize upd (upd HB x1 (.lst [.bl true, .int (EK.sp 1 rs os)])) x2 (.lst [.bl true, .int (EK.sp 1 rs os)]) = HC at MBC M1C g1 g2 fC ⊢
      have fitv : Fit 1000 1 (.list [.bool true, .int (EK.sp 1 rs os)]) := by
        refine (fit_list (m := 300) (k := 0) fun d hd => ?_).mono (show 2 * (300 + 2) + 3 ≤ 1000 by decide) (by decide)
        simp only [List.mem_cons, List.not_mem_nil, or_false] at hd
        rcases hd with rfl | rfl
        · exact ⟨rfl, by decide +kernel, by decide⟩
        · exact fitI (small_abs (by rw [p12] at vtop; omega))
      obtain ⟨t1, t2, t3⟩ := fitv
      refine ⟨.ref x1, .ref x2, .list [.bool true, .int (EK.sp 1 rs os)], rfl, .inr ⟨3, by decide, .inl (.inl ⟨x1, x2, _, _, rfl, rfl, SqL.of g1, SqL.of g2, .cons (.inl ⟨rfl, rfl⟩) (.cons (.inl ⟨rfl, rfl⟩) .nil)⟩)⟩, .lst (SqL.of g1) (.cons (.bl _) (.cons (.int _) .nil)), .lst (SqL.of g2) (.cons (.bl _) (.cons (.int _) .nil)), t1, Nat.le_trans t2 (by rw [sizeLine_eq]; decide), Nat.le_trans t3 (by decide), ?_⟩
      refine ⟨_, rfl, ?_⟩
      refine ite2 (fun h => by cases h) (fun _ => ?_)
      have M6C : Same H6 HC := ((((M7.trans M8).trans M9).trans MA).trans MB).trans MBC
      have qoC := sqt_more M6C qo6
      clear M6C MBC g1 g2 e6 e7 e8 e9 f9 fA fB M7 M8 M9 MA MB hx1 hx2
      -- the sides
      refine ⟨_, rfl, _, rfl, _, rfl, .ref tn, p, m, rs, gs, S, by rw [val]; rfl, vN M1C, hP, NT, SqT.of fC, GX, fun HD MD => ⟨_, rfl, ?_⟩⟩
      refine ite2 (fun h => by cases h) (fun _ => ?_)
      have M1D := M1C.trans MD
      have qoD := sqt_more MD qoC
      refine ⟨_, rfl, _, rfl, _, rfl, .ref tn, ow, m, rs, os, S, rfl, vN M1D, hP, NT, qoD, XO, fun HE ME => ⟨_, rfl, ?_⟩⟩
      refine ite2 (fun h => by cases h) (fun _ => ?_)
      have M1E := M1D.trans ME
      have BE := B1.keep M1E
      have qoE := sqt_wo' (sqt_more ME qoD) BE
      have hNE := hN.more (wo_same (b := b) M1E)
      -- part
      refine ⟨_, rfl, _, rfl, b, .ref tn, m, rs, S, rfl, BE, hNE, hP, NT, fun pa ts HF qp Tp bp BF sF => ?_⟩
      have hNF := hNE.more sF.1
      have qoF := sqt_more sF.1 qoE
      have bo35 : ∀ t ∈ os, t ≤ 10 ^ 35 := fun t ht => by
        have := bo t ht
        have q1 : (10 : Int) ^ 30 = 1000000000000000000000000000000 := by decide
        have q2 : (10 : Int) ^ 35 = 100000000000000000000000000000000000 := by decide
        omega
      refine ⟨_, rfl, _, rfl, _, rfl, .ref tn, pa, m, rs, ts, os, S, rfl, hNF.more (wo_sub HF b), hP, NT, sqt_more (wo_sub HF b) qp, Tp, bp, XO, fun HG MG => ⟨_, rfl, ?_⟩⟩
      refine ite2 (fun h => by cases h) (fun _ => ?_)
      have hNG := hNF.more (wo_same (b := b) MG)
      have qoG := sqt_more (wo_same (b := b) MG) qoF
      refine ⟨_, rfl, _, rfl, _, rfl, .ref tn, ow, m, rs, os, os, S, rfl, hNG.more (wo_sub HG b), hP, NT, sqt_more (wo_sub HG b) qoG, To, bo35, XO, fun HI MI => ⟨_, rfl, ?_⟩⟩
      refine ite2 (fun h => by cases h) (fun _ => ?_)
      have hNI := hNG.more (wo_same (b := b) MI)
      refine ⟨_, rfl, .ref tn, _, rfl, dat_net (hNI.more (wo_sub HI b)), w1, w2', w3', _, rfl, rfl, _, rfl, ?_⟩
      refine ite2 (fun h => absurd h (by simp)) (fun _ => ?_)
      exact ⟨_, _, _, _, _, _, _, rfl, (BF.keep MG).keep MI⟩
    · rintro σ H2 ⟨_, _, _, _, _, _, _, rfl, _⟩
      exact k _
end
end Y

namespace Y
open PySem PySem.Spec PyProof.Rows L2 Ns
/-- the def's data -/
def fdOf {K : PySem.W.Frag} {x q : Str} {st : Stmt} {f : Addr} {fd : FuncData} (_ : Fun K x q st f fd) : FuncData := fd
set_option maxHeartbeats 4000000 in
theorem all_mk {l : PySem.W.OpenLaw} {w : World} {K : PySem.W.Frag} {h : Heap} {mg : Str → Option Value} {fa : Addr} (X : K.In h) (G : h.Ns mainGlobals mg) (hfa : mg "law" = some (.ref fa))
    {fII fIC fMo fGn fVO fIT fSo fSu fR fE fW fLv fFi fAd fB fT fS fM fA fZ fWh fNt fPl fLV fLT fRm fSd fWy fLd fPt fOo fRt fGw fL : Addr}
    {oddII andII : Option Addr} {sldII : Array (Option Value)} {ocdII kVdII dcdII pmdII cddII ctdII : Value}
    {oddIC andIC : Option Addr} {sldIC : Array (Option Value)} {ocdIC kVdIC dcdIC pmdIC cddIC ctdIC : Value}
    {oddMo andMo : Option Addr} {sldMo : Array (Option Value)} {ocdMo kVdMo dcdMo pmdMo cddMo ctdMo : Value}
    {oddGn andGn : Option Addr} {sldGn : Array (Option Value)} {ocdGn kVdGn dcdGn pmdGn cddGn ctdGn : Value}
    {oddVO andVO : Option Addr} {sldVO : Array (Option Value)} {ocdVO kVdVO dcdVO pmdVO cddVO ctdVO : Value}
    {oddIT andIT : Option Addr} {sldIT : Array (Option Value)} {ocdIT kVdIT dcdIT pmdIT cddIT ctdIT : Value}
    {oddSo andSo : Option Addr} {sldSo : Array (Option Value)} {ocdSo kVdSo dcdSo pmdSo cddSo ctdSo : Value}
    {oddSu andSu : Option Addr} {sldSu : Array (Option Value)} {ocdSu kVdSu dcdSu pmdSu cddSu ctdSu : Value}
    {oddR andR : Option Addr} {sldR : Array (Option Value)} {ocdR kVdR dcdR pmdR cddR ctdR : Value}
    {oddE andE : Option Addr} {sldE : Array (Option Value)} {ocdE kVdE dcdE pmdE cddE ctdE : Value}
    {oddW andW : Option Addr} {sldW : Array (Option Value)} {ocdW kVdW dcdW pmdW cddW ctdW : Value}
    {oddLv andLv : Option Addr} {sldLv : Array (Option Value)} {ocdLv kVdLv dcdLv pmdLv cddLv ctdLv : Value}
    {oddFi andFi : Option Addr} {sldFi : Array (Option Value)} {ocdFi kVdFi dcdFi pmdFi cddFi ctdFi : Value}
    {oddAd andAd : Option Addr} {sldAd : Array (Option Value)} {ocdAd kVdAd dcdAd pmdAd cddAd ctdAd : Value}
    {oddB andB : Option Addr} {sldB : Array (Option Value)} {ocdB kVdB dcdB pmdB cddB ctdB : Value}
    {oddT andT : Option Addr} {sldT : Array (Option Value)} {ocdT kVdT dcdT pmdT cddT ctdT : Value}
    {oddS andS : Option Addr} {sldS : Array (Option Value)} {ocdS kVdS dcdS pmdS cddS ctdS : Value}
    {oddM andM : Option Addr} {sldM : Array (Option Value)} {ocdM kVdM dcdM pmdM cddM ctdM : Value}
    {oddA andA : Option Addr} {sldA : Array (Option Value)} {ocdA kVdA dcdA pmdA cddA ctdA : Value}
    {oddZ andZ : Option Addr} {sldZ : Array (Option Value)} {ocdZ kVdZ dcdZ pmdZ cddZ ctdZ : Value}
    {oddWh andWh : Option Addr} {sldWh : Array (Option Value)} {ocdWh kVdWh dcdWh pmdWh cddWh ctdWh : Value}
    {oddNt andNt : Option Addr} {sldNt : Array (Option Value)} {ocdNt kVdNt dcdNt pmdNt cddNt ctdNt : Value}
    {oddPl andPl : Option Addr} {sldPl : Array (Option Value)} {ocdPl kVdPl dcdPl pmdPl cddPl ctdPl : Value}
    {oddLV andLV : Option Addr} {sldLV : Array (Option Value)} {ocdLV kVdLV dcdLV pmdLV cddLV ctdLV : Value}
    {oddLT andLT : Option Addr} {sldLT : Array (Option Value)} {ocdLT kVdLT dcdLT pmdLT cddLT ctdLT : Value}
    {oddRm andRm : Option Addr} {sldRm : Array (Option Value)} {ocdRm kVdRm dcdRm pmdRm cddRm ctdRm : Value}
    {oddSd andSd : Option Addr} {sldSd : Array (Option Value)} {ocdSd kVdSd dcdSd pmdSd cddSd ctdSd : Value}
    {oddWy andWy : Option Addr} {sldWy : Array (Option Value)} {ocdWy kVdWy dcdWy pmdWy cddWy ctdWy : Value}
    {oddLd andLd : Option Addr} {sldLd : Array (Option Value)} {ocdLd kVdLd dcdLd pmdLd cddLd ctdLd : Value}
    {oddPt andPt : Option Addr} {sldPt : Array (Option Value)} {ocdPt kVdPt dcdPt pmdPt cddPt ctdPt : Value}
    {oddOo andOo : Option Addr} {sldOo : Array (Option Value)} {ocdOo kVdOo dcdOo pmdOo cddOo ctdOo : Value}
    {oddRt andRt : Option Addr} {sldRt : Array (Option Value)} {ocdRt kVdRt dcdRt pmdRt cddRt ctdRt : Value}
    {oddGw andGw : Option Addr} {sldGw : Array (Option Value)} {ocdGw kVdGw dcdGw pmdGw cddGw ctdGw : Value}
    {oddL andL : Option Addr} {sldL : Array (Option Value)} {ocdL kVdL dcdL pmdL cddL ctdL : Value}
    (adII : PySem.W.nsIn K mainGlobals "is_integer" = some (some (.ref fII)))
    (ldII : K.lookup fII = some ⟨ocdII, oddII, .func (PySem.W.fnOf "is_integer" "is_integer" (defArgs sIsInteger) (defBody sIsInteger) (defScope sIsInteger) .none kVdII dcdII pmdII andII cddII ctdII), sldII⟩)
    (cdII : PySem.W.codeIn K cddII "is_integer" = true)
    (kdII : PySem.W.keepIn K (.ref fII) = true)
    (adIC : PySem.W.nsIn K mainGlobals "is_count" = some (some (.ref fIC)))
    (ldIC : K.lookup fIC = some ⟨ocdIC, oddIC, .func (PySem.W.fnOf "is_count" "is_count" (defArgs sIsCount) (defBody sIsCount) (defScope sIsCount) .none kVdIC dcdIC pmdIC andIC cddIC ctdIC), sldIC⟩)
    (cdIC : PySem.W.codeIn K cddIC "is_count" = true)
    (kdIC : PySem.W.keepIn K (.ref fIC) = true)
    (adMo : PySem.W.nsIn K mainGlobals "most_through" = some (some (.ref fMo)))
    (ldMo : K.lookup fMo = some ⟨ocdMo, oddMo, .func (PySem.W.fnOf "most_through" "most_through" (defArgs sMostThrough) (defBody sMostThrough) (defScope sMostThrough) .none kVdMo dcdMo pmdMo andMo cddMo ctdMo), sldMo⟩)
    (cdMo : PySem.W.codeIn K cddMo "most_through" = true)
    (kdMo : PySem.W.keepIn K (.ref fMo) = true)
    (adGn : PySem.W.nsIn K mainGlobals "grown" = some (some (.ref fGn)))
    (ldGn : K.lookup fGn = some ⟨ocdGn, oddGn, .func (PySem.W.fnOf "grown" "grown" (defArgs sGrown) (defBody sGrown) (defScope sGrown) .none kVdGn dcdGn pmdGn andGn cddGn ctdGn), sldGn⟩)
    (cdGn : PySem.W.codeIn K cddGn "grown" = true)
    (kdGn : PySem.W.keepIn K (.ref fGn) = true)
    (adVO : PySem.W.nsIn K mainGlobals "value_of" = some (some (.ref fVO)))
    (ldVO : K.lookup fVO = some ⟨ocdVO, oddVO, .func (PySem.W.fnOf "value_of" "value_of" (defArgs sValueOf) (defBody sValueOf) (defScope sValueOf) .none kVdVO dcdVO pmdVO andVO cddVO ctdVO), sldVO⟩)
    (cdVO : PySem.W.codeIn K cddVO "value_of" = true)
    (kdVO : PySem.W.keepIn K (.ref fVO) = true)
    (adIT : PySem.W.nsIn K mainGlobals "is_through" = some (some (.ref fIT)))
    (ldIT : K.lookup fIT = some ⟨ocdIT, oddIT, .func (PySem.W.fnOf "is_through" "is_through" (defArgs sIsThrough) (defBody sIsThrough) (defScope sIsThrough) .none kVdIT dcdIT pmdIT andIT cddIT ctdIT), sldIT⟩)
    (cdIT : PySem.W.codeIn K cddIT "is_through" = true)
    (kdIT : PySem.W.keepIn K (.ref fIT) = true)
    (adSo : PySem.W.nsIn K mainGlobals "source_side" = some (some (.ref fSo)))
    (ldSo : K.lookup fSo = some ⟨ocdSo, oddSo, .func (PySem.W.fnOf "source_side" "source_side" (defArgs sSourceSide) (defBody sSourceSide) (defScope sSourceSide) .none kVdSo dcdSo pmdSo andSo cddSo ctdSo), sldSo⟩)
    (cdSo : PySem.W.codeIn K cddSo "source_side" = true)
    (kdSo : PySem.W.keepIn K (.ref fSo) = true)
    (adSu : PySem.W.nsIn K mainGlobals "_surplus" = some (some (.ref fSu)))
    (ldSu : K.lookup fSu = some ⟨ocdSu, oddSu, .func (PySem.W.fnOf "_surplus" "_surplus" (defArgs sSurplus) (defBody sSurplus) (defScope sSurplus) .none kVdSu dcdSu pmdSu andSu cddSu ctdSu), sldSu⟩)
    (cdSu : PySem.W.codeIn K cddSu "_surplus" = true)
    (kdSu : PySem.W.keepIn K (.ref fSu) = true)
    (adR : PySem.W.nsIn K mainGlobals "_rooms" = some (some (.ref fR)))
    (ldR : K.lookup fR = some ⟨ocdR, oddR, .func (PySem.W.fnOf "_rooms" "_rooms" (defArgs sRooms) (defBody sRooms) (defScope sRooms) .none kVdR dcdR pmdR andR cddR ctdR), sldR⟩)
    (cdR : PySem.W.codeIn K cddR "_rooms" = true)
    (kdR : PySem.W.keepIn K (.ref fR) = true)
    (adE : PySem.W.nsIn K mainGlobals "_ends" = some (some (.ref fE)))
    (ldE : K.lookup fE = some ⟨ocdE, oddE, .func (PySem.W.fnOf "_ends" "_ends" (defArgs sEnds) (defBody sEnds) (defScope sEnds) .none kVdE dcdE pmdE andE cddE ctdE), sldE⟩)
    (cdE : PySem.W.codeIn K cddE "_ends" = true)
    (kdE : PySem.W.keepIn K (.ref fE) = true)
    (adW : PySem.W.nsIn K mainGlobals "_ways" = some (some (.ref fW)))
    (ldW : K.lookup fW = some ⟨ocdW, oddW, .func (PySem.W.fnOf "_ways" "_ways" (defArgs sWays) (defBody sWays) (defScope sWays) .none kVdW dcdW pmdW andW cddW ctdW), sldW⟩)
    (cdW : PySem.W.codeIn K cddW "_ways" = true)
    (kdW : PySem.W.keepIn K (.ref fW) = true)
    (adLv : PySem.W.nsIn K mainGlobals "_levels" = some (some (.ref fLv)))
    (ldLv : K.lookup fLv = some ⟨ocdLv, oddLv, .func (PySem.W.fnOf "_levels" "_levels" (defArgs sLevels) (defBody sLevels) (defScope sLevels) .none kVdLv dcdLv pmdLv andLv cddLv ctdLv), sldLv⟩)
    (cdLv : PySem.W.codeIn K cddLv "_levels" = true)
    (kdLv : PySem.W.keepIn K (.ref fLv) = true)
    (adFi : PySem.W.nsIn K mainGlobals "_fill" = some (some (.ref fFi)))
    (ldFi : K.lookup fFi = some ⟨ocdFi, oddFi, .func (PySem.W.fnOf "_fill" "_fill" (defArgs sFill) (defBody sFill) (defScope sFill) .none kVdFi dcdFi pmdFi andFi cddFi ctdFi), sldFi⟩)
    (cdFi : PySem.W.codeIn K cddFi "_fill" = true)
    (kdFi : PySem.W.keepIn K (.ref fFi) = true)
    (adAd : PySem.W.nsIn K mainGlobals "_add" = some (some (.ref fAd)))
    (ldAd : K.lookup fAd = some ⟨ocdAd, oddAd, .func (PySem.W.fnOf "_add" "_add" (defArgs sAdd) (defBody sAdd) (defScope sAdd) .none kVdAd dcdAd pmdAd andAd cddAd ctdAd), sldAd⟩)
    (cdAd : PySem.W.codeIn K cddAd "_add" = true)
    (kdAd : PySem.W.keepIn K (.ref fAd) = true)
    (adB : PySem.W.nsIn K mainGlobals "_law_bag" = some (some (.ref fB)))
    (ldB : K.lookup fB = some ⟨ocdB, oddB, .func (PySem.W.fnOf "_law_bag" "_law_bag" (defArgs sBag) (defBody sBag) (defScope sBag) .none kVdB dcdB pmdB andB cddB ctdB), sldB⟩)
    (cdB : PySem.W.codeIn K cddB "_law_bag" = true)
    (kdB : PySem.W.keepIn K (.ref fB) = true)
    (adT : PySem.W.nsIn K mainGlobals "_law_take" = some (some (.ref fT)))
    (ldT : K.lookup fT = some ⟨ocdT, oddT, .func (PySem.W.fnOf "_law_take" "_law_take" (defArgs sTake) (defBody sTake) (defScope sTake) .none kVdT dcdT pmdT andT cddT ctdT), sldT⟩)
    (cdT : PySem.W.codeIn K cddT "_law_take" = true)
    (kdT : PySem.W.keepIn K (.ref fT) = true)
    (adS : PySem.W.nsIn K mainGlobals "_law_some" = some (some (.ref fS)))
    (ldS : K.lookup fS = some ⟨ocdS, oddS, .func (PySem.W.fnOf "_law_some" "_law_some" (defArgs sSome) (defBody sSome) (defScope sSome) .none kVdS dcdS pmdS andS cddS ctdS), sldS⟩)
    (cdS : PySem.W.codeIn K cddS "_law_some" = true)
    (kdS : PySem.W.keepIn K (.ref fS) = true)
    (adM : PySem.W.nsIn K mainGlobals "_law_mixed" = some (some (.ref fM)))
    (ldM : K.lookup fM = some ⟨ocdM, oddM, .func (PySem.W.fnOf "_law_mixed" "_law_mixed" (defArgs sMixed) (defBody sMixed) (defScope sMixed) .none kVdM dcdM pmdM andM cddM ctdM), sldM⟩)
    (cdM : PySem.W.codeIn K cddM "_law_mixed" = true)
    (kdM : PySem.W.keepIn K (.ref fM) = true)
    (adA : PySem.W.nsIn K mainGlobals "_law_alike" = some (some (.ref fA)))
    (ldA : K.lookup fA = some ⟨ocdA, oddA, .func (PySem.W.fnOf "_law_alike" "_law_alike" (defArgs sAlike) (defBody sAlike) (defScope sAlike) .none kVdA dcdA pmdA andA cddA ctdA), sldA⟩)
    (cdA : PySem.W.codeIn K cddA "_law_alike" = true)
    (kdA : PySem.W.keepIn K (.ref fA) = true)
    (adZ : PySem.W.nsIn K mainGlobals "_law_size" = some (some (.ref fZ)))
    (ldZ : K.lookup fZ = some ⟨ocdZ, oddZ, .func (PySem.W.fnOf "_law_size" "_law_size" (defArgs sSize) (defBody sSize) (defScope sSize) .none kVdZ dcdZ pmdZ andZ cddZ ctdZ), sldZ⟩)
    (cdZ : PySem.W.codeIn K cddZ "_law_size" = true)
    (kdZ : PySem.W.keepIn K (.ref fZ) = true)
    (adWh : PySem.W.nsIn K mainGlobals "_law_whole" = some (some (.ref fWh)))
    (ldWh : K.lookup fWh = some ⟨ocdWh, oddWh, .func (PySem.W.fnOf "_law_whole" "_law_whole" (defArgs sWhole) (defBody sWhole) (defScope sWhole) .none kVdWh dcdWh pmdWh andWh cddWh ctdWh), sldWh⟩)
    (cdWh : PySem.W.codeIn K cddWh "_law_whole" = true)
    (kdWh : PySem.W.keepIn K (.ref fWh) = true)
    (adNt : PySem.W.nsIn K mainGlobals "_law_net" = some (some (.ref fNt)))
    (ldNt : K.lookup fNt = some ⟨ocdNt, oddNt, .func (PySem.W.fnOf "_law_net" "_law_net" (defArgs sNet) (defBody sNet) (defScope sNet) .none kVdNt dcdNt pmdNt andNt cddNt ctdNt), sldNt⟩)
    (cdNt : PySem.W.codeIn K cddNt "_law_net" = true)
    (kdNt : PySem.W.keepIn K (.ref fNt) = true)
    (adPl : PySem.W.nsIn K mainGlobals "_law_planted" = some (some (.ref fPl)))
    (ldPl : K.lookup fPl = some ⟨ocdPl, oddPl, .func (PySem.W.fnOf "_law_planted" "_law_planted" (defArgs sPlanted) (defBody sPlanted) (defScope sPlanted) .none kVdPl dcdPl pmdPl andPl cddPl ctdPl), sldPl⟩)
    (cdPl : PySem.W.codeIn K cddPl "_law_planted" = true)
    (kdPl : PySem.W.keepIn K (.ref fPl) = true)
    (adLV : PySem.W.nsIn K mainGlobals "_law_value" = some (some (.ref fLV)))
    (ldLV : K.lookup fLV = some ⟨ocdLV, oddLV, .func (PySem.W.fnOf "_law_value" "_law_value" (defArgs sValue) (defBody sValue) (defScope sValue) .none kVdLV dcdLV pmdLV andLV cddLV ctdLV), sldLV⟩)
    (cdLV : PySem.W.codeIn K cddLV "_law_value" = true)
    (kdLV : PySem.W.keepIn K (.ref fLV) = true)
    (adLT : PySem.W.nsIn K mainGlobals "_law_is_through" = some (some (.ref fLT)))
    (ldLT : K.lookup fLT = some ⟨ocdLT, oddLT, .func (PySem.W.fnOf "_law_is_through" "_law_is_through" (defArgs sLIsThrough) (defBody sLIsThrough) (defScope sLIsThrough) .none kVdLT dcdLT pmdLT andLT cddLT ctdLT), sldLT⟩)
    (cdLT : PySem.W.codeIn K cddLT "_law_is_through" = true)
    (kdLT : PySem.W.keepIn K (.ref fLT) = true)
    (adRm : PySem.W.nsIn K mainGlobals "_law_room" = some (some (.ref fRm)))
    (ldRm : K.lookup fRm = some ⟨ocdRm, oddRm, .func (PySem.W.fnOf "_law_room" "_law_room" (defArgs sRoom) (defBody sRoom) (defScope sRoom) .none kVdRm dcdRm pmdRm andRm cddRm ctdRm), sldRm⟩)
    (cdRm : PySem.W.codeIn K cddRm "_law_room" = true)
    (kdRm : PySem.W.keepIn K (.ref fRm) = true)
    (adSd : PySem.W.nsIn K mainGlobals "_law_side" = some (some (.ref fSd)))
    (ldSd : K.lookup fSd = some ⟨ocdSd, oddSd, .func (PySem.W.fnOf "_law_side" "_law_side" (defArgs sSide) (defBody sSide) (defScope sSide) .none kVdSd dcdSd pmdSd andSd cddSd ctdSd), sldSd⟩)
    (cdSd : PySem.W.codeIn K cddSd "_law_side" = true)
    (kdSd : PySem.W.keepIn K (.ref fSd) = true)
    (adWy : PySem.W.nsIn K mainGlobals "_law_way" = some (some (.ref fWy)))
    (ldWy : K.lookup fWy = some ⟨ocdWy, oddWy, .func (PySem.W.fnOf "_law_way" "_law_way" (defArgs sWay) (defBody sWay) (defScope sWay) .none kVdWy dcdWy pmdWy andWy cddWy ctdWy), sldWy⟩)
    (cdWy : PySem.W.codeIn K cddWy "_law_way" = true)
    (kdWy : PySem.W.keepIn K (.ref fWy) = true)
    (adLd : PySem.W.nsIn K mainGlobals "_law_led" = some (some (.ref fLd)))
    (ldLd : K.lookup fLd = some ⟨ocdLd, oddLd, .func (PySem.W.fnOf "_law_led" "_law_led" (defArgs sLed) (defBody sLed) (defScope sLed) .none kVdLd dcdLd pmdLd andLd cddLd ctdLd), sldLd⟩)
    (cdLd : PySem.W.codeIn K cddLd "_law_led" = true)
    (kdLd : PySem.W.keepIn K (.ref fLd) = true)
    (adPt : PySem.W.nsIn K mainGlobals "_law_part" = some (some (.ref fPt)))
    (ldPt : K.lookup fPt = some ⟨ocdPt, oddPt, .func (PySem.W.fnOf "_law_part" "_law_part" (defArgs sPart) (defBody sPart) (defScope sPart) .none kVdPt dcdPt pmdPt andPt cddPt ctdPt), sldPt⟩)
    (cdPt : PySem.W.codeIn K cddPt "_law_part" = true)
    (kdPt : PySem.W.keepIn K (.ref fPt) = true)
    (adOo : PySem.W.nsIn K mainGlobals "_law_out_of" = some (some (.ref fOo)))
    (ldOo : K.lookup fOo = some ⟨ocdOo, oddOo, .func (PySem.W.fnOf "_law_out_of" "_law_out_of" (defArgs sOutOf) (defBody sOutOf) (defScope sOutOf) .none kVdOo dcdOo pmdOo andOo cddOo ctdOo), sldOo⟩)
    (cdOo : PySem.W.codeIn K cddOo "_law_out_of" = true)
    (kdOo : PySem.W.keepIn K (.ref fOo) = true)
    (adRt : PySem.W.nsIn K mainGlobals "_law_is_side_right" = some (some (.ref fRt)))
    (ldRt : K.lookup fRt = some ⟨ocdRt, oddRt, .func (PySem.W.fnOf "_law_is_side_right" "_law_is_side_right" (defArgs sIsSideRight) (defBody sIsSideRight) (defScope sIsSideRight) .none kVdRt dcdRt pmdRt andRt cddRt ctdRt), sldRt⟩)
    (cdRt : PySem.W.codeIn K cddRt "_law_is_side_right" = true)
    (kdRt : PySem.W.keepIn K (.ref fRt) = true)
    (adGw : PySem.W.nsIn K mainGlobals "_law_grows" = some (some (.ref fGw)))
    (ldGw : K.lookup fGw = some ⟨ocdGw, oddGw, .func (PySem.W.fnOf "_law_grows" "_law_grows" (defArgs sGrows) (defBody sGrows) (defScope sGrows) .none kVdGw dcdGw pmdGw andGw cddGw ctdGw), sldGw⟩)
    (cdGw : PySem.W.codeIn K cddGw "_law_grows" = true)
    (kdGw : PySem.W.keepIn K (.ref fGw) = true)
    (adL : PySem.W.nsIn K mainGlobals "law" = some (some (.ref fL)))
    (ldL : K.lookup fL = some ⟨ocdL, oddL, .func (PySem.W.fnOf "law" "law" (defArgs sLaw) (defBody sLaw) (defScope sLaw) .none kVdL dcdL pmdL andL cddL ctdL), sldL⟩)
    (cdL : PySem.W.codeIn K cddL "law" = true)
    (kdL : PySem.W.keepIn K (.ref fL) = true)
    (zabs : PySem.W.nsIn K mainGlobals "abs" = some none)
    (zint : PySem.W.nsIn K mainGlobals "int" = some none)
    (zlen : PySem.W.nsIn K mainGlobals "len" = some none)
    (zrepr : PySem.W.nsIn K mainGlobals "repr" = some none)
    (zisinstance : PySem.W.nsIn K mainGlobals "isinstance" = some none)
    (zrange : PySem.W.nsIn K mainGlobals "range" = some none)
    (zsorted : PySem.W.nsIn K mainGlobals "sorted" = some none)
    (ztuple : PySem.W.nsIn K mainGlobals "tuple" = some none)
    (zlist : PySem.W.nsIn K mainGlobals "list" = some none)
    (zdict : PySem.W.nsIn K mainGlobals "dict" = some none)
    (zset : PySem.W.nsIn K mainGlobals "set" = some none)
    (zsum : PySem.W.nsIn K mainGlobals "sum" = some none)
    (zmax : PySem.W.nsIn K mainGlobals "max" = some none)
    (zmin : PySem.W.nsIn K mainGlobals "min" = some none)
    (zstr : PySem.W.nsIn K mainGlobals "str" = some none)
    (zall : PySem.W.nsIn K mainGlobals "all" = some none)
    (zany : PySem.W.nsIn K mainGlobals "any" = some none)
    (zzip : PySem.W.nsIn K mainGlobals "zip" = some none)
    (zbool : PySem.W.nsIn K mainGlobals "bool" = some none)
    (zenumerate : PySem.W.nsIn K mainGlobals "enumerate" = some none) :
    ∃ fd : FuncData, (∀ (s : Shared) (v : Value), BindsTo s fd ⟨[v], []⟩ [("script", v)]) ∧ ∀ base : Heap, K.In base → base.Ns mainGlobals mg → GnOk l.prog w K mg base 5 fa fd ["script"] (spTop K) := by
  have e := hfa.symm.trans (PySem.W.mg_of X G adL)
  cases e
  have T : Nat0 mg := ⟨PySem.W.mg_none_of X G zabs, PySem.W.mg_none_of X G zint, PySem.W.mg_none_of X G zlen, PySem.W.mg_none_of X G zrepr, PySem.W.mg_none_of X G zisinstance, PySem.W.mg_none_of X G zrange, PySem.W.mg_none_of X G zsorted, PySem.W.mg_none_of X G ztuple, PySem.W.mg_none_of X G zlist, PySem.W.mg_none_of X G zdict, PySem.W.mg_none_of X G zset, PySem.W.mg_none_of X G zsum, PySem.W.mg_none_of X G zmax, PySem.W.mg_none_of X G zmin, PySem.W.mg_none_of X G zstr, PySem.W.mg_none_of X G zall, PySem.W.mg_none_of X G zany, PySem.W.mg_none_of X G zzip⟩
  have h_bool : mg "bool" = none := PySem.W.mg_none_of X G zbool
  have h_enumerate : mg "enumerate" = none := PySem.W.mg_none_of X G zenumerate
  have FII := fun_mk (st := sIsInteger) ldII cdII kdII
  have bII := FII.binds (ps := ["thing"]) fun _ _ _ _ _ _ us hl => match us, hl with | [_], _ => rfl
  have mII := PySem.W.mg_of X G adII
  have FIC := fun_mk (st := sIsCount) ldIC cdIC kdIC
  have bIC := FIC.binds (ps := ["thing"]) fun _ _ _ _ _ _ us hl => match us, hl with | [_], _ => rfl
  have mIC := PySem.W.mg_of X G adIC
  have FMo := fun_mk (st := sMostThrough) ldMo cdMo kdMo
  have bMo := FMo.binds (ps := ["net"]) fun _ _ _ _ _ _ us hl => match us, hl with | [_], _ => rfl
  have mMo := PySem.W.mg_of X G adMo
  have FGn := fun_mk (st := sGrown) ldGn cdGn kdGn
  have bGn := FGn.binds (ps := ["net", "through"]) fun _ _ _ _ _ _ us hl => match us, hl with | [_, _], _ => rfl
  have mGn := PySem.W.mg_of X G adGn
  have FVO := fun_mk (st := sValueOf) ldVO cdVO kdVO
  have bVO := FVO.binds (ps := ["net", "through"]) fun _ _ _ _ _ _ us hl => match us, hl with | [_, _], _ => rfl
  have mVO := PySem.W.mg_of X G adVO
  have FIT := fun_mk (st := sIsThrough) ldIT cdIT kdIT
  have bIT := FIT.binds (ps := ["net", "thing"]) fun _ _ _ _ _ _ us hl => match us, hl with | [_, _], _ => rfl
  have mIT := PySem.W.mg_of X G adIT
  have FSo := fun_mk (st := sSourceSide) ldSo cdSo kdSo
  have bSo := FSo.binds (ps := ["net", "through"]) fun _ _ _ _ _ _ us hl => match us, hl with | [_, _], _ => rfl
  have mSo := PySem.W.mg_of X G adSo
  have FSu := fun_mk (st := sSurplus) ldSu cdSu kdSu
  have bSu := FSu.binds (ps := ["net", "through"]) fun _ _ _ _ _ _ us hl => match us, hl with | [_, _], _ => rfl
  have mSu := PySem.W.mg_of X G adSu
  have FR := fun_mk (st := sRooms) ldR cdR kdR
  have bR := FR.binds (ps := ["net", "through"]) fun _ _ _ _ _ _ us hl => match us, hl with | [_, _], _ => rfl
  have mR := PySem.W.mg_of X G adR
  have FE := fun_mk (st := sEnds) ldE cdE kdE
  have bE := FE.binds (ps := ["net"]) fun _ _ _ _ _ _ us hl => match us, hl with | [_], _ => rfl
  have mE := PySem.W.mg_of X G adE
  have FW := fun_mk (st := sWays) ldW cdW kdW
  have bW := FW.binds (ps := ["net"]) fun _ _ _ _ _ _ us hl => match us, hl with | [_], _ => rfl
  have mW := PySem.W.mg_of X G adW
  have FLv := fun_mk (st := sLevels) ldLv cdLv kdLv
  have bLv := FLv.binds (ps := ["rooms", "ends", "ways"]) fun _ _ _ _ _ _ us hl => match us, hl with | [_, _, _], _ => rfl
  have mLv := PySem.W.mg_of X G adLv
  have FFi := fun_mk (st := sFill) ldFi cdFi kdFi
  have bFi := FFi.binds (ps := ["rooms", "ends", "ways", "levels"]) fun _ _ _ _ _ _ us hl => match us, hl with | [_, _, _, _], _ => rfl
  have mFi := PySem.W.mg_of X G adFi
  have FAd := fun_mk (st := sAdd) ldAd cdAd kdAd
  have bAd := FAd.binds (ps := ["rooms", "trail"]) fun _ _ _ _ _ _ us hl => match us, hl with | [_, _], _ => rfl
  have mAd := PySem.W.mg_of X G adAd
  have FB := fun_mk (st := sBag) ldB cdB kdB
  have bB := FB.binds (ps := ["script"]) fun _ _ _ _ _ _ us hl => match us, hl with | [_], _ => rfl
  have mB := PySem.W.mg_of X G adB
  have FT := fun_mk (st := sTake) ldT cdT kdT
  have bT := FT.binds (ps := ["bag", "many"]) fun _ _ _ _ _ _ us hl => match us, hl with | [_, _], _ => rfl
  have mT := PySem.W.mg_of X G adT
  have FS := fun_mk (st := sSome) ldS cdS kdS
  have bS := FS.binds (ps := ["bag", "things"]) fun _ _ _ _ _ _ us hl => match us, hl with | [_, _], _ => rfl
  have mS := PySem.W.mg_of X G adS
  have FM := fun_mk (st := sMixed) ldM cdM kdM
  have bM := FM.binds (ps := ["bag", "things"]) fun _ _ _ _ _ _ us hl => match us, hl with | [_, _], _ => rfl
  have mM := PySem.W.mg_of X G adM
  have FA := fun_mk (st := sAlike) ldA cdA kdA
  have bA := FA.binds (ps := ["found", "due"]) fun _ _ _ _ _ _ us hl => match us, hl with | [_, _], _ => rfl
  have mA := PySem.W.mg_of X G adA
  have FZ := fun_mk (st := sSize) ldZ cdZ kdZ
  have bZ := FZ.binds (ps := ["bag", "most"]) fun _ _ _ _ _ _ us hl => match us, hl with | [_, _], _ => rfl
  have mZ := PySem.W.mg_of X G adZ
  have FWh := fun_mk (st := sWhole) ldWh cdWh kdWh
  have bWh := FWh.binds (ps := ["thing"]) fun _ _ _ _ _ _ us hl => match us, hl with | [_], _ => rfl
  have mWh := PySem.W.mg_of X G adWh
  have FNt := fun_mk (st := sNet) ldNt cdNt kdNt
  have bNt := FNt.binds (ps := ["bag"]) fun _ _ _ _ _ _ us hl => match us, hl with | [_], _ => rfl
  have mNt := PySem.W.mg_of X G adNt
  have FPl := fun_mk (st := sPlanted) ldPl cdPl kdPl
  have bPl := FPl.binds (ps := ["bag", "net"]) fun _ _ _ _ _ _ us hl => match us, hl with | [_, _], _ => rfl
  have mPl := PySem.W.mg_of X G adPl
  have FLV := fun_mk (st := sValue) ldLV cdLV kdLV
  have bLV := FLV.binds (ps := ["net", "through"]) fun _ _ _ _ _ _ us hl => match us, hl with | [_, _], _ => rfl
  have mLV := PySem.W.mg_of X G adLV
  have FLT := fun_mk (st := sLIsThrough) ldLT cdLT kdLT
  have bLT := FLT.binds (ps := ["net", "thing"]) fun _ _ _ _ _ _ us hl => match us, hl with | [_, _], _ => rfl
  have mLT := PySem.W.mg_of X G adLT
  have FRm := fun_mk (st := sRoom) ldRm cdRm kdRm
  have bRm := FRm.binds (ps := ["net", "through"]) fun _ _ _ _ _ _ us hl => match us, hl with | [_, _], _ => rfl
  have mRm := PySem.W.mg_of X G adRm
  have FSd := fun_mk (st := sSide) ldSd cdSd kdSd
  have bSd := FSd.binds (ps := ["net", "through"]) fun _ _ _ _ _ _ us hl => match us, hl with | [_, _], _ => rfl
  have mSd := PySem.W.mg_of X G adSd
  have FWy := fun_mk (st := sWay) ldWy cdWy kdWy
  have bWy := FWy.binds (ps := ["net", "through"]) fun _ _ _ _ _ _ us hl => match us, hl with | [_, _], _ => rfl
  have mWy := PySem.W.mg_of X G adWy
  have FLd := fun_mk (st := sLed) ldLd cdLd kdLd
  have bLd := FLd.binds (ps := ["net", "through", "times"]) fun _ _ _ _ _ _ us hl => match us, hl with | [_, _, _], _ => rfl
  have mLd := PySem.W.mg_of X G adLd
  have FPt := fun_mk (st := sPart) ldPt cdPt kdPt
  have bPt := FPt.binds (ps := ["bag", "net"]) fun _ _ _ _ _ _ us hl => match us, hl with | [_, _], _ => rfl
  have mPt := PySem.W.mg_of X G adPt
  have FOo := fun_mk (st := sOutOf) ldOo cdOo kdOo
  have bOo := FOo.binds (ps := ["net", "side"]) fun _ _ _ _ _ _ us hl => match us, hl with | [_, _], _ => rfl
  have mOo := PySem.W.mg_of X G adOo
  have FRt := fun_mk (st := sIsSideRight) ldRt cdRt kdRt
  have bRt := FRt.binds (ps := ["net", "through", "value"]) fun _ _ _ _ _ _ us hl => match us, hl with | [_, _, _], _ => rfl
  have mRt := PySem.W.mg_of X G adRt
  have FGw := fun_mk (st := sGrows) ldGw cdGw kdGw
  have bGw := FGw.binds (ps := ["net", "through", "value"]) fun _ _ _ _ _ _ us hl => match us, hl with | [_, _, _], _ => rfl
  have mGw := PySem.W.mg_of X G adGw
  have FL := fun_mk (st := sLaw) ldL cdL kdL
  exact ⟨_, fun s v => .of_eq rfl, fun base _ _ =>
    have gII : FnOk l.prog w K mg base CX0 1 fII _ ["thing"] (spTells K isInt) := ok_isInteger FII T h_bool
    have gIC : FnOk l.prog w K mg base CX0 2 fIC _ ["thing"] (spTells K isCnt) := ok_isCount FIC gII FII mII bII
    have gSu : FnOk l.prog w K mg base CX0 1 fSu _ ["net", "through"] (spSur K) := ok_surplus FSu T
    have gVO : FnOk l.prog w K mg base CX0 2 fVO _ ["net", "through"] (spVal K) := ok_valueOf FVO gSu FSu mSu bSu
    have gIT : FnOk l.prog w K mg base CX0 3 fIT _ ["net", "thing"] (spThr K) := ok_isThrough FIT T gSu FSu mSu bSu gIC FIC mIC bIC
    have gR : FnOk l.prog w K mg base CX0 1 fR _ ["net", "through"] (spRooms K) := ok_rooms FR T
    have gE : FnOk l.prog w K mg base CX0 1 fE _ ["net"] (spEnds K) := ok_ends FE
    have gW : FnOk l.prog w K mg base CX0 1 fW _ ["net"] (spWays K) := ok_ways FW T h_enumerate
    have gLv : FnOk l.prog w K mg base CX0 1 fLv _ ["rooms", "ends", "ways"] (spLevels K) := ok_levels FLv T
    have gAd : FnOk l.prog w K mg base CX0 1 fAd _ ["rooms", "trail"] spAdd := ok_add FAd T
    have gFi : FnOk l.prog w K mg base CX0 2 fFi _ ["rooms", "ends", "ways", "levels"] spFill := ok_fill FFi T gAd FAd mAd bAd
    have gGn : FnOk l.prog w K mg base CX0 3 fGn _ ["net", "through"] (spGrown K) := ok_grown FGn T gR FR mR bR gE FE mE bE gW FW mW bW gLv FLv mLv bLv gFi FFi mFi bFi
    have gMo : FnOk l.prog w K mg base CX0 4 fMo _ ["net"] (spMost K) := ok_most FMo T gGn FGn mGn bGn
    have gSo : FnOk l.prog w K mg base CX0 2 fSo _ ["net", "through"] (spSource K) := ok_source FSo T h_enumerate gR FR mR bR gE FE mE bE gW FW mW bW gLv FLv mLv bLv
    have gT : FnOk l.prog w K mg base CX0 1 fT _ ["bag", "many"] spTake := ok_take FT T
    have gS : FnOk l.prog w K mg base CX0 2 fS _ ["bag", "things"] (spSome K) := ok_some FS T FT mT bT
    have gM : FnOk l.prog w K mg base CX0 2 fM _ ["bag", "things"] (spMixed K) := ok_mixed FM T FT mT bT
    have gA : GnOk l.prog w K mg base 1 fA _ ["found", "due"] (spAlike K) := ok_alike FA T
    have gWh : FnOk l.prog w K mg base CX0 1 fWh _ ["thing"] (spTells K isInt) := ok_whole FWh T h_bool
    have gNt : FnOk l.prog w K mg base CX0 4 fNt _ ["bag"] (spNet K) := ok_net FNt T FT mT bT FS mS bS FZ mZ bZ
    have gPl : FnOk l.prog w K mg base CX0 3 fPl _ ["bag", "net"] (spPlanted K) := ok_planted FPl T gS FS mS bS gM FM mM bM
    have gLV : FnOk l.prog w K mg base CX0 1 fLV _ ["net", "through"] (spVal K) := ok_lawValue FLV T
    have gLT : FnOk l.prog w K mg base CX0 2 fLT _ ["net", "thing"] (spThr K) := ok_lawThrough FLT T gWh FWh mWh bWh
    have gRm : FnOk l.prog w K mg base CX0 1 fRm _ ["net", "through"] (spRoom K) := ok_room FRm T h_enumerate
    have gSd : FnOk l.prog w K mg base CX0 2 fSd _ ["net", "through"] (spSideL K) := ok_sideL FSd T gRm FRm mRm bRm
    have gWy : FnOk l.prog w K mg base CX0 2 fWy _ ["net", "through"] (spWay K) := ok_way FWy T gRm FRm mRm bRm
    have gLd : FnOk l.prog w K mg base CX0 3 fLd _ ["net", "through", "times"] (spLed K) := ok_led FLd T gWy FWy mWy bWy
    have gPt : FnOk l.prog w K mg base CX0 3 fPt _ ["bag", "net"] (spPart K) := ok_part FPt T h_enumerate FT mT bT FS mS bS gWy FWy mWy bWy
    have gOo : FnOk l.prog w K mg base CX0 1 fOo _ ["net", "side"] (spOutOf K) := ok_outOf FOo T
    have gRt : GnOk l.prog w K mg base 3 fRt _ ["net", "through", "value"] (spRight K) := ok_right FRt T gSo FSo mSo bSo gSd FSd mSd bSd gOo FOo mOo bOo gA FA mA bA
    have gGw : GnOk l.prog w K mg base 4 fGw _ ["net", "through", "value"] (spGrows K) := ok_grows FGw T h_enumerate gGn FGn mGn bGn gLT FLT mLT bLT gLV FLV mLV bLV gRt FRt mRt bRt gA FA mA bA
    have D : D12 l.prog w K mg base fB fT fNt fPl fLd fLV fMo fLT fIT fVO fPt fRt fGw fA _ _ _ _ _ _ _ _ _ _ _ _ _ _ := { B := FB, mB := mB, bB := bB, gB := ok_bag FB T, T := FT, mT := mT, bT := bT, gT := gT, Nt := FNt, mNt := mNt, bNt := bNt, gNt := gNt, Pl := FPl, mPl := mPl, bPl := bPl, gPl := gPl, Ld := FLd, mLd := mLd, bLd := bLd, gLd := gLd, LV := FLV, mLV := mLV, bLV := bLV, gLV := gLV, Mo := FMo, mMo := mMo, bMo := bMo, gMo := gMo, LT := FLT, mLT := mLT, bLT := bLT, gLT := gLT, IT := FIT, mIT := mIT, bIT := bIT, gIT := gIT, VO := FVO, mVO := mVO, bVO := bVO, gVO := gVO, Pt := FPt, mPt := mPt, bPt := bPt, gPt := gPt, Rt := FRt, mRt := mRt, bRt := bRt, gRt := gRt, Gw := FGw, mGw := mGw, bGw := bGw, gGw := gGw, A := FA, mA := mA, bA := bA, gA := gA }
    ok_law FL T D⟩
end Y
open PySem PySem.W PyProof.Rows in
set_option maxRecDepth 100000 in
set_option maxHeartbeats 0 in
theorem PySem.Challenge.cw_nightstairs_k12_greatest_throughs_holds : PySem.Challenge.rw_nightstairs_k12_greatest_throughs.Holds := by
  w_on; o_law; k_head; (case hw => w_witness2)
  k_fill
  refine Ns.walk_ofG (l := PySem.Challenge.rw_nightstairs_k12_greatest_throughs) (k := 5) rfl rfl ⟨rfl, by decide, by decide⟩ (fun w h Y => PySem.W.kIn_of Y) ?F
  case F =>
    intro w mg fa h KX G hmg
    refine' Y.all_mk KX G hmg ?adII ?ldII ?cdII ?kdII ?adIC ?ldIC ?cdIC ?kdIC ?adMo ?ldMo ?cdMo ?kdMo ?adGn ?ldGn ?cdGn ?kdGn ?adVO ?ldVO ?cdVO ?kdVO ?adIT ?ldIT ?cdIT ?kdIT ?adSo ?ldSo ?cdSo ?kdSo ?adSu ?ldSu ?cdSu ?kdSu ?adR ?ldR ?cdR ?kdR ?adE ?ldE ?cdE ?kdE ?adW ?ldW ?cdW ?kdW ?adLv ?ldLv ?cdLv ?kdLv ?adFi ?ldFi ?cdFi ?kdFi ?adAd ?ldAd ?cdAd ?kdAd ?adB ?ldB ?cdB ?kdB ?adT ?ldT ?cdT ?kdT ?adS ?ldS ?cdS ?kdS ?adM ?ldM ?cdM ?kdM ?adA ?ldA ?cdA ?kdA ?adZ ?ldZ ?cdZ ?kdZ ?adWh ?ldWh ?cdWh ?kdWh ?adNt ?ldNt ?cdNt ?kdNt ?adPl ?ldPl ?cdPl ?kdPl ?adLV ?ldLV ?cdLV ?kdLV ?adLT ?ldLT ?cdLT ?kdLT ?adRm ?ldRm ?cdRm ?kdRm ?adSd ?ldSd ?cdSd ?kdSd ?adWy ?ldWy ?cdWy ?kdWy ?adLd ?ldLd ?cdLd ?kdLd ?adPt ?ldPt ?cdPt ?kdPt ?adOo ?ldOo ?cdOo ?kdOo ?adRt ?ldRt ?cdRt ?kdRt ?adGw ?ldGw ?cdGw ?kdGw ?adL ?ldL ?cdL ?kdL ?zabs ?zint ?zlen ?zrepr ?zisinstance ?zrange ?zsorted ?ztuple ?zlist ?zdict ?zset ?zsum ?zmax ?zmin ?zstr ?zall ?zany ?zzip ?zbool ?zenumerate
    (case adII => k_is)
    (case ldII => k_is)
    (case cdII => k_is)
    (case kdII => k_is)
    (case adIC => k_is)
    (case ldIC => k_is)
    (case cdIC => k_is)
    (case kdIC => k_is)
    (case adMo => k_is)
    (case ldMo => k_is)
    (case cdMo => k_is)
    (case kdMo => k_is)
    (case adGn => k_is)
    (case ldGn => k_is)
    (case cdGn => k_is)
    (case kdGn => k_is)
    (case adVO => k_is)
    (case ldVO => k_is)
    (case cdVO => k_is)
    (case kdVO => k_is)
    (case adIT => k_is)
    (case ldIT => k_is)
    (case cdIT => k_is)
    (case kdIT => k_is)
    (case adSo => k_is)
    (case ldSo => k_is)
    (case cdSo => k_is)
    (case kdSo => k_is)
    (case adSu => k_is)
    (case ldSu => k_is)
    (case cdSu => k_is)
    (case kdSu => k_is)
    (case adR => k_is)
    (case ldR => k_is)
    (case cdR => k_is)
    (case kdR => k_is)
    (case adE => k_is)
    (case ldE => k_is)
    (case cdE => k_is)
    (case kdE => k_is)
    (case adW => k_is)
    (case ldW => k_is)
    (case cdW => k_is)
    (case kdW => k_is)
    (case adLv => k_is)
    (case ldLv => k_is)
    (case cdLv => k_is)
    (case kdLv => k_is)
    (case adFi => k_is)
    (case ldFi => k_is)
    (case cdFi => k_is)
    (case kdFi => k_is)
    (case adAd => k_is)
    (case ldAd => k_is)
    (case cdAd => k_is)
    (case kdAd => k_is)
    (case adB => k_is)
    (case ldB => k_is)
    (case cdB => k_is)
    (case kdB => k_is)
    (case adT => k_is)
    (case ldT => k_is)
    (case cdT => k_is)
    (case kdT => k_is)
    (case adS => k_is)
    (case ldS => k_is)
    (case cdS => k_is)
    (case kdS => k_is)
    (case adM => k_is)
    (case ldM => k_is)
    (case cdM => k_is)
    (case kdM => k_is)
    (case adA => k_is)
    (case ldA => k_is)
    (case cdA => k_is)
    (case kdA => k_is)
    (case adZ => k_is)
    (case ldZ => k_is)
    (case cdZ => k_is)
    (case kdZ => k_is)
    (case adWh => k_is)
    (case ldWh => k_is)
    (case cdWh => k_is)
    (case kdWh => k_is)
    (case adNt => k_is)
    (case ldNt => k_is)
    (case cdNt => k_is)
    (case kdNt => k_is)
    (case adPl => k_is)
    (case ldPl => k_is)
    (case cdPl => k_is)
    (case kdPl => k_is)
    (case adLV => k_is)
    (case ldLV => k_is)
    (case cdLV => k_is)
    (case kdLV => k_is)
    (case adLT => k_is)
    (case ldLT => k_is)
    (case cdLT => k_is)
    (case kdLT => k_is)
    (case adRm => k_is)
    (case ldRm => k_is)
    (case cdRm => k_is)
    (case kdRm => k_is)
    (case adSd => k_is)
    (case ldSd => k_is)
    (case cdSd => k_is)
    (case kdSd => k_is)
    (case adWy => k_is)
    (case ldWy => k_is)
    (case cdWy => k_is)
    (case kdWy => k_is)
    (case adLd => k_is)
    (case ldLd => k_is)
    (case cdLd => k_is)
    (case kdLd => k_is)
    (case adPt => k_is)
    (case ldPt => k_is)
    (case cdPt => k_is)
    (case kdPt => k_is)
    (case adOo => k_is)
    (case ldOo => k_is)
    (case cdOo => k_is)
    (case kdOo => k_is)
    (case adRt => k_is)
    (case ldRt => k_is)
    (case cdRt => k_is)
    (case kdRt => k_is)
    (case adGw => k_is)
    (case ldGw => k_is)
    (case cdGw => k_is)
    (case kdGw => k_is)
    (case adL => k_is)
    (case ldL => k_is)
    (case cdL => k_is)
    (case kdL => k_is)
    (case zabs => k_is)
    (case zint => k_is)
    (case zlen => k_is)
    (case zrepr => k_is)
    (case zisinstance => k_is)
    (case zrange => k_is)
    (case zsorted => k_is)
    (case ztuple => k_is)
    (case zlist => k_is)
    (case zdict => k_is)
    (case zset => k_is)
    (case zsum => k_is)
    (case zmax => k_is)
    (case zmin => k_is)
    (case zstr => k_is)
    (case zall => k_is)
    (case zany => k_is)
    (case zzip => k_is)
    (case zbool => k_is)
    (case zenumerate => k_is)

