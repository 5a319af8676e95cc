import PyProof.Rows.All
import Wide.All
import OpenK.AllK
import Wide.FinOn
import PyProof.ReprRoads
import HandS.ForMost
import HandS.DeepEq
import HandS.Ends
import HandS.Wide
import HandS.Codes
import KE.KEqNest
import HandS.IsInst
import HandS.TupAny
import HandS.Conv
import KE.SortData
import HandS.DictTup
import PyProof.DictUpdate
import KE.KItemsList
import KE.KDictSum
import HandS.Strs
import HandS.SetFor
import HandS.SortInts
import KE.GoesMore
import KE.GoesEnum
import HandS.Iter
import HandS.Walk
import KE.GoesNew
import HandS.Zip
import HandS.Sort
import PyProof.SumWalkG
import HandS.TupMul
import HandS.More
import HandS.Text
import HandS.Style
import PySem.Challenge.RW_nightstairs_k11_throughs_judged
set_option Elab.async false
set_option linter.all false
set_option maxRecDepth 100000
set_option pp.maxSteps 150
set_option pp.deepTerms false
set_option maxHeartbeats 8000000
/-! NsA: data as a whole over the abstract heap; its repr; its ==. -/
namespace Ns
open PySem PySem.Spec PyProof.Rows L2

/-- a key as data -/
def kD : Key → PyData
  | .inl i => .int i
  | .inr x => .str x

mutual
/-- the value x is the datum d -/
inductive DatV (K : PySem.W.Frag) (H : Hp) : V → PyData → Prop
  | non : DatV K H .non .none
  | bl (b : Bool) : DatV K H (.bl b) (.bool b)
  | int (i : Int) : DatV K H (.int i) (.int i)
  | str (x : Str) : DatV K H (.str x) (.str x)
  | lst {a : Addr} {xs : List V} {ds : List PyData} : SqL K H a xs → DatA K H xs ds → DatV K H (.ref a) (.list ds)
  | tup {a : Addr} {xs : List V} {ds : List PyData} : SqT K H a xs → DatA K H xs ds → DatV K H (.ref a) (.tuple ds)
  | dic {a : Addr} {kvs : List (Key × V)} {ds : List PyData} : H a = some (.dK kvs) → DatA K H (kvs.map (·.2)) ds → DatV K H (.ref a) (.dict ((kvs.map fun p => kD p.1).zip ds))
inductive DatA (K : PySem.W.Frag) (H : Hp) : List V → List PyData → Prop
  | nil : DatA K H [] []
  | cons {x : V} {d : PyData} {xs : List V} {ds : List PyData} : DatV K H x d → DatA K H xs ds → DatA K H (x :: xs) (d :: ds)
end

theorem DatA.len {K : PySem.W.Frag} {H : Hp} : ∀ {xs : List V} {ds : List PyData}, DatA K H xs ds → xs.length = ds.length
  | _, _, .nil => rfl
  | _, _, .cons _ t => by rw [List.length_cons, List.length_cons, t.len]

mutual
/-- what stood stands: the datum too -/
theorem DatV.more {K : PySem.W.Frag} {H H' : Hp} (m : Same H H') : ∀ {x : V} {d : PyData}, DatV K H x d → DatV K H' x d
  | _, _, .non => .non
  | _, _, .bl b => .bl b
  | _, _, .int i => .int i
  | _, _, .str x => .str x
  | _, _, .lst h t => .lst (m.seq h) (t.more m)
  | _, _, .tup h t => .tup (h.elim (fun z => .inl (z.elim (fun z => .inl (m _ _ z)) fun ⟨o, z⟩ => .inr ⟨o, m _ _ z⟩)) .inr) (t.more m)
  | _, _, .dic h t => .dic (m _ _ h) (t.more m)
theorem DatA.more {K : PySem.W.Frag} {H H' : Hp} (m : Same H H') : ∀ {xs : List V} {ds : List PyData}, DatA K H xs ds → DatA K H' xs ds
  | _, _, .nil => .nil
  | _, _, .cons h t => .cons (h.more m) (t.more m)
end

theorem map_fst_zip {α β : Type} : ∀ {as : List α} {bs : List β}, as.length = bs.length → (as.zip bs).map (·.1) = as
  | [], [], _ => rfl
  | a :: as, b :: bs, h => by
    have h' : as.length = bs.length := by simpa using h
    simp [map_fst_zip h']
theorem map_snd_zip {α β : Type} : ∀ {as : List α} {bs : List β}, as.length = bs.length → (as.zip bs).map (·.2) = bs
  | [], [], _ => rfl
  | a :: as, b :: bs, h => by
    have h' : as.length = bs.length := by simpa using h
    simp [map_snd_zip h']

section
variable {X : Cx} {pins : List (Addr × Obj)} {σ : L2.St} {H : Hp} {s : Shared}

/-- the keys of a dict's entries are read -/
theorem keys_read {h : Heap} {P : Program} {w : World} : ∀ {es : List DictEntry} {vs : List (Key × Value)}, Pairs (mixKind P w) es vs → ReadsAll h (es.map (·.key)) (vs.map fun p => kD p.1) []
  | _, _, .nil => .nil
  | e :: es, kv :: vs, .cons h1 _ t => by
    have q : Reads h e.key (kD kv.1) [] := by
      rcases keyIs_shape (show keyIs kv.1 e.key = true from h1) with ⟨i, t, ek, ev⟩ | ⟨x, t, ek, ev⟩
      · rw [ek, ev]; exact .int i t
      · rw [ek, ev]; exact .str x t
    exact ReadsAll.cons (as := []) (bs := []) q (keys_read t)
theorem pairs_vals {P : Program} {w : World} : ∀ {es : List DictEntry} {vs : List (Key × Value)}, Pairs (mixKind P w) es vs → es.map (·.val) = vs.map (·.2)
  | _, _, .nil => rfl
  | e :: es, kv :: vs, .cons _ h2 t => by
    rw [List.map_cons, List.map_cons, h2, pairs_vals t]
theorem kv_fst : ∀ {ks : List (Key × V)} {vs : List (Key × Value)}, KV ks vs → vs.map (fun p => kD p.1) = ks.map fun p => kD p.1
  | _, _, .nil => rfl
  | _, _, .cons h t => by rw [List.map_cons, List.map_cons, h.1, kv_fst t]
theorem kv_vals : ∀ {ks : List (Key × V)} {vs : List (Key × Value)}, KV ks vs → Vals (ks.map (·.2)) (vs.map (·.2))
  | _, _, .nil => .nil
  | _, _, .cons h t => .cons h.2 (kv_vals t)

mutual
/-- what the heap reads of it -/
theorem reads_of (I : Inv X pins σ H s) : ∀ {x : V} {d : PyData}, DatV X.K H x d → ∀ {v : Value}, RelV x v → ∃ as, Reads s.heap v d as
  | _, _, .non, v, r => by cases (show v = Value.none from r); exact ⟨_, .none⟩
  | _, _, .bl b, v, r => by cases (show v = Value.bool b from r); exact ⟨_, .bool b⟩
  | _, _, .int i, v, r => by obtain ⟨t, rfl⟩ := (show ∃ t, v = Value.int i t from r); exact ⟨_, .int i t⟩
  | _, _, .str x, v, r => by obtain ⟨t, rfl⟩ := (show ∃ t, v = Value.str x t from r); exact ⟨_, .str x t⟩
  | _, _, .lst (a := a) h t, v, r => by
    cases (show v = Value.ref a from r)
    obtain ⟨its, rv, ⟨o, n, h1, h2, h3, h4⟩, _⟩ := I.list h
    obtain ⟨as, q⟩ := readsA_of I t rv
    exact ⟨_, .list h1 h2 (by first | exact h3 | exact h4) (by simpa using q)⟩
  | _, _, .tup (a := a) h t, v, r => by
    cases (show v = Value.ref a from r)
    obtain ⟨its, rv, ⟨o, h1, h2, n, h3⟩, _⟩ := I.tuple h
    obtain ⟨as, q⟩ := readsA_of I t rv
    exact ⟨_, .tuple h1 h2 h3 (by simpa using q)⟩
  | _, _, .dic (a := a) (kvs := kvs) (ds := ds) h t, v, r => by
    cases (show v = Value.ref a from r)
    obtain ⟨_, _, vs, rv, o, es, ep, h1, h2, h3, _, h5, _⟩ := (show ObjOk X.prog X.w H s.heap a (.dK kvs) from I.hok a _ h)
    obtain ⟨as, q⟩ := readsA_of I t (kv_vals rv)
    have hl : (kvs.map fun p => kD p.1).length = ds.length := by
      have z := t.len
      rw [List.length_map] at z ⊢
      exact z
    refine ⟨_, Reads.dict (as := []) (bs := as) h1 h2.1 h3 ?_ ?_⟩
    · rw [map_fst_zip hl, ← kv_fst rv]
      exact keys_read h5
    · rw [map_snd_zip hl, pairs_vals h5]
      exact q
theorem readsA_of (I : Inv X pins σ H s) : ∀ {xs : List V} {ds : List PyData}, DatA X.K H xs ds → ∀ {us : List Value}, Vals xs us → ∃ as, ReadsAll s.heap us ds as
  | _, _, .nil, us, r => by cases r; exact ⟨_, .nil⟩
  | _, _, .cons h t, us, r => by
    cases r with
    | cons r1 r2 =>
      obtain ⟨as, q⟩ := reads_of I h r1
      obtain ⟨bs, q2⟩ := readsA_of I t r2
      exact ⟨_, .cons q q2⟩
end
end
end Ns

/-! NsB: repr of data. -/
namespace Ns
open PySem PySem.Spec PyProof.Rows L2
section
variable {X : Cx} {pins : List (Addr × Obj)} {σ : L2.St} {H : Hp} {s : Shared}

theorem zip_kv : ∀ {as : List Key} {ds : List PyData}, as.length = ds.length → ((as.map kD).zip ds).map (·.1) = as.map kD := fun {as ds} h => map_fst_zip (by rw [List.length_map]; exact h)

theorem kv_of_zip {α : Type} {f : α → PyData} {l : List α} {ds : List PyData} (h : l.length = ds.length) : (((l.map f).zip ds).map (·.1) = l.map f) ∧ (((l.map f).zip ds).map (·.2) = ds) :=
  ⟨map_fst_zip (by rw [List.length_map]; exact h), map_snd_zip (by rw [List.length_map]; exact h)⟩

/-- keys show themselves, whatever stands -/
theorem keys_shown {P : Program} {w : World} {h : Heap} {n : Nat} : ∀ {es : List DictEntry} {vs : List (Key × Value)}, Pairs (mixKind P w) es vs → (∀ p ∈ vs, (kD p.1).showable = true ∧ (kD p.1).shown.length ≤ sizeLine) →
    ReprAllK P w [] h n (es.map (·.key)) (PyData.shownAll (vs.map fun p => kD p.1))
  | _, _, .nil, _ => by simp only [List.map_nil, PyData.shownAll]; exact .nil
  | e :: es, kv :: vs, .cons h1 _ t, hz => by
    rw [List.map_cons, List.map_cons, PyData.shownAll_cons]
    obtain ⟨z1, z2⟩ := hz kv List.mem_cons_self
    refine .cons (ReprK.of_is ?_ _ _ _) (keys_shown t fun p hp => hz p (List.mem_cons_of_mem _ hp))
    rcases keyIs_shape (show keyIs kv.1 e.key = true from h1) with ⟨i, tk, ek, ev⟩ | ⟨x, tk, ek, ev⟩
    · rw [ek] at z1 ⊢
      rw [ev]
      show ReprIs P w _ (PyData.int i).shown
      rw [PyData.shown_int]
      exact ReprIs.int tk (of_decide_eq_true (by simpa [kD, PyData.showable] using z1))
    · rw [ek] at z2 ⊢
      rw [ev]
      show ReprIs P w _ (PyData.str x).shown
      have z2' : (PyData.str x).shown.length ≤ sizeLine := z2
      rw [PyData.shown_str] at z2' ⊢
      exact ReprIs.str x tk z2'

theorem all_of : ∀ {l : List PyData}, PyData.showableAll l = true → ∀ d ∈ l, d.showable = true
  | [], _, _, hd => nomatch hd
  | x :: l, h, d, hd => by
    have h' : x.showable = true ∧ PyData.showableAll l = true := by simpa [PyData.showableAll] using h
    rcases List.mem_cons.mp hd with e | e
    · rw [e]; exact h'.1
    · exact all_of h'.2 d e
theorem shown_mem : ∀ {l : List PyData} {d : PyData}, d ∈ l → d.shown ∈ PyData.shownAll l
  | [], _, h => nomatch h
  | x :: l, d, h => by
    rw [PyData.shownAll_cons]
    rcases List.mem_cons.mp h with e | e
    · rw [e]; exact List.mem_cons_self
    · exact List.mem_cons_of_mem _ (shown_mem e)

mutual
theorem reprK_of (I : Inv X pins σ H s) : ∀ {x : V} {d : PyData}, DatV X.K H x d → ∀ {v : Value}, RelV x v → d.showable = true → d.shown.length ≤ sizeLine →
    ∃ bs, ReadAtMost s.heap d.depth bs ∧ ReprK X.prog X.w bs s.heap d.depth v d.shown
  | _, _, .non, v, r, _, _ => by
    cases (show v = Value.none from r)
    exact ⟨[], (fun _ z => nomatch z), by rw [PyData.shown_none]; exact .of_is ReprIs.none _ _ _⟩
  | _, _, .bl b, v, r, _, _ => by
    cases (show v = Value.bool b from r)
    refine ⟨[], (fun _ z => nomatch z), ?_⟩
    simp only [PyData.shown]
    exact .of_is (ReprIs.bool b) _ _ _
  | _, _, .int i, v, r, hs, _ => by
    obtain ⟨t, rfl⟩ := (show ∃ t, v = Value.int i t from r)
    refine ⟨[], (fun _ z => nomatch z), ?_⟩
    rw [PyData.shown_int]
    exact .of_is (ReprIs.int t (by simpa [PyData.showable] using hs)) _ _ _
  | _, _, .str x, v, r, _, hz => by
    obtain ⟨t, rfl⟩ := (show ∃ t, v = Value.str x t from r)
    refine ⟨[], (fun _ z => nomatch z), ?_⟩
    rw [PyData.shown_str] at hz ⊢
    exact .of_is (ReprIs.str x t hz) _ _ _
  | _, _, .lst (a := a) (ds := ds) h t, v, r, hs, hz => by
    cases (show v = Value.ref a from r)
    have hz1 : (listText (PyData.shownAll ds)).length ≤ sizeLine := by simpa only [PyData.shown] using hz
    have hs1 : PyData.showableAll ds = true := by simpa [PyData.showable] using hs
    obtain ⟨as, rd⟩ := reads_of I (.lst h t) (v := .ref a) rfl
    obtain ⟨its, rv, ⟨o, n, h1, h2, h3, h4⟩, _⟩ := I.list h
    have h5 : o.data = .seq its.toArray n := by first | exact h3 | exact h4
    obtain ⟨bs, hb, hk⟩ := reprA_of I t rv hs1 fun u hu => Nat.le_trans (listText_mem_le hu) hz1
    have dp : (PyData.list ds).depth = PyData.depthAll ds + 1 := by simp only [PyData.depth] <;> omega
    have hna : a ∉ bs := not_mem_of_deeper rd (by rw [dp]; omega) hb
    refine ⟨a :: bs, ReadAtMost.cons rd (by rw [dp]; omega) hb, ?_⟩
    rw [dp]
    simp only [PyData.shown]
    cases its with
    | nil =>
      have e0 : PyData.shownAll ds = [] := List.length_eq_zero_iff.mp (by simpa using hk.length_eq)
      rw [e0, listText_nil]
      exact ReprK.listEmpty h1 h2 h5
    | cons y l => exact ReprK.list h1 h2 h5 hna (by simpa using hk.length_eq) fun i u e => hk.item i u (by simpa using e)
  | _, _, .tup (a := a) (ds := ds) h t, v, r, hs, hz => by
    cases (show v = Value.ref a from r)
    have hz1 : (tupleText (PyData.shownAll ds)).length ≤ sizeLine := by simpa only [PyData.shown] using hz
    have hs1 : PyData.showableAll ds = true := by simpa [PyData.showable] using hs
    obtain ⟨as, rd⟩ := reads_of I (.tup h t) (v := .ref a) rfl
    obtain ⟨its, rv, ⟨o, h1, h2, n, h3⟩, _⟩ := I.tuple h
    obtain ⟨bs, hb, hk⟩ := reprA_of I t rv hs1 fun u hu => Nat.le_trans (tupleText_mem_le hu) hz1
    have dp : (PyData.tuple ds).depth = PyData.depthAll ds + 1 := by simp only [PyData.depth] <;> omega
    have hna : a ∉ bs := not_mem_of_deeper rd (by rw [dp]; omega) hb
    refine ⟨a :: bs, ReadAtMost.cons rd (by rw [dp]; omega) hb, ?_⟩
    rw [dp]
    simp only [PyData.shown]
    exact ReprK.tuple h1 h2 h3 hna (by simpa using hk)
  | _, _, .dic (a := a) (kvs := kvs) (ds := ds) h t, v, r, hs, hz => by
    cases (show v = Value.ref a from r)
    have hl : kvs.length = ds.length := by
      have z := t.len
      rw [List.length_map] at z
      exact z
    obtain ⟨e1, e2⟩ := kv_of_zip (f := fun p : Key × V => kD p.1) (l := kvs) hl
    have hz1 : (dictText (PyData.shownKv ((kvs.map fun p => kD p.1).zip ds))).length ≤ sizeLine := by simpa only [PyData.shown] using hz
    have hs1 : PyData.showableKv ((kvs.map fun p => kD p.1).zip ds) = true := by simpa [PyData.showable] using hs
    obtain ⟨s1, s2⟩ := PyData.showableKv_split _ hs1
    rw [e1] at s1
    rw [e2] at s2
    obtain ⟨as, rd⟩ := reads_of I (.dic h t) (v := .ref a) rfl
    obtain ⟨_, hsy, vs, rv, o, es, ep, h1, h2, h3, _, h5, _⟩ := (show ObjOk X.prog X.w H s.heap a (.dK kvs) from I.hok a _ h)
    have vl : ∀ u ∈ PyData.shownAll ds, u.length ≤ sizeLine := fun u hu => by
      obtain ⟨p, hp, hq⟩ := PyData.shownKv_val_le _ u (by rw [e2]; exact hu)
      exact Nat.le_trans hq (Nat.le_trans (dictText_mem_le hp) hz1)
    have kl : ∀ u ∈ PyData.shownAll (kvs.map fun p => kD p.1), u.length ≤ sizeLine := fun u hu => by
      obtain ⟨p, hp, hq⟩ := PyData.shownKv_key_le _ u (by rw [e1]; exact hu)
      exact Nat.le_trans hq (Nat.le_trans (dictText_mem_le hp) hz1)
    obtain ⟨bs, hb, hk⟩ := reprA_of I t (kv_vals rv) s2 vl
    have kk : ReprAllK X.prog X.w [] s.heap (PyData.depthKv ((kvs.map fun p => kD p.1).zip ds)) (es.toList.map (·.key)) (PyData.shownAll (kvs.map fun p => kD p.1)) := by
      rw [← kv_fst rv]
      refine keys_shown h5 fun p hp => ?_
      have hm : kD p.1 ∈ kvs.map fun p => kD p.1 := by
        rw [← kv_fst rv]
        exact List.mem_map.mpr ⟨p, hp, rfl⟩
      exact ⟨all_of s1 _ hm, kl _ (shown_mem hm)⟩
    have dv : PyData.depthAll ds ≤ PyData.depthKv ((kvs.map fun p => kD p.1).zip ds) := by
      have z := PyData.depthAll_vals_le ((kvs.map fun p => kD p.1).zip ds)
      rw [e2] at z
      exact z
    have hb2 : ReadAtMost s.heap (PyData.depthKv ((kvs.map fun p => kD p.1).zip ds)) bs := hb.mono dv
    have dp : (PyData.dict ((kvs.map fun p => kD p.1).zip ds)).depth = PyData.depthKv ((kvs.map fun p => kD p.1).zip ds) + 1 := by simp only [PyData.depth] <;> omega
    have hna : a ∉ bs := not_mem_of_deeper rd (by rw [dp]; omega) hb2
    refine ⟨a :: bs, ReadAtMost.cons rd (by rw [dp]; omega) hb2, ?_⟩
    rw [dp]
    simp only [PyData.shown, PyData.shownKv_eq]
    rw [e1, e2]
    refine ReprK.dict h1 h2.1 h3 hsy hna (ReprEntriesK.of_two es.toList _ _ (kk.more_le (fun b z => absurd z List.not_mem_nil) (Nat.le_refl _)) ?_)
    rw [pairs_vals h5]
    exact hk.more_le (fun b z => z) dv
theorem reprA_of (I : Inv X pins σ H s) : ∀ {xs : List V} {ds : List PyData}, DatA X.K H xs ds → ∀ {us : List Value}, Vals xs us → PyData.showableAll ds = true → (∀ t ∈ PyData.shownAll ds, t.length ≤ sizeLine) →
    ∃ bs, ReadAtMost s.heap (PyData.depthAll ds) bs ∧ ReprAllK X.prog X.w bs s.heap (PyData.depthAll ds) us (PyData.shownAll ds)
  | _, _, .nil, us, r, _, _ => by
    cases r
    exact ⟨[], (fun _ z => nomatch z), by simp only [PyData.shownAll]; exact .nil⟩
  | _, _, .cons (d := d) (ds := ds) h t, us, r, hs, hz => by
    cases r with
    | cons r1 r2 =>
      have hs1 : d.showable = true ∧ PyData.showableAll ds = true := by simpa [PyData.showableAll] using hs
      rw [PyData.shownAll_cons] at hz ⊢
      obtain ⟨b1, g1, k1⟩ := reprK_of I h r1 hs1.1 (hz _ List.mem_cons_self)
      obtain ⟨b2, g2, k2⟩ := reprA_of I t r2 hs1.2 fun u hu => hz u (List.mem_cons_of_mem _ hu)
      have dp : PyData.depthAll (d :: ds) = max d.depth (PyData.depthAll ds) := by simp only [PyData.depthAll]
      refine ⟨b1 ++ b2, ?_, ?_⟩
      · rw [dp]
        exact (g1.mono (Nat.le_max_left _ _)).append (g2.mono (Nat.le_max_right _ _))
      · rw [dp]
        exact .cons ((k1.more fun b z => List.mem_append_left _ z).level_le (Nat.le_max_left _ _)) (k2.more_le (fun b z => List.mem_append_right _ z) (Nat.le_max_right _ _))
end
theorem dict_entries (I : Inv X pins σ H s) {a : Addr} {kvs : List (Key × V)} {ds : List PyData} {vs : List (Key × Value)} {o : Obj} {es : Array DictEntry} {ep : Nat} (h : H a = some (.dK kvs)) (t : DatA X.K H (kvs.map (·.2)) ds)
    (hs : (PyData.dict ((kvs.map fun p => kD p.1).zip ds)).showable = true) (hz : (PyData.dict ((kvs.map fun p => kD p.1).zip ds)).shown.length ≤ sizeLine) (h1 : s.heap.get? a = some o) (h3 : o.data = .dict es ep)
    (h5 : Pairs (mixKind X.prog X.w) es.toList vs) (rv : KV kvs vs) :
    ∃ n bs, a ∉ bs ∧ ReprEntriesK X.prog X.w bs s.heap n es.toList (PyData.shownKv ((kvs.map fun p => kD p.1).zip ds)) ∧ n + 1 ≤ (PyData.dict ((kvs.map fun p => kD p.1).zip ds)).depth := by
  have hl : kvs.length = ds.length := by
    have z := t.len
    rw [List.length_map] at z
    exact z
  obtain ⟨e1, e2⟩ := kv_of_zip (f := fun p : Key × V => kD p.1) (l := kvs) hl
  have hz1 : (dictText (PyData.shownKv ((kvs.map fun p => kD p.1).zip ds))).length ≤ sizeLine := by simpa only [PyData.shown] using hz
  have hs1 : PyData.showableKv ((kvs.map fun p => kD p.1).zip ds) = true := by simpa [PyData.showable] using hs
  obtain ⟨s1, s2⟩ := PyData.showableKv_split _ hs1
  rw [e1] at s1
  rw [e2] at s2
  obtain ⟨as, rd⟩ := reads_of I (.dic h t) (v := .ref a) rfl
  obtain ⟨bs, hb, hk⟩ := reprA_of I t (kv_vals rv) s2 fun u hu => by
    obtain ⟨p, hp, hq⟩ := PyData.shownKv_val_le _ u (by rw [e2]; exact hu)
    exact Nat.le_trans hq (Nat.le_trans (dictText_mem_le hp) hz1)
  have kk : ReprAllK X.prog X.w [] s.heap (PyData.depthKv ((kvs.map fun p => kD p.1).zip ds)) (es.toList.map (·.key)) (PyData.shownAll (kvs.map fun p => kD p.1)) := by
    rw [← kv_fst rv]
    refine keys_shown h5 fun p hp => ?_
    have hm : kD p.1 ∈ kvs.map fun p => kD p.1 := by
      rw [← kv_fst rv]
      exact List.mem_map.mpr ⟨p, hp, rfl⟩
    obtain ⟨y, hy, hq⟩ := PyData.shownKv_key_le _ _ (by rw [e1]; exact shown_mem hm)
    exact ⟨all_of s1 _ hm, Nat.le_trans hq (Nat.le_trans (dictText_mem_le hy) hz1)⟩
  have dv : PyData.depthAll ds ≤ PyData.depthKv ((kvs.map fun p => kD p.1).zip ds) := by
    have z := PyData.depthAll_vals_le ((kvs.map fun p => kD p.1).zip ds)
    rw [e2] at z
    exact z
  have dp : (PyData.dict ((kvs.map fun p => kD p.1).zip ds)).depth = PyData.depthKv ((kvs.map fun p => kD p.1).zip ds) + 1 := by simp only [PyData.depth] <;> omega
  have hna : a ∉ bs := not_mem_of_deeper rd (by rw [dp]; omega) (hb.mono dv)
  refine ⟨_, bs, hna, ?_, Nat.le_of_eq dp.symm⟩
  rw [PyData.shownKv_eq, e1, e2]
  refine ReprEntriesK.of_two es.toList _ _ (kk.more_le (fun b z => absurd z List.not_mem_nil) (Nat.le_refl _)) ?_
  rw [pairs_vals h5]
  exact hk.more_le (fun b z => z) dv
end
end Ns

/-! NsC: the call of repr; == of equal data. -/
namespace Ns
open PySem PySem.Spec PyProof.Rows L2
section
variable {X : Cx} {pins : List (Addr × Obj)} {σ : L2.St} {H : Hp} {s : Shared}

theorem repr_run (I : Inv X pins σ H s) {A : Around} (hg : A.guards = some []) {x : V} {d : PyData} (D : DatV X.K H x d) {v : Value} (r : RelV x v) (hs : d.showable = true) (hz : d.shown.length ≤ sizeLine) (hu : A.units + (d.depth + 2) < cLine)
    {E Q : Value → Shared → Prop} (q : ∀ h' u tk, (∀ b o, s.heap.get? b = some o → h'.get? b = some o) → Q (.str d.shown u) { s with heap := h', toks := tk }) :
    wpAny (model X.prog X.w) A (call (.builtin "repr") [v]) Q E s := by
  cases D with
  | non =>
    cases (show v = Value.none from r)
    rw [PyData.shown_none] at q
    exact PySem.P.repr_of_none (q s.heap _ _ fun _ _ e => e)
  | bl b =>
    cases (show v = Value.bool b from r)
    rw [PyData.shown_bool] at q
    exact PySem.P.repr_of_bool (q s.heap _ _ fun _ _ e => e)
  | int i =>
    obtain ⟨t, rfl⟩ := (show ∃ t, v = Value.int i t from r)
    rw [PyData.shown_int] at q
    exact PySem.P.repr_of_int (of_decide_eq_true (by simpa [PyData.showable] using hs)) (q s.heap _ _ fun _ _ e => e)
  | str y =>
    obtain ⟨t, rfl⟩ := (show ∃ t, v = Value.str y t from r)
    rw [PyData.shown_str] at q hz
    exact PySem.P.repr_of_str (q s.heap _ _ fun _ _ e => e) hz
  | @lst a xs ds h t =>
    cases (show v = Value.ref a from r)
    have hz1 : (listText (PyData.shownAll ds)).length ≤ sizeLine := by simpa only [PyData.shown] using hz
    have hs1 : PyData.showableAll ds = true := by simpa [PyData.showable] using hs
    obtain ⟨as, rd⟩ := reads_of I (.lst h t) (v := .ref a) rfl
    obtain ⟨its, rv, ⟨o, n, h1, h2, h3, h4⟩, _⟩ := I.list h
    have h5 : o.data = .seq its.toArray n := by first | exact h3 | exact h4
    obtain ⟨bs, hb, hk⟩ := reprA_of I t rv hs1 fun u hu => Nat.le_trans (listText_mem_le hu) hz1
    have dp : (PyData.list ds).depth = PyData.depthAll ds + 1 := by simp only [PyData.depth] <;> omega
    have hna : a ∉ bs := not_mem_of_deeper rd (by rw [dp]; omega) hb
    simp only [PyData.shown] at q
    rw [dp] at hu
    refine call_repr_slot (by omega) ⟨o, h1, h2⟩ F.slot_list_repr.toG ?_
    cases its with
    | nil =>
      have e0 : PyData.shownAll ds = [] := List.length_eq_zero_iff.mp (by simpa using hk.length_eq)
      rw [e0, listText_nil] at q
      exact call_list_repr_empty ⟨o, h1, h2⟩ h1 h5 ⟨_, _, rfl, q s.heap _ _ fun _ _ e => e⟩
    | cons y l =>
      exact call_list_reprK (A := A.in1) (g := []) h1 h2 h5 hna (by simpa using hk.length_eq) (fun i u e => hk.item i u (by simpa using e)) hg (fun b _ => Clear.nil b) (by show A.units + 1 + _ < _; omega) (fun _ _ e => e)
        (fun h' u tk k => ⟨_, _, rfl, q h' u tk k⟩) hz1
  | @tup a xs ds h t =>
    cases (show v = Value.ref a from r)
    have hz1 : (tupleText (PyData.shownAll ds)).length ≤ sizeLine := by simpa only [PyData.shown] using hz
    have hs1 : PyData.showableAll ds = true := by simpa [PyData.showable] using hs
    obtain ⟨as, rd⟩ := reads_of I (.tup h t) (v := .ref a) rfl
    obtain ⟨its, rv, ⟨o, h1, h2, n, h3⟩, _⟩ := I.tuple h
    obtain ⟨bs, hb, hk⟩ := reprA_of I t rv hs1 fun u hu => Nat.le_trans (tupleText_mem_le hu) hz1
    have dp : (PyData.tuple ds).depth = PyData.depthAll ds + 1 := by simp only [PyData.depth] <;> omega
    have hna : a ∉ bs := not_mem_of_deeper rd (by rw [dp]; omega) hb
    simp only [PyData.shown] at q
    rw [dp] at hu
    refine call_repr_slot (by omega) ⟨o, h1, h2⟩ F.slot_tuple_repr ?_
    exact call_tuple_reprK (A := A.in1) (g := []) h1 h2 h3 hna (by simpa using hk) hg (fun b _ => Clear.nil b) (by show A.units + 1 + _ < _; omega) (fun _ _ e => e)
      (fun h' u tk k => ⟨_, _, rfl, q h' u tk k⟩) hz1
  | @dic a kvs ds h t =>
    cases (show v = Value.ref a from r)
    obtain ⟨_, hsy, vs, rv, o, es, ep, h1, h2, h3, _, h5, _⟩ := (show ObjOk X.prog X.w H s.heap a (.dK kvs) from I.hok a _ h)
    obtain ⟨n, bs, hna, hE, hd⟩ := dict_entries I h t hs hz h1 h3 h5 rv
    simp only [PyData.shown] at q hz
    refine call_repr_slot (by omega) ⟨o, h1, h2.1⟩ F.slot_dict_repr ?_
    exact call_dict_reprK (A := A.in1) (g := []) h1 h2.1 h3 hsy hna hE hg (fun b _ => Clear.nil b) (by show A.units + 1 + _ < _; omega) (fun _ _ e => e)
      (fun h' u tk k => ⟨_, _, rfl, q h' u tk k⟩) hz

/-- repr(x), x data -/
def rRep (K : PySem.W.Frag) : List V → Hp → VK → Prop := fun xs H Q => ∃ x d, xs = [x] ∧ DatV K H x d ∧ d.showable = true ∧ d.shown.length ≤ sizeLine ∧ d.depth ≤ 60 ∧ Q (.str d.shown) H
theorem call_reprD (hg : X.A.guards = some []) (hu : X.A.units + 64 < cLine) : CallR X (.builtin "repr") (rRep X.K) := by
  intro pins s σ H xs us Q I r h
  obtain ⟨x, d, rfl, D, hs, hz, hd, q⟩ := h
  obtain ⟨u, rfl, r1⟩ := vals1 r
  exact repr_run I hg D r1 hs hz (by omega) fun h' u tk k => ⟨.str d.shown, H, I.kept (t' := tk) k, ⟨u, rfl⟩, q⟩
end
end Ns

/-! NsG: defs that are called where no repr is under way (the guards are known to be none); xs[i] op= e of a list; the end of a law over such a def. -/
namespace Ns
open PySem PySem.Spec PyProof.Rows L2

/-- as FnOk, for calls with no guard around -/
structure GnOk (P : Program) (w : World) (K : PySem.W.Frag) (mg : Str → Option Value) (base : Heap) (k : Nat) (f : Addr) (fd : FuncData) (ps : List Str) (sp : Sp) : Prop where
  glen : ∀ as H Q E, sp as H Q E → as.length = ps.length
  grun : ∀ (A : Around) (outer : List Env) (s : Shared) (H : Hp) (args : Args) (us : List Value) (as : List V) (Q : VK) (E : XK), Room k A → A.guards = some [] → Env0 P w K mg base A outer s H →
    BindsTo s fd args (ps.zip us) → Vals as us → sp as H Q E → codeAny (model P w) A (.call (.ref f) args) (CR CX0 outer P w H s Q E) s
theorem FnOk.guarded {P : Program} {w : World} {K : PySem.W.Frag} {mg : Str → Option Value} {base : Heap} {k : Nat} {f : Addr} {fd : FuncData} {ps : List Str} {sp : Sp} (F : FnOk P w K mg base CX0 k f fd ps sp) : GnOk P w K mg base k f fd ps sp :=
  ⟨F.len, fun A outer s H args us as Q E hr _ e b v h => F.run A outer s H args us as Q E hr e b v h⟩

section
variable {X : Cx} {k : Nat} {f : Addr} {fd : FuncData} {ps : List Str} {sp : Sp} {x : Str} {p pos : Pos} {e : Expr} {es : List Expr} {t : TA}
theorem run_g {pins : List (Addr × Obj)} {σ : L2.St} {H : Hp} {s : Shared} {Q : VK} {us : List Value} {as : List V} (F : GnOk X.prog X.w X.K X.mg X.base k f fd ps sp) (hr : Room k X.A) (hgd : X.A.guards = some []) (hb : Binds X.K fd ps [])
    (I : Inv X pins σ H s) (r : Vals as us) (h : sp as H Q E0) : wpAny (model X.prog X.w) X.A (call (.ref f) us) (EP X pins σ Q) X.xe s := by
  have hl : us.length = ps.length := r.length.symm.trans (F.glen _ _ _ _ h)
  have bb := hb s us I.kIn (by rw [List.append_nil]; exact hl)
  rw [List.append_nil] at bb
  refine wpAny_call (codeAny_mono (F.grun X.A X.stack s H ⟨us, []⟩ us as Q E0 hr hgd I.env0 bb r h) fun z s' hz => ?_)
  match z, hz with
  | .error _, hz => exact (show False from hz).elim
  | .ok (.ret u), hz => exact I.after hz
  | .ok .next, hz => exact (show False from hz).elim
  | .ok .brk, hz => exact (show False from hz).elim
  | .ok .cont, hz => exact (show False from hz).elim
theorem pe_callG (F : GnOk X.prog X.w X.K X.mg X.base k f fd ps sp) (hr : Room k X.A) (hgd : X.A.guards = some []) (hg : Gl X x) (hm : X.mg x = some (.ref f)) (hk : PySem.W.keepIn X.K (.ref f) = true) (hb : Binds X.K fd ps [])
    (ha : PA X (e :: es) t) (hdb : (x == ("__debug__" : Str)) = false := by decide) (he : starEach (e :: es) X.env = (false, eval e X.env) :: starEach es X.env := by rfl) (hpl : (backTo pos (starEach es X.env)).any (·.1) = false := by rfl) :
    PE X (.Call (.Name x p) (e :: es) [] pos) (tCall sp [] E0 t) :=
  ⟨fun pins s σ H Q I h => wpAny_Call_Name_kw (ld_glob I hg hm (PySem.W.callWith_K (h₀ := X.base) I.ok.mod.kin hk (thn (ha.run pos pins s σ H _ I h) fun us s1 ⟨as, H1, I1, r, q⟩ => ⟨I1.kIn, run_g F hr hgd hb I1 r (by have q' : sp (as ++ []) H1 Q E0 := q; rw [List.append_nil] at q'; exact q')⟩) he hpl) hdb)⟩
end

/-- the def by its body: the guards are known within -/
theorem Fun.okG {P : Program} {w : World} {K : PySem.W.Frag} {mg : Str → Option Value} {base : Heap} {x qual : Str} {st : Stmt} {f : Addr} {fd : FuncData} {N ps : List Str} {k : Nat} {sp : Sp} (F : Fun K x qual st f fd) (S : FnScope N ps (defScope st))
    (len : ∀ as H Q E, sp as H Q E → as.length = ps.length)
    (body : ∀ (cdv : Value) (A : Around) (outer : List Env) (s : Shared) (H : Hp) (as : List V) (Q : VK) (E : XK), Room k (A.deeper (envOfC qual (defScope st) s.heap.objs.size f cdv)) → (A.deeper (envOfC qual (defScope st) s.heap.objs.size f cdv)).guards = some [] → sp as H Q E →
      ∃ t, PSs (cxOf CX0 P w K mg base N qual (defScope st) f cdv A outer s H E).nox (defBody st) t ∧ t { nx := fun _ H' => Q .non H', rt := Q } (start N as) H) : GnOk P w K mg base (k + 1) f fd ps sp := by
  obtain ⟨oc, od, kV, doc, pm, an, cdv, ct, osl, rfl, lk, hcd⟩ := F.ex
  refine ⟨len, fun A outer s H args us as Q E hr hgd e0 hb r hsp => ?_⟩
  have old : ∀ b o, base.get? b = some o → s.heap.get? b = some o := fun b o z => (e0.bs b o z).1
  have kin : K.In s.heap := e0.mod.kin.keeps old
  refine codeAny_call_function hr.depth (kin _ _ lk) rfl S.co S.gen rfl (PySem.W.codeRec_of kin hcd) (hb _ _ _ _ (wpAny_newFunctionEnv_cells S.kind (fun y hy => ?_) fun env he s1 x => ?_))
  · have hm := (List.of_mem_zip (show (y.1, y.2) ∈ ps.zip us from hy)).1
    exact (S.par y.1 hm).imp (fun z => z) fun z => ⟨z, PySem.W.cellsFrom_some _ _ _ (.inl z)⟩
  · cases he
    refine ⟨(e0.mod.nolimit.keeps old).keeps x.toInCall.keep, codeAny_func ?_⟩
    obtain ⟨t, ht, hq⟩ := body cdv A outer s H as Q E (hr.deeper _) hgd hsp
    have J := inv_start (CX := CX0) (E := E) S hr.hd e0 (len _ _ _ _ hsp) r x
    refine wpAny_mono (ht.nox.run [] s1 (start N as) H _ J hq) (fun fl s' hs => ?_) fun e s' hs => hs
    match fl, hs with
    | .ret u, ⟨v, _, H', J', rv, q⟩ => exact ⟨v, H', J'.os, J'.bare, J'.base, J'.hok, rv, q⟩
    | .next, ⟨_, H', J', q⟩ => exact ⟨V.non, H', J'.os, J'.bare, J'.base, J'.hok, rfl, q⟩
    | .brk, ⟨_, _, _, q⟩ => exact (show False from q).elim
    | .cont, ⟨_, _, _, q⟩ => exact (show False from q).elim
end Ns

/-! NsH: the end of a law over a guarded def; xs[i] op= e. -/
namespace Ns
open PySem PySem.Spec PyProof.Rows L2

/-- what a law's def promises: of a list of ints, True -/
def spTop (K : PySem.W.Frag) : Sp := fun as H Q _ => ∃ (a : Addr) (ns : List Int), as = [.ref a] ∧ SqL K H a (ns.map V.int) ∧ ns.length ≤ 63 ∧ ∀ H', Q (.bl true) H'

/-- the abstract heap at the entry: the script at a alone, unless it is a written object -/
theorem entry_core {P : Program} {w : World} {K : PySem.W.Frag} {mg mb : Str → Option Value} {k : Nat} {fa a : Addr} {fd : FuncData} {s : Shared} {vs : List Value} {ns : List Int} (kin : K.In s.heap) (gl : s.heap.Ns mainGlobals mg)
    (bl : s.heap.Ns builtinsNs mb) (bb : ∀ x : Str, x ≠ "__name__" → mb x = bootBuiltins x) (nl : s.heap.NoLimit) (ge : s.gens = #[]) (sc : s.heap.get? a = some { cls := .type "list", data := .seq vs.toArray }) (l63 : ns.length ≤ 63)
    (hr : Room k callerA) (F : ∀ base : Heap, K.In base → base.Ns mainGlobals mg → GnOk P w K mg base k fa fd ["script"] (spTop K)) (bd : ∀ (z : Shared) (u : Value), BindsTo z fd ⟨[u], []⟩ [("script", u)])
    (H : Hp) (only : ∀ b o, H b = some o → b = a ∧ ∃ ob xs, o = .frz ob (.lst xs)) (free : H a ≠ none → K.lookup a = none) (hok : HOk P w H s.heap) (sq : SqL K H a (ns.map V.int)) :
    codeAny (model P w) callerA (.call (.ref fa) ⟨[.ref a], []⟩) (fun r s' => r = .ok (.ret (.bool true)) ∧ OldK s.heap s'.heap ∧ s'.os = s.os ∧ AllBare s'.gens) s := by
  have noD : ∀ {b : Addr} {o : Obj} {es : Array DictEntry} {n : Nat}, s.heap.get? b = some o → o.data = .dict es n → H b = none := by
    intro b o es n e d
    cases q : H b with
    | none => rfl
    | some u =>
      obtain ⟨rfl, _⟩ := only b u q
      rw [sc] at e
      cases e
      cases d
  have ns' : ∀ {b : Addr} {m : Str → Option Value}, s.heap.Ns b m → (hidT s.heap H).Ns b m := by
    rintro b m ⟨o, es, n, e, d, r⟩
    exact ⟨o, es, n, hidT_get e (noD e d), d, r⟩
  have kin' : K.In (hidT s.heap H) := by
    intro b o e
    refine hidT_get (kin b o e) ?_
    cases q : H b with
    | none => rfl
    | some u =>
      obtain ⟨rfl, _⟩ := only b u q
      rw [free (by rw [q]; exact fun z => nomatch z)] at e
      cases e
  have md : Mod K mg (hidT s.heap H) := by
    obtain ⟨mc, n1, n2⟩ := nl
    exact { kin := kin', glob := ns' gl, blt := ⟨mb, ns' bl, bb⟩, nolimit := ⟨mc, ns' n1, n2⟩ }
  have e0 : Env0 P w K mg (hidT s.heap H) callerA [] s H :=
    { frames := rfl, mod := md, bs := fun b o e => of_hidT e, bsz := Nat.le_of_eq (hidT_size _ _), funs := trivial, frf := fun b hb => (List.not_mem_nil hb).elim, hok := hok, bare := .of_eq ge }
  have run := (F _ kin' (ns' gl)).grun callerA [] s H ⟨[.ref a], []⟩ [.ref a] [.ref a] (fun v _ => v = .bl true) E0 hr rfl e0 (bd s (.ref a)) (.cons rfl .nil) ⟨a, ns, rfl, sq, l63, fun _ => rfl⟩
  refine codeAny_mono run fun r s' h => ?_
  match r, h with
  | .error _, h => exact (show False from h).elim
  | .ok .next, h => exact (show False from h).elim
  | .ok .brk, h => exact (show False from h).elim
  | .ok .cont, h => exact (show False from h).elim
  | .ok (.ret u), ⟨v, H', o', bare, un, hok', rv, q⟩ =>
    have q' : v = .bl true := q
    rw [q'] at rv
    have eu : u = Value.bool true := rv
    rw [eu]
    refine ⟨rfl, OldK.of_keep fun b o e => ?_, o', bare⟩
    cases z : H b with
    | none => exact un.keep b o e z (fun y => List.not_mem_nil y) List.not_mem_nil
    | some u' =>
      obtain ⟨_, ob, xs, rfl⟩ := only b u' z
      have h1 : s.heap.get? b = some ob := (hok b _ z).1
      have h2 : s'.heap.get? b = some ob := (hok' b _ (un.frzs b ob _ z)).1
      rw [e] at h1
      cases h1
      exact h2

theorem walk_ofG {l : PySem.W.OpenLaw} {k : Nat} {q : Program} {loose : List Str} {XP : (Str → Option Value) → Heap → Prop} {YP : World → Heap → Prop} {d : DefRec} {K : Params → PySem.W.Frag} (hn : l.most = some 63) (hdf : d.params.defaults = []) (hr : Room k callerA)
    (hY : ∀ (w : World) (h : Heap), YP w h → (K w.params).In h)
    (F : ∀ (w : World) (mg : Str → Option Value) (fa : Addr) (h : Heap), (K w.params).In h → h.Ns mainGlobals mg → mg d.name = some (.ref fa) →
      ∃ fd : FuncData, (∀ (z : Shared) (u : Value), BindsTo z fd ⟨[u], []⟩ [("script", u)]) ∧ ∀ base : Heap, (K w.params).In base → base.Ns mainGlobals mg → GnOk l.prog w (K w.params) mg base k fa fd ["script"] (spTop (K w.params))) :
    PySem.W.WalkO q loose XP YP l.row.toRowW d [] (fun f vs => PySem.call f vs) := by
  refine Att.attach_call hn hdf ?_
  intro w s0 s mg mb fa o pm cd doc a vs ns G Y ho hd hcd hmg hobj hints hlen hg
  obtain ⟨fd, bd, hF⟩ := F w mg fa _ (hY w _ Y) G.T.g hmg
  have rv := vals_ints hints
  have hz : (ns.map V.int).length ≤ sizeLine := by
    rw [List.length_map]
    exact Nat.le_trans hlen (by decide)
  have go := entry_core (P := l.prog) (w := w) (a := a) (ns := ns) (hY w _ Y) G.T.g G.T.b G.T.builtins G.T.nolimit hg hobj hlen hr hF bd
  cases hk : (K w.params).lookup a with
  | some ok =>
    have e := hY w _ Y a ok hk
    rw [hobj] at e
    cases e
    refine go (fun _ => none) (fun b o z => nomatch z) (fun z => absurd rfl z) (fun b u z => nomatch z) (.inr ⟨_, vs.toArray, _, hk, rfl, rfl, rfl, ?_, by simpa using rv⟩)
    rw [List.size_toArray, ← rv.length]
    exact hz
  | none =>
    have at_a : (fun b => if b = a then some (HO.frz { cls := .type "list", data := .seq vs.toArray } (.lst (ns.map V.int))) else none) a = some (HO.frz { cls := .type "list", data := .seq vs.toArray } (.lst (ns.map V.int))) := if_pos rfl
    have un_a : ∀ (b : Addr) (u : HO), (if b = a then some (HO.frz { cls := .type "list", data := .seq vs.toArray } (.lst (ns.map V.int))) else none) = some u → b = a ∧ u = HO.frz { cls := .type "list", data := .seq vs.toArray } (.lst (ns.map V.int)) := by
      intro b u z
      by_cases hb : b = a
      · rw [if_pos hb] at z
        exact ⟨hb, (Option.some.inj z).symm⟩
      · rw [if_neg hb] at z
        cases z
    refine go (fun b => if b = a then some (HO.frz { cls := .type "list", data := .seq vs.toArray } (.lst (ns.map V.int))) else none) (fun b u z => ?_) (fun _ => hk) (fun b u z => ?_) (.inl (.inr ⟨_, at_a⟩))
    · obtain ⟨e1, e2⟩ := un_a b u z
      exact ⟨e1, _, _, e2⟩
    · obtain ⟨e1, e2⟩ := un_a b u z
      subst e1
      subst e2
      exact ⟨hobj, hz, vs, _, rv, hobj⟩

/-- o[i] of a list, by values -/
theorem get_list {X : Cx} : PGet X (rIxL X.K) := by
  intro pins s σ H o i ov iv Q I ro ri h
  obtain ⟨p, xs, j, v, rfl, rfl, hS, hat, q⟩ := h
  cases (show ov = Value.ref p from ro)
  obtain ⟨t, rfl⟩ := (show ∃ t, iv = Value.int j t from ri)
  obtain ⟨its, rv, pl, hz⟩ := I.list hS
  obtain ⟨n, h1, h2, h3, h4, h5⟩ := atI_get hat
  obtain ⟨u, eu, ru⟩ := rv.get h2
  have ln := rv.length
  have l63 := line63
  have done : EP X pins σ Q u s := ⟨v, H, I, ru, q⟩
  rcases Int.lt_or_le j 0 with c | c
  · refine wpAny_getItem_list_neg pl.isList (by omega) (by rw [List.size_toArray]; omega) (by omega) ?_ done
    have e : (j + (its.toArray.size : Int)).toNat = n := by
      rw [seqIndex_neg (by omega) h4] at h1
      rw [List.size_toArray, ← ln]
      exact Option.some.inj h1
    rw [e]
    simpa using eu
  · refine wpAny_getItem_list pl.isList c (by omega) ?_ done
    have e : j.toNat = n := by
      rw [seqIndex_of c h5] at h1
      exact Option.some.inj h1
    rw [e]
    simpa using eu
end Ns

/-! the tops of the text -/
namespace Y
open PySem PySem.Spec PyProof.Rows L2 Ns
def top (i : Nat) : Stmt := PySem.Challenge.pw_nightstairs_k11_throughs_judged.main.body.getD i (.Pass ⟨0, 0, 0, 0⟩)
abbrev sIsInteger : Stmt := top 1
abbrev sIsCount : Stmt := top 2
abbrev sValueOf : Stmt := top 4
abbrev sIsThrough : Stmt := top 5
abbrev sSurplus : Stmt := top 6
abbrev sBag : Stmt := top 8
abbrev sTake : Stmt := top 9
abbrev sSome : Stmt := top 10
abbrev sAlike : Stmt := top 11
abbrev sSize : Stmt := top 12
abbrev sWhole : Stmt := top 13
abbrev sOdd : Stmt := top 14
abbrev sBentWord : Stmt := top 15
abbrev sBent : Stmt := top 16
abbrev sNet : Stmt := top 17
abbrev sValue : Stmt := top 18
abbrev sLIsThrough : Stmt := top 19
abbrev sRoom : Stmt := top 20
abbrev sSide : Stmt := top 21
abbrev sWay : Stmt := top 22
abbrev sLed : Stmt := top 23
abbrev sPart : Stmt := top 24
abbrev sNear : Stmt := top 25
abbrev sLaw : Stmt := top 26
end Y

/-! the bag over the heap -/
namespace Y
open PySem PySem.Spec PyProof.Rows L2 Ns
/-- the heap but for b -/
def wo (H : Hp) (b : Addr) : Hp := fun c => if c = b then none else H c
theorem wo_ne {H : Hp} {b c : Addr} (h : c ≠ b) : wo H b c = H c := if_neg h
theorem wo_at {H : Hp} {b : Addr} : wo H b b = none := if_pos rfl
theorem wo_of {H : Hp} {b c : Addr} {o : HO} (h : wo H b c = some o) : c ≠ b ∧ H c = some o := by
  by_cases e : c = b
  · rw [e, wo_at] at h
    cases h
  · exact ⟨e, (wo_ne e).symm.trans h⟩
theorem wo_sub (H : Hp) (b : Addr) : Same (wo H b) H := fun _ _ h => (wo_of h).2
/-- all but b stands; b keeps its row of numbers -/
def Sb (b : Addr) (H H' : Hp) : Prop := Same (wo H b) (wo H' b) ∧ ∀ (n0 n1 n2 : Int) (l : Addr), H b = some (.lst [.int n0, .int n1, .int n2, .ref l]) → ∃ m0 m1 m2 : Int, H' b = some (.lst [.int m0, .int m1, .int m2, .ref l])
theorem Sb.refl (b : Addr) (H : Hp) : Sb b H H := ⟨Same.refl _, fun n0 n1 n2 _ h => ⟨n0, n1, n2, h⟩⟩
theorem Sb.trans {b : Addr} {H H1 H2 : Hp} (h : Sb b H H1) (g : Sb b H1 H2) : Sb b H H2 := ⟨Same.trans h.1 g.1, fun n0 n1 n2 l e => by
  obtain ⟨m0, m1, m2, e1⟩ := h.2 n0 n1 n2 l e
  exact g.2 _ _ _ _ e1⟩
theorem Sb.get {b c : Addr} {H H' : Hp} {o : HO} (h : Sb b H H') (e : H c = some o) (n : c ≠ b) : H' c = some o := (wo_of (h.1 c o ((wo_ne n).trans e))).2
theorem Sb.new {b p : Addr} {H H' : Hp} {o : HO} (h : Sb b H H') (n : H' p = none) : Sb b H (upd H' p o) := ⟨fun c u e => by
  have q := h.1 c u e
  obtain ⟨q1, q2⟩ := wo_of q
  rw [wo_ne q1, upd_ne (ne_of_none q2 n)]
  exact q2, fun n0 n1 n2 l e => by
  obtain ⟨m0, m1, m2, e1⟩ := h.2 n0 n1 n2 l e
  exact ⟨m0, m1, m2, by rw [upd_ne (ne_of_none e1 n)]; exact e1⟩⟩
theorem Sb.put {b l : Addr} {H H' : Hp} {n0 n1 n2 m0 m1 m2 : Int} (h : Sb b H H') (e0 : H' b = some (.lst [.int n0, .int n1, .int n2, .ref l])) : Sb b H (upd H' b (.lst [.int m0, .int m1, .int m2, .ref l])) := ⟨fun c u e => by
  obtain ⟨q1, q2⟩ := wo_of (h.1 c u e)
  rw [wo_ne q1, upd_ne q1]
  exact q2, fun k0 k1 k2 l' e => by
  obtain ⟨j0, j1, j2, e1⟩ := h.2 _ _ _ _ e
  rw [e0] at e1
  cases e1
  exact ⟨m0, m1, m2, upd_same⟩⟩
theorem Sb.same {b : Addr} {H H' H2 : Hp} (h : Sb b H H') (m : Same H' H2) : Sb b H H2 := ⟨fun c u e => by
  obtain ⟨q1, q2⟩ := wo_of (h.1 c u e)
  rw [wo_ne q1]
  exact m _ _ q2, fun n0 n1 n2 l e => by
  obtain ⟨m0, m1, m2, e1⟩ := h.2 n0 n1 n2 l e
  exact ⟨m0, m1, m2, m _ _ e1⟩⟩
/-- the bag at b -/
def Bag (H : Hp) (b : Addr) : Prop := ∃ (n0 n1 n2 : Int) (l : Addr) (ns : List Int), H b = some (.lst [.int n0, .int n1, .int n2, .ref l]) ∧ H l = some (.lst (ns.map V.int)) ∧ l ≠ b ∧ 0 ≤ n0 ∧ 0 ≤ n1 ∧ n1 < 2147483647 ∧ 0 ≤ n2 ∧ (∀ n ∈ ns, 0 ≤ n) ∧ ns.length ≤ 63
theorem Bag.new {H : Hp} {b p : Addr} {o : HO} (h : Bag H b) (n : H p = none) : Bag (upd H p o) b := by
  obtain ⟨n0, n1, n2, l, ns, h1, h2, r⟩ := h
  exact ⟨n0, n1, n2, l, ns, by rw [upd_ne (ne_of_none h1 n)]; exact h1, by rw [upd_ne (ne_of_none h2 n)]; exact h2, r⟩
theorem Bag.keep {H H' : Hp} {b : Addr} (h : Bag H b) (m : Same H H') : Bag H' b := by
  obtain ⟨n0, n1, n2, l, ns, h1, h2, r⟩ := h
  exact ⟨n0, n1, n2, l, ns, m _ _ h1, m _ _ h2, r⟩
theorem Bag.ne {H : Hp} {b p : Addr} (h : Bag H b) (n : H p = none) : p ≠ b := fun e => by
  obtain ⟨_, _, _, _, _, h1, _⟩ := h
  rw [e, h1] at n
  cases n
/-- a place that was free at first is written: the bag stands -/
theorem Bag.wr {H H' : Hp} {b p : Addr} {o : HO} (h : Bag H b) (n : H p = none) (s : Sb b H H') (g : Bag H' b) : Bag (upd H' p o) b := by
  obtain ⟨n0, n1, n2, l, ns, h1, h2, h3, _⟩ := id h
  obtain ⟨k0, k1, k2, l', ns', g1, g2, r⟩ := g
  obtain ⟨m0, m1, m2, e⟩ := s.2 _ _ _ _ h1
  rw [g1] at e
  cases e
  exact ⟨_, _, _, _, ns', by rw [upd_ne (h.ne n).symm]; exact g1, by rw [upd_ne (ne_of_none h2 n)]; exact g2, r⟩
theorem Sb.wr {b p : Addr} {H H' : Hp} {o : HO} (s : Sb b H H') (n : H p = none) : Sb b H (upd H' p o) := ⟨fun c u e => by
  obtain ⟨q1, q2⟩ := wo_of (s.1 c u e)
  rw [wo_ne q1, upd_ne (ne_of_none (wo_of e).2 n)]
  exact q2, fun n0 n1 n2 l e => by
  obtain ⟨m0, m1, m2, e1⟩ := s.2 n0 n1 n2 l e
  exact ⟨m0, m1, m2, by rw [upd_ne (ne_of_none e n)]; exact e1⟩⟩
theorem Sb.free {b p : Addr} {H H' : Hp} (h : Sb b H H') (hp : H' p = none) (n : p ≠ b) : H p = none := by
  cases e : H p with
  | none => rfl
  | some o => rw [h.get e n] at hp; cases hp
/-- what stood but for the bag: lists, tuples -/
theorem Sb.sl {K : PySem.W.Frag} {b a : Addr} {H H' : Hp} {xs : List V} (s : Sb b H H') (h : SqL K (wo H b) a xs) : SqL K (wo H' b) a xs := Same.seq s.1 h
theorem wo_same {H H' : Hp} {b : Addr} (m : Same H H') : Same (wo H b) (wo H' b) := fun c o e => by
  obtain ⟨q1, q2⟩ := wo_of e
  rw [wo_ne q1]
  exact m _ _ q2
theorem ints_at {ns : List Int} {i : Nat} {v : V} (h : (ns.map V.int)[i]? = some v) : ∃ z, ns[i]? = some z ∧ v = .int z := by
  rw [List.getElem?_map] at h
  obtain ⟨z, e, q⟩ := Option.map_eq_some_iff.mp h
  exact ⟨z, e, q.symm⟩
theorem cut_ints (ns : List Int) (lo hi : Option Int) : ∃ ms : List Int, cutV (ns.map V.int) lo hi = ms.map V.int ∧ (∀ n ∈ ms, n ∈ ns) ∧ ms.length ≤ ns.length := by
  refine ⟨(ns.drop (HT.sIx (ns.map V.int).length 0 lo)).take (HT.sIx (ns.map V.int).length (ns.map V.int).length hi - HT.sIx (ns.map V.int).length 0 lo), ?_, fun n h => List.mem_of_mem_drop (List.mem_of_mem_take h), ?_⟩
  · unfold cutV
    rw [List.map_take, List.map_drop]
  · rw [List.length_take, List.length_drop]
    omega
theorem same_new {H H' : Hp} {p : Addr} {o : HO} (h : Same H H') (n : H' p = none) : Same H (upd H' p o) := fun c u e => by
  rw [upd_ne (ne_of_none (h c u e) n)]
  exact h c u e
theorem same_put {H H' : Hp} {p : Addr} {o : HO} (h : Same H H') (n : H p = none) : Same H (upd H' p o) := fun c u e => by
  rw [upd_ne (ne_of_none e n)]
  exact h c u e
/-- a thing put amid is among -/
theorem put_perm {α : Type} {xs ys : List α} {x : α} {i j : Nat} (h : ys.Perm (xs.take i)) (hx : xs[i]? = some x) : (ys.take j ++ [x] ++ ys.drop j).Perm (xs.take (i + 1)) := by
  have e : xs.take (i + 1) = xs.take i ++ [x] := by rw [List.take_succ, hx]; rfl
  rw [e]
  have p1 : (ys.take j ++ [x] ++ ys.drop j).Perm (x :: ys) := by
    rw [List.append_assoc, List.singleton_append]
    refine List.perm_middle.trans ?_
    rw [List.take_append_drop]
  exact p1.trans ((h.cons x).trans (List.perm_append_singleton x (xs.take i)).symm)
/-- what the top has left of the built-in names -/
structure Nat0 (mg : Str → Option Value) : Prop where
  abs : mg "abs" = none
  int : mg "int" = none
  len : mg "len" = none
  repr : mg "repr" = none
  isi : mg "isinstance" = none
  range : mg "range" = none
  sorted : mg "sorted" = none
  tuple : mg "tuple" = none
  list_ : mg "list" = none
  dict : mg "dict" = none
  set_ : mg "set" = none
  sum : mg "sum" = none
  max : mg "max" = none
  min : mg "min" = none
  str : mg "str" = none
  all : mg "all" = none
  any : mg "any" = none
  zip : mg "zip" = none
end Y

namespace Y
open PySem PySem.Spec PyProof.Rows L2 Ns
open C8 (pss_cut)
def spBag (K : PySem.W.Frag) : Sp := fun as H Q _ => ∃ (a : Addr) (ns : List Int), as = [.ref a] ∧ SqL K H a (ns.map V.int) ∧ ns.length ≤ 63 ∧ ∀ (b : Addr) (H' : Hp), Bag H' b → H b = none → Same H H' → Q (.ref b) H'
def spTake : Sp := fun as H Q _ => ∃ (b : Addr) (m : Int), as = [.ref b, .int m] ∧ Bag H b ∧ 0 < m ∧ m.natAbs < 2 ^ 200 ∧ ∀ (v : Int) (H' : Hp), 0 ≤ v → v < m → Bag H' b → Sb b H H' → Q (.int v) H'
section
variable {P : Program} {w : World} {K : PySem.W.Frag} {mg : Str → Option Value} {base : Heap}
theorem scB : FnScope ["script", "cell"] ["script"] (defScope sBag) := ⟨rfl, rfl, rfl, by decide +kernel, rfl, by decide +kernel, by decide +kernel⟩
theorem ok_bag {f : Addr} {fd : FuncData} (F : Fun K "_law_bag" "_law_bag" sBag f fd) (T : Nat0 mg) : FnOk P w K mg base CX0 1 f fd ["script"] (spBag K) := by
  refine F.ok scB (fun as H Q E h => ?_) (fun cdv A outer s H as Q E hr h => ?_)
  · obtain ⟨a, ns, rfl, _⟩ := h
    rfl
  · obtain ⟨a, ns, rfl, hS, hl, k⟩ := h
    refine ⟨_, pss_one (ps_ret (pe_lst (pa_cons pe_int (pa_cons pe_int (pa_cons pe_int (pa_cons
      (pe_lc (own := [("cell", 1)]) (g := gName 1) (tt := tYes) rfl scB.nd (pi_list (pe_slice sl_list (pv 0) po_none (po_some pe_int))) (blkOk_by (N := ["script", "cell"]) (sc := defScope sBag) (by decide +kernel)) (fun _ _ _ _ _ => pg_name (i := 1) scB.nd rfl (Or.inl rfl)) (fun _ _ _ _ _ => pts_nil)
        (fun _ _ _ _ _ => pe_callB call_abs (by rfl) T.abs (by decide +kernel) (pa_cons (pv 1) pa_nil))) pa_nil)))))), ?_⟩
    obtain ⟨ms, ec, hin, hlm⟩ := cut_ints ns none (some 63)
    refine ⟨_, rfl, _, rfl, a, _, rfl, hS, fun p hp => ?_⟩
    rw [ec]
    have lm : ms.length ≤ 63 := Nat.le_trans hlm hl
    refine ⟨p, rfl, ⟨_, .inl (.inl upd_same)⟩, fun D hD => ?_⟩
    refine lc_list (K := K) (a := p) (xs := ms.map V.int) (fun i H' => ∃ ks : List Int, H' D = some (.lst (ks.map V.int)) ∧ ks.length = i ∧ (∀ n ∈ ks, 0 ≤ n) ∧ H' p = some (.lst (ms.map V.int)) ∧ Same H H') ?_ ?_ ?_ ?_
    · have npd : p ≠ D := fun e => by rw [← e, upd_same] at hD; cases hD
      refine ⟨[], upd_same, rfl, (fun _ z => nomatch z), by rw [upd_ne npd, upd_same], fun c o e => ?_⟩
      have hD' : H D = none := by rw [upd_ne npd.symm] at hD; exact hD
      rw [upd_ne (ne_of_none e hD'), upd_ne (ne_of_none e hp)]
      exact e
    · rintro i H' hi ⟨ks, _, _, _, h, _⟩
      exact .inl (.inl h)
    · rintro i x H' hx ⟨ks, h1, h2, h3, h4, h5⟩
      obtain ⟨z, hz, rfl⟩ := ints_at hx
      have hi : i < ms.length := (List.getElem?_eq_some_iff.mp hz).1
      refine ⟨rfl, _, rfl, z, rfl, ks.map V.int, h1, by rw [List.length_map, h2]; exact small1000 (by omega), ks ++ [if z < 0 then -z else z], ?_, ?_, ?_, ?_, ?_⟩
      · rw [upd_same, List.map_append]
        rfl
      · rw [List.length_append, h2]
        rfl
      · intro n hn
        rcases List.mem_append.mp hn with q | q
        · exact h3 n q
        · rw [List.mem_singleton] at q
          subst q
          split <;> omega
      · have npd : p ≠ D := fun e => by rw [← e, upd_same] at hD; cases hD
        rw [upd_ne npd]
        exact h4
      · intro c o e
        have hD' : H D = none := by
          have npd : p ≠ D := fun e => by rw [← e, upd_same] at hD; cases hD
          rw [upd_ne npd.symm] at hD
          exact hD
        rw [upd_ne (ne_of_none e hD')]
        exact h5 c o e
    · rintro H' ⟨ks, h1, h2, h3, h4, h5⟩
      rw [List.length_map] at h2
      refine ⟨by show 4 ≤ sizeLine; decide, fun b hb => ?_⟩
      refine k b _ ⟨0, 1234567891, 0, D, ks, upd_same, by rw [upd_ne (ne_of_none h1 hb)]; exact h1, ne_of_none h1 hb, by decide, by decide, by decide, by decide, h3, by omega⟩ (h5.free hb) fun c o e => ?_
      rw [upd_ne (ne_of_none (h5 c o e) hb)]
      exact h5 c o e
end
section
variable {P : Program} {w : World} {K : PySem.W.Frag} {mg : Str → Option Value} {base : Heap}
theorem scT : FnScope ["bag", "many", "cell", "stirred", "value", "begin", "second"] ["bag", "many"] (defScope sTake) := ⟨rfl, rfl, rfl, by decide +kernel, rfl, by decide +kernel, by decide +kernel⟩
theorem at0 {α : Type} {x : α} {xs : List α} : atI (x :: xs) (0 : Int) = some x := atI_nat (j := 0) rfl
theorem at1 {α : Type} {x y : α} {xs : List α} : atI (x :: y :: xs) (1 : Int) = some y := atI_nat (j := 1) rfl
theorem at2 {α : Type} {x y z : α} {xs : List α} : atI (x :: y :: z :: xs) (2 : Int) = some z := atI_nat (j := 2) rfl
theorem at3 {α : Type} {x y z u : α} {xs : List α} : atI (x :: y :: z :: u :: xs) (3 : Int) = some u := atI_nat (j := 3) rfl
theorem fm {x m : Int} (h : 0 < m) : 0 ≤ x.fmod m ∧ x.fmod m < m := by
  rw [Int.fmod_eq_emod_of_nonneg x (by omega)]
  exact ⟨Int.emod_nonneg _ (by omega), Int.emod_lt_of_pos _ h⟩
theorem head_int {ms : List Int} (h : ∀ n ∈ ms, 0 ≤ n) : ∃ z : Int, 0 ≤ z ∧ atI (ms.map V.int ++ [V.int 0]) (0 : Int) = some (.int z) := by
  cases ms with
  | nil => exact ⟨0, by decide, at0⟩
  | cons n ms => exact ⟨n, h n List.mem_cons_self, at0⟩
theorem ok_take {f : Addr} {fd : FuncData} (F : Fun K "_law_take" "_law_take" sTake f fd) (T : Nat0 mg) : FnOk P w K mg base CX0 1 f fd ["bag", "many"] spTake := by
  refine F.ok scT (fun as H Q E h => ?_) (fun cdv A outer s H as Q E hr h => ?_)
  · obtain ⟨b, m, rfl, _⟩ := h
    rfl
  · obtain ⟨b, m, rfl, hB, hm, hmz, k⟩ := h
    refine ⟨_, pss_cut (ps_if (pt_cmpR op_eq (pe_ix ix_list (pv 0) pe_int (fun _ _ => rfl)) pe_int (nomark _))
        (pss_cons (ps_set (i := 2) scT.nd rfl (.inl rfl) (pe_ix ix_list (pe_op op_cat (pe_slice sl_list (pe_ix ix_list (pv 0) pe_int (fun _ _ => rfl)) (po_some (pe_ix ix_list (pv 0) pe_int (fun _ _ => rfl))) po_none) (pe_lst (pa_cons pe_int pa_nil))) pe_int (fun _ _ => rfl)))
        (pss_cons (ps_augS (pv 0) pe_int get_list pe_int ip_add set_list)
        (pss_cut (ps_if (pt_cmpR op_ge (pv 2) (pe_op op_pow pe_int pe_int) (nomark _)) (pss_one (ps_asg (pv 2) (pg_sub (pv 0) pe_int set_list))) pss_nil)
        (pss_cons (ps_set (i := 3) scT.nd rfl (.inl rfl) (pe_op op_add (pe_op op_add (pe_op op_mul (pe_ix ix_list (pv 0) pe_int (fun _ _ => rfl)) pe_int)
            (pe_op op_modN (pe_callTy call_int1 (by rfl) T.int (by decide +kernel) (pa_cons (pv 2) pa_nil)) pe_int)) (pe_op op_mul pe_int (pe_ix ix_list (pv 0) pe_int (fun _ _ => rfl)))))
        (pss_one (ps_asg (pe_op op_modN (pe_callTy call_int1 (by rfl) T.int (by decide +kernel) (pa_cons (pv 3) pa_nil)) pe_int) (pg_sub (pv 0) pe_int set_list))))))) pss_nil)
      (pss_cons (ps_if (pt_cmpR op_gt (pe_ix ix_list (pv 0) pe_int (fun _ _ => rfl)) pe_int (nomark _))
        (pss_cons (ps_set (i := 4) scT.nd rfl (.inl rfl) (pe_op op_modN (pe_callTy call_int1 (by rfl) T.int (by decide +kernel) (pa_cons (pe_ix ix_list (pv 0) pe_int (fun _ _ => rfl)) pa_nil)) (pv 1)))
        (pss_cons (ps_asg (pe_op op_fdivW (pe_callTy call_int1 (by rfl) T.int (by decide +kernel) (pa_cons (pe_ix ix_list (pv 0) pe_int (fun _ _ => rfl)) pa_nil)) (pv 1)) (pg_sub (pv 0) pe_int set_list))
        (pss_one (ps_ret (pv 4))))) pss_nil)
      (pss_cons (ps_set (i := 5) scT.nd rfl (.inl rfl) (pe_op op_modN (pe_callTy call_int1 (by rfl) T.int (by decide +kernel) (pa_cons (pe_op op_mul (pe_op op_add (pe_ix ix_list (pv 0) pe_int (fun _ _ => rfl)) pe_int) pe_int) pa_nil)) pe_int))
      (pss_cons (ps_set (i := 6) scT.nd rfl (.inl rfl) (pe_op op_modN (pe_callTy call_int1 (by rfl) T.int (by decide +kernel) (pa_cons (pe_op op_mul (pe_op op_modN (pe_callTy call_int1 (by rfl) T.int (by decide +kernel) (pa_cons (pe_op op_mul (pv 5) (pv 5)) pa_nil)) pe_int) pe_int) pa_nil)) pe_int))
      (pss_one (ps_ret (pe_op op_modN (pe_callTy call_int1 (by rfl) T.int (by decide +kernel) (pa_cons (pe_op op_fdivN (pv 6) pe_int) pa_nil)) (pv 1))))))), ?_⟩
    refine ⟨fun σ' H' => ∃ c s : Option V, σ' = [some (.ref b), some (.int m), c, s, none, none, none] ∧ Bag H' b ∧ Sb b H H', ?_, ?_⟩
    · obtain ⟨n0, n1, n2, l, ns, h1, h2, hlb, z0, z1, z1', z2, hn, hlen⟩ := id hB
      refine ⟨_, rfl, b, _, _, _, rfl, rfl, SqL.of h1, at0, rfl, _, rfl, ?_⟩
      refine ite2 (fun c => ?_) (fun c => ⟨none, none, rfl, hB, Sb.refl _ _⟩)
      obtain ⟨ms, ec, hin, hlm⟩ := cut_ints ns (some n2) none
      refine ⟨_, rfl, b, _, _, _, rfl, rfl, SqL.of h1, at3, _, rfl, b, _, _, _, rfl, rfl, SqL.of h1, at2, n2, rfl, l, _, rfl, SqL.of h2, fun p hp => ?_⟩
      rw [ec]
      refine ⟨by show 1 ≤ sizeLine; decide, fun q hq => ?_⟩
      have npq : p ≠ q := fun e => by rw [← e, upd_same] at hq; cases hq
      have lmz : (ms.map V.int).length + [V.int 0].length ≤ sizeLine := by
        rw [List.length_map]
        exact Nat.le_of_lt (small1000 (show ms.length + 1 ≤ 1000 by omega))
      refine ⟨p, q, _, _, rfl, rfl, by rw [upd_ne npq, upd_same], upd_same, lmz, fun r hr => ?_⟩
      obtain ⟨z, hz, hat⟩ := head_int (ms := ms) fun n h => hn n (hin n h)
      refine ⟨r, _, _, _, rfl, rfl, SqL.of upd_same, hat, ?_⟩
      have hb3 : upd (upd (upd H p (.lst (ms.map V.int))) q (.lst [V.int 0])) r (.lst (ms.map V.int ++ [V.int 0])) b = some (.lst [.int n0, .int n1, .int n2, .ref l]) := by
        have e1 : upd H p (.lst (ms.map V.int)) b = some (.lst [.int n0, .int n1, .int n2, .ref l]) := by rw [upd_ne (ne_of_none h1 hp)]; exact h1
        have e2 : upd (upd H p (.lst (ms.map V.int))) q (.lst [V.int 0]) b = some (.lst [.int n0, .int n1, .int n2, .ref l]) := by rw [upd_ne (ne_of_none e1 hq)]; exact e1
        rw [upd_ne (ne_of_none e2 hr)]
        exact e2
      have hl3 : upd (upd (upd H p (.lst (ms.map V.int))) q (.lst [V.int 0])) r (.lst (ms.map V.int ++ [V.int 0])) l = some (.lst (ns.map V.int)) := by
        have e1 : upd H p (.lst (ms.map V.int)) l = some (.lst (ns.map V.int)) := by rw [upd_ne (ne_of_none h2 hp)]; exact h2
        have e2 : upd (upd H p (.lst (ms.map V.int))) q (.lst [V.int 0]) l = some (.lst (ns.map V.int)) := by rw [upd_ne (ne_of_none e1 hq)]; exact e1
        rw [upd_ne (ne_of_none e2 hr)]
        exact e2
      have sb3 : Sb b H (upd (upd (upd H p (.lst (ms.map V.int))) q (.lst [V.int 0])) r (.lst (ms.map V.int ++ [V.int 0]))) := (((Sb.refl b H).new hp).new hq).new hr
      generalize upd (upd (upd H p (.lst (ms.map V.int))) q (.lst [V.int 0])) r (.lst (ms.map V.int ++ [V.int 0])) = H3 at hb3 hl3 sb3 ⊢
      refine ⟨_, rfl, b, _, _, _, rfl, rfl, SqL.of hb3, at2, n2, 1, rfl, rfl, b, _, _, 2, rfl, rfl, hb3, rfl, ?_⟩
      refine ⟨fun σ' H' => ∃ n0' : Int, σ' = [some (.ref b), some (.int m), some (.int z), none, none, none, none] ∧ H' b = some (.lst [.int n0', .int n1, .int (n2 + 1), .ref l]) ∧ H' l = some (.lst (ns.map V.int)) ∧ 0 ≤ n0' ∧ Sb b H H', ?_, ?_⟩
      · have hb4 : upd H3 b (.lst (([.int n0, .int n1, .int n2, .ref l] : List V).set 2 (.int (n2 + 1)))) b = some (.lst [.int n0, .int n1, .int (n2 + 1), .ref l]) := upd_same
        have hl4 : upd H3 b (.lst (([.int n0, .int n1, .int n2, .ref l] : List V).set 2 (.int (n2 + 1)))) l = some (.lst (ns.map V.int)) := by rw [upd_ne hlb]; exact hl3
        have sb4 : Sb b H (upd H3 b (.lst (([.int n0, .int n1, .int n2, .ref l] : List V).set 2 (.int (n2 + 1))))) := sb3.put hb3
        generalize upd H3 b (.lst (([.int n0, .int n1, .int n2, .ref l] : List V).set 2 (.int (n2 + 1)))) = H4 at hb4 hl4 sb4 ⊢
        refine ⟨_, rfl, 10, 18, rfl, rfl, ⟨by decide, by decide, by decide⟩, z, _, rfl, rfl, _, rfl, ?_⟩
        refine ite2 (fun _ => ?_) (fun _ => ⟨n0, rfl, hb4, hl4, z0, sb4⟩)
        exact ⟨_, rfl, _, rfl, b, _, _, 0, rfl, rfl, hb4, rfl, z, rfl, upd_same, by rw [upd_ne hlb]; exact hl4, hz, sb4.put hb4⟩
      · rintro σ' H' ⟨n0', rfl, hb5, hl5, z0', sb5⟩
        refine ⟨_, rfl, b, _, _, _, rfl, rfl, SqL.of hb5, at1, n1, _, rfl, rfl, .inl ⟨by omega, by omega⟩, _, rfl, .inl ⟨z, rfl, z, _, rfl, rfl, (show (2147483647 : Int) ≠ 0 by decide), _, _, rfl, rfl, _, rfl, b, _, _, _, rfl, rfl, SqL.of hb5, at2, 7919, _, rfl, rfl, .inl ⟨by decide, by decide⟩, _, _, rfl, rfl, ?_⟩⟩
        refine ⟨_, rfl, .inl ⟨_, rfl, _, _, rfl, rfl, (show (2147483647 : Int) ≠ 0 by decide), _, rfl, b, _, _, 1, rfl, rfl, hb5, rfl, ?_⟩⟩
        exact ⟨_, _, rfl, ⟨n0', _, n2 + 1, l, ns, upd_same, by rw [upd_ne hlb]; exact hl5, hlb, z0', (fm (by decide)).1, (fm (by decide)).2, by omega, hn, hlen⟩, sb5.put hb5⟩
    · rintro σ' H' ⟨c, s', rfl, hB', sb⟩
      obtain ⟨n0, n1, n2, l, ns, h1, h2, hlb, z0, z1, z1', z2, hn, hlen⟩ := id hB'
      refine ⟨_, rfl, b, _, _, _, rfl, rfl, SqL.of h1, at0, _, _, rfl, rfl, _, rfl, ?_⟩
      refine ite2 (fun _ => ?_) (fun _ => ?_)
      · refine ⟨_, rfl, b, _, _, _, rfl, rfl, SqL.of h1, at0, .inl ⟨n0, rfl, _, rfl, n0, m, rfl, rfl, by omega, ?_⟩⟩
        refine ⟨_, rfl, b, _, _, _, rfl, rfl, SqL.of h1, at0, .inl ⟨n0, rfl, _, rfl, n0, m, rfl, rfl, wide_div hm hmz (by decide) (by decide), _, rfl, b, _, _, 0, rfl, rfl, h1, rfl, ?_⟩⟩
        refine ⟨_, rfl, k _ _ (fm hm).1 (fm hm).2 ⟨n0 / m, n1, n2, l, ns, upd_same, by rw [upd_ne hlb]; exact h2, hlb, Int.ediv_nonneg z0 (by omega), z1, z1', z2, hn, hlen⟩ (sb.put h1)⟩
      · have b1 := fm (x := (n1 + 1) * 39373) (m := 1000000007) (by decide)
        refine ⟨_, rfl, b, _, _, _, rfl, rfl, SqL.of h1, at1, n1, 1, rfl, rfl, n1 + 1, _, rfl, rfl, .inl ⟨by omega, by omega⟩, .inl ⟨_, rfl, _, _, rfl, rfl, (show (1000000007 : Int) ≠ 0 by decide), ?_⟩⟩
        have b2 := fm (x := ((n1 + 1) * 39373).fmod 1000000007 * ((n1 + 1) * 39373).fmod 1000000007) (m := 998244353) (by decide)
        refine ⟨_, rfl, _, rfl, _, _, rfl, rfl, .inl ⟨by omega, by omega⟩, .inl ⟨_, rfl, _, _, rfl, rfl, (show (998244353 : Int) ≠ 0 by decide), _, _, rfl, rfl, .inl ⟨by omega, by omega⟩, .inl ⟨_, rfl, _, _, rfl, rfl, (show (998244353 : Int) ≠ 0 by decide), ?_⟩⟩⟩
        exact ⟨_, rfl, _, _, rfl, rfl, ⟨by decide, by decide⟩, .inl ⟨_, rfl, _, rfl, _, m, rfl, rfl, by omega, k _ _ (fm hm).1 (fm hm).2 hB' sb⟩⟩
end
end Y

namespace Y
open PySem PySem.Spec PyProof.Rows L2 Ns
open C8 (pss_cut)
def spSome (K : PySem.W.Frag) : Sp := fun as H Q _ => ∃ (b a : Addr) (xs : List V), as = [.ref b, .ref a] ∧ Bag H b ∧ SqL K (wo H b) a xs ∧ xs ≠ [] ∧ xs.length ≤ 1000000 ∧ ∀ (x : V) (H' : Hp), x ∈ xs → Bag H' b → Sb b H H' → Q x H'
section
variable {P : Program} {w : World} {K : PySem.W.Frag} {mg : Str → Option Value} {base : Heap}
theorem scS : FnScope ["bag", "things"] ["bag", "things"] (defScope sSome) := ⟨rfl, rfl, rfl, by decide +kernel, rfl, by decide +kernel, by decide +kernel⟩
theorem ok_some {f fT : Addr} {fd fdT : FuncData} (F : Fun K "_law_some" "_law_some" sSome f fd) (T : Nat0 mg) (FT : Fun K "_law_take" "_law_take" sTake fT fdT) (mT : mg "_law_take" = some (.ref fT)) (bT : Binds K fdT ["bag", "many"] []) :
    FnOk P w K mg base CX0 2 f fd ["bag", "things"] (spSome K) := by
  have GT : FnOk P w K mg base CX0 1 fT fdT ["bag", "many"] spTake := ok_take FT T
  refine F.ok scS (fun as H Q E h => ?_) (fun cdv A outer s H as Q E hr h => ?_)
  · obtain ⟨b, a, xs, rfl, _⟩ := h
    rfl
  · obtain ⟨b, a, xs, rfl, hB, hS, hne, hl, k⟩ := h
    have pos : 0 < xs.length := List.length_pos_iff.mpr hne
    refine ⟨_, pss_one (ps_ret (pe_ix ix_list (pv 1) (pe_call GT hr rfl mT FT.kp bT .nil pass0 (pa_cons (pv 0) (pa_cons (pe_callB call_len_seq (by rfl) T.len PySem.boot_len (pa_cons (pv 1) pa_nil)) pa_nil))) (fun _ _ => rfl))), ?_⟩
    refine ⟨_, rfl, _, rfl, _, rfl, a, _, rfl, .inl ((wo_sub H b).seq hS), b, _, rfl, hB, by omega, ?_, fun v H' h0 h1 hB' sb => ?_⟩
    · exact Nat.lt_of_le_of_lt (show ((xs.length : Int)).natAbs ≤ 1000000 by omega) (by decide)
    · have hi : v.toNat < xs.length := by omega
      have e : v = ((v.toNat : Nat) : Int) := by omega
      have hx : xs[v.toNat]? = some xs[v.toNat] := List.getElem?_eq_getElem hi
      obtain ⟨x, ex⟩ : ∃ x, xs[v.toNat]? = some x := ⟨_, hx⟩
      exact ⟨a, xs, v, x, rfl, rfl, (wo_sub H' b).seq (sb.sl hS), by rw [e]; exact atI_nat ex, k _ _ (List.mem_of_getElem? ex) hB' sb⟩
end
end Y

/-! NsD: how long the text of data is. -/
namespace Ns
open PySem PySem.Spec PyProof.Rows L2
/-- shown in at most m signs, nested at most k deep -/
def Fit (m k : Nat) (d : PyData) : Prop := d.showable = true ∧ d.shown.length ≤ m ∧ d.depth ≤ k
theorem Fit.mono {m m' k k' : Nat} {d : PyData} (h : Fit m k d) (hm : m ≤ m') (hk : k ≤ k') : Fit m' k' d := ⟨h.1, Nat.le_trans h.2.1 hm, Nat.le_trans h.2.2 hk⟩
theorem sum_le {m : Nat} : ∀ {l : List Nat}, (∀ n ∈ l, n ≤ m) → l.sum ≤ l.length * m
  | [], _ => Nat.zero_le _
  | n :: l, h => by
    have h1 := h n List.mem_cons_self
    have h2 := sum_le (l := l) fun k hk => h k (List.mem_cons_of_mem _ hk)
    rw [List.sum_cons, List.length_cons, Nat.succ_mul]
    omega
theorem depthAll_le {k : Nat} : ∀ {ds : List PyData}, (∀ d ∈ ds, d.depth ≤ k) → PyData.depthAll ds ≤ k
  | [], _ => by simp [PyData.depthAll]
  | d :: ds, h => by
    simp only [PyData.depthAll]
    exact Nat.max_le.mpr ⟨h d List.mem_cons_self, depthAll_le fun e he => h e (List.mem_cons_of_mem _ he)⟩
theorem mem_shown : ∀ {ds : List PyData} {t : Str}, t ∈ PyData.shownAll ds → ∃ d ∈ ds, t = d.shown
  | [], t, h => by rw [PyData.shownAll_nil] at h; exact nomatch h
  | d :: ds, t, h => by
    rw [PyData.shownAll_cons] at h
    rcases List.mem_cons.mp h with e | e
    · exact ⟨d, List.mem_cons_self, e⟩
    · obtain ⟨d', h1, h2⟩ := mem_shown e
      exact ⟨d', List.mem_cons_of_mem _ h1, h2⟩
theorem lens_le {m k : Nat} {ds : List PyData} (h : ∀ d ∈ ds, Fit m k d) : ((PyData.shownAll ds).map (·.length)).sum ≤ ds.length * m := by
  have e : ((PyData.shownAll ds).map (·.length)).length = ds.length := by rw [List.length_map, PyData.shownAll_length]
  have z := sum_le (l := (PyData.shownAll ds).map (·.length)) (m := m) fun n hn => by
    obtain ⟨t, ht, rfl⟩ := List.mem_map.mp hn
    obtain ⟨d, hd, rfl⟩ := mem_shown ht
    exact (h d hd).2.1
  rw [e] at z
  exact z
theorem fit_list {m k : Nat} {ds : List PyData} (h : ∀ d ∈ ds, Fit m k d) : Fit (ds.length * (m + 2) + 3) (k + 1) (.list ds) := by
  refine ⟨?_, ?_, ?_⟩
  · simp only [PyData.showable]
    exact showableAll_of fun d hd => (h d hd).1
  · simp only [PyData.shown]
    have z1 := listText_len_le (PyData.shownAll ds)
    have z2 := lens_le h
    rw [PyData.shownAll_length] at z1
    rw [Nat.mul_add]
    omega
  · have e : (PyData.list ds).depth = PyData.depthAll ds + 1 := by simp only [PyData.depth] <;> omega
    rw [e]
    exact Nat.succ_le_succ (depthAll_le fun d hd => (h d hd).2.2)
theorem fit_tuple {m k : Nat} {ds : List PyData} (h : ∀ d ∈ ds, Fit m k d) : Fit (ds.length * (m + 2) + 3) (k + 1) (.tuple ds) := by
  refine ⟨?_, ?_, ?_⟩
  · simp only [PyData.showable]
    exact showableAll_of fun d hd => (h d hd).1
  · simp only [PyData.shown]
    have z1 := tupleText_len_le (PyData.shownAll ds)
    have z2 := lens_le h
    rw [PyData.shownAll_length] at z1
    rw [Nat.mul_add]
    omega
  · have e : (PyData.tuple ds).depth = PyData.depthAll ds + 1 := by simp only [PyData.depth] <;> omega
    rw [e]
    exact Nat.succ_le_succ (depthAll_le fun d hd => (h d hd).2.2)
theorem kvs_le {m k : Nat} : ∀ {kvs : List (PyData × PyData)}, (∀ p ∈ kvs, Fit m k p.1 ∧ Fit m k p.2) → ((PyData.shownKv kvs).map (·.length)).sum ≤ kvs.length * (2 * m + 2) ∧ PyData.depthKv kvs ≤ k
  | [], _ => by simp [PyData.shownKv, PyData.depthKv]
  | (a, b) :: r, h => by
    obtain ⟨h1, h2⟩ := h (a, b) List.mem_cons_self
    obtain ⟨z1, z2⟩ := kvs_le (kvs := r) fun p hp => h p (List.mem_cons_of_mem _ hp)
    have e : (a.shown ++ ": " ++ b.shown).length = a.shown.length + 2 + b.shown.length := by
      rw [strLen_append, strLen_append]
      rfl
    have y1 := h1.2.1
    have y2 := h2.2.1
    refine ⟨?_, ?_⟩
    · rw [PyData.shownKv_cons, List.map_cons, List.sum_cons, List.length_cons, Nat.succ_mul, e]
      have y1' : a.shown.length ≤ m := y1
      have y2' : b.shown.length ≤ m := y2
      omega
    · have y3 : a.depth ≤ k := h1.2.2
      have y4 : b.depth ≤ k := h2.2.2
      simp only [PyData.depthKv]
      omega
theorem fit_dict {m k : Nat} {kvs : List (PyData × PyData)} (h : ∀ p ∈ kvs, Fit m k p.1 ∧ Fit m k p.2) : Fit (kvs.length * (2 * m + 4) + 3) (k + 1) (.dict kvs) := by
  obtain ⟨z1, z2⟩ := kvs_le h
  refine ⟨?_, ?_, ?_⟩
  · simp only [PyData.showable]
    exact showableKv_of fun p hp => ⟨(h p hp).1.1, (h p hp).2.1⟩
  · simp only [PyData.shown]
    have y := dictText_len_le (PyData.shownKv kvs)
    rw [PyData.shownKv_length] at y
    have e : kvs.length * (2 * m + 4) = kvs.length * (2 * m + 2) + 2 * kvs.length := by
      rw [Nat.mul_add, Nat.mul_add]
      omega
    omega
  · have e : (PyData.dict kvs).depth = PyData.depthKv kvs + 1 := by simp only [PyData.depth] <;> omega
    omega
theorem fit_int {i : Int} {n : Nat} (h0 : 0 < n) (h : i.natAbs < 10 ^ n) (hn : n ≤ 500) : Fit (n + 1) 0 (.int i) := by
  have z : (10 : Nat) ^ n < 2 ^ 1920 := Nat.lt_of_le_of_lt (Nat.pow_le_pow_right (by decide) hn) (by decide +kernel)
  refine ⟨decide_eq_true (log2_small (Nat.lt_trans h z)), ?_, by simp [PyData.depth]⟩
  rw [PyData.shown_int, PySem.ofString_length]
  exact int_text_length_le10 h0 h
/-- a datum is equal to itself -/
theorem eqv_self {K : PySem.W.Frag} {H : Hp} {x : V} {d : PyData} (D : DatV K H x d) (n : Nat) : EqV K H (n + 1) x x := by
  cases D with
  | non => exact .inl ⟨rfl, rfl⟩
  | bl b => exact .inl ⟨rfl, rfl⟩
  | int i => exact .inl ⟨rfl, rfl⟩
  | str y => exact .inl ⟨rfl, rfl⟩
  | lst _ _ => exact .inr (.inl ⟨_, rfl, rfl⟩)
  | tup _ _ => exact .inr (.inl ⟨_, rfl, rfl⟩)
  | dic _ _ => exact .inr (.inl ⟨_, rfl, rfl⟩)
theorem paired_rep {α β : Type} {F : α → β → Prop} {a : α} {b : β} (h : F a b) : ∀ n : Nat, Paired F (List.replicate n a) (List.replicate n b)
  | 0 => .nil
  | n + 1 => .cons h (paired_rep h n)
theorem datA_rep {K : PySem.W.Frag} {H : Hp} {x : V} {d : PyData} (D : DatV K H x d) : ∀ n : Nat, DatA K H (List.replicate n x) (List.replicate n d)
  | 0 => .nil
  | n + 1 => .cons D (datA_rep D n)
end Ns

/-! NsE: == of equal nested lists, tuples and dicts. -/
namespace Ns
open PySem PySem.Spec PyProof.Rows L2
/-- two tuples of equal items -/
def EqU (K : PySem.W.Frag) (H : Hp) (E : V → V → Prop) (x y : V) : Prop := ∃ a b xs ys, x = .ref a ∧ y = .ref b ∧ SqT K H a xs ∧ SqT K H b ys ∧ Paired E xs ys
/-- equal, of nesting below n, tuples too -/
def EqT (K : PySem.W.Frag) (H : Hp) : Nat → V → V → Prop
  | 0 => fun _ _ => False
  | n + 1 => fun x y => (x = y ∧ flatB x = true) ∨ (∃ a, x = .ref a ∧ y = .ref a) ∨ EqR K H (EqT K H n) x y ∨ EqU K H (EqT K H n) x y
section
variable {X : Cx} {pins : List (Addr × Obj)} {σ : L2.St} {H : Hp} {s : Shared}
theorem eqU_run (I : Inv X pins σ H s) {A : Around} {F : V → V → Prop} (hu : A.units < cLine) (ih : ∀ x y v u, F x y → RelV x v → RelV y u → SeqAt.EqP X.prog X.w A.in1 s v u true) {x y : V} {v u : Value} (h : EqU X.K H F x y) (rx : RelV x v) (ry : RelV y u)
    (E Q : Value → Shared → Prop) (q : Q (.bool true) s) : wpAny (model X.prog X.w) A (richCompare .Eq v u) Q E s := by
  obtain ⟨a, b, xs, ys, rfl, rfl, ha, hb, hp⟩ := h
  cases (show v = Value.ref a from rx)
  cases (show u = Value.ref b from ry)
  obtain ⟨us, r1, ⟨o1, h1, h2, n1, h3⟩, _⟩ := I.tuple ha
  obtain ⟨ws, r2, ⟨o2, g1, g2, n2, g3⟩, _⟩ := I.tuple hb
  have hsz : us.toArray.size = ws.toArray.size := by
    rw [List.size_toArray, List.size_toArray, ← r1.length, ← r2.length]
    exact Paired.length hp
  refine SeqAt.rcIn_tuples (e := fun _ => true) ⟨o1, h1, h2, n1, h3⟩ ⟨o2, g1, g2, n2, g3⟩ hu (fun j h1 h2 => ?_) ?_
  · have k := items_run ih hp r1 r2 j (by simpa using h1) (by simpa using h2)
    simp only [List.getElem_toArray]
    exact fun E Q q => k E Q q
  · rw [hsz, show ((List.range (min ws.toArray.size ws.toArray.size)).all fun _ => true) = true from List.all_eq_true.mpr fun _ _ => rfl]
    simpa using q
theorem eqT_run (I : Inv X pins σ H s) : ∀ (n : Nat) (A : Around), A.units + n < cLine → ∀ (x y : V) (v u : Value), EqT X.K H n x y → RelV x v → RelV y u → SeqAt.EqP X.prog X.w A s v u true
  | 0, _, _, _, _, _, _, h, _, _ => (show False from h).elim
  | n + 1, A, hu, x, y, v, u, h, rx, ry => by
    have ih := eqT_run I n A.in1 (by show A.units + 1 + n < cLine; omega)
    rcases h with ⟨rfl, f⟩ | ⟨a, rfl, rfl⟩ | h | h
    · exact (eqAt_same rx ry f).eqP
    · cases (show v = Value.ref a from rx)
      cases (show u = Value.ref a from ry)
      exact (SeqAt.EqAt.same _).eqP
    · have step := eqR_run I (A := A) (by omega) ih h rx ry
      obtain ⟨a, b, rfl, rfl⟩ : ∃ a b, x = .ref a ∧ y = .ref b := by
        rcases h with ⟨a, b, _, _, e1, e2, _⟩ | ⟨a, b, _, _, e1, e2, _⟩
        · exact ⟨a, b, e1, e2⟩
        · exact ⟨a, b, e1, e2⟩
      cases (show v = Value.ref a from rx)
      cases (show u = Value.ref b from ry)
      by_cases e : a = b
      · subst e
        exact (SeqAt.EqAt.same _).eqP
      · exact SeqAt.eqP_refs e step
    · have step := eqU_run I (A := A) (by omega) ih h rx ry
      obtain ⟨a, b, _, _, rfl, rfl, _⟩ := h
      cases (show v = Value.ref a from rx)
      cases (show u = Value.ref b from ry)
      by_cases e : a = b
      · subst e
        exact (SeqAt.EqAt.same _).eqP
      · exact SeqAt.eqP_refs e step
end
/-- flat, or a list, a tuple, a dict, the two of them equal -/
def EqS (K : PySem.W.Frag) (H : Hp) (n : Nat) (x y : V) : Prop := EqR K H (EqT K H n) x y ∨ EqU K H (EqT K H n) x y
section
variable {X : Cx}
/-- a == b, equal: flat ones, or lists, tuples, dicts -/
def rEqT (K : PySem.W.Frag) : R2 := fun x y H Q => ((x = y ∧ ((∃ i, x = .int i) ∨ (∃ z, x = .str z) ∨ x = .non ∨ ∃ b, x = .bl b)) ∨ ∃ n, n ≤ 60 ∧ EqS K H n x y) ∧ Q (.bl true) H
theorem op_eqT (hu : X.A.units + 64 < cLine) : OpR X (compareOp .Eq) (rEqT X.K) := by
  intro pins s σ H x y v u Q I rx ry h
  obtain ⟨h, q⟩ := h
  have qq : EP X pins σ Q (Value.bool true) s := ⟨.bl true, H, I, rfl, q⟩
  rcases h with ⟨rfl, ⟨i, rfl⟩ | ⟨z, rfl⟩ | rfl | ⟨b, rfl⟩⟩ | ⟨n, hn, h | h⟩
  · obtain ⟨t, rfl⟩ := (show ∃ t, v = Value.int i t from rx)
    obtain ⟨t', rfl⟩ := (show ∃ t, u = Value.int i t from ry)
    exact SeqAt.RcAt.int_int i t i t' _ _ _ _ (by rw [beq_self_eq_true]; exact qq)
  · obtain ⟨t, rfl⟩ := (show ∃ t, v = Value.str z t from rx)
    obtain ⟨t', rfl⟩ := (show ∃ t, u = Value.str z t from ry)
    exact SeqAt.RcAt.str_str z t z t' _ _ _ _ (by rw [beq_self_eq_true]; exact qq)
  · cases (show v = Value.none from rx)
    cases (show u = Value.none from ry)
    exact SeqAt.RcAt.none_none _ _ _ _ qq
  · cases (show v = Value.bool b from rx)
    cases (show u = Value.bool b from ry)
    exact SeqAt.RcAt.bool_bool b b _ _ _ _ (by rw [beq_self_eq_true]; exact qq)
  · exact eqR_run I (A := X.A) (by omega) (eqT_run I n X.A.in1 (by show X.A.units + 1 + n < cLine; omega)) h rx ry _ _ qq
  · exact eqU_run I (A := X.A) (by omega) (eqT_run I n X.A.in1 (by show X.A.units + 1 + n < cLine; omega)) h rx ry _ _ qq
end
end Ns

namespace Y
open PySem PySem.Spec PyProof.Rows L2 Ns
/-- equal data: True -/
def spAlike (K : PySem.W.Frag) : Sp := fun as H Q _ => ∃ (x y : V) (d : PyData), as = [x, y] ∧ ((x = y ∧ ((∃ i, x = .int i) ∨ (∃ z, x = .str z) ∨ x = .non ∨ ∃ b, x = .bl b)) ∨ ∃ n, n ≤ 60 ∧ EqS K H n x y) ∧ DatV K H x d ∧ DatV K H y d ∧ d.showable = true ∧ d.shown.length ≤ sizeLine ∧ d.depth ≤ 60 ∧ Q (.bl true) H
section
variable {P : Program} {w : World} {K : PySem.W.Frag} {mg : Str → Option Value} {base : Heap}
theorem scA : FnScope ["found", "due"] ["found", "due"] (defScope sAlike) := ⟨rfl, rfl, rfl, by decide +kernel, rfl, by decide +kernel, by decide +kernel⟩
theorem ok_alike {f : Addr} {fd : FuncData} (F : Fun K "_law_alike" "_law_alike" sAlike f fd) (T : Nat0 mg) : GnOk P w K mg base 1 f fd ["found", "due"] (spAlike K) := by
  refine Fun.okG F scA (fun as H Q E h => ?_) (fun cdv A outer s H as Q E hr hgd h => ?_)
  · obtain ⟨x, y, d, rfl, _⟩ := h
    rfl
  · obtain ⟨x, y, d, rfl, he, dx, dy, hs, hz, hd, k⟩ := h
    have hu : (A.deeper (envOfC "_law_alike" (defScope sAlike) s.heap.objs.size f cdv)).units + 64 < cLine := hr.units
    refine ⟨_, pss_one (ps_ret (pe_and (pe_cmpR (op_eqT hu) (pv 0) (pv 1) (nomark _)) (pe_one (pe_cmpR op_eq
      (pe_callB (call_reprD hgd hu) (by rfl) T.repr (by decide +kernel) (pa_cons (pv 0) pa_nil)) (pe_callB (call_reprD hgd hu) (by rfl) T.repr (by decide +kernel) (pa_cons (pv 1) pa_nil)) (nomark _))))), ?_⟩
    refine ⟨_, rfl, _, rfl, he, true, rfl, ?_⟩
    refine iteT ?_
    refine ⟨_, rfl, x, d, rfl, dx, hs, hz, hd, _, rfl, y, d, rfl, dy, hs, hz, hd, rfl, ?_⟩
    rw [decide_eq_true rfl]
    exact k
end
end Y

/-! NsS: sorted(xs) of data that are alike; sorted(d), d with pairs of texts as keys. -/
namespace Ns
open PySem PySem.Spec PyProof.Rows L2
open PySem.W (dataLe AllAlike Sortable EachIs)
section
variable {X : Cx}
theorem each_vals {bs : List (V × PyData)} : ∀ {out : List Value}, EachIs (fun v (b : V × PyData) => RelV b.1 v) out bs → Vals (bs.map (·.1)) out
  | _, .nil => .nil
  | _, .cons h t => .cons h (each_vals t)
theorem vals_each {bs : List (V × PyData)} : ∀ {us : List Value}, Vals (bs.map (·.1)) us → EachIs (fun v (b : V × PyData) => RelV b.1 v) us bs := by
  induction bs with
  | nil => intro us r; cases r; exact .nil
  | cons b bs ih => intro us r; cases r with
    | cons h t => exact .cons h (ih t)
theorem each_and {α β : Type} {R S : α → β → Prop} : ∀ {as : List α} {bs : List β}, EachIs R as bs → (∀ b ∈ bs, ∀ a, R a b → S a b) → EachIs S as bs
  | _, _, .nil, _ => .nil
  | _, _, .cons h t, k => .cons (k _ List.mem_cons_self _ h) (each_and t fun b hb => k b (List.mem_cons_of_mem _ hb))
/-- sorted(xs): alike data in Python's order -/
def rSortG (K : PySem.W.Frag) : List V → Hp → VK → Prop := fun vs H Q => ∃ (a : Addr) (bs : List (V × PyData)), vs = [V.ref a] ∧ SqL K H a (bs.map (·.1)) ∧ (∀ p ∈ bs, DatV K H p.1 p.2 ∧ p.2.depth ≤ 60) ∧ AllAlike (bs.map (·.2)) ∧ Sortable (bs.map (·.2)) ∧ bs.length ≤ sizeLine ∧
  ∀ p, H p = none → Q (.ref p) (upd H p (.lst ((bs.mergeSort (dataLe false (·.2))).map (·.1))))
theorem cr_sortG (hu : X.A.units + 64 < cLine) : CallR X (.builtin "sorted") (rSortG X.K) := by
  intro pins s σ H vs us Q I r h
  obtain ⟨a, bs, rfl, hs, hD, ha, hk, hz, q⟩ := h
  obtain ⟨its, rv, hl, _⟩ := I.list hs
  rw [Vals.ref1 r]
  have e := vals_each rv
  refine PySem.W.sorted_data (enc := fun b : V × PyData => b.2) hl.isList e (each_and e fun b hb v rb => reads_of I (hD b hb).1 rb) ha hk hz (fun b hb => by have := (hD b hb).2; omega) fun out hlo ho => ?_
  obtain ⟨ep, he'⟩ := PyProof.Rows.sortedAll_at s.heap its out.toArray
  have hlen : ((bs.mergeSort (dataLe false (·.2))).map (·.1)).length ≤ sizeLine := by rw [List.length_map, List.length_mergeSort]; exact hz
  exact ⟨.ref _, upd H (s.heap.objs.size + 1) (.lst ((bs.mergeSort (dataLe false (·.2))).map (·.1))), I.laid (t' := s.toks) (fun _ _ => PyProof.Rows.sortedAll_old) (Nat.le_succ _) ⟨hlen, out, ep, each_vals ho, by simpa using he'⟩, rfl, q _ (I.hok.fresh (Nat.le_succ _))⟩
/-- two rows of one length that agree at each place -/
theorem rows_same {α β : Type} {f : α → β} : ∀ {xs : List β} {ks : List α}, xs.length = ks.length → (∀ (j : Nat) (v : β) (b : α), xs[j]? = some v → ks[j]? = some b → v = f b) → xs = ks.map f
  | [], [], _, _ => rfl
  | v :: xs, b :: ks, hl, h => by
    rw [List.map_cons, h 0 v b rfl rfl, rows_same (Nat.succ.inj hl) fun j u c h1 h2 => h (j + 1) u c h1 h2]
/-- a pair of texts as data -/
def pD (k : Str × Str) : PyData := .tuple [.str k.1, .str k.2]
def pK (k : Str × Str) : List Key := [.inr k.1, .inr k.2]
/-- sorted(d), d with pairs of texts as keys: the keys' own tuples -/
def rSortDT : List V → Hp → VK → Prop := fun vs H Q => ∃ (a : Addr) (kvs : List (List Key × V)) (ks : List (Str × Str)), vs = [V.ref a] ∧ Rd H a (.dT kvs) ∧ kvs.map (·.1) = ks.map pK ∧ ks.length ≤ 1000 ∧
  ∀ (p : Addr) (qs : List Addr), H p = none → Paired (fun (q : Addr) (k : Str × Str) => H q = some (.tup [.str k.1, .str k.2])) qs (ks.mergeSort (dataLe false pD)) → Q (.ref p) (upd H p (.lst (qs.map V.ref)))
theorem isKeys_pairs {H : Hp} : ∀ {kvs : List (List Key × V)} {bs : List Addr} {ks : List (Str × Str)}, IsKeys H kvs bs → kvs.map (·.1) = ks.map pK → Paired (fun (q : Addr) (k : Str × Str) => H q = some (.tup [.str k.1, .str k.2])) bs ks
  | [], _, [], .nil, _ => .nil
  | [], _, _ :: _, _, e => by cases e
  | _ :: _, _, [], _, e => by cases e
  | kv :: kvs, _, k :: ks, .cons h t, e => by
    injection e with e1 e2
    refine .cons ?_ (isKeys_pairs t e2)
    rw [show kv.1 = pK k from e1] at h
    exact h
theorem pair_each {R : Addr → Str × Str → Prop} : ∀ {qs : List Addr} {ks : List (Str × Str)}, Paired R qs ks → EachIs (fun v k => ∃ q, v = Value.ref q ∧ R q k) (qs.map Value.ref) ks
  | _, _, .nil => .nil
  | _, _, .cons h t => .cons ⟨_, rfl, h⟩ (pair_each t)
theorem each_pair {R : Addr → Str × Str → Prop} : ∀ {out : List Value} {ks : List (Str × Str)}, EachIs (fun v k => ∃ q, v = Value.ref q ∧ R q k) out ks → ∃ qs : List Addr, out = qs.map Value.ref ∧ Paired R qs ks
  | _, _, .nil => ⟨[], rfl, .nil⟩
  | _, _, .cons ⟨q, e, h⟩ t => by
    obtain ⟨qs, e2, p⟩ := each_pair t
    exact ⟨q :: qs, by rw [e, e2]; rfl, .cons h p⟩
theorem alike_pD (ks : List (Str × Str)) : AllAlike (ks.map pD) := AllAlike.of fun _ _ => by simp [PySem.W.alike, PySem.W.alikeAll, pD]
theorem sortable_pD (ks : List (Str × Str)) : Sortable (ks.map pD) := Sortable.tuples fun _ => ⟨_, _, rfl⟩
theorem cr_sortDT (hc : X.calm = true) (hu : X.A.units + 64 < cLine) : CallR X (.builtin "sorted") rSortDT := by
  intro pins s σ H xs us Q I r h
  obtain ⟨d, kvs, kk, rfl, hd, hkk, h1000, q⟩ := h
  obtain ⟨u, rfl, rx⟩ := r.one
  cases rx
  obtain ⟨z, hs, ks, pr, o, es, ep, ho, hx, hdt, he, hn⟩ := (show ObjOk X.prog X.w H s.heap d (.dT kvs) from hd.ok I.hok)
  have l1 : es.size = ks.length := size_of_entries he
  have l2 : kvs.length = ks.length := Paired.length pr
  have l3 : kvs.length = kk.length := by
    have := congrArg List.length hkk
    rw [List.length_map, List.length_map] at this
    exact this
  have z16 : sizeLine = 16777216 := sizeLine_eq
  refine Calls.call_function_entry PyProof.Rows.kind_sorted PyProof.Rows.plain_sorted PyProof.Rows.entry_sorted (PyProof.Rows.args_sorted1 _) ?_
  unfold Builtin.«sorted»
  refine wpAny_bind (m := checkCount "sorted" 1 1 _) (wpAny_pure ?_)
  refine wpAny_bind (PySem.W.kdu_collect (A := X.A.in1) (kdl_raw hs hx hdt) (I.ok.hd hc) ho (by omega) fun h' tk acc hk it => ?_)
  have hsz : acc.toList.length = ks.length := (Array.length_toList).trans (it.1.trans l1)
  have ea : acc.toList = ks.map fun x => Value.ref x.2.1 := by
    refine rows_same hsz fun j v b hv hb => ?_
    obtain ⟨en, hen, rfl⟩ := it.2 j v ((Array.getElem?_toList).symm.trans hv)
    have q := (entry_at he j).symm.trans hen
    rw [hb] at q
    cases q
    rfl
  have eb : acc.toList = (ks.map fun x => x.2.1).map Value.ref := by rw [ea, List.map_map]; all_goals rfl
  have hP := isKeys_pairs (isKeys_of pr) hkk
  have hal : acc.toList.length = kk.length := by rw [Array.length_toList, it.1, l1, ← l2, l3]
  have I1 : Inv X pins σ H { s with heap := h', toks := tk } := I.kept hk
  refine wpAny_bind (wpAny_newList ?_ (by rw [hal]; omega))
  have hoL : (h'.push (seqObj "list" acc.toList.toArray 0)).get? h'.objs.size = some (seqObj "list" acc.toList.toArray 0) := Heap.get?_push_size _ rfl
  show wpAny _ _ _ _ _ { s with heap := h'.push (seqObj "list" acc.toList.toArray 0), toks := tk }
  have e0 : EachIs (fun v (k : Str × Str) => ∃ q, v = Value.ref q ∧ H q = some (.tup [.str k.1, .str k.2])) acc.toList kk := by
    rw [eb]
    exact pair_each hP
  refine wpAny_bind (wpAny_holding (PySem.W.list_sort_data (enc := pD) (s := { s with heap := h'.push (seqObj "list" acc.toList.toArray 0), toks := tk }) hoL e0 (each_and e0 fun k _ v rv => ?_) (alike_pD kk) (sortable_pD kk) (by omega) (fun k _ => ?_) fun out hlo hO => ?_))
  · obtain ⟨q, rfl, hq⟩ := rv
    obtain ⟨_, its, rv2, ot, hot, hct, nt, hdtt⟩ := (show ObjOk X.prog X.w H h' q (.tup [.str k.1, .str k.2]) from I1.hok q _ hq)
    obtain ⟨u1, u2, rfl, r1, r2⟩ := rv2.two
    obtain ⟨t1, rfl⟩ := r1
    obtain ⟨t2, rfl⟩ := r2
    refine ⟨[], Reads.tuple (Heap.get?_push_of_some _ hot) hct hdtt ?_, fun z => nomatch z⟩
    exact ReadsAll.cons (as := []) (bs := []) (.str _ _) (ReadsAll.cons (as := []) (bs := []) (.str _ _) .nil)
  · have : (pD k).depth = 1 := by simp [pD, PyData.depth, PyData.depthAll]
    show X.A.units + 1 + 1 + _ < _
    omega
  · obtain ⟨qs, eo, pq⟩ := each_pair hO
    obtain ⟨e', he'⟩ := PyProof.Rows.sortedHeap_at (vs := acc.toList) (out := out.toArray) hoL
    have hlen : (qs.map V.ref).length ≤ sizeLine := by
      have : out.length = qs.length := by rw [eo, List.length_map]
      rw [List.length_map]
      omega
    refine wpAny_pure ⟨_, rfl, .ref h'.objs.size, upd H h'.objs.size (.lst (qs.map V.ref)), I1.laid (t' := tk) (fun b u e => ?_) (Nat.le_refl _)
      (show ObjOk X.prog X.w _ _ _ (.lst (qs.map V.ref)) from ⟨hlen, out, e', by rw [eo]; exact vals_refs qs, by simpa using he'⟩), rfl, q _ qs (I1.hok.fresh (Nat.le_refl _)) pq⟩
    have hb : b < h'.objs.size := Heap.lt_size e
    rw [PyProof.Rows.sortedHeap_old (Nat.ne_of_lt hb) (by rw [size_push']; exact Nat.lt_succ_of_lt hb)]
    exact Heap.get?_push_of_some _ e
end
end Ns

/-! NsU: d.update(e), two dicts; the values and the items of a dict. -/
namespace Ns
open PySem PySem.Spec PyProof.Rows L2
open L2.DX (itemsO itemsO_ok takeT)
theorem mergeK_len : ∀ (more kvs : List (Key × V)), (mergeK kvs more).length ≤ kvs.length + more.length
  | [], kvs => Nat.le_refl _
  | p :: more, kvs => by
    have h1 := mergeK_len more (putK kvs p.1 p.2)
    have h2 := length_putK kvs p.1 p.2
    show (mergeK (putK kvs p.1 p.2) more).length ≤ _
    rw [List.length_cons]
    omega
section
variable {X : Cx}
def rDUpd : V → List V → Hp → VK → Prop := fun x xs H Q => ∃ (a b : Addr) (kvs more : List (Key × V)), x = .ref a ∧ xs = [.ref b] ∧ a ≠ b ∧ H a = some (.dK kvs) ∧ H b = some (.dK more) ∧ kvs.length + more.length ≤ sizeLine ∧ Q .non (upd H a (.dK (mergeK kvs more)))
theorem mt_dupd : MtR X "dict.update" rDUpd := by
  intro pins s σ H x xs v us Q I rx rxs h
  obtain ⟨a, b, kvs, more, rfl, rfl, hab, ha, hb, hz, q⟩ := h
  cases rx
  obtain ⟨u, rfl, ru⟩ := vals1 rxs
  cases ru
  obtain ⟨_, da, va, ka, oa⟩ := dk_of I.hok ha
  obtain ⟨_, db, vb, kb, ob⟩ := dk_of I.hok hb
  have lens : va.length + vb.length ≤ sizeLine := by rw [← ka.length, ← kb.length]; exact hz
  refine call_meetsIn PySem.F.slot_dict_update oa.typeIs PySem.F.entry_dict_update (PySem.F.args_dict_update_2 _ _) (meets_dict_update (mixKind X.prog X.w) a b hab db) ⟨va, vb, oa, ob, lens, fun h' m1 _ sb => ?_⟩
  have there : ∃ q, h'.get? a = some q := by
    obtain ⟨q, _, _, hq, _⟩ := m1
    exact ⟨q, hq⟩
  exact ⟨.non, _, d_write (t' := s.toks) I (by rw [ha]; trivial) sb there (dk_new (Nat.le_trans (mergeK_len more kvs) hz) da (KV.merge kb ka) m1), rfl, q⟩
/-- the view d.values() at p -/
def valsO (p d : Addr) : HO := .ext fun h => h.IsValuesView p d
theorem valsO_ok {P : Program} {w : World} {H : Hp} {h : Heap} {p d : Addr} (e : h.get? p = some { cls := .type "dict_values", data := .fields #[.ref d] }) : ObjOk P w H h p (valsO p d) :=
  ⟨⟨_, e, rfl, rfl⟩, ⟨_, e⟩, fun h1 h2 x k => by
    obtain ⟨o, ho, r⟩ := x
    exact ⟨o, k o ho, r⟩⟩
def rItemsK : V → List V → Hp → VK → Prop := fun x xs H Q => ∃ (a : Addr) (kvs : List (Key × V)), x = .ref a ∧ xs = [] ∧ H a = some (.dK kvs) ∧ ∀ p, H p = none → Q (.ref p) (upd H p (itemsO p a))
def rValsK : V → List V → Hp → VK → Prop := fun x xs H Q => ∃ (a : Addr) (kvs : List (Key × V)), x = .ref a ∧ xs = [] ∧ H a = some (.dK kvs) ∧ ∀ p, H p = none → Q (.ref p) (upd H p (valsO p a))
theorem mt_itemsK : MtR X "dict.items" rItemsK := by
  intro pins s σ H x xs v us Q I rx rxs h
  obtain ⟨a, kvs, rfl, rfl, ha, q⟩ := h
  cases rx
  cases rxs
  obtain ⟨_, da, va, ka, oa⟩ := dk_of I.hok ha
  refine call_meetsIn PySem.F.slot_dict_items oa.typeIs PySem.F.entry_dict_items (PySem.F.args_dict_items_1 _) (meets_dict_items (mixKind X.prog X.w) a da) ⟨⟨va, oa⟩, ?_⟩
  exact ⟨.ref s.heap.objs.size, upd H s.heap.objs.size (itemsO s.heap.objs.size a), I.laid (t' := s.toks) (fun b u e => Heap.get?_push_of_some _ e) (Nat.le_refl _) (itemsO_ok (Heap.get?_push_size _ rfl)), rfl, q _ (I.hok.fresh (Nat.le_refl _))⟩
theorem mt_valsK : MtR X "dict.values" rValsK := by
  intro pins s σ H x xs v us Q I rx rxs h
  obtain ⟨a, kvs, rfl, rfl, ha, q⟩ := h
  cases rx
  cases rxs
  obtain ⟨_, da, va, ka, oa⟩ := dk_of I.hok ha
  refine call_meetsIn PySem.F.slot_dict_values oa.typeIs PySem.F.entry_dict_values (PySem.F.args_dict_values_1 _) (meets_dict_values (mixKind X.prog X.w) a da) ⟨⟨va, oa⟩, ?_⟩
  exact ⟨.ref s.heap.objs.size, upd H s.heap.objs.size (valsO s.heap.objs.size a), I.laid (t' := s.toks) (fun b u e => Heap.get?_push_of_some _ e) (Nat.le_refl _) (valsO_ok (Heap.get?_push_size _ rfl)), rfl, q _ (I.hok.fresh (Nat.le_refl _))⟩
/-- sum(d.values()), whole numbers -/
def rSumVals : List V → Hp → VK → Prop := fun xs H Q => ∃ (p a : Addr) (kvs : List (Key × V)) (ns : List Int), xs = [.ref p] ∧ H p = some (valsO p a) ∧ H a = some (.dK kvs) ∧ kvs.map (·.2) = ns.map V.int ∧ Q (.int ns.sum) H
theorem preSum_eq : ∀ ns : List Int, preSum (fun i => ns.getD i 0) ns.length = ns.sum
  | [] => rfl
  | n :: ns => by
    rw [List.length_cons, PySem.W.kdu_shift]
    have ih := preSum_eq ns
    show n + preSum (fun i => ns.getD i 0) ns.length = _
    rw [ih, List.sum_cons]
theorem vals_num {ns : List Int} : ∀ {us : List Value}, Vals (ns.map V.int) us → ∀ (j : Nat) (u : Value), us[j]? = some u → ∃ t, u = .int (ns.getD j 0) t := by
  induction ns with
  | nil => intro us r j u h; cases r; cases h
  | cons n ns ih =>
    intro us r j u h
    cases r with
    | cons a b =>
      cases j with
      | zero =>
        cases h
        exact a
      | succ j => exact ih b j u h
theorem call_sumVals (hc : X.calm = true) : CallR X (.builtin "sum") rSumVals := by
  intro pins s σ H xs us Q I r h
  obtain ⟨p, a, kvs, ns, rfl, hp, ha, hn, q⟩ := h
  obtain rfl := Vals.ref1 r
  have view : s.heap.IsValuesView p a := (show ObjOk X.prog X.w H s.heap p (valsO p a) from I.hok p _ hp).1
  obtain ⟨_, da, va, ka, oa⟩ := dk_of I.hok ha
  obtain ⟨ep, hat⟩ := oa.dictAt
  have src := PySem.W.kdl_values (prog := X.prog) (w := X.w) (knd := mixKind X.prog X.w) (kvs := va) (ep := ep) (r := p) (d := a)
  have ok : s.heap.IsValuesView p a ∧ s.heap.DictAt (mixKind X.prog X.w) a va ep := ⟨view, hat⟩
  have nums := kv_vals ka
  rw [hn] at nums
  have ln : va.length = ns.length := by
    have := nums.length
    rw [List.length_map, List.length_map] at this
    exact this.symm
  refine call_sum_walkAnyS ?_
  obtain ⟨ob, St, step, W, st⟩ := src.iter X.A.in1 s (I.ok.hd hc) ok
  refine step _ _ ⟨s.heap.objs.size, _, _, _, va.length, _, _, fun i => ns.getD i 0, rfl, W.toS, st, fun b hb => ?_, fun i v hv => ?_, fun s' t' hm => ?_⟩
  · have there := src.there _ ok
    have up : s.heap.objs.size < (s.heap.push ob).objs.size := by rw [size_push']; omega
    rcases List.mem_cons.mp hb with e | e
    · rw [e]; exact up
    · rw [List.mem_singleton.mp e]
      exact Nat.lt_trans there.2 up
  · obtain ⟨k, hk⟩ := hv
    exact vals_num nums i v (by rw [List.getElem?_map, hk]; rfl)
  · have kept : ∀ b o, s.heap.get? b = some o → s'.heap.get? b = some o := fun b o e => by
      refine hm.heap b o (fun z => ?_) (Heap.get?_push_of_some _ e)
      have := Heap.lt_size e
      rw [List.mem_singleton.mp z] at this
      exact Nat.lt_irrefl _ this
    rw [Moved.eq_with hm, ln, preSum_eq]
    exact ⟨.int ns.sum, H, I.kept kept, ⟨_, rfl⟩, q⟩
/-- list(d.items()): new pairs -/
def rListItems : List V → Hp → VK → Prop := fun xs H Q => ∃ (p a : Addr) (kvs : List (Key × V)), xs = [.ref p] ∧ H p = some (itemsO p a) ∧ H a = some (.dK kvs) ∧
  ∀ (l : Addr) (ts : List Addr) (H' : Hp), H l = none → Same H H' → H' l = some (.lst (ts.map V.ref)) → Paired (fun (t : Addr) (kv : Key × V) => H' t = some (.tup [kV kv.1, kv.2]) ∧ H t = none) ts kvs → Q (.ref l) H'
theorem key_rel {P : Program} {w : World} {k : Key} {u : Value} (h : (mixKind P w).is k u = true) : RelV (kV k) u := by
  rcases keyIs_shape (show keyIs k u = true from h) with ⟨i, t, rfl, rfl⟩ | ⟨x, t, rfl, rfl⟩
  · exact ⟨t, rfl⟩
  · exact ⟨t, rfl⟩
theorem kv_at : ∀ {ks : List (Key × V)} {vs : List (Key × Value)}, KV ks vs → ∀ {j : Nat} {k : Key} {x : Value}, vs[j]? = some (k, x) → ∃ v, ks[j]? = some (k, v) ∧ RelV v x
  | _, _, .cons (a := a) h t, 0, k, x, e => by
    cases e
    obtain ⟨h1, h2⟩ := h
    have h1' : a.1 = k := h1
    exact ⟨a.2, by rw [← h1']; rfl, h2⟩
  | _, _, .cons h t, j + 1, k, x, e => kv_at t e
theorem pair_rows {R : Addr → Key × V → Prop} : ∀ {ts : List Addr} {kvs : List (Key × V)}, ts.length = kvs.length → (∀ (j : Nat) (t : Addr) (kv : Key × V), ts[j]? = some t → kvs[j]? = some kv → R t kv) → Paired R ts kvs
  | [], [], _, _ => .nil
  | t :: ts, kv :: kvs, hl, h => .cons (h 0 t kv rfl rfl) (pair_rows (Nat.succ.inj hl) fun j a b h1 h2 => h (j + 1) a b h1 h2)
theorem call_listItems (hc : X.calm = true) : CallR X (.type "list") rListItems := by
  intro pins s σ H xs us Q I r h
  obtain ⟨p, a, kvs, rfl, hp, ha, q⟩ := h
  obtain rfl := Vals.ref1 r
  have view : s.heap.IsItemsView p a := (show ObjOk X.prog X.w H s.heap p (itemsO p a) from I.hok p _ hp).1
  obtain ⟨hz, da, va, ka, oa⟩ := dk_of I.hok ha
  obtain ⟨ep, hat⟩ := oa.dictAt
  have lv : kvs.length = va.length := ka.length
  refine PySem.W.kdx_call (I.ok.hd hc) view hat (by rw [← lv]; exact hz) fun h' tk acc c ts kept hS hl hG hacc => ?_
  have nd : ts.Nodup := List.Pairwise.imp (fun h => Nat.ne_of_lt h) hG.rise
  have fr : H s.heap.objs.size = none := I.hok.fresh (Nat.le_refl _)
  have lz : (ts.map V.ref).length ≤ sizeLine := by rw [List.length_map, hl, ← lv]; exact hz
  have I1 : Inv X pins σ (upd H s.heap.objs.size (.lst (ts.map V.ref))) { s with heap := h', toks := tk } :=
    I.laid (t' := tk) kept (Nat.le_refl _) ⟨lz, acc.toList, c, by rw [hacc]; exact vals_refs ts, by rw [Array.toArray_toList]; exact hS⟩
  have made : ∀ (j : Nat) (t : Addr), ts[j]? = some t → ∃ (k : Key) (v : V), kvs[j]? = some (k, v) ∧ ∀ H2, ObjOk X.prog X.w H2 h' t (.tup [kV k, v]) := fun j t ht => by
    obtain ⟨key, k, x, e1, e2, e3⟩ := hG.pairs j t ht
    obtain ⟨v, e4, rv⟩ := kv_at ka e1
    exact ⟨k, v, e4, fun H2 => ⟨(by rw [sizeLine_eq]; show 2 ≤ 16777216; omega), [key, x], .cons (key_rel e2) (.cons rv .nil), ⟨_, e3, rfl, 0, rfl⟩⟩⟩
  obtain ⟨H2, I3, g, qt⟩ := takeT (P := fun t vs => ∃ (j : Nat) (k : Key) (v : V), ts[j]? = some t ∧ kvs[j]? = some (k, v) ∧ vs = [kV k, v]) I ts _ I1 nd fun t ht => by
    obtain ⟨j, hj⟩ := List.mem_iff_getElem?.mp ht
    obtain ⟨k, v, e1, e2⟩ := made j t hj
    have above := hG.above t ht
    exact ⟨Nat.le_of_lt above, by rw [upd_ne (Nat.ne_of_gt above)]; exact I.hok.fresh (Nat.le_of_lt above), [kV k, v], ⟨j, k, v, hj, e1, rfl⟩, e2⟩
  refine ⟨.ref s.heap.objs.size, H2, I3, rfl, q _ ts H2 fr (fun b o e => g b o (by rw [upd_ne (ne_of_none e fr)]; exact e)) (g _ _ upd_same) (pair_rows (by rw [hl, lv]) fun j t kv h1 h2 => ?_)⟩
  obtain ⟨vs, ⟨i, k, v, e1, e2, rfl⟩, e3⟩ := qt t (List.mem_of_getElem? h1)
  have ij : i = j := (List.getElem?_inj (List.getElem?_eq_some_iff.mp e1).1 nd).mp (e1.trans h1.symm)
  rw [ij, h2] at e2
  cases e2
  exact ⟨e3, I.hok.fresh (Nat.le_of_lt (hG.above t (List.mem_of_getElem? h1)))⟩
end
end Ns

/-! NsI: set(xs) of whole numbers, xs a list. -/
namespace Ns
open PySem PySem.Spec PyProof.Rows L2
/-- a set as it is made -/
abbrev setN (w : World) : Obj := { cls := .type "set", dict := none, data := .set #[] 0 (.fresh 0 0 (!w.params.followText "set-order")) }
section
variable {P : Program} {w : World} {A : Around} {E : Value → Shared → Prop} {s : Shared}
set_option maxHeartbeats 3200000 in
theorem set_ofI {l : Addr} {items : Array Value} (ns : List Int) {Q : Value → Shared → Prop} (hh : A.handled = none) (hl : s.heap.IsList l items) (rel : IntsAre items.toList ns) (room : ns.length + 1 < scanBound)
    (q : ∀ (h' : Heap) (tk c : Nat), (∀ b o, s.heap.get? b = some o → h'.get? b = some o) → SetR w h' s.heap.objs.size (fun j => decide (j ∈ ns)) c → c ≤ ns.length → Q (.ref s.heap.objs.size) { s with heap := h', toks := tk }) :
    wpAny (model P w) A (call (.type "set") [.ref l]) Q E s := by
  have sz : items.size = ns.length := by
    have e := IntsAre.length rel
    rw [Array.length_toList] at e
    exact e
  obtain ⟨c, tl, hmro⟩ := F.called_set.mro
  have f1 := F.called_set.made
  have f2 := F.called_set.sub
  have f3 := F.called_set.notType
  have f4 := F.called_set.canCreate
  have f5 := F.typeCall_set_1 (.ref l)
  refine wpAny_call (codeAny_of_tree ?_)
  show wpAny _ _ (callAny (.type "set") _) _ _ _
  refine wpAny_pure ⟨Code.quiet_builtin _ (by decide +kernel), codeAny_builtin F.entry_type_call ?_⟩
  rw [Around.under_plain (weight_type_call_type "set" [.ref l] []) rfl]
  repeat (any_goals (first | assumption | wp_step))
  refine codeAny_mono (code_set_led1 (.ref l) (E := E) (Q₁ := fun obj s₁ => obj = .ref s.heap.objs.size ∧ s₁ = { s with heap := s.heap.push (setN w) }) ⟨rfl, rfl⟩) fun r s₁ hr => ?_
  rcases r with e | fl
  · exact hr
  cases fl with
  | ret obj =>
    obtain ⟨rfl, rfl⟩ := hr
    have at0 : (s.heap.push (setN w)).get? s.heap.objs.size = some (setN w) := Heap.get?_push_size _ rfl
    have ty0 : Shared.TypeIs { s with heap := s.heap.push (setN w) } (.ref s.heap.objs.size) "set" := ⟨_, at0, rfl⟩
    have f6 := F.called_set.init.lookup
    have f7 := F.called_set.init.bind (.ref s.heap.objs.size)
    repeat (any_goals (first | assumption | wp_step))
    refine codeAny_mono (codeAny_call_builtin (R := wants (fun r s₂ => r = .none ∧ ∃ h' tk c, s₂ = { s with heap := h', toks := tk } ∧ (∀ c o, s.heap.get? c = some o → h'.get? c = some o) ∧ SetR w h' s.heap.objs.size (fun j => decide (j ∈ ns)) c ∧ c ≤ ns.length) E)
      F.called_set.init.plain F.entry_set_init (check_set_init_1 ty0 ?_)) fun r₂ s₂ hr₂ => ?_
    · obtain ⟨⟨ocls, odict, odata, oslots⟩, hol, hcl, nl, hdl⟩ := hl
      simp only at hcl hdl
      subst hcl; subst hdl
      have lS : l < s.heap.objs.size := Heap.lt_size hol
      have hol' : (s.heap.push (setN w)).get? l = some { cls := .type "list", dict := odict, data := .seq items nl, slots := oslots } := Heap.get?_push_of_some _ hol
      have g1 := F.sub_list_set
      have g2 := F.sub_list_frozenset
      have g3 : (Value.type "list" == Value.type "dict") = false := by decide
      have isl : (s.heap.push (setN w)).IsList l items := ⟨_, hol', rfl, nl, rfl⟩
      unfold Builtin.«set.__init__» noKeywords Builtin.Frozenset.updateFrom
      generalize keep : pyIter = PI
      wp_walk
      subst keep
      refine wpAny_pyIter_list isl (wpAny_bind (wpAny_runValue ?_))
      have up : (s.heap.push (setN w)).objs.size = s.heap.objs.size + 1 := size_push' _ _
      have nI : l ≠ (s.heap.push (setN w)).objs.size := by rw [up]; exact Nat.ne_of_lt (Nat.lt_succ_of_lt lS)
      have nS : s.heap.objs.size ∉ [(s.heap.push (setN w)).objs.size, l] := fun z => by
        rw [up] at z
        rcases List.mem_cons.mp z with e | e
        · exact Nat.ne_of_lt (Nat.lt_succ_self _) e
        · exact Nat.ne_of_gt lS (List.mem_singleton.mp e)
      have hval : ∀ (i : Nat) (v : Value), items[i]? = some v → ∃ k t, ns[i]? = some k ∧ v = .int k t := fun i v hv => by
        have hi : i < ns.length := by rw [← sz]; exact (Array.getElem?_eq_some_iff.mp hv).1
        obtain ⟨t, e⟩ := IntsAre.int_at rel i v (by rw [Array.getElem?_toList]; exact hv)
        refine ⟨ns[i], t, List.getElem?_eq_getElem hi, ?_⟩
        rw [e, List.getD_eq_getElem?_getD, List.getElem?_eq_getElem hi]
        all_goals rfl
      refine set_update_ints ((Walks.list (by simp [hh]) _ l nI items).toS) s.heap.objs.size nS ns sz room hval items.size 0 _ (Nat.sub_zero _) (Nat.zero_le _) ⟨⟨_, Heap.get?_push_size _ rfl, rfl, rfl⟩, isl.push _⟩
        ⟨0, Nat.le_refl 0, setR_new_at (Heap.get?_push_of_some _ at0)⟩ fun s' c' hm hc hS => ?_
      obtain ⟨h', g', d', tk', os'⟩ := s'
      have e1 : g' = s.gens := hm.gens
      have e2 : d' = s.drawn := hm.drawn
      have e3 : os' = s.os := hm.os
      subst e1
      subst e2
      subst e3
      refine wpAny_pure (wpAny_pure ⟨rfl, h', tk', c', rfl, fun b o e => ?_, hS, by rw [← sz]; exact hc⟩)
      have cl : b < s.heap.objs.size := Heap.lt_size e
      refine hm.heap b o (fun z => ?_) (Heap.get?_push_of_some _ (Heap.get?_push_of_some _ e))
      rcases List.mem_cons.mp z with e | e
      · exact Nat.ne_of_lt cl e
      · rw [List.mem_singleton, up] at e
        exact Nat.ne_of_lt (Nat.lt_succ_of_lt cl) e
    · rcases r₂ with e | fl₂
      · exact hr₂
      cases fl₂ with
      | ret r =>
        obtain ⟨rfl, h', tk, c', rfl, kp, X, m⟩ := hr₂
        repeat (any_goals (first | assumption | wp_step))
        exact q h' tk c' kp X m
      | _ => exact hr₂.elim
  | _ => exact hr.elim
end
section
variable {X : Cx}
/-- set(xs): whole numbers -/
def rSetI (K : PySem.W.Frag) (w : World) : List V → Hp → VK → Prop := fun xs H Q => ∃ (a : Addr) (ns : List Int), xs = [.ref a] ∧ SqL K H a (ns.map V.int) ∧ ns.length ≤ 1000 ∧ ∀ (p : Addr) (c : Nat), c ≤ ns.length → H p = none → Q (.ref p) (upd H p (SetO w p (fun j => decide (j ∈ ns)) c))
theorem vals_ints {ns : List Int} : ∀ {us : List Value}, Vals (ns.map V.int) us → IntsAre us ns := by
  induction ns with
  | nil => intro us r; cases r; exact .nil
  | cons n ns ih => intro us r; cases r with
    | cons h t =>
      obtain ⟨tk, rfl⟩ := h
      exact .cons n tk (ih t)
theorem call_setI (hc : X.calm = true) : CallR X (.type "set") (rSetI X.K X.w) := by
  intro pins s σ H xs us Q I r h
  obtain ⟨a, ns, rfl, hs, hz, q⟩ := h
  obtain ⟨its, rv, hl, _⟩ := I.list hs
  rw [Vals.ref1 r]
  refine set_ofI ns (I.ok.hd hc) hl.isList (by simpa using vals_ints rv) (Nat.lt_of_le_of_lt (show ns.length + 1 ≤ 1001 by omega) (by decide)) fun h' tk c kp R hcl => ?_
  exact ⟨.ref s.heap.objs.size, upd H s.heap.objs.size (SetO X.w s.heap.objs.size (fun j => decide (j ∈ ns)) c), I.laid (t' := tk) kp (Nat.le_refl _) (setO_new R), rfl, q _ c hcl (I.hok.fresh (Nat.le_refl _))⟩
end
end Ns

/-! NsJ: sorted(t) of a tuple of ints. -/
namespace Ns
open PySem PySem.Spec PyProof.Rows L2
section
variable {prog : Program} {w : World} {A : Around} {E : Value → Shared → Prop} {s : Shared}
/-- the heap behind the gathering of a tuple's items -/
abbrev gath (h : Heap) (vs : List Value) : Heap := (h.push (seqObj "list" #[] 0)).update h.objs.size (Obj.mapSeq (· ++ vs.toArray))
theorem gather_tup {l : Addr} {vs : List Value} {Q : List Value → Shared → Prop} (hl : IsTup s.heap l vs.toArray) (hz : vs.length ≤ sizeLine) (h : Q vs { s with heap := gath s.heap vs }) : wpAny (model prog w) A (collect (.ref l)) Q E s := by
  obtain ⟨o, e, cl, n, d⟩ := hl
  have e1 : (s.heap.push (seqObj "list" #[] 0)).get? l = some o := Heap.get?_push_of_some _ e
  have e2 : (s.heap.push (seqObj "list" #[] 0)).get? s.heap.objs.size = some (seqObj "list" #[] 0) := Heap.get?_push_size _ rfl
  have t0 : (Value.type "tuple" == Value.type "tuple") = true := rfl
  unfold collect
  refine wpAny_bind (wpAny_runValue (codeAny_builtin entry_proto_collect' ?_)); show wpAny _ _ (do again (.builtin "list.__iadd__" ⟨[← newList [], .ref l], []⟩)) _ _ s
  refine wpAny_bind (wpAny_newList (wpAny_pure ⟨Code.quiet_builtin _ (by decide +kernel), codeAny_builtin entry_list_iadd' ?_⟩)); show wpAny _ _ (Builtin.List.listExtendWith (.ref s.heap.objs.size) (.ref l) (.ref s.heap.objs.size)) _ _ { s with heap := s.heap.push (seqObj "list" #[] 0) }
  unfold Builtin.List.listExtendWith
  refine wpAny_bind (wpAny_typeOf (T := "tuple") ⟨o, e1, cl⟩ ?_)
  rw [if_pos (by rw [t0, Bool.or_true])]
  refine wpAny_bind (listItems_at e1 d (wpAny_bind (listItems_at (xs := #[]) (n := 0) e2 rfl ?_)))
  rw [if_neg (by simp)]
  refine wpAny_bind (listUpdate_at (xs := #[]) (n := 0) e2 rfl (wpAny_pure ?_) (Nat.zero_le _) (by rw [Array.empty_append, List.size_toArray]; omega))
  show wpAny (model prog w) A (do let q ← load s.heap.objs.size; match q.data with | .seq xs _ => pure xs.toList | _ => unsupported "internal:collect") Q E { s with heap := gath s.heap vs }
  refine wpAny_bind (wpAny_load (get?_update_seq e2 _) ?_)
  show wpAny _ _ (pure ((#[] : Array Value) ++ vs.toArray).toList) Q E _
  have ev : ((#[] : Array Value) ++ vs.toArray).toList = vs := by simp
  rw [ev]
  exact wpAny_pure h
theorem sorted_tupI {l : Addr} {vs : List Value} {ns : List Int} {Q : Value → Shared → Prop} (hl : IsTup s.heap l vs.toArray) (hi : IntsAre vs ns) (hz : vs.length ≤ sizeLine)
    (h : ∀ out : List Value, SrtO.Srtd SrtO.ltIv out → SrtO.Stb SrtO.ltIv out vs → Q (.ref (s.heap.objs.size + 1)) { s with heap := PyProof.Rows.sortedAll s.heap vs out.toArray }) : wpAny (model prog w) A (call (.builtin "sorted") [.ref l]) Q E s := by
  have sz : (gath s.heap vs).objs.size = s.heap.objs.size + 1 := by rw [Heap.size_update, size_push']
  have at1 : ((gath s.heap vs).push (seqObj "list" vs.toArray 0)).get? (s.heap.objs.size + 1) = some (seqObj "list" vs.toArray 0) := by rw [← sz]; exact Heap.get?_push_size _ rfl
  refine Calls.call_function_entry kind_sorted plain_sorted entry_sorted (args_sorted1 _) ?_; unfold Builtin.«sorted»
  refine wpAny_bind (m := checkCount "sorted" 1 1 _) (wpAny_pure (wpAny_bind (gather_tup hl hz (wpAny_bind (wpAny_newList ?_ hz)))))
  show wpAny _ _ _ _ _ { s with heap := (gath s.heap vs).push (seqObj "list" vs.toArray 0) }
  rw [sz]
  have srt := @SrtO.list_sort_ord prog w
  refine wpAny_bind (wpAny_holding (wpAny_call_entry slot_list_sort ⟨_, at1, rfl⟩ entry_list_sort (srt (s := { s with heap := (gath s.heap vs).push (seqObj "list" vs.toArray 0) }) SrtO.swo_int at1 hz (fun two => SrtO.ints_sortable hi two) fun o a b => ⟨_, rfl, ?_⟩) (args_list_sort _)))
  exact wpAny_pure ⟨_, rfl, h o a b⟩
end
/-- sorted(t), a tuple of ints -/
def rSortedTI (K : PySem.W.Frag) : List V → Hp → VK → Prop := fun vs H Q => ∃ (a : Addr) (ns : List Int), vs = [.ref a] ∧ SqT K H a (ns.map V.int) ∧ ∀ (ms : List Int) (p : Addr), ms.Perm ns → ms.Pairwise (· ≤ ·) → H p = none → Q (.ref p) (upd H p (.lst (ms.map V.int)))
theorem cr_sortedTI {X : Cx} : CallR X (.builtin "sorted") (rSortedTI X.K) := by
  intro pins s σ H vs us Q I r h
  obtain ⟨a, ns, rfl, hs, q⟩ := h
  obtain ⟨its, rv, hl, hz⟩ := I.tuple hs
  have hi := rv.ints
  rw [Vals.ref1 r]
  refine sorted_tupI hl hi (by rw [← rv.length]; exact hz) fun out h1 h2 => ?_
  obtain ⟨k1, k2, k3⟩ := SrtO.ints_out hi h1 h2
  obtain ⟨ep, he⟩ := PyProof.Rows.sortedAll_at s.heap its out.toArray
  have len : ((out.map SrtO.iv).map V.int).length ≤ sizeLine := by
    rw [List.length_map, k2.length_eq, ← List.length_map (f := V.int)]
    exact hz
  refine ⟨.ref _, upd H (s.heap.objs.size + 1) (.lst ((out.map SrtO.iv).map V.int)), I.laid (t' := s.toks) (fun _ _ => PyProof.Rows.sortedAll_old) (Nat.le_succ _) ⟨len, out, ep, vals_of_ints k1, he⟩, rfl, ?_⟩
  exact q _ _ k2 k3 (I.hok.fresh (Nat.le_succ _))
end Ns

/-! NsK: enumerate(t), a tuple. -/
namespace Ns
open PySem PySem.Spec PyProof.Rows L2
set_option maxHeartbeats 4000000 in
theorem meets_enum1 {v : Value} {o : Obj} {H : Heap → Prop} (B : Begins v o H) :
    Meets (Builtin.«enumerate.__new__» ⟨[.type "enumerate", v], []⟩) (fun _ R s => H s.heap ∧
      R (.ok (.ret (.ref (s.heap.push o).objs.size))) { s with heap := (s.heap.push o).push { cls := .type "enumerate", data := .fields #[.none, .bool false, .ref s.heap.objs.size, rawInt 0, .none, .none] } }) :=
  .of_wp fun prog w A R s h => by
    obtain ⟨hp, g, d, tk, os⟩ := s; obtain ⟨h1, h⟩ := h
    have hsub := sub_enumerate
    have q1 : ∀ {A' : Around} {E : Value → Shared → Prop} {Q : Value → Shared → Prop}, Q (.ref hp.objs.size) ⟨hp.push o, g, d, tk, os⟩ → wpAny (model prog w) A' (pyIter v) Q E ⟨hp, g, d, tk, os⟩ :=
      fun q => B.iter prog w _ _ ⟨hp, g, d, tk, os⟩ _ h1 q
    wp_walk using q1
    refine wpAny_stack_any fun st => wpAny_pure ?_
    split
    · rename_i c _ _ _ _ _
      cases (c == Value.type "enumerate")
      · wp_walk using q1
        exact ⟨_, rfl, h⟩
      · wp_walk using q1
        exact ⟨_, rfl, h⟩
    · wp_walk using q1
      exact ⟨_, rfl, h⟩
section
variable {prog : Program} {w : World} {A : Around} {E : Value → Shared → Prop} {s : Shared}
theorem call_enum1 {v : Value} {o : Obj} {H : Heap → Prop} {Q : Value → Shared → Prop} (B : Begins v o H) (h1 : H s.heap)
    (h : ∀ h', IsEnum h' (s.heap.objs.size + 1) s.heap.objs.size 0 .none → h'.get? s.heap.objs.size = some o → h'.objs.size = s.heap.objs.size + 2 →
      (∀ b o, s.heap.get? b = some o → h'.get? b = some o) → Q (.ref (s.heap.objs.size + 1)) { s with heap := h' }) :
    wpAny (model prog w) A (call (.type "enumerate") [v]) Q E s := by
  refine callType_new F.called_enumerate (by decide) (F.typeCall_enumerate_1 _) (F.newCall_enumerate_1 _) (fun obj => F.args_object_init_2 obj _) F.entry_enumerate_new
    (meets_enum1 B) ⟨h1, ?_⟩
  have hz : (s.heap.push o).objs.size = s.heap.objs.size + 1 := Heap.size_push ..
  show _ ∧ _
  rw [hz]
  have he : IsEnum ((s.heap.push o).push { cls := .type "enumerate", data := .fields #[.none, .bool false, .ref s.heap.objs.size, rawInt 0, .none, .none] }) (s.heap.objs.size + 1) s.heap.objs.size 0 .none := by
    have := Heap.get?_push_size (s.heap.push o) (o := { cls := .type "enumerate", data := .fields #[.none, .bool false, .ref s.heap.objs.size, rawInt 0, .none, .none] }) rfl
    rw [hz] at this; exact this
  refine ⟨⟨_, he, rfl⟩, h _ he (Heap.get?_push_of_some _ (Heap.get?_push_size _ B.free)) (by rw [Heap.size_push, hz]) fun b o x => Heap.get?_push_of_some _ (Heap.get?_push_of_some _ x)⟩
end
/-- the tuple at a, each item in a new pair -/
def IteT (K : PySem.W.Frag) (a : Addr) : It :=
  ⟨fun i H => ∃ (xs : List V) (x : V), SqT K H a xs ∧ xs[i]? = some x, fun i H v H' => ∃ T x, v = .ref T ∧ H T = none ∧ H' = upd H T (.tup [.int (i : Nat), x]) ∧ ∀ xs, SqT K H a xs → xs[i]? = some x, fun i H => ∃ xs : List V, SqT K H a xs ∧ xs.length ≤ i⟩
theorem turn_enumT {P : Program} {w : World} {K : PySem.W.Frag} {elts : List Expr} {kk : Nat} {tpos : Pos} (a e it : Addr) :
    Turn P w K (.Tuple elts kk tpos) (IteT K a) [e, it] e (fun i h => (∃ old, IsEnum h e it ((i : Nat) : Int) old) ∧ h.IsTupleIter it a i ∧ e ≠ it) where
  mem := by simp
  obj := fun i h st b hb => by
    obtain ⟨⟨old, he⟩, ⟨o, ho, hc, hd⟩, _⟩ := st
    have e' : b = e ∨ b = it := by simpa using hb
    rcases e' with z | z
    · rw [z]; exact ⟨_, he, fun v q => nomatch q⟩
    · rw [z]; exact ⟨o, ho, fun v q => by rw [hd] at q; cases q⟩
  keep := fun i h h' st k => let ⟨⟨old, he⟩, hi, hne⟩ := st; ⟨⟨old, k e (by simp) _ he⟩, hi.at fun o q => k it (by simp) o q, hne⟩
  item := by
    intro X hP hw hK hc i pins s σ H E I hf st hg
    subst hP hw hK
    obtain ⟨⟨old, he⟩, hit, hne⟩ := st
    obtain ⟨xs, x, hq, hx⟩ := hg
    obtain ⟨its, rv, p, hz⟩ := I.tuple hq
    obtain ⟨u, hu, ru⟩ := rv.get hx
    have p' : s.heap.IsTuple a its.toArray := p
    have hel : e < s.heap.objs.size := Heap.lt_size he
    have hil : it < s.heap.objs.size := by obtain ⟨_, q, _⟩ := hit; exact Heap.lt_size q
    have nai : a ≠ it := fun z => by
      obtain ⟨o, e1, c1, _⟩ := p'
      obtain ⟨o2, e2, c2, _⟩ := hit
      rw [z, e2] at e1
      cases e1
      rw [c1] at c2
      injection c2 with c3
      exact absurd c3 (by decide)
    have nea : e ≠ a := fun z => by
      obtain ⟨o, e1, c1, _⟩ := p'
      have e2 : s.heap.get? e = _ := he
      rw [z, e1] at e2
      have := congrArg (fun z => z.map Obj.cls) e2
      have c2 : o.cls = .type "enumerate" := Option.some.inj this
      rw [c1] at c2
      injection c2 with c3
      exact absurd c3 (by decide)
    have D := Draws.tuple (prog := X.prog) (w := X.w) (A := X.A.in1) (I.ok.hd hc) it a nai its.toArray
    have hi : i < its.toArray.size := by
      have := (List.getElem?_eq_some_iff.mp hu).1
      simpa using this
    refine wpAny_pyNext_enum_itemD D he ⟨hit, p'⟩ hi hne (by simp [hne, nea]) fun x' h' tk hP ho hit' hT hsz hk => ?_
    have ex : x' = u := by
      have hP : its.toArray[i]? = some x' := hP
      have h2 : its.toArray[i]? = some u := by simpa using hu
      rw [h2] at hP
      exact (Option.some.inj hP).symm
    subst ex
    refine ⟨_, rfl, wpAny_letOwnedTupleGo_enum (s := { s with heap := h', toks := tk + 1 }) ho fun h'' he' sb => ?_⟩
    have hT2 : h''.get? s.heap.objs.size = some { cls := .type "tuple", data := .seq #[.int i tk, x'] } := (sb.2 _ (Nat.ne_of_gt hel)).trans hT
    have new : ObjOk X.prog X.w (upd H s.heap.objs.size (.tup [.int (i : Nat), x])) h'' s.heap.objs.size (.tup [.int (i : Nat), x]) :=
      ⟨by show 2 ≤ sizeLine; decide, [.int i tk, x'], .cons ⟨_, rfl⟩ (.cons ru .nil), ⟨_, hT2, rfl, _, rfl⟩⟩
    have I1 : Inv X pins σ (upd H s.heap.objs.size (.tup [.int (i : Nat), x])) { s with heap := h'', toks := tk + 1 } :=
      I.turnedNew (ch := [e, it]) (fun b ob hb q => (sb.2 b (fun z => hb (by simp [z]))).trans (hk b ob (fun z => hb (by simp [z])) (fun z => hb (by simp [z])) q)) hf (Nat.le_refl _) new
    refine ⟨.ref s.heap.objs.size, _, I1, rfl, ⟨_, x, rfl, I.hok.fresh (Nat.le_refl _), rfl, fun ys hy => by rw [I.tuple_inj hy hq]; exact hx⟩, ⟨⟨x', ?_⟩, hit'.1.at fun o q => (sb.2 it (Ne.symm hne)).trans q, hne⟩, fun b hb => ?_⟩
    · have e1 : ((i + 1 : Nat) : Int) = (i : Int) + 1 := by omega
      rw [e1]; exact he'
    · have hb' : b < s.heap.objs.size := by
        have e' : b = e ∨ b = it := by simpa using hb
        rcases e' with z | z
        · rw [z]; exact hel
        · rw [z]; exact hil
      rw [upd_ne (Nat.ne_of_lt hb')]
      exact (hf b hb).1
  done := by
    intro X hP hw hK hc i pins s σ H E I hf st hg
    subst hP hw hK
    obtain ⟨⟨old, he⟩, hit, hne⟩ := st
    obtain ⟨xs, hq, hx⟩ := hg
    obtain ⟨its, rv, p, hz⟩ := I.tuple hq
    have p' : s.heap.IsTuple a its.toArray := p
    obtain ⟨f0, f1, f2, f3, f4, f5⟩ := hf it (by simp)
    have hl := rv.length
    have hT : s.TypeIs (.ref e) "enumerate" := ⟨_, he, rfl⟩
    unfold pyNext
    refine wpAny_bind (wpAny_attempt (wpAny_callSpecial?_slot (name := Str.ofString "__next__") hT F.slot_enumerate_next
      (wpAny_call_entry F.slot_enumerate_next hT F.entry_enumerate_next ?_ (F.args_enumerate_next_1 _))))
    show wpAny _ _ (field (.ref e) 2 >>= _) _ _ _
    refine wpAny_bind (wpAny_field he rfl (x := .ref it) rfl ?_)
    refine wpAny_bind (wpAny_nextOf_tuple_end (I.ok.hd hc) hit p' (by simp; omega) fun h' x he' hx' => ?_)
    obtain ⟨o, ho, hc'⟩ := hx'
    refine wpAny_bind (wpAny_isInstance (T := "StopIteration") (b := true) ⟨o, ho, hc'⟩ isSubtype_stop ?_)
    exact wpAny_pure ⟨rfl, I.turned (t' := s.toks) (fun b o hb q => he' b o hb q) f0 f1 f3 f4 f5⟩
  self := fun A i s Q E st h => let ⟨⟨_, he⟩, _⟩ := st; wpAny_pyIter_enum he h
def iEnumT (K : PySem.W.Frag) (ta : TA) : TI := fun σ H R => ta σ H fun vs H1 => ∃ a xs, vs = [.ref a] ∧ SqT K H1 a xs ∧ R (IteT K a) H1
theorem pi_enumT {X : Cx} {e : Expr} {ta : TA} {p pos tpos : Pos} {elts : List Expr} {kk : Nat} (hg : Gl X "enumerate") (hm : X.mg "enumerate" = none) (ha : PA X [e] ta) (hs : starEach [e] X.env = [(false, eval e X.env)] := by rfl) :
    PI X (.Tuple elts kk tpos) (.Call (.Name "enumerate" p) [e] [] pos) (iEnumT X.K ta) := by
  refine ⟨fun pins s σ H R I h => ?_⟩
  refine Call_ (ld_blt I hg hm boot_enumerate (PyProof.Rows.callWith_type1 (thn (ha.run pos pins s σ H _ I h) fun us s1 ⟨vs, H1, I1, r1, q1⟩ => ?_) hs rfl))
  obtain ⟨a, xs, ex, hq, q⟩ := q1
  subst ex
  cases r1 with
  | cons r rr =>
    cases rr
    cases r
    obtain ⟨its, rv, p', hz⟩ := I1.tuple hq
    have pT : s1.heap.IsTuple a its.toArray := p'
    refine call_enum1 (begins_tuple a its.toArray) pT fun h' he hit hsz hk => wpAny_pyIter_enum he ?_
    have I2 : Inv X pins σ H1 { s1 with heap := h' } := I1.kept (t' := s1.toks) hk
    refine ⟨s1.heap.objs.size + 1, [s1.heap.objs.size + 1, s1.heap.objs.size], _, _, H1, rfl, I2, turn_enumT a (s1.heap.objs.size + 1) s1.heap.objs.size, ⟨⟨.none, he⟩, ⟨_, hit, rfl, rfl⟩, Nat.succ_ne_self _⟩, fun b hb => ?_, q⟩
    have e' : b = s1.heap.objs.size + 1 ∨ b = s1.heap.objs.size := by simpa using hb
    have hle : s1.heap.objs.size ≤ b := by
      rcases e' with z | z
      · rw [z]; exact Nat.le_add_right _ _
      · rw [z]; exact Nat.le_refl _
    exact I1.fpOk hle (I1.hok.fresh hle)
theorem walk_enumT {K : PySem.W.Frag} {a : Addr} {xs : List V} : Walk (IteT K a) xs.length (fun H => SqT K H a xs) (YPair (fun i => some (.int (i : Nat))) (fun i => xs[i]?)) := by
  refine ⟨fun i _ hi q => ⟨xs, xs[i], q, by simp [hi]⟩, fun _ q => ⟨xs, q, Nat.le_refl _⟩, fun i H v H' _ q y => ?_⟩
  obtain ⟨T, x, h1, h2, h3, h4⟩ := y
  exact ⟨T, .int (i : Nat), x, h1, h2, h3, rfl, h4 xs q⟩
end Ns

/-! NsP: three plain local names stored at once. -/
namespace Ns
open PySem PySem.Spec PyProof.Rows L2
def tPar3 (i j k : Nat) (ta : TA) : TS := fun D σ H => ta σ H fun vs H1 => ∃ v w z, vs = [v, w, z] ∧ D.nx (((σ.set i (some v)).set j (some w)).set k (some z)) H1
theorem ps_par3 {X : Cx} {i j k : Nat} {x y z : Str} {a b c : Expr} {ta : TA} {px py pz pt pos : Pos} {kt k2 pt2} (hc : X.calm = true) (hN : X.N.Nodup) (hi : X.N[i]? = some x) (hj : X.N[j]? = some y) (hk : X.N[k]? = some z) (hij : i ≠ j) (hik : i ≠ k) (hjk : j ≠ k)
    (hx : X.env.scope.names.lookup x = some .local) (hy : X.env.scope.names.lookup y = some .local) (hz : X.env.scope.names.lookup z = some .local) (ha : PA X [a, b, c] ta)
    (hw : swappedStores [.Tuple [.Name x px, .Name y py, .Name z pz] kt pt] (.Tuple [a, b, c] k2 pt2) X.env = pure (some [x, y, z]))
    (hs : swapsWithSole [.Tuple [.Name x px, .Name y py, .Name z pz] kt pt] (.Tuple [a, b, c] k2 pt2) pos.line X.env = pure false := by rfl) :
    PS X (.Assign [.Tuple [.Name x px, .Name y py, .Name z pz] kt pt] (.Tuple [a, b, c] k2 pt2) pos) (tPar3 i j k ta) := by
  refine ⟨fun pins s σ H D I h => ?_⟩
  rw [exec_Assign_arm]
  refine wpAny_bind (wpAny_standAt ?_)
  rw [hs]
  refine wpAny_bind (wpAny_pure ?_)
  rw [if_neg (by decide)]
  refine wpAny_bind (Tuple_ (thn (ha.run _ pins s σ H _ I h) fun us s1 ⟨vs, H1, I1, r1, q1⟩ => ?_))
  obtain ⟨v1, v2, v3, e1, q1⟩ := q1
  subst e1
  obtain ⟨u1, u2, u3, rfl, t1, t2, t3⟩ : ∃ u1 u2 u3, us = [u1, u2, u3] ∧ RelV v1 u1 ∧ RelV v2 u2 ∧ RelV v3 u3 := by
    cases r1 with
    | cons p q => cases q with
      | cons p' q' => cases q' with
        | cons p'' q'' =>
          cases q''
          exact ⟨_, _, _, rfl, p, p', p''⟩
  refine wpAny_newObj_type ?_ (by show 3 ≤ sizeLine; decide)
  have I2 : Inv X pins σ H1 { s1 with heap := s1.heap.push { cls := .type "tuple", data := .seq [u1, u2, u3].toArray } } := I1.kept (t' := s1.toks) fun b o e => Heap.get?_push_of_some _ e
  rw [hw]
  refine wpAny_bind (wpAny_pure ?_)
  show wpAny (model X.prog X.w) X.A (do rule "assign.swapped-stores"; let items ← unpackItems (.ref s1.heap.objs.size) 3 none; assignInOrder [fun v => bindName X.env z v, fun v => bindName X.env y v, fun v => bindName X.env x v] items.reverse; pure Flow.next) _ _ _
  refine wpAny_bind (wpAny_rule (wpAny_bind (unpackItems_tuple (items := #[u1, u2, u3]) (I.ok.hd hc) (IsTup.new s1.heap _) fun h' hx' => ?_)))
  have I3 := I2.kept (h' := h') (t' := s1.toks) fun b o e => hx' b o (Nat.ne_of_lt (Heap.lt_size e)) e
  show wpAny _ _ (assignInOrder [fun v => bindName X.env z v, fun v => bindName X.env y v, fun v => bindName X.env x v] [u3, u2, u1] >>= fun _ => pure Flow.next) _ _ _
  refine wpAny_bind (assignInOrder_cons (wpAny_bindName (store_ok I3 hN hk (.inl hz) t3 (fun s2 I4 => ?_) (.inr hz))))
  refine assignInOrder_cons (wpAny_bindName (store_ok I4 hN hj (.inl hy) t2 (fun s3 I5 => ?_) (.inr hy)))
  refine assignInOrder_cons (wpAny_bindName (store_ok I5 hN hi (.inl hx) t1 (fun s4 I6 => assignInOrder_nil (wpAny_pure ?_)) (.inr hx)))
  have e : ((σ.set k (some v3)).set j (some v2)).set i (some v1) = ((σ.set i (some v1)).set j (some v2)).set k (some v3) := by
    rw [List.set_comm _ _ (Ne.symm hjk), List.set_comm _ _ (Ne.symm hik), List.set_comm _ _ (Ne.symm hij)]
  rw [e] at I6
  exact ⟨_, H1, I6, q1⟩
end Ns

/-! NsQ: zip of a tuple, a tuple and a list. -/
namespace Ns
open PySem PySem.Spec PyProof.Rows L2
def Itz3 (K : PySem.W.Frag) (a b c : Addr) : It :=
  ⟨fun i H => ∃ (xs ys zs : List V) (x y z : V), SqT K H a xs ∧ SqT K H b ys ∧ SqL K H c zs ∧ xs[i]? = some x ∧ ys[i]? = some y ∧ zs[i]? = some z,
    fun i H v H' => ∃ T x y z, v = .ref T ∧ H T = none ∧ H' = upd H T (.tup [x, y, z]) ∧ (∀ xs, SqT K H a xs → xs[i]? = some x) ∧ (∀ ys, SqT K H b ys → ys[i]? = some y) ∧ ∀ zs, SqL K H c zs → zs[i]? = some z,
    fun i H => ∃ xs ys zs : List V, SqT K H a xs ∧ SqT K H b ys ∧ SqL K H c zs ∧ xs.length = i ∧ ys.length = i ∧ i ≤ zs.length⟩
theorem turn_zip3 {P : Program} {w : World} {K : PySem.W.Frag} {elts : List Expr} {kk : Nat} {tpos : Pos} {a b c z TI TO i1 i2 i3 : Addr} (S : ZipSep3 z TI TO i1 i2 i3 [i1, a] [i2, b] [i3, c]) (na : a ≠ i1) (nb : b ≠ i2) (nc : c ≠ i3) :
    Turn P w K (.Tuple elts kk tpos) (Itz3 K a b c) [z, TI, TO, i1, i2, i3] z (fun i h => IsZip h z TI TO .none ∧ IsTupOf3 h TI (.ref i1) (.ref i2) (.ref i3) ∧ (∃ a1 a2 a3, IsTupOf3 h TO a1 a2 a3) ∧ h.IsTupleIter i1 a i ∧ h.IsTupleIter i2 b i ∧ h.IsListIter i3 c i) where
  mem := by simp
  obj := fun i h st d hd => by
    obtain ⟨hz, hTI, ⟨x, y, u, hTO⟩, ⟨o1, e1, _, d1⟩, ⟨o2, e2, _, d2⟩, ⟨o3, e3, _, d3⟩⟩ := st
    have e' : d = z ∨ d = TI ∨ d = TO ∨ d = i1 ∨ d = i2 ∨ d = i3 := by simpa using hd
    rcases e' with q | q | q | q | q | q
    · rw [q]; exact ⟨_, hz, fun v q => nomatch q⟩
    · rw [q]; exact ⟨_, hTI, fun v q => nomatch q⟩
    · rw [q]; exact ⟨_, hTO, fun v q => nomatch q⟩
    · rw [q]; exact ⟨o1, e1, fun v q => by rw [d1] at q; cases q⟩
    · rw [q]; exact ⟨o2, e2, fun v q => by rw [d2] at q; cases q⟩
    · rw [q]; exact ⟨o3, e3, fun v q => by rw [d3] at q; cases q⟩
  keep := fun i h h' st k => by
    obtain ⟨hz, hTI, ⟨x, y, u, hTO⟩, h1, h2, h3⟩ := st
    exact ⟨k z (by simp) _ hz, k TI (by simp) _ hTI, ⟨x, y, u, k TO (by simp) _ hTO⟩, h1.at fun o q => k i1 (by simp) o q, h2.at fun o q => k i2 (by simp) o q, h3.at fun o q => k i3 (by simp) o q⟩
  item := by
    intro X hP hw hK hc i pins s σ H E I hf st hg
    subst hP hw hK
    have low : ∀ d ∈ [z, TI, TO, i1, i2, i3], d < s.heap.objs.size := fun d hd => by
      obtain ⟨hz, hTI, ⟨x, y, u, hTO⟩, ⟨o1, e1, _⟩, ⟨o2, e2, _⟩, ⟨o3, e3, _⟩⟩ := st
      have e' : d = z ∨ d = TI ∨ d = TO ∨ d = i1 ∨ d = i2 ∨ d = i3 := by simpa using hd
      rcases e' with q | q | q | q | q | q
      · rw [q]; exact Heap.lt_size hz
      · rw [q]; exact Heap.lt_size hTI
      · rw [q]; exact Heap.lt_size hTO
      · rw [q]; exact Heap.lt_size e1
      · rw [q]; exact Heap.lt_size e2
      · rw [q]; exact Heap.lt_size e3
    obtain ⟨hz, hTI, hTO, h1, h2, h3⟩ := st
    obtain ⟨xs, ys, zs, x, y, u, hqx, hqy, hqz, hx, hy, hu⟩ := hg
    obtain ⟨its, rv, p, _⟩ := I.tuple hqx
    obtain ⟨its2, rv2, p2, _⟩ := I.tuple hqy
    obtain ⟨its3, rv3, p3, _⟩ := I.list hqz
    obtain ⟨v1, hv1, rx⟩ := rv.get hx
    obtain ⟨v2, hv2, ry⟩ := rv2.get hy
    obtain ⟨v3, hv3, ru⟩ := rv3.get hu
    have W := GoesN.zip3 (prog := X.prog) (w := X.w) (A := X.A) (elts := elts) (x1 := kk) (pos := tpos) S (Draws.tuple (prog := X.prog) (w := X.w) (A := X.A.in1) (I.ok.hd hc) i1 a na its.toArray) (Draws.tuple (prog := X.prog) (w := X.w) (A := X.A.in1) (I.ok.hd hc) i2 b nb its2.toArray) (Draws.list (prog := X.prog) (w := X.w) (A := X.A.in1) (I.ok.hd hc) i3 c nc its3.toArray)
    have b1 := (List.getElem?_eq_some_iff.mp hv1).1
    have b2 := (List.getElem?_eq_some_iff.mp hv2).1
    have b3 := (List.getElem?_eq_some_iff.mp hv3).1
    refine W.goes i s _ E (by simp; omega) ⟨hz, hTI, hTO, ⟨h1, p⟩, ⟨h2, p2⟩, ⟨h3, p3.isList⟩⟩ fun v h' tk hY st' hk htk => ?_
    obtain ⟨T, x', y', u', rfl, hT, P1, P2, P3, tup⟩ := hY
    have ex : x' = v1 := by
      have P1 : its.toArray[i]? = some x' := P1
      rw [show its.toArray[i]? = some v1 by simpa using hv1] at P1
      exact (Option.some.inj P1).symm
    have ey : y' = v2 := by
      have P2 : its2.toArray[i]? = some y' := P2
      rw [show its2.toArray[i]? = some v2 by simpa using hv2] at P2
      exact (Option.some.inj P2).symm
    have eu : u' = v3 := by
      have P3 : its3.toArray[i]? = some u' := P3
      rw [show its3.toArray[i]? = some v3 by simpa using hv3] at P3
      exact (Option.some.inj P3).symm
    subst ex ey eu
    have new : ObjOk X.prog X.w (upd H T (.tup [x, y, u])) h' T (.tup [x, y, u]) :=
      ⟨by show 3 ≤ sizeLine; decide, [x', y', u'], .cons rx (.cons ry (.cons ru .nil)), tup⟩
    have sub : ∀ d ∈ [z, TO, i1, i2, i3], d ∈ [z, TI, TO, i1, i2, i3] := fun d hd => by
      simp only [List.mem_cons, List.not_mem_nil, or_false] at hd ⊢
      rcases hd with q | q | q | q | q <;> simp [q]
    have I1 : Inv X pins σ (upd H T (.tup [x, y, u])) { s with heap := h', toks := tk } :=
      I.turnedNew (ch := [z, TO, i1, i2, i3]) hk (fun d hd => hf d (sub d hd)) hT new
    obtain ⟨z1, z2, z3, z4, z5, z6⟩ := st'
    refine ⟨.ref T, _, I1, rfl, ⟨T, x, y, u, rfl, I.hok.fresh hT, rfl, fun l hl => by rw [I.tuple_inj hl hqx]; exact hx, fun l hl => by rw [I.tuple_inj hl hqy]; exact hy, fun l hl => by rw [I.list_inj hl hqz]; exact hu⟩, ⟨z1, z2, z3, z4.1, z5.1, z6.1⟩, fun d hd => ?_⟩
    rw [upd_ne (Nat.ne_of_lt (Nat.lt_of_lt_of_le (low d hd) hT))]
    exact (hf d hd).1
  done := by
    intro X hP hw hK hc i pins s σ H E I hf st hg
    subst hP hw hK
    obtain ⟨hz, hTI, hTO, h1, h2, h3⟩ := st
    obtain ⟨xs, ys, zs, hqx, hqy, hqz, l1, l2, l3⟩ := hg
    obtain ⟨its, rv, p, _⟩ := I.tuple hqx
    obtain ⟨its2, rv2, p2, _⟩ := I.tuple hqy
    obtain ⟨its3, rv3, p3, _⟩ := I.list hqz
    have k1 := rv.length
    have k2 := rv2.length
    have k3 := rv3.length
    have W := GoesN.zip3 (prog := X.prog) (w := X.w) (A := X.A) (elts := elts) (x1 := kk) (pos := tpos) S (Draws.tuple (prog := X.prog) (w := X.w) (A := X.A.in1) (I.ok.hd hc) i1 a na its.toArray) (Draws.tuple (prog := X.prog) (w := X.w) (A := X.A.in1) (I.ok.hd hc) i2 b nb its2.toArray) (Draws.list (prog := X.prog) (w := X.w) (A := X.A.in1) (I.ok.hd hc) i3 c nc its3.toArray)
    have en : min (min its.toArray.size its2.toArray.size) its3.toArray.size = i := by simp; omega
    have sub : ∀ d ∈ [z, TO, i1, i2, i3], d ∈ [z, TI, TO, i1, i2, i3] := fun d hd => by
      simp only [List.mem_cons, List.not_mem_nil, or_false] at hd ⊢
      rcases hd with q | q | q | q | q <;> simp [q]
    refine W.stops s _ E (by rw [en]; exact ⟨hz, hTI, hTO, ⟨h1, p⟩, ⟨h2, p2⟩, ⟨h3, p3.isList⟩⟩) fun h' tk hk htk => ?_
    exact I.turnedL (t' := tk) (ch := [z, TO, i1, i2, i3]) hk (fun d hd => hf d (sub d hd))
  self := fun A i s Q E st h => wpAny_pyIter_zip st.1 h
def iZip3 (K : PySem.W.Frag) (ta : TA) : TI := fun σ H R => ta σ H fun vs H1 => ∃ a b c xs ys zs, vs = [.ref a, .ref b, .ref c] ∧ SqT K H1 a xs ∧ SqT K H1 b ys ∧ SqL K H1 c zs ∧ R (Itz3 K a b c) H1
theorem pi_zip3 {X : Cx} {e e2 e3 : Expr} {ta : TA} {p pos tpos : Pos} {elts : List Expr} {kk : Nat} (hg : Gl X "zip") (hm : X.mg "zip" = none) (ha : PA X [e, e2, e3] ta)
    (hs : starEach [e, e2, e3] X.env = (false, eval e X.env) :: starEach [e2, e3] X.env := by rfl) (hpl : (backTo pos (starEach [e2, e3] X.env)).any (·.1) = false := by rfl) :
    PI X (.Tuple elts kk tpos) (.Call (.Name "zip" p) [e, e2, e3] [] pos) (iZip3 X.K ta) := by
  refine ⟨fun pins s σ H R I h => ?_⟩
  refine Call_ (ld_blt I hg hm PyProof.Rows.boot_zip (PyProof.Rows.callWith_type1 (thn (ha.run pos pins s σ H _ I h) fun us s1 ⟨vs, H1, I1, r1, q1⟩ => ?_) hs hpl))
  obtain ⟨a, b, c, xs, ys, zs, ex, hqx, hqy, hqz, q⟩ := q1
  subst ex
  obtain ⟨rfl⟩ : us = [.ref a, .ref b, .ref c] := by
    cases r1 with
    | cons r rr => cases rr with
      | cons r' rr => cases rr with
        | cons r'' rr =>
          cases rr
          cases r
          cases r'
          cases r''
          rfl
  have fresh6 : ∀ d, d ∈ [s1.heap.objs.size + 5, s1.heap.objs.size + 3, s1.heap.objs.size + 4, s1.heap.objs.size, s1.heap.objs.size + 1, s1.heap.objs.size + 2] → FpOk X pins H1 d := fun d hd => by
    have e' : d = s1.heap.objs.size + 5 ∨ d = s1.heap.objs.size + 3 ∨ d = s1.heap.objs.size + 4 ∨ d = s1.heap.objs.size ∨ d = s1.heap.objs.size + 1 ∨ d = s1.heap.objs.size + 2 := by simpa using hd
    have hle : s1.heap.objs.size ≤ d := by
      rcases e' with z | z | z | z | z | z <;> rw [z]
      · exact Nat.le_add_right _ _
      · exact Nat.le_add_right _ _
      · exact Nat.le_add_right _ _
      · exact Nat.le_refl _
      · exact Nat.le_add_right _ _
      · exact Nat.le_add_right _ _
    exact I1.fpOk hle (I1.hok.fresh hle)
  obtain ⟨its, rv, p1, _⟩ := I1.tuple hqx
  obtain ⟨its2, rv2, p2, _⟩ := I1.tuple hqy
  obtain ⟨its3, rv3, p3, _⟩ := I1.list hqz
  obtain ⟨o1, ho1, _⟩ := id p1
  obtain ⟨o2, ho2, _⟩ := id p2
  have la := Heap.lt_size ho1
  have lb := Heap.lt_size ho2
  have lc := p3.lt
  refine zip_begins3 (begins_tuple a its.toArray) (begins_tuple b its2.toArray) (begins_list c its3.toArray) p1 p2 p3.isList fun h' hz hTI hTO e1 e2 e3 hsz hk => wpAny_pyIter_zip hz ?_
  have I2 : Inv X pins σ H1 { s1 with heap := h' } := I1.kept (t' := s1.toks) hk
  have S := zip_sep3 (N := s1.heap.objs.size) (fp1 := [a]) (fp2 := [b]) (fp3 := [c]) (fun d hd => by rw [List.mem_singleton.mp hd]; exact la) (fun d hd => by rw [List.mem_singleton.mp hd]; exact lb) (fun d hd => by rw [List.mem_singleton.mp hd]; exact lc)
  exact ⟨s1.heap.objs.size + 5, [s1.heap.objs.size + 5, s1.heap.objs.size + 3, s1.heap.objs.size + 4, s1.heap.objs.size, s1.heap.objs.size + 1, s1.heap.objs.size + 2], _, _, H1, rfl, I2, turn_zip3 S (Nat.ne_of_lt la) (Nat.ne_of_lt (Nat.lt_succ_of_lt lb)) (Nat.ne_of_lt (Nat.lt_succ_of_lt (Nat.lt_succ_of_lt lc))), ⟨hz, hTI, ⟨_, _, _, hTO⟩, ⟨_, e1, rfl, rfl⟩, ⟨_, e2, rfl, rfl⟩, ⟨_, e3, rfl, rfl⟩⟩, fresh6, q⟩
section
variable {K : PySem.W.Frag} {a b c : Addr} {xs ys zs : List V}
theorem walk_zip3 {n : Nat} (h1 : xs.length = n) (h2 : ys.length = n) (h3 : n ≤ zs.length) : Walk (Itz3 K a b c) n (fun H => SqT K H a xs ∧ SqT K H b ys ∧ SqL K H c zs) (fun i H v H' => ∃ T x y z, v = .ref T ∧ H T = none ∧ H' = upd H T (.tup [x, y, z]) ∧ xs[i]? = some x ∧ ys[i]? = some y ∧ zs[i]? = some z) := by
  subst h1
  refine ⟨fun i _ hi q => ⟨xs, ys, zs, xs[i], ys[i], zs[i]'(by omega), q.1, q.2.1, q.2.2, by simp [hi], by simp [h2, hi], List.getElem?_eq_getElem (by omega)⟩, fun _ q => ⟨xs, ys, zs, q.1, q.2.1, q.2.2, rfl, h2, h3⟩, fun i H v H' _ q y => ?_⟩
  obtain ⟨T, x, y, z, h1, h2, h3, h4, h5, h6⟩ := y
  exact ⟨T, x, y, z, h1, h2, h3, h4 xs q.1, h5 ys q.2.1, h6 zs q.2.2⟩
end
end Ns

/-! NsR: sum of the values of a dict of ints. -/
namespace Ns
open PySem PySem.Spec PyProof.Rows L2
def tSumVals (td : TE) : TE := fun σ H Q => td σ H fun x H1 => ∃ (a : Addr) (kvs : List (Key × V)) (is : List Int), x = V.ref a ∧ H1 a = some (.dK kvs) ∧ kvs.map (·.2) = is.map V.int ∧ Q (.int is.sum) H1
theorem preSum_is : ∀ (is : List Int) (n : Nat), n ≤ is.length → preSum (fun i => is.getD i 0) n = (is.take n).sum
  | is, 0, _ => by
    rw [List.take_zero]
    rfl
  | is, n + 1, h => by
    have ih := preSum_is is n (by omega)
    obtain ⟨x, hx⟩ : ∃ x, is[n]? = some x := ⟨_, List.getElem?_eq_getElem (by omega)⟩
    have e1 : is.getD n 0 = x := by rw [List.getD_eq_getElem?_getD, hx]; rfl
    rw [List.take_succ, hx, List.sum_append, ← ih]
    show preSum (fun i => is.getD i 0) n + is.getD n 0 = _
    rw [e1]
    simp
section
variable {X : Cx} {o : Expr} {p pos apos mpos : Pos} {td : TE}
theorem pe_sumVals (hc : X.calm = true) (hg : Gl X "sum") (hm : X.mg "sum" = none) (hd : PE X o td) (hbase : attributeBase o "values" X.env (eval o X.env) = eval o X.env := by rfl) (hline : (apos.endLine == mpos.line) = true := by rfl)
    (hse : starEach [Expr.Call (.Attribute o "values" apos) [] [] mpos] X.env = [(false, eval (Expr.Call (.Attribute o "values" apos) [] [] mpos) X.env)] := by rfl) :
    PE X (.Call (.Name "sum" p) [.Call (.Attribute o "values" apos) [] [] mpos] [] pos) (tSumVals td) := by
  refine ⟨fun pins s σ H Q I h => ?_⟩
  refine wpAny_Call_Name_kw (ld_blt I hg hm (u := .builtin "sum") (by first | rfl | decide +kernel) ?_ (by first | decide +kernel | decide) (by first | decide +kernel | decide))
  rw [hse]
  refine PySem.callWith_builtin1 (wpAny_Call_method0_late hbase hline (thn (hd.run pins s σ H _ I h) fun v s1 ⟨x, H1, I1, r1, a, kvs, is, ex, ha, hv, q⟩ => ?_))
  subst ex
  obtain rfl : v = Value.ref a := r1
  obtain ⟨_, hsys, vs, rel, dof⟩ := dk_of I1.hok ha
  obtain ⟨ep, dat⟩ := dof.dictAt
  obtain ⟨ob, es, ho, ex, _⟩ := id dat
  refine ⟨"dict", "dict.values", F.plainAttrs_dict, F.slot_dict_values, F.type_dict_values, ⟨ob, ho, ex.1⟩, fun b e => by cases e; exact ⟨ob, ho, ex.2.1⟩, Calls.callWith_builtin rfl (PySem.evalArgs_none ?_)⟩
  refine call_meetsIn F.slot_dict_values ⟨ob, ho, ex.1⟩ F.entry_dict_values (F.args_dict_values_1 _) (meets_dict_values (mixKind X.prog X.w) a hsys) ⟨⟨vs, dof⟩, ?_⟩
  have lt := Heap.lt_size ho
  have grow : ∀ b u, s1.heap.get? b = some u → (s1.heap.push { cls := .type "dict_values", data := .fields #[.ref a] }).get? b = some u := fun b u e => Heap.get?_push_of_some _ e
  have dat2 := dat.keep grow
  have sz : (s1.heap.push { cls := .type "dict_values", data := .fields #[.ref a] }).objs.size = s1.heap.objs.size + 1 := Heap.size_push _ _
  have same : vs.length = is.length := by
    have e1 := congrArg List.length hv
    rw [List.length_map, List.length_map] at e1
    exact (KV.length rel).symm.trans e1
  have look : ∀ (i : Nat) (v : Value), (∃ k, vs[i]? = some (k, v)) → ∃ t, v = Value.int (is.getD i 0) t := fun i v ⟨k, hk⟩ => by
    obtain ⟨x, h1, h2⟩ := KV.at' rel hk
    have e1 : (is.map V.int)[i]? = some x := by rw [← hv, List.getElem?_map, h1]; rfl
    rw [List.getElem?_map] at e1
    obtain ⟨j, hj, e2⟩ := Option.map_eq_some_iff.mp e1
    subst e2
    obtain ⟨t, e3⟩ := h2
    exact ⟨t, by rw [e3, List.getD_eq_getElem?_getD, hj]; rfl⟩
  refine call_sum_walkG (wpAny_pyIter_values (v := s1.heap.objs.size) (d := a) ⟨_, Heap.get?_push_size _ rfl, rfl, rfl⟩ dat2 ?_)
  refine ⟨_, _, _, _, _, _, fun i => is.getD i 0, rfl, Walks.dictValues (knd := mixKind X.prog X.w) (A := X.A.in1) (I.ok.hd hc) (s1.heap.push { cls := .type "dict_values", data := .fields #[.ref a] }).objs.size a (by rw [sz]; exact Nat.ne_of_lt (Nat.lt_succ_of_lt lt)) vs ep,
    ⟨⟨_, Heap.get?_push_size _ rfl, rfl, rfl⟩, dat2.keep fun b u e => Heap.get?_push_of_some _ e⟩, fun b hb => ?_, look, fun h' tk t' hk => ?_⟩
  · show b < ((s1.heap.push _).push _).objs.size
    rw [Heap.size_push, Heap.size_push]
    rw [sz] at hb
    rcases List.mem_cons.mp hb with e | hb
    · rw [e]
      exact Nat.lt_succ_self _
    · rw [List.mem_singleton.mp hb]
      exact Nat.lt_succ_of_lt (Nat.lt_succ_of_lt lt)
  · refine ⟨.int is.sum, H1, I1.kept (t' := tk) fun b u e => hk b u (fun hmem => ?_) (Heap.get?_push_of_some _ (grow b u e)), ⟨t', ?_⟩, q⟩
    · have e1 : b = (s1.heap.push { cls := .type "dict_values", data := .fields #[.ref a] }).objs.size := List.mem_singleton.mp hmem
      have e2 := Heap.lt_size e
      rw [sz] at e1
      rw [e1] at e2
      exact absurd e2 (Nat.not_lt.mpr (Nat.le_succ _))
    · rw [preSum_is is _ (Nat.le_of_eq same), same, List.take_length]
end
end Ns

/-! NsV: a tuple times 0 or 1. -/
namespace Ns
open PySem PySem.Spec PyProof.Rows L2
theorem tup_mul1 (l : Addr) (items : Array Value) (n : Nat) (dd : Option Addr) (sl : Array (Option Value)) (u : Tok) :
    Meets (Builtin.«tuple.__mul__» ⟨[.ref l, .int 1 u], []⟩) (fun _ R s => s.heap.get? l = some { cls := .type "tuple", dict := dd, data := .seq items n, slots := sl } ∧ R (.ok (.ret (Value.ref l))) s) :=
  .of_wp fun prog w A R s h => by
    obtain ⟨hp, g, d, tk, os⟩ := s
    obtain ⟨hl, h⟩ := h
    have f1 := AutoSeq1.idx_int
    wp_walk using wpAny_loadPart' hl
    exact ⟨_, rfl, h⟩
theorem tup_mul0 (l : Addr) (items : Array Value) (n : Nat) (dd : Option Addr) (sl : Array (Option Value)) (u : Tok) (hi : items.isEmpty = false) :
    Meets (Builtin.«tuple.__mul__» ⟨[.ref l, .int 0 u], []⟩) (fun _ R s => s.heap.get? l = some { cls := .type "tuple", dict := dd, data := .seq items n, slots := sl } ∧
      R (.ok (.ret (Value.ref s.heap.objs.size))) { s with heap := s.heap.push { cls := Value.type "tuple", data := Data.seq #[] }, toks := s.toks }) :=
  .of_wp fun prog w A R s h => by
    obtain ⟨hp, g, d, tk, os⟩ := s
    obtain ⟨hl, h⟩ := h
    have f1 := AutoSeq1.idx_int
    wp_walk using wpAny_loadPart' hl
    exact ⟨_, rfl, h⟩
def rRep01 (K : PySem.W.Frag) : R2 := fun x y H Q => ∃ (l : Addr) (k : Int) (xs : List V), x = .ref l ∧ y = .int k ∧ SqT K H l xs ∧ xs ≠ [] ∧ (k = 0 ∨ k = 1) ∧ (k = 1 → Q (.ref l) H) ∧ (k = 0 → ∀ p, H p = none → Q (.ref p) (upd H p (.tup [])))
theorem op_rep01 {X : Cx} : OpR X (binaryOp .Mult) (rRep01 X.K) := by
  intro pins s σ H x y v u Q I rx ry h
  obtain ⟨l, k, xs, rfl, rfl, hT, hne, hk, q1, q0⟩ := h
  cases rx
  obtain ⟨t, rfl⟩ := ry
  obtain ⟨its, r, ⟨⟨cls, dd, data, sl⟩, ho, hc, n, hd⟩, hs⟩ := I.tuple hT
  simp only at hc hd
  subst hc hd
  have hi : its.toArray.isEmpty = false := by
    cases its with
    | nil => exact absurd (List.eq_nil_of_length_eq_zero r.length) hne
    | cons a b => rfl
  rcases hk with rfl | rfl
  · refine wpAny_binaryOp_repeat_ref (T := "tuple") (U := "int") (by decide) ⟨_, ho, rfl⟩ (fun s' => typeIs_int s' 0 t) noFill_tuple_mul F.fills_int_mul F.slot_int_rmul repeat_tuple F.slot_int_index.lookup
      (call_meets F.slot_int_rmul (typeIs_int s 0 t) F.entry_int_rmul (F.args_int_rmul_2 _ _) (int_rmul_tuple 0 t l its.toArray n dd sl)
        ⟨ho, rfl, ⟨_, ho, rfl⟩, call_meets F.slot_tuple_mul ⟨_, ho, rfl⟩ F.entry_tuple_mul (F.args_tuple_mul_2 _ _) (tup_mul0 l its.toArray n dd sl t hi) ⟨ho, ?_⟩⟩)
    exact ⟨.ref s.heap.objs.size, _, I.laid (t' := s.toks) (o := .tup []) (fun b ob q => Heap.get?_push_of_some _ q) (Nat.le_refl _) ⟨by show 0 ≤ sizeLine; decide, [], .nil, IsTup.new _ _⟩, rfl, q0 rfl _ (I.hok.fresh (Nat.le_refl _))⟩
  · refine wpAny_binaryOp_repeat_ref (T := "tuple") (U := "int") (by decide) ⟨_, ho, rfl⟩ (fun s' => typeIs_int s' 1 t) noFill_tuple_mul F.fills_int_mul F.slot_int_rmul repeat_tuple F.slot_int_index.lookup
      (call_meets F.slot_int_rmul (typeIs_int s 1 t) F.entry_int_rmul (F.args_int_rmul_2 _ _) (int_rmul_tuple 1 t l its.toArray n dd sl)
        ⟨ho, rfl, ⟨_, ho, rfl⟩, call_meets F.slot_tuple_mul ⟨_, ho, rfl⟩ F.entry_tuple_mul (F.args_tuple_mul_2 _ _) (tup_mul1 l its.toArray n dd sl t) ⟨ho, ?_⟩⟩)
    exact ⟨.ref l, H, I, rfl, q1 rfl⟩
end Ns

/-! NsW: isinstance of data; t != (); t[::-1]; t * k; 'b' * k. -/
namespace Ns
open PySem PySem.Spec PyProof.Rows L2
/-- the name of a datum's class -/
def tyN : PyData → String
  | .none => "NoneType"
  | .bool _ => "bool"
  | .int _ => "int"
  | .str _ => "str"
  | .list _ => "list"
  | .tuple _ => "tuple"
  | .dict _ => "dict"
theorem tyX_lst {K : PySem.W.Frag} {H : Hp} {a : Addr} {xs : List V} (h : SqL K H a xs) : TyX K H (.ref a) (.type "list") := by
  rcases h with (h | ⟨o, h⟩) | ⟨o, _, _, h, c, _⟩
  · exact .base (.lst h)
  · exact .base (.frz h)
  · exact .kList h c
theorem tyX_tup {K : PySem.W.Frag} {H : Hp} {a : Addr} {xs : List V} (h : SqT K H a xs) : TyX K H (.ref a) (.type "tuple") := by
  rcases h with (h | ⟨o, h⟩) | ⟨o, _, _, h, c, _⟩
  · exact .base (.tup h)
  · exact .fTuple h
  · exact .kTuple h c
theorem tyX_dat {K : PySem.W.Frag} {H : Hp} {x : V} {d : PyData} (D : DatV K H x d) : TyX K H x (.type (tyN d)) := by
  cases D with
  | non => exact .base .non
  | bl b => exact .base (.bl b)
  | int i => exact .base (.int i)
  | str z => exact .base (.str z)
  | lst h _ => exact tyX_lst h
  | tup h _ => exact tyX_tup h
  | dic h _ => exact .base (.dK h)
section
variable {X : Cx}
/-- isinstance(x, T), x any datum -/
def rIsD (K : PySem.W.Frag) (t : String) (f : PyData → Bool) : List V → Hp → VK → Prop := fun xs H Q => ∃ (x : V) (d : PyData), xs = [x, .ty t] ∧ DatV K H x d ∧ Q (.bl (f d)) H
theorem call_isD {t : String} {f : PyData → Bool} (hf : ∀ d, kitB (tyN d) t = some (f d)) : CallR X (.builtin "isinstance") (rIsD X.K t f) := by
  intro pins s σ H xs us Q I r h
  obtain ⟨x, d, rfl, D, q⟩ := h
  exact call_isi pins s σ H _ us Q I r ⟨x, .ty t, _, _, f d, rfl, .ty t, tyX_dat D, kit_ty (hf d), q⟩
def qT : PyData → Bool | .tuple _ => true | _ => false
def qI : PyData → Bool | .int _ => true | .bool _ => true | _ => false
def qB : PyData → Bool | .bool _ => true | _ => false
def qS : PyData → Bool | .str _ => true | _ => false
def qD : PyData → Bool | .dict _ => true | _ => false
theorem kit_T : ∀ d, kitB (tyN d) "tuple" = some (qT d) := fun d => by cases d <;> simp only [tyN, qT, qI, qB, qS, qD] <;> decide +kernel
theorem kit_I : ∀ d, kitB (tyN d) "int" = some (qI d) := fun d => by cases d <;> simp only [tyN, qT, qI, qB, qS, qD] <;> decide +kernel
theorem kit_B : ∀ d, kitB (tyN d) "bool" = some (qB d) := fun d => by cases d <;> simp only [tyN, qT, qI, qB, qS, qD] <;> decide +kernel
theorem kit_S : ∀ d, kitB (tyN d) "str" = some (qS d) := fun d => by cases d <;> simp only [tyN, qT, qI, qB, qS, qD] <;> decide +kernel
theorem kit_D : ∀ d, kitB (tyN d) "dict" = some (qD d) := fun d => by cases d <;> simp only [tyN, qT, qI, qB, qS, qD] <;> decide +kernel
/-- t != (), any tuple -/
def rNeE (K : PySem.W.Frag) : R2 := fun x y H Q => ∃ (a b : Addr) (xs : List V), x = .ref a ∧ y = .ref b ∧ SqT K H a xs ∧ SqT K H b [] ∧ Q (.bl (!decide (xs = []))) H
theorem op_neE (hu : X.A.units + 64 < cLine) : OpR X (compareOp .NotEq) (rNeE X.K) := by
  intro pins s σ H x y v u Q I rx ry h
  obtain ⟨a, b, xs, rfl, rfl, ha, hb, q⟩ := h
  cases (show v = Value.ref a from rx)
  cases (show u = Value.ref b from ry)
  obtain ⟨us, r1, ⟨o1, h1, h2, n1, h3⟩, _⟩ := I.tuple ha
  obtain ⟨ws, r2, ⟨o2, g1, g2, n2, g3⟩, _⟩ := I.tuple hb
  have z : ws = [] := by cases r2; rfl
  subst z
  refine SeqAt.RcNeAt.tuples (e := fun _ => true) ⟨o1, h1, h2, n1, h3⟩ ⟨o2, g1, g2, n2, g3⟩ (by omega) (fun j _ j2 => absurd j2 (Nat.not_lt_zero j)) _ _ _ _ ?_
  have e : (!((List.range (min us.toArray.size ([] : List Value).toArray.size)).all (fun _ => true) && us.toArray.size == ([] : List Value).toArray.size)) = !decide (xs = []) := by
    have l1 := r1.length
    cases xs with
    | nil => cases us with
      | nil => rfl
      | cons _ _ => cases l1
    | cons _ _ => cases us with
      | nil => cases l1
      | cons _ _ => simp
  exact ⟨.bl (!decide (xs = [])), H, I, congrArg Value.bool e, q⟩
end
theorem filterMap_some {α β : Type} {f : α → Option β} {g : α → β} : ∀ {l : List α}, (∀ k ∈ l, f k = some (g k)) → l.filterMap f = l.map g
  | [], _ => rfl
  | a :: l, h => by
    rw [List.filterMap_cons, h a List.mem_cons_self, List.map_cons, filterMap_some fun k hk => h k (List.mem_cons_of_mem _ hk)]
section
variable {prog : Program} {w : World} {A : Around} {E : Value → Shared → Prop} {s : Shared}
theorem pick_back (xs : Array Value) : (List.range xs.size).filterMap (fun k : Nat => xs[((xs.size : Int) - 1 + (k : Int) * (-1)).toNat]?) = xs.toList.reverse := by
  refine List.ext_getElem? fun i => ?_
  have e : (List.range xs.size).filterMap (fun k : Nat => xs[((xs.size : Int) - 1 + (k : Int) * (-1)).toNat]?) = (List.range xs.size).map (fun k : Nat => (xs.toList.reverse)[k]?.getD .none) := by
    refine filterMap_some fun k hk => ?_
    have hk' := List.mem_range.mp hk
    have e1 : ((xs.size : Int) - 1 + (k : Int) * (-1)).toNat = xs.size - 1 - k := by omega
    have e2 : xs[xs.size - 1 - k]? = some xs[xs.size - 1 - k] := Array.getElem?_eq_getElem (by omega)
    rw [e1, e2]
    have e3 : xs.toList.reverse[k]? = some xs[xs.size - 1 - k] := by
      rw [List.getElem?_reverse (by rw [Array.length_toList]; exact hk'), Array.length_toList, Array.getElem?_toList, e2]
    rw [e3]
    rfl
  rw [e, List.getElem?_map]
  by_cases h : i < xs.size
  · rw [List.getElem?_range h]
    have : i < xs.toList.reverse.length := by rw [List.length_reverse, Array.length_toList]; exact h
    rw [List.getElem?_eq_getElem this]
    show some (xs.toList.reverse[i]?.getD .none) = _
    rw [List.getElem?_eq_getElem this]
    rfl
  · rw [List.getElem?_eq_none (by rw [List.length_range]; omega), List.getElem?_eq_none (by rw [List.length_reverse, Array.length_toList]; omega)]
    rfl
theorem applied_back {p : Addr} {u : Tok} {n : Nat} {Q : Int × Int × Nat → Shared → Prop} (hp : s.heap.IsSliceOf p .none .none (.int (-1) u)) (h : Q ((n : Int) - 1, -1, n) s) : wpAny (model prog w) A (Builtin.Slice.sliceApplied (.ref p) (pure (n : Int))) Q E s := by
  obtain ⟨o, e1, e2, e3⟩ := id hp
  unfold Builtin.Slice.sliceApplied Builtin.Slice.sliceFields
  refine wpAny_bind (wpAny_bind (wpAny_field e1 e3 (x := .none) rfl (wpAny_bind (wpAny_field e1 e3 (x := .none) rfl (wpAny_bind (wpAny_field e1 e3 (x := .int (-1) u) rfl (wpAny_pure ?_)))))))
  refine wpAny_bind (slicePart_int ?_)
  have nz : ¬ (((some (-1 : Int)).getD 1 == 0) = true) := by decide
  rw [if_neg nz]
  refine wpAny_bind (slicePart_none (wpAny_bind (slicePart_none (wpAny_bind (wpAny_pure (wpAny_pure ?_))))))
  have e4 : Builtin.Slice.slicePlaces ((n : Int) - 1) (-1) (-1) = n := by
    unfold Builtin.Slice.slicePlaces
    rw [if_neg (by decide)]
    split
    · rw [Int.neg_neg, Int.ediv_one]; omega
    · omega
  have e5 : Builtin.Slice.slicePlaces (Builtin.Slice.sliceAdjust none none (-1) (n : Int)).1 (Builtin.Slice.sliceAdjust none none (-1) (n : Int)).2 (-1) = n := e4
  show Q ((Builtin.Slice.sliceAdjust none none (-1) (n : Int)).1, -1, Builtin.Slice.slicePlaces (Builtin.Slice.sliceAdjust none none (-1) (n : Int)).1 (Builtin.Slice.sliceAdjust none none (-1) (n : Int)).2 (-1)) s
  rw [e5]
  exact h
theorem tup_back {t p : Addr} {its : Array Value} {u : Tok} {Q : Value → Shared → Prop} (ht : IsTup s.heap t its) (hp : s.heap.IsSliceOf p .none .none (.int (-1) u)) (hz : its.size ≤ sizeLine)
    (h : Q (.ref s.heap.objs.size) { s with heap := s.heap.push { cls := .type "tuple", data := .seq its.toList.reverse.toArray } }) : wpAny (model prog w) A (getItem (.ref t) (.ref p)) Q E s := by
  have ok : sizeOk (.seq its.toList.reverse.toArray) := by
    show its.toList.reverse.toArray.size ≤ sizeLine
    rw [List.size_toArray, List.length_reverse, Array.length_toList]
    exact hz
  have ty : s.TypeIs (.ref p) "slice" := by
    obtain ⟨o, e1, e2, _⟩ := hp
    exact ⟨o, e1, e2⟩
  unfold getItem
  refine wpAny_holding ?_
  refine wpAny_bind (wpAny_sequenceKey ht.typeIs (by decide) ?_)
  refine wpAny_bind (wpAny_callSpecial?_slot (name := Str.ofString "__getitem__") ht.typeIs PyProof.Rows.slot_tuple_getitem (wpAny_call_entry PyProof.Rows.slot_tuple_getitem ht.typeIs entry_tuple_getitem ?_ (args_tuple_getitem _ _)))
  show wpAny _ _ (Builtin.Tuple.tupleItemsOf (.ref t) >>= _) _ _ s
  refine wpAny_bind (tupleItemsOf_ ht (wpAny_bind (wpAny_typeOf ty ?_)))
  rw [if_pos (by decide)]
  refine wpAny_bind (applied_back hp ?_)
  have no : ¬ ((((its.size : Int) - 1 == 0) && ((-1 : Int) == 1) && (its.size == its.size)) = true) := by simp
  show wpAny _ _ (if (((its.size : Int) - 1 == 0) && ((-1 : Int) == 1) && (its.size == its.size)) = true then _ else _) _ _ s
  rw [if_neg no, pick_back]
  first
    | exact wpAny_bind (m := Builtin.Tuple.tupleExact _) (wpAny_newObj_type (wpAny_pure ⟨_, rfl, wpAny_pure h⟩) ok)
    | exact wpAny_bind (m := Builtin.Tuple.tupleExact _) (wpAny_newObj_type (wpAny_bind (wpAny_pure (wpAny_pure ⟨_, rfl, wpAny_pure h⟩))) ok)
    | exact wpAny_bind (wpAny_bind (m := Builtin.Tuple.tupleExact _) (wpAny_newObj_type (wpAny_pure (wpAny_pure ⟨_, rfl, wpAny_pure h⟩)) ok))
    | exact wpAny_bind (wpAny_bind (m := Builtin.Tuple.tupleExact _) (wpAny_newObj_type (wpAny_pure ⟨_, rfl, wpAny_pure h⟩) ok))
end
section
variable {X : Cx}
/-- t[::-1] -/
def tRevT (K : PySem.W.Frag) (te : TE) : TE := fun σ H Q => te σ H fun x H1 => ∃ a xs, x = .ref a ∧ SqT K H1 a xs ∧ ∀ p, H1 p = none → Q (.ref p) (upd H1 p (.tup xs.reverse))
theorem pe_revT {e : Expr} {te : TE} {k : Nat} {p1 p2 p3 pos : Pos} (he : PE X e te) : PE X (.Subscript e (.Slice none none (some (.UnaryOp .USub (.Constant (.int 1) k p1) p2)) p3) pos) (tRevT X.K te) := by
  constructor
  intro pins s σ H Q I h
  have st : PO X (some (.UnaryOp .USub (.Constant (.int 1) k p1) p2)) (tPart (tUn (rU fun i => .int (-i)) (tC (.int 1)))) := po_some (pe_un un_neg pe_int)
  refine Subscript_ (thn (he.run pins s σ H _ I h) ?_)
  rintro v s1 ⟨x, H1, I1, r1, a, xs, rfl, hx, q⟩
  cases (show v = Value.ref a from r1)
  refine wpAny_Slice (wpAny_pure (wpAny_pure (thn (st.run pins s1 σ H1 (fun o H4 => o = some (-1) ∧ H4 = H1) I1 ⟨1, rfl, -1, rfl, rfl, rfl⟩) ?_)))
  rintro vs s4 ⟨o, H4, I4, ps, rfl, rfl⟩
  obtain ⟨u, rfl⟩ : ∃ u, vs = .int (-1) u := by cases ps; exact ⟨_, rfl⟩
  have I5 : Inv X pins σ H4 { s4 with heap := s4.heap.push { cls := .type "slice", data := .fields #[.none, .none, .int (-1) u] } } := I4.kept (t' := s4.toks) fun b ob q => Heap.get?_push_of_some _ q
  obtain ⟨its, r, ht, hz⟩ := I5.tuple hx
  have ln := r.length
  show wpAny (model X.prog X.w) X.A (subscriptTail e (.Slice none none (some (.UnaryOp .USub (.Constant (.int 1) k p1) p2)) p3) (.ref a) (.ref s4.heap.objs.size)) (EP X pins σ Q) X.xe { s4 with heap := s4.heap.push { cls := .type "slice", data := .fields #[.none, .none, .int (-1) u] } }
  refine tail_any (ops := [.ref a, .ref s4.heap.objs.size]) ht.typeIs (PyProof.Rows.slot_tuple_getitem.lookup) ?_ (by with_unfolding_all rfl)
  refine tup_back ht (Heap.IsSliceOf.new _ .none .none (.int (-1) u)) (by rw [List.size_toArray, ← ln]; exact hz) ?_
  refine ⟨.ref _, _, I5.laid (t' := s4.toks) (o := .tup xs.reverse) (fun b ob q => Heap.get?_push_of_some _ q) (Nat.le_refl _) ?_, rfl, q _ (I5.hok.fresh (Nat.le_refl _))⟩
  exact ⟨by rw [List.length_reverse]; exact hz, _, r.reverse, IsTup.new _ _⟩
/-- t * k, k from 0 on, t not empty -/
def rRepN (K : PySem.W.Frag) : R2 := fun x y H Q => ∃ (l : Addr) (k : Nat) (xs : List V), x = .ref l ∧ y = .int k ∧ SqT K H l xs ∧ xs ≠ [] ∧ k ≤ 1000 ∧ xs.length ≤ 1000 ∧ ∀ (p : Addr) (H' : Hp), Same H H' → SqT K H' p (List.replicate k xs).flatten → Q (.ref p) H'
theorem op_repN : OpR X (binaryOp .Mult) (rRepN X.K) := by
  intro pins s σ H x y v u Q I rx ry h
  obtain ⟨l, k, xs, rfl, rfl, hT, hne, h1, h2, q⟩ := h
  have nw : ∀ (p : Addr) (ys : List V), H p = none → Same H (upd H p (.tup ys)) := fun p ys hp c o e => by rw [upd_ne (ne_of_none e hp)]; exact e
  by_cases c : 2 ≤ k
  · refine op_repT pins s σ H _ _ v u Q I rx ry ⟨l, (k : Int), xs, rfl, rfl, hT, hne, by omega, by omega, h2, fun p hp => ?_⟩
    exact q p _ (nw p _ hp) (SqT.of upd_same)
  · refine op_rep01 pins s σ H _ _ v u Q I rx ry ⟨l, (k : Int), xs, rfl, rfl, hT, hne, by omega, fun e => ?_, fun e p hp => ?_⟩
    · have e1 : k = 1 := by omega
      subst e1
      exact q l H (Same.refl H) (by simpa using hT)
    · have e1 : k = 0 := by omega
      subst e1
      exact q p _ (nw p _ hp) (SqT.of upd_same)
theorem fold_size {α : Type} (a : Array α) : ∀ (k : Nat) (b : Array α), ((List.replicate k a).foldl (· ++ ·) b).size = b.size + k * a.size
  | 0, b => by simp
  | k + 1, b => by
    rw [List.replicate_succ, List.foldl_cons, fold_size a k, Array.size_append, Nat.succ_mul]
    omega
theorem mulS_len (z : Str) (k : Nat) : (⟨(List.replicate k z.cps).foldl (· ++ ·) #[]⟩ : Str).length = k * z.length := by
  have := fold_size z.cps k #[]
  show Array.size _ = k * z.cps.size
  rw [this]
  simp
/-- 'b' * k -/
def rMulS : R2 := fun x y H Q => ∃ (z : Str) (k : Nat), x = .str z ∧ y = .int k ∧ 2 ≤ k ∧ k ≤ 1000 ∧ 1 ≤ z.length ∧ z.length ≤ 1000 ∧ Q (.str ⟨(List.replicate k z.cps).foldl (· ++ ·) #[]⟩) H
theorem op_mulStr : OpR X (binaryOp .Mult) rMulS := by
  intro pins s σ H x y v u Q I rx ry h
  obtain ⟨z, k, rfl, rfl, h1, h2, h3, h4, q⟩ := h
  obtain ⟨t, rfl⟩ := (show ∃ t, v = Value.str z t from rx)
  obtain ⟨t2, rfl⟩ := (show ∃ t, u = Value.int k t from ry)
  have hm : z.length * k ≤ 1000 * 1000 := Nat.mul_le_mul h4 h2
  have no : (((k : Int) == 1) || (z.length == 0)) = false := by
    rw [Bool.or_eq_false_iff]
    exact ⟨beq_eq_false_iff_ne.mpr (by omega), beq_eq_false_iff_ne.mpr (by omega)⟩
  refine P.mul_str ?_ (fun _ _ => ?_) (fun _ _ => ?_) ?_
  · rw [decide_eq_false (by omega), decide_eq_false (by omega)]; rfl
  · have : (1000 : Int) ≤ (2 ^ 63 - 1) / (k : Int) := Int.le_ediv_of_mul_le (by omega) (by omega)
    omega
  · unfold Builtin.Str.tooLong
    rw [sizeLine_eq, Int.toNat_natCast]
    exact decide_eq_false (by omega)
  · rw [if_neg (by omega), no]
    exact ⟨by rw [Int.toNat_natCast, mulS_len, Nat.mul_comm, sizeLine_eq]; omega, ⟨.str _, H, I.tok _, ⟨_, rfl⟩, by rw [Int.toNat_natCast]; exact q⟩⟩
end
end Ns

/-! OB: data within bounds; data in a heap but for the bag. -/
namespace Y
open PySem PySem.Spec PyProof.Rows L2 Ns
mutual
/-- no row, text or number is longer than w -/
def Bd (w : Nat) : PyData → Prop
  | .none => True
  | .bool _ => True
  | .int i => i.natAbs < 10 ^ w
  | .str z => z.length ≤ w
  | .list ds => ds.length ≤ w ∧ BdA w ds
  | .tuple ds => ds.length ≤ w ∧ BdA w ds
  | .dict kvs => kvs.length ≤ w
def BdA (w : Nat) : List PyData → Prop
  | [] => True
  | d :: ds => Bd w d ∧ BdA w ds
end
theorem bdA_iff {w : Nat} : ∀ {ds : List PyData}, BdA w ds ↔ ∀ d ∈ ds, Bd w d
  | [] => by simp [BdA]
  | d :: ds => by
    have ih := bdA_iff (w := w) (ds := ds)
    simp only [BdA, List.mem_cons, forall_eq_or_imp, ih]
theorem pow_up {i w w' : Nat} (h : i < 10 ^ w) (hw : w ≤ w') : i < 10 ^ w' := Nat.lt_of_lt_of_le h (Nat.pow_le_pow_right (by decide) hw)
mutual
theorem Bd.up {w w' : Nat} (hw : w ≤ w') : ∀ {d : PyData}, Bd w d → Bd w' d
  | .none, _ => by simp only [Bd]
  | .bool _, _ => by simp only [Bd]
  | .int i, h => by simp only [Bd] at h ⊢; exact pow_up h hw
  | .str z, h => by simp only [Bd] at h ⊢; omega
  | .list ds, h => by simp only [Bd] at h ⊢; exact ⟨by omega, BdA.up hw h.2⟩
  | .tuple ds, h => by simp only [Bd] at h ⊢; exact ⟨by omega, BdA.up hw h.2⟩
  | .dict kvs, h => by simp only [Bd] at h ⊢; omega
theorem BdA.up {w w' : Nat} (hw : w ≤ w') : ∀ {ds : List PyData}, BdA w ds → BdA w' ds
  | [], _ => by simp only [BdA]
  | d :: ds, h => by simp only [BdA] at h ⊢; exact ⟨Bd.up hw h.1, BdA.up hw h.2⟩
end
theorem datA_mem {K : PySem.W.Frag} {H : Hp} : ∀ {xs : List V} {ds : List PyData}, DatA K H xs ds → ∀ {x : V}, x ∈ xs → ∃ d ∈ ds, DatV K H x d
  | _, _, .cons (d := d) h t, x, hx => by
    rcases List.mem_cons.mp hx with e | e
    · exact ⟨d, List.mem_cons_self, by rw [e]; exact h⟩
    · obtain ⟨d', h1, h2⟩ := datA_mem t e
      exact ⟨d', List.mem_cons_of_mem _ h1, h2⟩
theorem datA_at {K : PySem.W.Frag} {H : Hp} : ∀ {xs : List V} {ds : List PyData}, DatA K H xs ds → ∀ {i : Nat} {x : V}, xs[i]? = some x → ∃ d, ds[i]? = some d ∧ DatV K H x d
  | _, _, .cons (d := d) h _, 0, x, e => by
    rw [List.getElem?_cons_zero] at e
    cases e
    exact ⟨d, rfl, h⟩
  | _, _, .cons _ t, i + 1, x, e => by
    rw [List.getElem?_cons_succ] at e
    exact datA_at t e
theorem datA_app {K : PySem.W.Frag} {H : Hp} : ∀ {xs : List V} {ds : List PyData}, DatA K H xs ds → ∀ {ys : List V} {es : List PyData}, DatA K H ys es → DatA K H (xs ++ ys) (ds ++ es)
  | _, _, .nil, _, _, h => h
  | _, _, .cons h t, _, _, g => .cons h (datA_app t g)
theorem datA_take {K : PySem.W.Frag} {H : Hp} : ∀ {xs : List V} {ds : List PyData}, DatA K H xs ds → ∀ n : Nat, DatA K H (xs.take n) (ds.take n)
  | _, _, .nil, n => by rw [List.take_nil, List.take_nil]; exact .nil
  | _, _, .cons _ _, 0 => .nil
  | _, _, .cons h t, n + 1 => .cons h (datA_take t n)
theorem datA_drop {K : PySem.W.Frag} {H : Hp} : ∀ {xs : List V} {ds : List PyData}, DatA K H xs ds → ∀ n : Nat, DatA K H (xs.drop n) (ds.drop n)
  | _, _, .nil, n => by rw [List.drop_nil, List.drop_nil]; exact .nil
  | _, _, .cons h t, 0 => .cons h t
  | _, _, .cons _ t, n + 1 => datA_drop t n
theorem datA_rev {K : PySem.W.Frag} {H : Hp} : ∀ {xs : List V} {ds : List PyData}, DatA K H xs ds → DatA K H xs.reverse ds.reverse
  | _, _, .nil => .nil
  | _, _, .cons h t => by
    rw [List.reverse_cons, List.reverse_cons]
    exact datA_app (datA_rev t) (.cons h .nil)
theorem datA_ints {K : PySem.W.Frag} {H : Hp} : ∀ ns : List Int, DatA K H (ns.map V.int) (ns.map PyData.int)
  | [] => .nil
  | n :: ns => .cons (.int n) (datA_ints ns)
theorem sqt_wo' {K : PySem.W.Frag} {H : Hp} {b p : Addr} {xs : List V} (h : SqT K H p xs) (B : Bag H b) : SqT K (wo H b) p xs := by
  have nb : ∀ {o : HO}, H p = some o → (∀ l, o ≠ .lst l) → p ≠ b := fun {o} e n z => by
    obtain ⟨_, _, _, _, _, h1, _⟩ := B
    rw [z, h1] at e
    exact n _ (Option.some.inj e).symm
  rcases h with (h | ⟨o, h⟩) | h
  · exact .inl (.inl ((wo_ne (nb h (fun l z => by cases z))).trans h))
  · exact .inl (.inr ⟨o, (wo_ne (nb h (fun l z => by cases z))).trans h⟩)
  · exact .inr h
/-- t[lo:hi], the result by what stands at it -/
def rSlP (K : PySem.W.Frag) : V → Option Int → Option Int → Hp → VK → Prop := fun x lo hi H Q => ∃ a xs, x = .ref a ∧ SqT K H a xs ∧ ∀ (p : Addr) (H' : Hp), Same H H' → SqT K H' p (cutV xs lo hi) → Q (.ref p) H'
theorem cut_all {xs : List V} {lo hi : Option Int} (h : HT.sIx xs.length 0 lo = 0 ∧ HT.sIx xs.length xs.length hi = xs.length) : cutV xs lo hi = xs := by
  unfold cutV
  rw [h.1, h.2, List.drop_zero, Nat.sub_zero, List.take_length]
theorem sl_tupP {X : Cx} : SlR X (rSlP X.K) := by
  intro pins s σ H x v vl vu lo hi sl Q I rx hs pl pu h
  obtain ⟨a, xs, rfl, hx, q⟩ := h
  exact sl_tupA pins s σ H _ v vl vu lo hi sl Q I rx hs pl pu ⟨a, xs, rfl, hx, fun e => q a H (Same.refl H) (by rw [cut_all e]; exact hx), fun _ p hp => q p _ (same_new (Same.refl H) hp) (SqT.of upd_same)⟩
/-- t + u, the result by what stands at it -/
def rCatP (K : PySem.W.Frag) : R2 := fun x y H Q => ∃ a b xs ys, x = .ref a ∧ y = .ref b ∧ SqT K H a xs ∧ SqT K H b ys ∧ xs.length + ys.length ≤ sizeLine ∧ ∀ (p : Addr) (H' : Hp), Same H H' → SqT K H' p (xs ++ ys) → Q (.ref p) H'
theorem op_catP {X : Cx} : OpR X (binaryOp .Add) (rCatP X.K) := by
  intro pins s σ H x y v u Q I rx ry h
  obtain ⟨a, b, xs, ys, rfl, rfl, ha, hb, hz, q⟩ := h
  refine op_catA pins s σ H _ _ v u Q I rx ry ⟨a, b, xs, ys, rfl, rfl, ha, hb, hz, fun e => q b H (Same.refl H) (by rw [e]; exact hb), fun _ e => q a H (Same.refl H) (by rw [e, List.append_nil]; exact ha), fun _ _ p hp => q p _ (same_new (Same.refl H) hp) (SqT.of upd_same)⟩
end Y

namespace Y
open PySem PySem.Spec PyProof.Rows L2 Ns
open C8 (pss_cut)
/-- the things in some order: a new list -/
def spMixed (K : PySem.W.Frag) : Sp := fun as H Q _ => ∃ (b a : Addr) (xs : List V), as = [.ref b, .ref a] ∧ Bag H b ∧ SqL K (wo H b) a xs ∧ xs.length ≤ 1000 ∧
  ∀ (p : Addr) (ys : List V) (H' : Hp), ys.Perm xs → H' p = some (.lst ys) → H p = none → p ≠ b → Bag H' b → Sb b H H' → Q (.ref p) H'
/-- one sign of a text -/
def spSomeS : Sp := fun as H Q _ => ∃ (b : Addr) (z : Str), as = [.ref b, .str z] ∧ Bag H b ∧ z.length ≠ 0 ∧ z.length ≤ 1000 ∧ ∀ (c : Nat) (H' : Hp), c ∈ z.cps.toList → Bag H' b → Sb b H H' → Q (.str ⟨#[c]⟩) H'
section
variable {P : Program} {w : World} {K : PySem.W.Frag} {mg : Str → Option Value} {base : Heap}
theorem ok_someS {f fT : Addr} {fd fdT : FuncData} (F : Fun K "_law_some" "_law_some" sSome f fd) (T : Nat0 mg) (FT : Fun K "_law_take" "_law_take" sTake fT fdT) (mT : mg "_law_take" = some (.ref fT)) (bT : Binds K fdT ["bag", "many"] []) :
    FnOk P w K mg base CX0 2 f fd ["bag", "things"] spSomeS := by
  have GT : FnOk P w K mg base CX0 1 fT fdT ["bag", "many"] spTake := ok_take FT T
  refine F.ok scS (fun as H Q E h => ?_) (fun cdv A outer s H as Q E hr h => ?_)
  · obtain ⟨b, z, rfl, _⟩ := h
    rfl
  · obtain ⟨b, z, rfl, hB, hne, hl, k⟩ := h
    refine ⟨_, pss_one (ps_ret (pe_ix ix_str (pv 1) (pe_call GT hr rfl mT FT.kp bT .nil pass0 (pa_cons (pv 0) (pa_cons (pe_callB call_len_str (by rfl) T.len PySem.boot_len (pa_cons (pv 1) pa_nil)) pa_nil))) (fun _ _ => rfl))), ?_⟩
    refine ⟨_, rfl, _, rfl, _, rfl, z, rfl, Nat.le_of_lt (small1000 hl), b, _, rfl, hB, by omega, ?_, fun v H' h0 h1 hB' sb => ?_⟩
    · exact Nat.lt_of_le_of_lt (show ((z.length : Int)).natAbs ≤ 1000 by omega) (by decide)
    · have hi : v.toNat < z.cps.toList.length := by
        have e : z.cps.toList.length = z.length := by first | rfl | simp [PySem.Str.length]
        omega
      have ev : v = ((v.toNat : Nat) : Int) := by omega
      obtain ⟨c, ec⟩ : ∃ c, z.cps.toList[v.toNat]? = some c := ⟨_, List.getElem?_eq_getElem hi⟩
      refine ⟨z, v, c, rfl, rfl, Nat.le_of_lt (small1000 hl), by rw [ev]; exact atI_nat ec, ?_⟩
      exact k c H' (List.mem_of_getElem? ec) hB' sb
end
end Y

/-! names, as texts: what is one, and that a row of tries comes to a new one -/
namespace Y
open PySem PySem.Spec PyProof.Rows L2 Ns
def isL (c : Nat) : Prop := 97 ≤ c ∧ c ≤ 122
def isD (c : Nat) : Prop := 48 ≤ c ∧ c ≤ 57
def isS (c : Nat) : Prop := isL c ∨ isD c
instance (c : Nat) : Decidable (isL c) := inferInstanceAs (Decidable (_ ∧ _))
instance (c : Nat) : Decidable (isD c) := inferInstanceAs (Decidable (_ ∧ _))
instance (c : Nat) : Decidable (isS c) := inferInstanceAs (Decidable (_ ∨ _))
/-- the signs of a name -/
def NmL (n : List Nat) : Prop := ∃ c r, n = c :: r ∧ isL c ∧ (∀ d ∈ r, isS d) ∧ r.length ≤ 19
def Nm (x : Str) : Prop := NmL x.cps.toList
abbrev letters : Str := "abcdefghijklmnopqrstuvwxyz"
abbrev signs : Str := "abcdefghijklmnopqrstuvwxyz0123456789"
theorem letters_ok : ∀ c ∈ letters.cps.toList, isL c := by decide +kernel
theorem signs_ok : ∀ c ∈ signs.cps.toList, isS c := by decide +kernel
theorem len_cps (z : Str) : z.cps.toList.length = z.length := by first | rfl | simp [PySem.Str.length]
theorem str_ext {x y : Str} (h : x.cps.toList = y.cps.toList) : x = y := by
  cases x
  cases y
  exact congrArg PySem.Str.mk (Array.toList_inj.mp h)
theorem Nm.len {x : Str} (h : Nm x) : 1 ≤ x.length ∧ x.length ≤ 20 := by
  obtain ⟨c, r, e, _, _, h⟩ := h
  rw [← len_cps, e, List.length_cons]
  omega
theorem nm_one {c : Nat} (h : isL c) : Nm ⟨#[c]⟩ := ⟨c, [], rfl, h, (fun _ z => nomatch z), by decide⟩
theorem nm_snoc {x : Str} {c : Nat} (h : Nm x) (hl : x.length ≤ 19) (hc : isS c) : Nm (x ++ ⟨#[c]⟩) := by
  obtain ⟨d, r, e, h1, h2, h3⟩ := h
  refine ⟨d, r ++ [c], by rw [cps_toList_append, e]; rfl, h1, fun k hk => ?_, ?_⟩
  · rcases List.mem_append.mp hk with q | q
    · exact h2 k q
    · rw [List.mem_singleton] at q
      rw [q]; exact hc
  · have q : x.cps.toList.length ≤ 19 := by rw [len_cps]; exact hl
    rw [e, List.length_cons] at q
    rw [List.length_append, List.length_singleton]
    omega
theorem cut_list (z : Str) (k : Nat) : (cutS z none (some (k : Int))).cps.toList = z.cps.toList.take k := by
  have e : HT.sIx z.length 0 none = 0 := rfl
  unfold cutS
  show ((z.cps.toList.drop (HT.sIx z.length 0 none)).take (HT.sIx z.length z.length (some (k : Int)) - HT.sIx z.length 0 none)) = _
  rw [e, List.drop_zero, Nat.sub_zero]
  have h : HT.sIx z.length z.length (some (k : Int)) = min k z.length := by
    unfold HT.sIx
    simp
    try omega
  rw [h, ← len_cps]
  rw [List.take_eq_take_iff]
  omega
theorem nm_cut {x : Str} {k : Nat} (h : Nm x) (hk : 1 ≤ k) : Nm (cutS x none (some (k : Int))) ∧ (cutS x none (some (k : Int))).length ≤ k := by
  obtain ⟨c, r, e, h1, h2, h3⟩ := h
  have q := cut_list x k
  obtain ⟨m, rfl⟩ : ∃ m, k = m + 1 := ⟨k - 1, by omega⟩
  rw [e, List.take_succ_cons] at q
  refine ⟨⟨c, r.take m, q, h1, fun d hd => h2 d (List.mem_of_mem_take hd), ?_⟩, ?_⟩
  · rw [List.length_take]; omega
  · rw [← len_cps, q, List.length_cons, List.length_take]; omega
/-- the digits of a number -/
def Dg (k : Nat) : List Nat := (toString (k : Int) : PySem.Str).cps.toList
theorem dg_digits : ∀ k, k < 101 → (∀ c ∈ Dg k, isD c) ∧ (Dg k).length ≤ 3 := by decide +kernel
theorem dg_inj : ∀ j, j < 101 → ∀ k, k < 101 → Dg j = Dg k → j = k := by decide +kernel
theorem not_both {c : Nat} (h : isL c) (g : isD c) : False := by
  unfold isL at h
  unfold isD at g
  omega
theorem split_same : ∀ {a b : List Nat} {c d : Nat} {r t : List Nat}, (∀ x ∈ a, isD x) → (∀ x ∈ b, isD x) → isL c → isL d → a ++ c :: r = b ++ d :: t → a = b
  | [], [], _, _, _, _, _, _, _, _, _ => rfl
  | [], y :: b, c, d, r, t, _, hb, hc, _, h => by
    injection h with h1 h2
    rw [h1] at hc
    exact (not_both hc (hb y List.mem_cons_self)).elim
  | x :: a, [], c, d, r, t, ha, _, _, hd, h => by
    injection h with h1 h2
    rw [← h1] at hd
    exact (not_both hd (ha x List.mem_cons_self)).elim
  | x :: a, y :: b, c, d, r, t, ha, hb, hc, hd, h => by
    injection h with h1 h2
    rw [h1, split_same (fun z hz => ha z (List.mem_cons_of_mem _ hz)) (fun z hz => hb z (List.mem_cons_of_mem _ hz)) hc hd h2]
/-- the k-th try -/
def Tr (k : Nat) (x : Str) : Prop := ∃ c r, isL c ∧ x.cps.toList = 120 :: (Dg k ++ c :: r)
theorem tr_inj {j k : Nat} {x : Str} (hj : j < 101) (hk : k < 101) (h : Tr j x) (g : Tr k x) : j = k := by
  obtain ⟨c, r, h1, h2⟩ := h
  obtain ⟨d, t, g1, g2⟩ := g
  rw [h2] at g2
  injection g2 with _ e
  exact dg_inj j hj k hk (split_same (dg_digits j hj).1 (dg_digits k hk).1 h1 g1 e)
def tryOf (k : Nat) (x : Str) : Str := ("x" : Str) ++ toString (k : Int) ++ cutS x none (some (16 : Int))
theorem tryOf_cps (k : Nat) (x : Str) : (tryOf k x).cps.toList = 120 :: (Dg k ++ x.cps.toList.take 16) := by
  unfold tryOf
  rw [cps_toList_append, cps_toList_append, show (16 : Int) = ((16 : Nat) : Int) from rfl, cut_list]
  rfl
theorem tr_try {k : Nat} {x : Str} (h : Nm x) : Tr k (tryOf k x) := by
  obtain ⟨c, r, e, h1, _⟩ := h
  exact ⟨c, r.take 15, h1, by rw [tryOf_cps, e]; rfl⟩
theorem nm_try {k : Nat} {x : Str} (h : Nm x) (hk : k < 101) : Nm (tryOf k x) := by
  obtain ⟨c, r, e, h1, h2, h3⟩ := h
  obtain ⟨d1, d2⟩ := dg_digits k hk
  refine ⟨120, Dg k ++ x.cps.toList.take 16, tryOf_cps k x, by decide, fun d hd => ?_, ?_⟩
  · rcases List.mem_append.mp hd with q | q
    · exact .inr (d1 d q)
    · have q' := List.mem_of_mem_take q
      rw [e] at q'
      rcases List.mem_cons.mp q' with z | z
      · rw [z]; exact .inl h1
      · exact h2 d z
  · rw [List.length_append, List.length_take]
    omega
abbrev feed : Str := "feed"
theorem tr_feed {k : Nat} {x : Str} (h : Tr k x) : x ≠ feed := by
  rintro rfl
  obtain ⟨c, r, _, e⟩ := h
  have e' : feed.cps.toList = [102, 101, 101, 100] := by decide +kernel
  rw [e'] at e
  cases e
theorem sub_len {α : Type} [DecidableEq α] : ∀ {l m : List α}, l.Nodup → (∀ x ∈ l, x ∈ m) → l.length ≤ m.length
  | [], _, _, _ => Nat.zero_le _
  | x :: l, m, hn, hs => by
    have hx := hs x List.mem_cons_self
    have q := sub_len (l := l) (m := m.erase x) (List.nodup_cons.mp hn).2 fun y hy => by
      have ne : y ≠ x := fun e => (List.nodup_cons.mp hn).1 (e ▸ hy)
      exact (List.mem_erase_of_ne ne).mpr (hs y (List.mem_cons_of_mem _ hy))
    rw [List.length_erase_of_mem hx] at q
    have := List.length_pos_of_mem hx
    rw [List.length_cons]
    omega
/-- ahead of the i-th turn -/
def Ahead (taken : List Str) (i : Nat) (x : Str) : Prop := Nm x ∧ ((x ∉ taken ∧ x ≠ feed) ∨ i = 0 ∨ ∃ seen : List Str, seen.length + 1 = i ∧ seen.Nodup ∧ (∀ s ∈ seen, s ∈ taken ∧ ∃ k, k + 1 < i ∧ Tr k s) ∧ Tr (i - 1) x)
theorem ahead_good {taken : List Str} {i : Nat} {x : Str} (h : Nm x) (h1 : x ∉ taken) (h2 : x ≠ feed) : Ahead taken (i + 1) x := ⟨h, .inl ⟨h1, h2⟩⟩
theorem ahead_bad {taken : List Str} {i : Nat} {x : Str} (hi : i < 101) (h : Ahead taken i x) (hb : x ∈ taken ∨ x = feed) : Ahead taken (i + 1) (tryOf i x) := by
  obtain ⟨n, h⟩ := h
  refine ⟨nm_try n hi, ?_⟩
  rcases h with ⟨h1, h2⟩ | rfl | ⟨seen, h1, h2, h3, h4⟩
  · rcases hb with q | q
    · exact absurd q h1
    · exact absurd q h2
  · exact .inr (.inr ⟨[], rfl, List.nodup_nil, (fun _ z => nomatch z), tr_try n⟩)
  · have hx : x ∈ taken := by
      rcases hb with q | q
      · exact q
      · exact absurd q (tr_feed h4)
    refine .inr (.inr ⟨x :: seen, by rw [List.length_cons]; omega, List.nodup_cons.mpr ⟨fun hm => ?_, h2⟩, fun s hs => ?_, tr_try n⟩)
    · obtain ⟨_, k, hk, ht⟩ := h3 x hm
      have := tr_inj (by omega) (by omega) ht h4
      omega
    · rcases List.mem_cons.mp hs with e | e
      · rw [e]
        exact ⟨hx, i - 1, by omega, h4⟩
      · obtain ⟨g1, k, g2, g3⟩ := h3 s e
        exact ⟨g1, k, by omega, g3⟩
theorem ahead_end {taken : List Str} {x : Str} (hl : taken.length ≤ 100) (h : Ahead taken (taken.length + 1) x) : Nm x ∧ x ∉ taken ∧ x ≠ feed := by
  obtain ⟨n, h⟩ := h
  refine ⟨n, ?_⟩
  rcases h with h | h | ⟨seen, h1, h2, h3, h4⟩
  · exact h
  · cases h
  · refine ⟨fun hx => ?_, tr_feed h4⟩
    have q := sub_len (l := x :: seen) (m := taken) (List.nodup_cons.mpr ⟨fun hm => ?_, h2⟩) fun s hs => by
      rcases List.mem_cons.mp hs with e | e
      · rw [e]; exact hx
      · exact (h3 s e).1
    · rw [List.length_cons] at q
      omega
    · obtain ⟨_, k, hk, ht⟩ := h3 x hm
      have := tr_inj (by omega) (by omega) ht h4
      omega
end Y

namespace Y
open PySem PySem.Spec PyProof.Rows L2 Ns
open C8 (pss_cut)
def txs (l : List Str) : List V := l.map V.str
def spName (K : PySem.W.Frag) : Sp := fun as H Q _ => ∃ (b a : Addr) (ts : List Str), as = [.ref b, .ref a] ∧ Bag H b ∧ SqL K (wo H b) a (txs ts) ∧ ts.length ≤ 100 ∧ (∀ t ∈ ts, Nm t) ∧ ∀ (x : Str) (H' : Hp), Nm x → x ∉ ts → x ≠ feed → Bag H' b → Sb b H H' → Q (.str x) H'
theorem dp_txs {K : PySem.W.Frag} {H : Hp} : ∀ ts : List Str, DpAll K H (txs ts) (ts.map PyData.str)
  | [] => .nil
  | t :: ts => .cons (.str t) (dp_txs ts)
theorem nm_ok {t : Str} (h : Nm t) : PyData.strOk t = true := by
  obtain ⟨c, r, e, h1, h2, _⟩ := h
  unfold PyData.strOk
  rw [Array.all_eq_true_iff_forall_mem]
  intro x hx
  have hx' : x ∈ t.cps.toList := by simpa using hx
  rw [e] at hx'
  refine decide_eq_true ?_
  rcases List.mem_cons.mp hx' with q | q
  · rw [q]; unfold isL at h1; omega
  · rcases h2 x q with z | z
    · unfold isL at z; omega
    · unfold isD at z; omega
theorem lay_txs : ∀ ts : List Str, (∀ t ∈ ts, Nm t) → PyData.canLayAll0 (ts.map PyData.str) = true ∧ PyData.depthAll (ts.map PyData.str) = 0
  | [], _ => ⟨rfl, rfl⟩
  | t :: ts, h => by
    obtain ⟨h1, h2⟩ := lay_txs ts fun t ht => h t (List.mem_cons_of_mem _ ht)
    exact ⟨by simp [PyData.canLayAll0, PyData.canLay0, h1, nm_ok (h t List.mem_cons_self)], by simp [PyData.depthAll, PyData.depth, h2]⟩
theorem shaped_txs {ts : List Str} (h : ∀ t ∈ ts, Nm t) : SeqAt.shaped (.list (ts.map PyData.str)) = true := by
  obtain ⟨h1, h2⟩ := lay_txs ts h
  simp [SeqAt.shaped, PyData.canLay0, PyData.depth, h1, h2]
theorem flat_txs (ts : List Str) : (txs ts).all flatV = true := by
  rw [List.all_eq_true]
  intro x hx
  obtain ⟨t, _, rfl⟩ := List.mem_map.mp hx
  rfl
theorem in_txs {x : Str} {ts : List Str} : inV (.str x) (txs ts) = true ↔ x ∈ ts := by
  unfold inV txs
  rw [List.any_map, List.any_eq_true]
  constructor
  · rintro ⟨y, hy, h⟩
    have e : y = x := by simpa [L2.eqV] using h
    rw [← e]; exact hy
  · intro h
    exact ⟨x, h, by simp [L2.eqV]⟩
theorem hx20 {x : Str} (h : Nm x) : x.length ≤ sizeLine := Nat.le_of_lt (small1000 (show x.length ≤ 1000 by have := h.len; omega))
section
variable {P : Program} {w : World} {K : PySem.W.Frag} {mg : Str → Option Value} {base : Heap}
end
end Y

namespace Y
open PySem PySem.Spec PyProof.Rows L2 Ns
open C8 (pss_cut)
theorem cut_from (xs : List V) (k : Nat) : cutV xs (some (k : Int)) none = xs.drop k := by
  unfold cutV
  rw [HT.sIx_nat, HT.sIx_none]
  rcases Nat.lt_or_ge xs.length k with h | h
  · rw [Nat.min_eq_right (Nat.le_of_lt h), Nat.sub_self, List.take_zero, List.drop_of_length_le (Nat.le_of_lt h)]
  · rw [Nat.min_eq_left h]
    exact List.take_of_length_le (by rw [List.length_drop]; exact Nat.le_refl _)
theorem cut_upto (xs : List V) (k : Nat) : cutV xs none (some (k : Int)) = xs.take k := by
  unfold cutV
  rw [HT.sIx_nat, HT.sIx_none, List.drop_zero, Nat.sub_zero]
  rw [List.take_eq_take_iff]
  omega
/-- a list that stands apart from the bag -/
theorem sql_new {K : PySem.W.Frag} {H : Hp} {b p : Addr} {xs : List V} (e : H p = some (.lst xs)) (n : p ≠ b) : SqL K (wo H b) p xs := SqL.of ((wo_ne n).trans e)
theorem sqt_new {K : PySem.W.Frag} {H : Hp} {b p : Addr} {xs : List V} (e : H p = some (.tup xs)) (n : p ≠ b) : SqT K (wo H b) p xs := SqT.of ((wo_ne n).trans e)
/-- new names -/
structure Nms (ts xs : List Str) : Prop where
  nm : ∀ x ∈ xs, Nm x
  nodup : xs.Nodup
  off : ∀ x ∈ xs, x ∉ ts ∧ x ≠ feed
def spNames (K : PySem.W.Frag) : Sp := fun as H Q _ => ∃ (b a : Addr) (m : Nat) (ts : List Str), as = [.ref b, .int m, .ref a] ∧ Bag H b ∧ SqL K (wo H b) a (txs ts) ∧ ts.length + m ≤ 100 ∧ (∀ t ∈ ts, Nm t) ∧
  ∀ (p : Addr) (xs : List Str) (H' : Hp), xs.length = m → Nms ts xs → H' p = some (.lst (txs xs)) → H p = none → Bag H' b → Sb b H H' → Q (.ref p) H'
def spSize : Sp := fun as H Q _ => ∃ (b : Addr) (m : Int), as = [.ref b, .int m] ∧ Bag H b ∧ 0 ≤ m ∧ m ≤ 10 ^ 13 ∧ ∀ (v : Int) (H' : Hp), 0 ≤ v → v ≤ m → Bag H' b → Sb b H H' → Q (.int v) H'
section
variable {P : Program} {w : World} {K : PySem.W.Frag} {mg : Str → Option Value} {base : Heap}
theorem scZ : FnScope ["bag", "most", "small"] ["bag", "most"] (defScope sSize) := ⟨rfl, rfl, rfl, by decide +kernel, rfl, by decide +kernel, by decide +kernel⟩
theorem ok_size {f fT fS : Addr} {fd fdT fdS : FuncData} (F : Fun K "_law_size" "_law_size" sSize f fd) (T : Nat0 mg) (FT : Fun K "_law_take" "_law_take" sTake fT fdT) (mT : mg "_law_take" = some (.ref fT)) (bT : Binds K fdT ["bag", "many"] [])
    (FS : Fun K "_law_some" "_law_some" sSome fS fdS) (mS : mg "_law_some" = some (.ref fS)) (bS : Binds K fdS ["bag", "things"] []) :
    FnOk P w K mg base CX0 3 f fd ["bag", "most"] spSize := by
  have GT : FnOk P w K mg base CX0 1 fT fdT ["bag", "many"] spTake := ok_take FT T
  have GS : FnOk P w K mg base CX0 2 fS fdS ["bag", "things"] (spSome K) := ok_some FS T FT mT bT
  refine F.ok scZ (fun as H Q E h => ?_) (fun cdv A outer s H as Q E hr h => ?_)
  · obtain ⟨b, m, rfl, _⟩ := h
    rfl
  · obtain ⟨b, m, rfl, hB, h0, h1, k⟩ := h
    have hr1 : Room 1 _ := hr.mono (by decide)
    refine ⟨_, pss_cons (ps_set (i := 2) scZ.nd rfl (.inl rfl) (pe_call GT hr1 rfl mT FT.kp bT .nil pass0 (pa_cons (pv 0) (pa_cons (pe_op op_add (pe_callB (call_min2 rfl) (by rfl) T.min (by decide +kernel) (pa_cons (pv 1) (pa_cons pe_int pa_nil))) pe_int) pa_nil))))
      (pss_one (ps_ret (pe_call GS hr rfl mS FS.kp bS .nil pass0 (pa_cons (pv 0) (pa_cons (pe_lst (pa_cons (pv 2) (pa_cons (pv 2) (pa_cons (pv 2) (pa_cons (pe_callB (call_min2 rfl) (by rfl) T.min (by decide +kernel) (pa_cons (pv 1) (pa_cons pe_int pa_nil)))
        (pa_cons (pe_call GT hr1 rfl mT FT.kp bT .nil pass0 (pa_cons (pv 0) (pa_cons (pe_op op_add (pv 1) pe_int) pa_nil))) (pa_cons (pv 1) pa_nil))))))) pa_nil))))), ?_⟩
    have big : ((10 : Int) ^ 13 + 1).natAbs < 2 ^ 200 := by decide +kernel
    refine ⟨_, rfl, _, rfl, m, 6, rfl, _, 1, rfl, rfl, b, _, rfl, hB, ?_, ?_, fun v H1 v0 v1 hB1 s1 => ?_⟩
    · split <;> omega
    · refine Nat.lt_of_le_of_lt ?_ big
      split <;> omega
    refine ⟨_, rfl, _, rfl, _, rfl, _, rfl, _, rfl, m, 1, rfl, _, rfl, _, rfl, m, 1, rfl, rfl, b, _, rfl, hB1, by omega, Nat.lt_of_le_of_lt (show (m + 1).natAbs ≤ _ by omega) big, fun u H2 u0 u1 hB2 s2 => ?_⟩
    refine ⟨_, rfl, by show 6 ≤ sizeLine; decide, fun p hp => ?_⟩
    refine ⟨b, p, _, rfl, hB2.new hp, sql_new upd_same (hB2.ne hp), (fun z => nomatch z), by show 6 ≤ 1000000; decide, fun x H' hx hB' s' => ?_⟩
    have fin : ∀ i : Int, x = .int i → 0 ≤ i → i ≤ m → Q x H' := fun i e g0 g1 => by
      rw [e]
      exact k i H' g0 g1 hB' (((s1.trans s2).new hp).trans s')
    have v1' : v ≤ m := by
      by_cases c : (6 : Int) < m
      · rw [if_pos c] at v1; omega
      · rw [if_neg c] at v1; omega
    simp only [List.mem_cons, List.not_mem_nil, or_false] at hx
    rcases hx with rfl | rfl | rfl | rfl | rfl | rfl
    · exact fin v rfl v0 v1'
    · exact fin v rfl v0 v1'
    · exact fin v rfl v0 v1'
    · refine fin _ rfl ?_ ?_ <;> split <;> omega
    · exact fin u rfl u0 (by omega)
    · exact fin m rfl h0 (Int.le_refl m)
end
end Y

/-! OC: _law_odd. -/
namespace Y
open PySem PySem.Spec PyProof.Rows L2 Ns
def bs : Str := ⟨(List.replicate 21 ("b" : Str).cps).foldl (· ++ ·) #[]⟩
theorem bs_len : bs.length ≤ 40 := by
  show (⟨(List.replicate 21 ("b" : Str).cps).foldl (· ++ ·) #[]⟩ : Str).length ≤ 40
  rw [mulS_len]
  decide
def oddDs : List PyData := [.none, .bool true, .bool false, .int (-1), .int 0, .int 1, .int (10 ^ Int.toNat 39), .str "", .str "a", .str "feed", .str "A", .str "a b", .str "7b", .str "a_b", .str bs, .tuple [], .list [], .dict [], .tuple [.str "a"], .tuple [.str "a", .str "b"], .tuple [.str "a", .str "b", .int 1], .list [.int 0], .tuple [.int 0], .tuple [.none], .tuple [.tuple []], .tuple [.tuple [], .tuple []], .dict [(.str "a", .int 1)], .str "\n", .tuple [.int 0, .int 1]]
theorem odd_bd : ∀ d ∈ oddDs, Bd 40 d := bdA_iff.mp (by
  unfold oddDs
  simp only [BdA, Bd, and_true, true_and]
  repeat (first | exact bs_len | (refine ⟨?_, ?_⟩) | decide)
  )
def spOdd (K : PySem.W.Frag) : Sp := fun as H Q _ => ∃ (b : Addr), as = [.ref b] ∧ Bag H b ∧ ∀ (x : V) (d : PyData) (H' : Hp), DatV K (wo H' b) x d → Bd 40 d → Bag H' b → Sb b H H' → Q x H'
section
variable {P : Program} {w : World} {K : PySem.W.Frag} {mg : Str → Option Value} {base : Heap}
theorem scO : FnScope ["bag", "some", "more"] ["bag"] (defScope sOdd) := ⟨rfl, rfl, rfl, by decide +kernel, rfl, by decide +kernel, by decide +kernel⟩
theorem ok_odd {f fS : Addr} {fd dS : FuncData} (F : Fun K "_law_odd" "_law_odd" sOdd f fd) (FS : Fun K "_law_some" "_law_some" sSome fS dS) (mS : mg "_law_some" = some (.ref fS)) (bS : Binds K dS ["bag", "things"] [])
    (GS : FnOk P w K mg base CX0 2 fS dS ["bag", "things"] (spSome K)) : FnOk P w K mg base CX0 3 f fd ["bag"] (spOdd K) := by
  refine F.ok scO (fun as H Q E h => ?_) (fun cdv A outer s H0 as Q E hr h => ?_)
  · obtain ⟨b, rfl, _⟩ := h
    rfl
  · obtain ⟨b, rfl, b0, k⟩ := h
    refine ⟨_, pss_cons (ps_set (i := 1) scO.nd rfl (.inl rfl) (pe_lst (pa_cons pe_non (pa_cons pe_bl (pa_cons pe_bl (pa_cons (pe_un un_neg pe_int) (pa_cons pe_int (pa_cons pe_int (pa_cons (pe_op op_pow pe_int pe_int) (pa_cons pe_str (pa_cons pe_str (pa_cons pe_str (pa_cons pe_str (pa_cons pe_str (pa_cons pe_str (pa_cons pe_str (pa_cons (pe_op op_mulStr pe_str pe_int) (pa_cons (pe_tup pa_nil) (pa_cons (pe_lst pa_nil) (pa_cons pe_dnewK pa_nil))))))))))))))))))))
      (pss_cons (ps_set (i := 2) scO.nd rfl (.inl rfl) (pe_lst (pa_cons (pe_tup (pa_cons pe_str pa_nil)) (pa_cons (pe_tup (pa_cons pe_str (pa_cons pe_str pa_nil))) (pa_cons (pe_tup (pa_cons pe_str (pa_cons pe_str (pa_cons pe_int pa_nil)))) (pa_cons (pe_lst (pa_cons pe_int pa_nil)) (pa_cons (pe_tup (pa_cons pe_int pa_nil)) (pa_cons (pe_tup (pa_cons pe_non pa_nil)) (pa_cons (pe_tup (pa_cons (pe_tup pa_nil) pa_nil)) (pa_cons (pe_tup (pa_cons (pe_tup pa_nil) (pa_cons (pe_tup pa_nil) pa_nil))) (pa_cons (pe_disp (pps_cons pe_str pe_int pps_nil) (by rfl) (by rfl) (fun z => by cases z) (by decide)) (pa_cons pe_str (pa_cons (pe_tup (pa_cons pe_int (pa_cons pe_int pa_nil))) pa_nil)))))))))))))
      (pss_one (ps_ret (pe_call GS hr rfl mS FS.kp bS .nil pass0 (pa_cons (pv 0) (pa_cons (pe_op op_cat (pv 1) (pv 2)) pa_nil)))))), ?_⟩
    refine ⟨1, rfl, ?_⟩
    refine ⟨10, 39, rfl, rfl, ⟨by decide, by decide, by decide⟩, ?_⟩
    refine ⟨"b", 21, rfl, rfl, by decide, by decide, by decide, by decide, ?_⟩
    refine ⟨by show 0 ≤ sizeLine; decide, fun t1 u1 => ?_⟩
    have m1 := same_new (o := .tup []) (Same.refl H0) u1
    have e1 : upd H0 t1 (.tup []) t1 = some (.tup []) := upd_same
    have b1 := b0.new (o := .tup []) u1
    have n1 : t1 ≠ b := b0.ne u1
    generalize upd H0 t1 (.tup []) = H1 at m1 e1 b1 ⊢
    refine ⟨by show 0 ≤ sizeLine; decide, fun t2 u2 => ?_⟩
    have m2 := same_new (o := .lst []) (Same.refl H1) u2
    have e2 : upd H1 t2 (.lst []) t2 = some (.lst []) := upd_same
    have b2 := b1.new (o := .lst []) u2
    have n2 : t2 ≠ b := b1.ne u2
    generalize upd H1 t2 (.lst []) = H2 at m2 e2 b2 ⊢
    refine fun t3 u3 => ?_
    have m3 := same_new (o := .dK []) (Same.refl H2) u3
    have e3 : upd H2 t3 (.dK []) t3 = some (.dK []) := upd_same
    have b3 := b2.new (o := .dK []) u3
    have n3 : t3 ≠ b := b2.ne u3
    generalize upd H2 t3 (.dK []) = H3 at m3 e3 b3 ⊢
    refine ⟨by show 18 ≤ sizeLine; decide, fun t4 u4 => ?_⟩
    have m4 := same_new (o := .lst [.non, .bl true, .bl false, .int (-1), .int 0, .int 1, .int (10 ^ Int.toNat 39), .str "", .str "a", .str "feed", .str "A", .str "a b", .str "7b", .str "a_b", .str ⟨(List.replicate 21 (Str.ofString "b").cps).foldl (fun x1 x2 => x1 ++ x2) #[]⟩, .ref t1, .ref t2, .ref t3]) (Same.refl H3) u4
    have e4 : upd H3 t4 (.lst [.non, .bl true, .bl false, .int (-1), .int 0, .int 1, .int (10 ^ Int.toNat 39), .str "", .str "a", .str "feed", .str "A", .str "a b", .str "7b", .str "a_b", .str ⟨(List.replicate 21 (Str.ofString "b").cps).foldl (fun x1 x2 => x1 ++ x2) #[]⟩, .ref t1, .ref t2, .ref t3]) t4 = some (.lst [.non, .bl true, .bl false, .int (-1), .int 0, .int 1, .int (10 ^ Int.toNat 39), .str "", .str "a", .str "feed", .str "A", .str "a b", .str "7b", .str "a_b", .str ⟨(List.replicate 21 (Str.ofString "b").cps).foldl (fun x1 x2 => x1 ++ x2) #[]⟩, .ref t1, .ref t2, .ref t3]) := upd_same
    have b4 := b3.new (o := .lst [.non, .bl true, .bl false, .int (-1), .int 0, .int 1, .int (10 ^ Int.toNat 39), .str "", .str "a", .str "feed", .str "A", .str "a b", .str "7b", .str "a_b", .str ⟨(List.replicate 21 (Str.ofString "b").cps).foldl (fun x1 x2 => x1 ++ x2) #[]⟩, .ref t1, .ref t2, .ref t3]) u4
    have n4 : t4 ≠ b := b3.ne u4
    generalize upd H3 t4 (.lst [.non, .bl true, .bl false, .int (-1), .int 0, .int 1, .int (10 ^ Int.toNat 39), .str "", .str "a", .str "feed", .str "A", .str "a b", .str "7b", .str "a_b", .str ⟨(List.replicate 21 (Str.ofString "b").cps).foldl (fun x1 x2 => x1 ++ x2) #[]⟩, .ref t1, .ref t2, .ref t3]) = H4 at m4 e4 b4 ⊢
    refine ⟨by show 1 ≤ sizeLine; decide, fun t5 u5 => ?_⟩
    have m5 := same_new (o := .tup [.str "a"]) (Same.refl H4) u5
    have e5 : upd H4 t5 (.tup [.str "a"]) t5 = some (.tup [.str "a"]) := upd_same
    have b5 := b4.new (o := .tup [.str "a"]) u5
    have n5 : t5 ≠ b := b4.ne u5
    generalize upd H4 t5 (.tup [.str "a"]) = H5 at m5 e5 b5 ⊢
    refine ⟨by show 2 ≤ sizeLine; decide, fun t6 u6 => ?_⟩
    have m6 := same_new (o := .tup [.str "a", .str "b"]) (Same.refl H5) u6
    have e6 : upd H5 t6 (.tup [.str "a", .str "b"]) t6 = some (.tup [.str "a", .str "b"]) := upd_same
    have b6 := b5.new (o := .tup [.str "a", .str "b"]) u6
    have n6 : t6 ≠ b := b5.ne u6
    generalize upd H5 t6 (.tup [.str "a", .str "b"]) = H6 at m6 e6 b6 ⊢
    refine ⟨by show 3 ≤ sizeLine; decide, fun t7 u7 => ?_⟩
    have m7 := same_new (o := .tup [.str "a", .str "b", .int 1]) (Same.refl H6) u7
    have e7 : upd H6 t7 (.tup [.str "a", .str "b", .int 1]) t7 = some (.tup [.str "a", .str "b", .int 1]) := upd_same
    have b7 := b6.new (o := .tup [.str "a", .str "b", .int 1]) u7
    have n7 : t7 ≠ b := b6.ne u7
    generalize upd H6 t7 (.tup [.str "a", .str "b", .int 1]) = H7 at m7 e7 b7 ⊢
    refine ⟨by show 1 ≤ sizeLine; decide, fun t8 u8 => ?_⟩
    have m8 := same_new (o := .lst [.int 0]) (Same.refl H7) u8
    have e8 : upd H7 t8 (.lst [.int 0]) t8 = some (.lst [.int 0]) := upd_same
    have b8 := b7.new (o := .lst [.int 0]) u8
    have n8 : t8 ≠ b := b7.ne u8
    generalize upd H7 t8 (.lst [.int 0]) = H8 at m8 e8 b8 ⊢
    refine ⟨by show 1 ≤ sizeLine; decide, fun t9 u9 => ?_⟩
    have m9 := same_new (o := .tup [.int 0]) (Same.refl H8) u9
    have e9 : upd H8 t9 (.tup [.int 0]) t9 = some (.tup [.int 0]) := upd_same
    have b9 := b8.new (o := .tup [.int 0]) u9
    have n9 : t9 ≠ b := b8.ne u9
    generalize upd H8 t9 (.tup [.int 0]) = H9 at m9 e9 b9 ⊢
    refine ⟨by show 1 ≤ sizeLine; decide, fun t10 u10 => ?_⟩
    have m10 := same_new (o := .tup [.non]) (Same.refl H9) u10
    have e10 : upd H9 t10 (.tup [.non]) t10 = some (.tup [.non]) := upd_same
    have b10 := b9.new (o := .tup [.non]) u10
    have n10 : t10 ≠ b := b9.ne u10
    generalize upd H9 t10 (.tup [.non]) = H10 at m10 e10 b10 ⊢
    refine ⟨by show 0 ≤ sizeLine; decide, fun t11 u11 => ?_⟩
    have m11 := same_new (o := .tup []) (Same.refl H10) u11
    have e11 : upd H10 t11 (.tup []) t11 = some (.tup []) := upd_same
    have b11 := b10.new (o := .tup []) u11
    have n11 : t11 ≠ b := b10.ne u11
    generalize upd H10 t11 (.tup []) = H11 at m11 e11 b11 ⊢
    refine ⟨by show 1 ≤ sizeLine; decide, fun t12 u12 => ?_⟩
    have m12 := same_new (o := .tup [.ref t11]) (Same.refl H11) u12
    have e12 : upd H11 t12 (.tup [.ref t11]) t12 = some (.tup [.ref t11]) := upd_same
    have b12 := b11.new (o := .tup [.ref t11]) u12
    have n12 : t12 ≠ b := b11.ne u12
    generalize upd H11 t12 (.tup [.ref t11]) = H12 at m12 e12 b12 ⊢
    refine ⟨by show 0 ≤ sizeLine; decide, fun t13 u13 => ?_⟩
    have m13 := same_new (o := .tup []) (Same.refl H12) u13
    have e13 : upd H12 t13 (.tup []) t13 = some (.tup []) := upd_same
    have b13 := b12.new (o := .tup []) u13
    have n13 : t13 ≠ b := b12.ne u13
    generalize upd H12 t13 (.tup []) = H13 at m13 e13 b13 ⊢
    refine ⟨by show 0 ≤ sizeLine; decide, fun t14 u14 => ?_⟩
    have m14 := same_new (o := .tup []) (Same.refl H13) u14
    have e14 : upd H13 t14 (.tup []) t14 = some (.tup []) := upd_same
    have b14 := b13.new (o := .tup []) u14
    have n14 : t14 ≠ b := b13.ne u14
    generalize upd H13 t14 (.tup []) = H14 at m14 e14 b14 ⊢
    refine ⟨by show 2 ≤ sizeLine; decide, fun t15 u15 => ?_⟩
    have m15 := same_new (o := .tup [.ref t13, .ref t14]) (Same.refl H14) u15
    have e15 : upd H14 t15 (.tup [.ref t13, .ref t14]) t15 = some (.tup [.ref t13, .ref t14]) := upd_same
    have b15 := b14.new (o := .tup [.ref t13, .ref t14]) u15
    have n15 : t15 ≠ b := b14.ne u15
    generalize upd H14 t15 (.tup [.ref t13, .ref t14]) = H15 at m15 e15 b15 ⊢
    refine fun t16 u16 => ⟨upd_same, [((Sum.inr "a" : Key), V.int 1)], rfl, by decide, ?_⟩
    rw [upd_upd, show mergeK [] [((Sum.inr "a" : Key), V.int 1)] = [((Sum.inr "a" : Key), V.int 1)] from rfl]
    have m16 := same_new (o := .dK [((Sum.inr "a" : Key), V.int 1)]) (Same.refl H15) u16
    have e16 : upd H15 t16 (.dK [((Sum.inr "a" : Key), V.int 1)]) t16 = some (.dK [((Sum.inr "a" : Key), V.int 1)]) := upd_same
    have b16 := b15.new (o := .dK [((Sum.inr "a" : Key), V.int 1)]) u16
    have n16 : t16 ≠ b := b15.ne u16
    generalize upd H15 t16 (.dK [((Sum.inr "a" : Key), V.int 1)]) = H16 at m16 e16 b16 ⊢
    refine ⟨by show 2 ≤ sizeLine; decide, fun t17 u17 => ?_⟩
    have m17 := same_new (o := .tup [.int 0, .int 1]) (Same.refl H16) u17
    have e17 : upd H16 t17 (.tup [.int 0, .int 1]) t17 = some (.tup [.int 0, .int 1]) := upd_same
    have b17 := b16.new (o := .tup [.int 0, .int 1]) u17
    have n17 : t17 ≠ b := b16.ne u17
    generalize upd H16 t17 (.tup [.int 0, .int 1]) = H17 at m17 e17 b17 ⊢
    refine ⟨by show 11 ≤ sizeLine; decide, fun t18 u18 => ?_⟩
    have m18 := same_new (o := .lst [.ref t5, .ref t6, .ref t7, .ref t8, .ref t9, .ref t10, .ref t12, .ref t15, .ref t16, .str "\n", .ref t17]) (Same.refl H17) u18
    have e18 : upd H17 t18 (.lst [.ref t5, .ref t6, .ref t7, .ref t8, .ref t9, .ref t10, .ref t12, .ref t15, .ref t16, .str "\n", .ref t17]) t18 = some (.lst [.ref t5, .ref t6, .ref t7, .ref t8, .ref t9, .ref t10, .ref t12, .ref t15, .ref t16, .str "\n", .ref t17]) := upd_same
    have b18 := b17.new (o := .lst [.ref t5, .ref t6, .ref t7, .ref t8, .ref t9, .ref t10, .ref t12, .ref t15, .ref t16, .str "\n", .ref t17]) u18
    have n18 : t18 ≠ b := b17.ne u18
    generalize upd H17 t18 (.lst [.ref t5, .ref t6, .ref t7, .ref t8, .ref t9, .ref t10, .ref t12, .ref t15, .ref t16, .str "\n", .ref t17]) = H18 at m18 e18 b18 ⊢
    refine ⟨_, rfl, _, rfl, _, rfl, t4, t18, _, _, rfl, rfl, (m5.trans (m6.trans (m7.trans (m8.trans (m9.trans (m10.trans (m11.trans (m12.trans (m13.trans (m14.trans (m15.trans (m16.trans (m17.trans (m18.trans (Same.refl H18))))))))))))))) _ _ e4, e18, by show 18 + 11 ≤ sizeLine; decide, fun q hq => ?_⟩
    have f1 := (m2.trans (m3.trans (m4.trans (m5.trans (m6.trans (m7.trans (m8.trans (m9.trans (m10.trans (m11.trans (m12.trans (m13.trans (m14.trans (m15.trans (m16.trans (m17.trans (m18.trans (Same.refl H18)))))))))))))))))) _ _ e1
    have f2 := (m3.trans (m4.trans (m5.trans (m6.trans (m7.trans (m8.trans (m9.trans (m10.trans (m11.trans (m12.trans (m13.trans (m14.trans (m15.trans (m16.trans (m17.trans (m18.trans (Same.refl H18))))))))))))))))) _ _ e2
    have f3 := (m4.trans (m5.trans (m6.trans (m7.trans (m8.trans (m9.trans (m10.trans (m11.trans (m12.trans (m13.trans (m14.trans (m15.trans (m16.trans (m17.trans (m18.trans (Same.refl H18)))))))))))))))) _ _ e3
    have f5 := (m6.trans (m7.trans (m8.trans (m9.trans (m10.trans (m11.trans (m12.trans (m13.trans (m14.trans (m15.trans (m16.trans (m17.trans (m18.trans (Same.refl H18)))))))))))))) _ _ e5
    have f6 := (m7.trans (m8.trans (m9.trans (m10.trans (m11.trans (m12.trans (m13.trans (m14.trans (m15.trans (m16.trans (m17.trans (m18.trans (Same.refl H18))))))))))))) _ _ e6
    have f7 := (m8.trans (m9.trans (m10.trans (m11.trans (m12.trans (m13.trans (m14.trans (m15.trans (m16.trans (m17.trans (m18.trans (Same.refl H18)))))))))))) _ _ e7
    have f8 := (m9.trans (m10.trans (m11.trans (m12.trans (m13.trans (m14.trans (m15.trans (m16.trans (m17.trans (m18.trans (Same.refl H18))))))))))) _ _ e8
    have f9 := (m10.trans (m11.trans (m12.trans (m13.trans (m14.trans (m15.trans (m16.trans (m17.trans (m18.trans (Same.refl H18)))))))))) _ _ e9
    have f10 := (m11.trans (m12.trans (m13.trans (m14.trans (m15.trans (m16.trans (m17.trans (m18.trans (Same.refl H18))))))))) _ _ e10
    have f11 := (m12.trans (m13.trans (m14.trans (m15.trans (m16.trans (m17.trans (m18.trans (Same.refl H18)))))))) _ _ e11
    have f12 := (m13.trans (m14.trans (m15.trans (m16.trans (m17.trans (m18.trans (Same.refl H18))))))) _ _ e12
    have f13 := (m14.trans (m15.trans (m16.trans (m17.trans (m18.trans (Same.refl H18)))))) _ _ e13
    have f14 := (m15.trans (m16.trans (m17.trans (m18.trans (Same.refl H18))))) _ _ e14
    have f15 := (m16.trans (m17.trans (m18.trans (Same.refl H18)))) _ _ e15
    have f16 := (m17.trans (m18.trans (Same.refl H18))) _ _ e16
    have f17 := (m18.trans (Same.refl H18)) _ _ e17
    have M : Same H0 H18 := (m1.trans (m2.trans (m3.trans (m4.trans (m5.trans (m6.trans (m7.trans (m8.trans (m9.trans (m10.trans (m11.trans (m12.trans (m13.trans (m14.trans (m15.trans (m16.trans (m17.trans (m18.trans (Same.refl H18)))))))))))))))))))
    have D : DatA K (wo H18 b) ([.non, .bl true, .bl false, .int (-1), .int 0, .int 1, .int (10 ^ Int.toNat 39), .str "", .str "a", .str "feed", .str "A", .str "a b", .str "7b", .str "a_b", .str ⟨(List.replicate 21 (Str.ofString "b").cps).foldl (fun x1 x2 => x1 ++ x2) #[]⟩, .ref t1, .ref t2, .ref t3] ++ [.ref t5, .ref t6, .ref t7, .ref t8, .ref t9, .ref t10, .ref t12, .ref t15, .ref t16, .str "\n", .ref t17]) oddDs := (.cons .non
      (.cons (.bl _)
      (.cons (.bl _)
      (.cons (.int _)
      (.cons (.int _)
      (.cons (.int _)
      (.cons (.int _)
      (.cons (.str _)
      (.cons (.str _)
      (.cons (.str _)
      (.cons (.str _)
      (.cons (.str _)
      (.cons (.str _)
      (.cons (.str _)
      (.cons (.str _)
      (.cons (.tup (sqt_new f1 n1) .nil)
      (.cons (.lst (sql_new f2 n2) .nil)
      (.cons (.dic (kvs := []) ((wo_ne n3).trans f3) .nil)
      (.cons (.tup (sqt_new f5 n5) (.cons (.str _) .nil))
      (.cons (.tup (sqt_new f6 n6) (.cons (.str _) (.cons (.str _) .nil)))
      (.cons (.tup (sqt_new f7 n7) (.cons (.str _) (.cons (.str _) (.cons (.int _) .nil))))
      (.cons (.lst (sql_new f8 n8) (.cons (.int _) .nil))
      (.cons (.tup (sqt_new f9 n9) (.cons (.int _) .nil))
      (.cons (.tup (sqt_new f10 n10) (.cons .non .nil))
      (.cons (.tup (sqt_new f12 n12) (.cons (.tup (sqt_new f11 n11) .nil) .nil))
      (.cons (.tup (sqt_new f15 n15) (.cons (.tup (sqt_new f13 n13) .nil) (.cons (.tup (sqt_new f14 n14) .nil) .nil)))
      (.cons (.dic (kvs := [((Sum.inr "a" : Key), V.int 1)]) ((wo_ne n16).trans f16) (.cons (.int 1) .nil))
      (.cons (.str _)
      (.cons (.tup (sqt_new f17 n17) (.cons (.int _) (.cons (.int _) .nil)))
      .nil)))))))))))))))))))))))))))))
    clear m1 e1 m2 e2 m3 e3 m4 e4 m5 e5 m6 e6 m7 e7 m8 e8 m9 e9 m10 e10 m11 e11 m12 e12 m13 e13 m14 e14 m15 e15 m16 e16 m17 e17
    refine ⟨b, q, _, rfl, b18.new hq, sql_new upd_same (b18.ne hq), (fun z => nomatch z), by show 29 ≤ 1000000; decide, fun x H' hx hB' s' => ?_⟩
    obtain ⟨d, hd, Dx⟩ := datA_mem D hx
    exact k x d H' ((Dx.more (wo_same (same_new (Same.refl _) hq))).more s'.1) (odd_bd d hd) hB' (((Sb.refl b H0).same (same_new M hq)).trans s')
end
end Y


/-! OD: whole numbers and counts among any values. -/
namespace Y
open PySem PySem.Spec PyProof.Rows L2 Ns
def isInt : PyData → Bool | .int _ => true | _ => false
def isCnt : PyData → Bool | .int i => decide (0 ≤ i) | _ => false
theorem isInt_and (d : PyData) : isInt d = (qI d && !qB d) := by cases d <;> rfl
/-- what tells something of any value -/
def spTells (K : PySem.W.Frag) (f : PyData → Bool) : Sp := fun as H Q _ => ∃ (x : V) (d : PyData), as = [x] ∧ DatV K H x d ∧ Q (.bl (f d)) H
section
variable {P : Program} {w : World} {K : PySem.W.Frag} {mg : Str → Option Value} {base : Heap}
theorem scWh : FnScope ["thing"] ["thing"] (defScope sWhole) := ⟨rfl, rfl, rfl, by decide +kernel, rfl, by decide +kernel, by decide +kernel⟩
theorem ok_whole {f : Addr} {fd : FuncData} (F : Fun K "_law_whole" "_law_whole" sWhole f fd) (T : Nat0 mg) (hB : mg "bool" = none) : FnOk P w K mg base CX0 1 f fd ["thing"] (spTells K isInt) := by
  refine F.ok scWh (fun as H Q E h => ?_) (fun cdv A outer s H as Q E hr h => ?_)
  · obtain ⟨x, d, rfl, _⟩ := h
    rfl
  · obtain ⟨x, d, rfl, D, k⟩ := h
    refine ⟨_, pss_one (ps_ret (pe_and (pe_callB (call_isD kit_I) (by rfl) T.isi (by decide +kernel) (pa_cons (pv 0) (pa_cons (pe_bltn (v := .ty "int") (by rfl) T.int (by decide +kernel) rfl) pa_nil)))
      (pe_one (pe_not (pe_callB (call_isD kit_B) (by rfl) T.isi (by decide +kernel) (pa_cons (pv 0) (pa_cons (pe_bltn (v := .ty "bool") (by rfl) hB (by decide +kernel) rfl) pa_nil))))))), ?_⟩
    rw [isInt_and] at k
    refine ⟨_, rfl, x, d, rfl, D, qI d, rfl, ?_⟩
    refine ite2 (fun h => ?_) (fun h => ?_)
    · refine ⟨_, rfl, x, d, rfl, D, qB d, rfl, ?_⟩
      rw [h] at k
      exact k
    · rw [Bool.eq_false_iff.mpr h] at k
      exact k
theorem scII : FnScope ["thing"] ["thing"] (defScope sIsInteger) := ⟨rfl, rfl, rfl, by decide +kernel, rfl, by decide +kernel, by decide +kernel⟩
theorem ok_isInteger {f : Addr} {fd : FuncData} (F : Fun K "is_integer" "is_integer" sIsInteger f fd) (T : Nat0 mg) (hB : mg "bool" = none) : FnOk P w K mg base CX0 1 f fd ["thing"] (spTells K isInt) := by
  refine F.ok scII (fun as H Q E h => ?_) (fun cdv A outer s H as Q E hr h => ?_)
  · obtain ⟨x, d, rfl, _⟩ := h
    rfl
  · obtain ⟨x, d, rfl, D, k⟩ := h
    refine ⟨_, pss_one (ps_ret (pe_and (pe_callB (call_isD kit_I) (by rfl) T.isi (by decide +kernel) (pa_cons (pv 0) (pa_cons (pe_bltn (v := .ty "int") (by rfl) T.int (by decide +kernel) rfl) pa_nil)))
      (pe_one (pe_not (pe_callB (call_isD kit_B) (by rfl) T.isi (by decide +kernel) (pa_cons (pv 0) (pa_cons (pe_bltn (v := .ty "bool") (by rfl) hB (by decide +kernel) rfl) pa_nil))))))), ?_⟩
    rw [isInt_and] at k
    refine ⟨_, rfl, x, d, rfl, D, qI d, rfl, ?_⟩
    refine ite2 (fun h => ?_) (fun h => ?_)
    · refine ⟨_, rfl, x, d, rfl, D, qB d, rfl, ?_⟩
      rw [h] at k
      exact k
    · rw [Bool.eq_false_iff.mpr h] at k
      exact k
theorem isInt_int {d : PyData} (h : isInt d = true) : ∃ i, d = .int i := by cases d <;> first | exact ⟨_, rfl⟩ | cases h
theorem dat_int {K : PySem.W.Frag} {H : Hp} {x : V} {i : Int} (D : DatV K H x (.int i)) : x = .int i := by cases D; rfl
theorem scIC : FnScope ["thing"] ["thing"] (defScope sIsCount) := ⟨rfl, rfl, rfl, by decide +kernel, rfl, by decide +kernel, by decide +kernel⟩
theorem ok_isCount {f fI : Addr} {fd dI : FuncData} (F : Fun K "is_count" "is_count" sIsCount f fd) (GI : FnOk P w K mg base CX0 1 fI dI ["thing"] (spTells K isInt)) (FI : Fun K "is_integer" "is_integer" sIsInteger fI dI) (mI : mg "is_integer" = some (.ref fI)) (bI : Binds K dI ["thing"] []) :
    FnOk P w K mg base CX0 2 f fd ["thing"] (spTells K isCnt) := by
  refine F.ok scIC (fun as H Q E h => ?_) (fun cdv A outer s H as Q E hr h => ?_)
  · obtain ⟨x, d, rfl, _⟩ := h
    rfl
  · obtain ⟨x, d, rfl, D, k⟩ := h
    refine ⟨_, pss_one (ps_ret (pe_and (pe_call GI hr rfl mI FI.kp bI .nil pass0 (pa_cons (pv 0) pa_nil)) (pe_one (pe_cmpR op_ge (pv 0) pe_int (nomark _))))), ?_⟩
    refine ⟨_, rfl, x, d, rfl, D, isInt d, rfl, ?_⟩
    refine ite2 (fun h => ?_) (fun h => ?_)
    · obtain ⟨i, rfl⟩ := isInt_int h
      cases dat_int D
      exact ⟨_, rfl, _, _, rfl, rfl, k⟩
    · have e : isCnt d = false := by cases d <;> first | rfl | exact absurd rfl h
      rw [e] at k
      exact k
end
end Y

/-! OA: for laws without yards: what the yards' texts bring elsewhere. -/
namespace Y
open PySem PySem.Spec PyProof.Rows L2 Ns
theorem sqt_more {K : PySem.W.Frag} {H H' : Hp} (m : Same H H') {a : Addr} {xs : List V} (h : SqT K H a xs) : SqT K H' a xs := h.elim (fun z => .inl (z.elim (fun z => .inl (m _ _ z)) fun ⟨o, z⟩ => .inr ⟨o, m _ _ z⟩)) .inr
theorem paired_imp {α β : Type} {R S : α → β → Prop} (k : ∀ a b, R a b → S a b) : ∀ {as : List α} {bs : List β}, Paired R as bs → Paired S as bs
  | _, _, .nil => .nil
  | _, _, .cons h t => .cons (k _ _ h) (paired_imp k t)
theorem paired_snoc {α β : Type} {R : α → β → Prop} {a : α} {b : β} (h : R a b) : ∀ {as : List α} {bs : List β}, Paired R as bs → Paired R (as ++ [a]) (bs ++ [b])
  | _, _, .nil => .cons h .nil
  | _, _, .cons g t => .cons g (paired_snoc h t)
theorem row_ne {α : Type} {l : List α} (n : l.Nodup) {i j : Nat} {x y : α} (h : l[i]? = some x) (g : l[j]? = some y) (ne : i ≠ j) : x ≠ y := by
  rintro rfl
  exact ne ((List.getElem?_inj (List.getElem?_eq_some_iff.mp h).1 n).mp (h.trans g.symm))
theorem s3u {H : Hp} {a q : Addr} {o u : HO} (hq : H q = none) (h : H a = some u) : upd H q o a = some u := by rw [upd_ne (ne_of_none h hq)]; exact h
theorem paired_len {α β : Type} {R : α → β → Prop} : ∀ {as : List α} {bs : List β}, Paired R as bs → as.length = bs.length
  | _, _, .nil => rfl
  | _, _, .cons _ t => by rw [List.length_cons, List.length_cons, paired_len t]
theorem paired_at {α β : Type} {R : α → β → Prop} : ∀ {as : List α} {bs : List β}, Paired R as bs → ∀ {i : Nat} {a : α}, as[i]? = some a → ∃ b, bs[i]? = some b ∧ R a b
  | _, _, .cons h _, 0, a, e => by
    rw [List.getElem?_cons_zero] at e
    cases e
    exact ⟨_, rfl, h⟩
  | _, _, .cons _ t, i + 1, a, e => by
    rw [List.getElem?_cons_succ] at e
    exact paired_at t e
theorem ne_at {H : Hp} {a b : Addr} {o u : HO} (h : H a = some o) (g : H b = some u) (n : o ≠ u) : a ≠ b := fun e => by
  rw [e, g] at h
  exact n (Option.some.inj h).symm
theorem fr_none {H H' : Hp} {p : Addr} (m : Same H H') (h : H' p = none) : H p = none := by
  cases e : H p with
  | none => rfl
  | some o => rw [m _ _ e] at h; cases h
end Y

/-! OE: _law_bent_word. -/
namespace Y
open PySem PySem.Spec PyProof.Rows L2 Ns
def spBW : Sp := fun as H Q _ => ∃ (b : Addr) (z : Str), as = [.ref b, .str z] ∧ Bag H b ∧ z.length ≤ 300 ∧ ∀ (y : Str) (H' : Hp), y.length ≤ 2 * z.length + 4 → Bag H' b → Sb b H H' → Q (.str y) H'
theorem strs_in {xs : List Str} {n : Nat} (h : ∀ z ∈ xs, z.length ≤ n) {x : V} (hx : x ∈ xs.map V.str) : ∃ z, x = .str z ∧ z.length ≤ n := by
  obtain ⟨z, hz, rfl⟩ := List.mem_map.mp hx
  exact ⟨z, rfl, h z hz⟩
section
variable {P : Program} {w : World} {K : PySem.W.Frag} {mg : Str → Option Value} {base : Heap}
theorem scBW : FnScope ["bag", "word", "at", "sign", "some"] ["bag", "word"] (defScope sBentWord) := ⟨rfl, rfl, rfl, by decide +kernel, rfl, by decide +kernel, by decide +kernel⟩
theorem ok_bentWord {f fT fS : Addr} {fd dT dS : FuncData} (F : Fun K "_law_bent_word" "_law_bent_word" sBentWord f fd) (T : Nat0 mg) (FT : Fun K "_law_take" "_law_take" sTake fT dT) (mT : mg "_law_take" = some (.ref fT)) (bT : Binds K dT ["bag", "many"] [])
    (FS : Fun K "_law_some" "_law_some" sSome fS dS) (mS : mg "_law_some" = some (.ref fS)) (bS : Binds K dS ["bag", "things"] []) : FnOk P w K mg base CX0 3 f fd ["bag", "word"] spBW := by
  have GT : FnOk P w K mg base CX0 1 fT dT ["bag", "many"] spTake := ok_take FT T
  have GS : FnOk P w K mg base CX0 2 fS dS ["bag", "things"] (spSome K) := ok_some FS T FT mT bT
  refine F.ok scBW (fun as H Q E h => ?_) (fun cdv A outer s H as Q E hr h => ?_)
  · obtain ⟨b, z, rfl, _⟩ := h
    rfl
  · obtain ⟨b, z, rfl, hB, hz, k⟩ := h
    have hr1 : Room 1 _ := hr.mono (by decide)
    refine ⟨_, pss_cons (ps_par (i := 2) (j := 3) rfl scBW.nd rfl rfl (by decide) rfl rfl (pa_cons (pe_call GT hr1 rfl mT FT.kp bT .nil pass0 (pa_cons (pv 0) (pa_cons (pe_op op_add (pe_callB call_len_str (by rfl) T.len PySem.boot_len (pa_cons (pv 1) pa_nil)) pe_int) pa_nil)))
        (pa_cons (pe_call GS hr rfl mS FS.kp bS .nil pass0 (pa_cons (pv 0) (pa_cons (pe_lst (pa_cons pe_str (pa_cons pe_str (pa_cons pe_str (pa_cons pe_str (pa_cons pe_str (pa_cons pe_str (pa_cons pe_str pa_nil)))))))) pa_nil))) pa_nil)) (by rfl))
      (pss_cons (ps_set (i := 4) scBW.nd rfl (.inl rfl) (pe_lst (pa_cons (pe_op op_add_str (pe_op op_add_str (pe_slice sl_str (pv 1) po_none (po_some (pv 2))) (pv 3)) (pe_slice sl_str (pv 1) (po_some (pv 2)) po_none))
        (pa_cons (pe_op op_add_str (pe_slice sl_str (pv 1) po_none (po_some (pv 2))) (pe_slice sl_str (pv 1) (po_some (pe_op op_add (pv 2) pe_int)) po_none))
        (pa_cons (pe_op op_add_str (pe_op op_add_str (pe_slice sl_str (pv 1) po_none (po_some (pv 2))) (pv 3)) (pe_slice sl_str (pv 1) (po_some (pe_op op_add (pv 2) pe_int)) po_none)) pa_nil)))))
      (pss_one (ps_ret (pe_call GS hr rfl mS FS.kp bS .nil pass0 (pa_cons (pv 0) (pa_cons (pe_op op_cat (pv 4) (pe_lst (pa_cons pe_str (pa_cons (pe_op op_add_str (pv 1) (pv 1)) pa_nil)))) pa_nil)))))), ?_⟩
    have zl : z.length ≤ sizeLine := Nat.le_of_lt (small1000 (by omega))
    refine ⟨_, rfl, _, rfl, z, rfl, zl, _, 1, rfl, rfl, b, _, rfl, hB, by omega, Nat.lt_of_le_of_lt (show ((z.length : Int) + 1).natAbs ≤ 1000 by omega) (by decide), fun v H1 v0 v1 B1 s1 => ?_⟩
    refine ⟨_, rfl, by show 7 ≤ sizeLine; decide, fun q hq => ⟨b, q, _, rfl, B1.new hq, sql_new upd_same (B1.ne hq), (fun z => nomatch z), by show 7 ≤ 1000000; decide, fun x H2 hx B2 s2 => ?_⟩⟩
    obtain ⟨g, rfl, gl⟩ := strs_in (xs := ["z", "0", "A", " ", "_", "9", "-"]) (n := 1) (by decide) hx
    have s12 : Sb b H H2 := (s1.new hq).trans s2
    clear s1 s2 hx
    refine ⟨_, _, rfl, ?_⟩
    have c1 := cutS_length z none (some v)
    have c2 := cutS_length z (some v) none
    have c3 := cutS_length z (some (v + 1)) none
    have l1 : (cutS z none (some v) ++ g).length + (cutS z (some v) none).length ≤ sizeLine := by rw [strLen_append]; exact Nat.le_of_lt (small1000 (by omega))
    have l2 : (cutS z none (some v)).length + (cutS z (some (v + 1)) none).length ≤ sizeLine := Nat.le_of_lt (small1000 (by omega))
    have l3 : (cutS z none (some v) ++ g).length + (cutS z (some (v + 1)) none).length ≤ sizeLine := by rw [strLen_append]; exact Nat.le_of_lt (small1000 (by omega))
    have l0 : (cutS z none (some v)).length + g.length ≤ sizeLine := Nat.le_of_lt (small1000 (by omega))
    refine ⟨_, rfl, _, rfl, _, rfl, _, rfl, zl, _, rfl, _, _, rfl, rfl, l0, _, rfl, _, rfl, _, rfl, _, rfl, zl, _, _, rfl, rfl, l1, ?_⟩
    refine ⟨_, rfl, _, rfl, _, rfl, _, rfl, zl, _, rfl, _, rfl, _, _, rfl, rfl, _, rfl, _, rfl, zl, _, _, rfl, rfl, l2, ?_⟩
    refine ⟨_, rfl, _, rfl, _, rfl, _, rfl, zl, _, rfl, _, _, rfl, rfl, l0, _, rfl, _, rfl, _, _, rfl, rfl, _, rfl, _, rfl, zl, _, _, rfl, rfl, l3, ?_⟩
    refine ⟨by show 3 ≤ sizeLine; decide, fun q2 hq2 => ?_⟩
    have ll : z.length + z.length ≤ sizeLine := Nat.le_of_lt (small1000 (by omega))
    refine ⟨_, rfl, _, rfl, _, rfl, _, rfl, _, _, rfl, rfl, ll, by show 2 ≤ sizeLine; decide, fun q3 hq3 => ⟨q2, q3, _, _, rfl, rfl, s3u hq3 upd_same, upd_same, by show 3 + 2 ≤ sizeLine; decide, fun q4 hq4 => ?_⟩⟩
    refine ⟨b, q4, _, rfl, ((B2.new hq2).new hq3).new hq4, sql_new upd_same (((B2.new hq2).new hq3).ne hq4), (fun z => nomatch z), by show 5 ≤ 1000000; decide, fun x H3 hx B3 s3 => ?_⟩
    obtain ⟨y, rfl, yl⟩ := strs_in (xs := [cutS z none (some v) ++ g ++ cutS z (some v) none, cutS z none (some v) ++ cutS z (some (v + 1)) none, cutS z none (some v) ++ g ++ cutS z (some (v + 1)) none, "feed", z ++ z]) (n := 2 * z.length + 4) (fun u hu => by
      simp only [List.mem_cons, List.not_mem_nil, or_false] at hu
      rcases hu with rfl | rfl | rfl | rfl | rfl
      · rw [strLen_append, strLen_append]; omega
      · rw [strLen_append]; omega
      · rw [strLen_append, strLen_append]; omega
      · show 4 ≤ _; omega
      · rw [strLen_append]; omega) hx
    exact k y H3 yl B3 ((((s12.new hq2).new hq3).new hq4).trans s3)
end
end Y

/-! OF: _law_bent, for each depth. -/
namespace Y
open PySem PySem.Spec PyProof.Rows L2 Ns
open C8 (pss_cut)
theorem datA_cut {K : PySem.W.Frag} {H : Hp} {xs : List V} {ds : List PyData} (h : DatA K H xs ds) (lo hi : Option Int) : ∃ es, DatA K H (cutV xs lo hi) es ∧ (∀ e ∈ es, e ∈ ds) ∧ es.length ≤ ds.length := by
  refine ⟨_, datA_take (datA_drop h _) _, fun e he => List.mem_of_mem_drop (List.mem_of_mem_take he), ?_⟩
  rw [List.length_take, List.length_drop]
  omega
theorem cut_one (xs : List V) : (cutV xs none (some 1)).length ≤ 1 := by
  unfold cutV
  rw [List.length_take, show HT.sIx xs.length xs.length (some 1) = min 1 xs.length from HT.sIx_nat _ _ 1]
  have := Nat.min_le_left 1 xs.length
  omega
theorem sbT {K : PySem.W.Frag} {b p : Addr} {H H' : Hp} {xs : List V} (s : Sb b H H') (B : Bag H b) (h : SqT K H p xs) : SqT K H' p xs := sqt_more (wo_sub H' b) (sqt_more s.1 (sqt_wo' h B))
theorem dat_tup {K : PySem.W.Frag} {H : Hp} {x : V} {d : PyData} (D : DatV K H x d) (h : qT d = true) : ∃ a xs ds, x = .ref a ∧ d = .tuple ds ∧ SqT K H a xs ∧ DatA K H xs ds := by
  cases D with
  | tup h1 h2 => exact ⟨_, _, _, rfl, rfl, h1, h2⟩
  | _ => cases h
theorem dat_str {K : PySem.W.Frag} {H : Hp} {x : V} {d : PyData} (D : DatV K H x d) (h : qS d = true) : ∃ z, x = .str z ∧ d = .str z := by
  cases D with
  | str z => exact ⟨z, rfl, rfl⟩
  | _ => cases h
theorem dat_whole {K : PySem.W.Frag} {H : Hp} {x : V} {d : PyData} (D : DatV K H x d) (h : qI d = true) (g : ¬ qB d = true) : ∃ i, x = .int i ∧ d = .int i := by
  cases D with
  | int i => exact ⟨i, rfl, rfl⟩
  | bl b => exact absurd rfl g
  | _ => cases h
theorem str_int {i : Int} {w : Nat} (h : i.natAbs < 10 ^ w) (hw : w ≤ 300) : (toString i : Str).length ≤ w + 2 ∧ i.natAbs.log2 < 1920 := by
  have h' : i.natAbs < 10 ^ (w + 1) := pow_up h (Nat.le_succ w)
  have f := fit_int (i := i) (n := w + 1) (by omega) h' (by omega)
  refine ⟨?_, ?_⟩
  · have := f.2.1
    exact this
  · refine log2_small (Nat.lt_trans h' (Nat.lt_of_le_of_lt (Nat.pow_le_pow_right (by decide) (show w + 1 ≤ 301 by omega)) (by decide +kernel)))
/-- a value with one part otherwise, at most n deep -/
def spBent (K : PySem.W.Frag) (n : Nat) : Sp := fun as H Q _ => ∃ (b : Addr) (x : V) (d : PyData) (w : Nat), as = [.ref b, x, .int (n : Int)] ∧ Bag H b ∧ DatV K (wo H b) x d ∧ Bd w d ∧ w ≤ 300 ∧
  ∀ (x' : V) (d' : PyData) (H' : Hp), DatV K (wo H' b) x' d' → Bd (3 * w + 40) d' → Bag H' b → Sb b H H' → Q x' H'
def spLess (K : PySem.W.Frag) : Nat → Sp
  | 0 => fun _ _ _ _ => False
  | n + 1 => spBent K n
section
variable {P : Program} {w : World} {K : PySem.W.Frag} {mg : Str → Option Value} {base : Heap}
theorem scBe : FnScope ["bag", "thing", "deep", "way", "at", "some"] ["bag", "thing", "deep"] (defScope sBent) := ⟨rfl, rfl, rfl, by decide +kernel, rfl, by decide +kernel, by decide +kernel⟩
theorem ok_never {f : Addr} {fd : FuncData} (F : Fun K "_law_bent" "_law_bent" sBent f fd) : FnOk P w K mg base CX0 1 f fd ["bag", "thing", "deep"] (spLess K 0) := by
  refine F.ok scBe (fun as H Q E h => False.elim h) (fun cdv A outer s H as Q E hr h => False.elim h)
theorem bent_step {n k : Nat} {f fT fS fO fW : Addr} {fd dT dS dO dW : FuncData} (F : Fun K "_law_bent" "_law_bent" sBent f fd) (T : Nat0 mg) (hBo : mg "bool" = none) (mF : mg "_law_bent" = some (.ref f)) (bF : Binds K fd ["bag", "thing", "deep"] [])
    (GR : FnOk P w K mg base CX0 k f fd ["bag", "thing", "deep"] (spLess K n)) (hk : 3 ≤ k)
    (FT : Fun K "_law_take" "_law_take" sTake fT dT) (mT : mg "_law_take" = some (.ref fT)) (bT : Binds K dT ["bag", "many"] [])
    (FS : Fun K "_law_some" "_law_some" sSome fS dS) (mS : mg "_law_some" = some (.ref fS)) (bS : Binds K dS ["bag", "things"] [])
    (FO : Fun K "_law_odd" "_law_odd" sOdd fO dO) (mO : mg "_law_odd" = some (.ref fO)) (bO : Binds K dO ["bag"] [])
    (FW : Fun K "_law_bent_word" "_law_bent_word" sBentWord fW dW) (mW : mg "_law_bent_word" = some (.ref fW)) (bW : Binds K dW ["bag", "word"] []) : FnOk P w K mg base CX0 (k + 1) f fd ["bag", "thing", "deep"] (spBent K n) := by
  have GT : FnOk P w K mg base CX0 1 fT dT ["bag", "many"] spTake := ok_take FT T
  have GS : FnOk P w K mg base CX0 2 fS dS ["bag", "things"] (spSome K) := ok_some FS T FT mT bT
  have GO : FnOk P w K mg base CX0 3 fO dO ["bag"] (spOdd K) := ok_odd FO FS mS bS GS
  have GW : FnOk P w K mg base CX0 3 fW dW ["bag", "word"] spBW := ok_bentWord FW T FT mT bT FS mS bS
  refine F.ok scBe (fun as H Q E h => ?_) (fun cdv A outer s H as Q E hr h => ?_)
  · obtain ⟨b, x, d, w', rfl, _⟩ := h
    rfl
  · obtain ⟨b, x, d, w', rfl, hB, D, hD, hw, kk⟩ := h
    have hr1 : Room 1 _ := hr.mono (show 1 ≤ k by omega)
    have hr2 : Room 2 _ := hr.mono (show 2 ≤ k by omega)
    have hr3 : Room 3 _ := hr.mono hk
    have hu := hu_of hr
    refine ⟨_, pss_cons (ps_set (i := 3) scBe.nd rfl (.inl rfl) (pe_call GT hr1 rfl mT FT.kp bT .nil pass0 (pa_cons (pv 0) (pa_cons pe_int pa_nil))))
      (pss_cut (ps_if (PW.pt (pw_and (pt_val (pe_callB (call_isD kit_T) (by rfl) T.isi (by decide +kernel) (pa_cons (pv 1) (pa_cons (pe_bltn (v := .ty "tuple") (by rfl) T.tuple (by decide +kernel) rfl) pa_nil))))
          (pw_and (pt_cmpR (op_neE hr.units) (pv 1) (pe_tup pa_nil) (nomark _)) (pw_and (pt_cmpR op_gt (pv 2) pe_int (nomark _)) (pw_and1 (pt_cmpR op_lt (pv 3) pe_int (nomark _)))))))
        (pss_cons (ps_set (i := 4) scBe.nd rfl (.inl rfl) (pe_call GT hr1 rfl mT FT.kp bT .nil pass0 (pa_cons (pv 0) (pa_cons (pe_callB call_len_seq (by rfl) T.len PySem.boot_len (pa_cons (pv 1) pa_nil)) pa_nil))))
        (pss_one (ps_ret (pe_op op_catP (pe_op op_catP (pe_slice sl_tupP (pv 1) po_none (po_some (pv 4))) (pe_tup (pa_cons (pe_call GR hr rfl mF F.kp bF .nil pass0 (pa_cons (pv 0) (pa_cons (pe_ix ix_tup (pv 1) (pv 4) (fun _ _ => rfl)) (pa_cons (pe_op op_sub (pv 2) pe_int) pa_nil)))) pa_nil)))
          (pe_slice sl_tupP (pv 1) (po_some (pe_op op_add (pv 4) pe_int)) po_none))))) pss_nil)
      (pss_cut (ps_if (PW.pt (pw_and (pt_val (pe_callB (call_isD kit_T) (by rfl) T.isi (by decide +kernel) (pa_cons (pv 1) (pa_cons (pe_bltn (v := .ty "tuple") (by rfl) T.tuple (by decide +kernel) rfl) pa_nil)))) (pw_and1 (pt_cmpR op_lt (pv 3) pe_int (nomark _)))))
        (pss_cons (ps_set (i := 4) scBe.nd rfl (.inl rfl) (pe_call GT hr1 rfl mT FT.kp bT .nil pass0 (pa_cons (pv 0) (pa_cons (pe_op op_add (pe_callB call_len_seq (by rfl) T.len PySem.boot_len (pa_cons (pv 1) pa_nil)) pe_int) pa_nil))))
        (pss_cons (ps_set (i := 5) scBe.nd rfl (.inl rfl) (pe_lst (pa_cons (pe_callTy call_list_of (by rfl) T.list_ (by decide +kernel) (pa_cons (pv 1) pa_nil)) (pa_cons (pe_revT (pv 1)) (pa_cons (pe_op op_catP (pe_slice sl_tupP (pv 1) po_none (po_some (pv 4))) (pe_slice sl_tupP (pv 1) (po_some (pe_op op_add (pv 4) pe_int)) po_none))
            (pa_cons (pe_op op_catP (pe_op op_catP (pe_slice sl_tupP (pv 1) po_none (po_some (pv 4))) (pe_slice sl_tupP (pv 1) po_none (po_some pe_int))) (pe_slice sl_tupP (pv 1) (po_some (pv 4)) po_none)) pa_nil))))))
        (pss_one (ps_ret (pe_call GS hr2 rfl mS FS.kp bS .nil pass0 (pa_cons (pv 0) (pa_cons (pe_op op_cat (pv 5) (pe_lst (pa_cons (pe_op op_catP (pe_slice sl_tupP (pv 1) (po_some (pv 4)) po_none) (pe_slice sl_tupP (pv 1) po_none (po_some (pv 4))))
            (pa_cons (pe_op op_catP (pe_op op_catP (pe_slice sl_tupP (pv 1) po_none (po_some (pv 4))) (pe_tup (pa_cons (pe_call GO hr3 rfl mO FO.kp bO .nil pass0 (pa_cons (pv 0) pa_nil)) pa_nil))) (pe_slice sl_tupP (pv 1) (po_some (pv 4)) po_none)) pa_nil)))) pa_nil))))))) pss_nil)
      (pss_cut (ps_if (PW.pt (pw_and (pt_val (pe_callB (call_isD kit_S) (by rfl) T.isi (by decide +kernel) (pa_cons (pv 1) (pa_cons (pe_bltn (v := .ty "str") (by rfl) T.str (by decide +kernel) rfl) pa_nil)))) (pw_and1 (pt_cmpR op_lt (pv 3) pe_int (nomark _)))))
        (pss_one (ps_ret (pe_call GW hr3 rfl mW FW.kp bW .nil pass0 (pa_cons (pv 0) (pa_cons (pv 1) pa_nil))))) pss_nil)
      (pss_cut (ps_if (PW.pt (pw_and (pt_val (pe_callB (call_isD kit_I) (by rfl) T.isi (by decide +kernel) (pa_cons (pv 1) (pa_cons (pe_bltn (v := .ty "int") (by rfl) T.int (by decide +kernel) rfl) pa_nil))))
          (pw_and (pt_not (pt_val (pe_callB (call_isD kit_B) (by rfl) T.isi (by decide +kernel) (pa_cons (pv 1) (pa_cons (pe_bltn (v := .ty "bool") (by rfl) hBo (by decide +kernel) rfl) pa_nil))))) (pw_and1 (pt_cmpR op_lt (pv 3) pe_int (nomark _))))))
        (pss_one (ps_ret (pe_call GS hr2 rfl mS FS.kp bS .nil pass0 (pa_cons (pv 0) (pa_cons (pe_lst (pa_cons (pe_op op_add (pv 1) pe_int) (pa_cons (pe_op op_sub (pv 1) pe_int) (pa_cons (pe_op op_sub pe_int (pv 1)) (pa_cons (pe_cmpR op_eq (pv 1) pe_int (nomark _))
            (pa_cons (pe_callTy call_str_int (by rfl) T.str (by decide +kernel) (pa_cons (pv 1) pa_nil)) (pa_cons pe_non (pa_cons pe_int (pa_cons (pe_op op_pow pe_int pe_int) pa_nil))))))))) pa_nil))))) pss_nil)
      (pss_one (ps_ret (pe_call GO hr3 rfl mO FO.kp bO .nil pass0 (pa_cons (pv 0) pa_nil)))))))), ?_⟩
    refine ⟨_, rfl, b, 10, rfl, hB, by decide, by decide, fun way H1 w0 w1 B1 s1 => ?_⟩
    have fin : ∀ (x' : V) (d' : PyData) (H' : Hp), DatV K (wo H' b) x' d' → Bd (3 * w' + 40) d' → Bag H' b → Sb b H H' → Q x' H' := kk
    clear kk
    -- the first one
    refine ⟨fun σ' H' => σ' = [some (.ref b), some x, some (.int n), some (.int way), none, none] ∧ Bag H' b ∧ Sb b H H', ?_, ?_⟩
    · refine ⟨_, rfl, x, d, rfl, (D.more s1.1).more (wo_sub H1 b), qT d, rfl, ?_⟩
      refine ite2 (fun h => ?_) (fun _ => ⟨rfl, B1, s1⟩)
      obtain ⟨a, xs, ds, rfl, rfl, hT, hA⟩ := dat_tup D h
      simp only [Bd] at hD
      have vT : ∀ {G : Hp}, Sb b H G → SqT K G a xs := fun {G} s => sqt_more (wo_sub G b) (sqt_more s.1 hT)
      have lx := hA.len
      refine ⟨_, rfl, by show 0 ≤ sizeLine; decide, fun e he => ⟨a, e, xs, rfl, rfl, vT (s1.new he), SqT.of upd_same, _, rfl, ?_⟩⟩
      have B2 := B1.new (o := .tup []) he
      have s2 := s1.new (o := .tup []) he
      generalize upd H1 e (.tup []) = H2 at B2 s2 ⊢
      refine ite2 (fun hne => ?_) (fun _ => ⟨rfl, B2, s2⟩)
      have ne : xs ≠ [] := by simpa using hne
      refine ⟨_, rfl, _, _, rfl, rfl, _, rfl, ?_⟩
      refine ite2 (fun hn => ?_) (fun _ => ⟨rfl, B2, s2⟩)
      have hn' : (0 : Int) < n := of_decide_eq_true hn
      refine ⟨_, rfl, _, _, rfl, rfl, _, rfl, ?_⟩
      refine ite2 (fun _ => ?_) (fun _ => ⟨rfl, B2, s2⟩)
      have pos : 0 < xs.length := List.length_pos_iff.mpr ne
      refine ⟨_, rfl, _, rfl, a, xs, rfl, .inr (vT s2), b, _, rfl, B2, by omega, Nat.lt_of_le_of_lt (show ((xs.length : Int)).natAbs ≤ 1000 by omega) (by decide), fun v H3 v0 v1 B3 s3' => ?_⟩
      have s3 := s2.trans s3'
      obtain ⟨y, hy⟩ : ∃ y, xs[v.toNat]? = some y := ⟨_, List.getElem?_eq_getElem (by omega)⟩
      obtain ⟨dy, hdy, Dy⟩ := datA_at hA hy
      obtain ⟨m, rfl⟩ : ∃ m, n = m + 1 := ⟨n - 1, by omega⟩
      refine ⟨_, rfl, _, rfl, v, rfl, a, xs, rfl, vT s3, fun p1 H4 m4 q1 => ?_⟩
      have B4 := B3.keep m4
      have s4 := s3.same m4
      refine ⟨_, rfl, _, rfl, _, rfl, a, xs, v, y, rfl, rfl, vT s4, by rw [show v = ((v.toNat : Nat) : Int) by omega]; exact atI_nat hy, _, rfl, _, _, rfl, rfl, ?_⟩
      refine ⟨b, y, dy, w', by show [V.ref b, y, V.int (((m + 1 : Nat) : Int) - 1)] = _; rw [show (((m + 1 : Nat) : Int) - 1) = (m : Int) by omega], B4, Dy.more s4.1, bdA_iff.mp hD.2 _ (List.mem_of_getElem? hdy), hw, fun x5 d5 H5 D5 b5 B5 s5' => ?_⟩
      have s5 := s4.trans s5'
      refine ⟨by show 1 ≤ sizeLine; decide, fun t ht => ?_⟩
      have q1' := sbT s5' B4 q1
      have D5' := D5.more (wo_same (same_new (o := .tup [x5]) (Same.refl H5) ht))
      have q1'' := sqt_more (same_new (o := .tup [x5]) (Same.refl H5) ht) q1'
      have et : SqT K (upd H5 t (.tup [x5])) t [x5] := SqT.of upd_same
      have B6 := B5.new (o := .tup [x5]) ht
      have s6 := s5.new (o := .tup [x5]) ht
      generalize upd H5 t (.tup [x5]) = H6 at D5' q1'' et B6 s6 ⊢
      have cl1 := cutV_length xs none (some v)
      have cl2 := cutV_length xs (some (v + 1)) none
      refine ⟨p1, t, _, _, rfl, rfl, q1'', et, Nat.le_of_lt (small1000 (show (cutV xs none (some v)).length + 1 ≤ 1000 by omega)), fun p2 H7 m7 q2 => ?_⟩
      have s7 := s6.same m7
      refine ⟨_, rfl, _, rfl, _, _, rfl, rfl, _, rfl, a, xs, rfl, vT s7, fun p3 H8 m8 q3 => ?_⟩
      have s8 := s7.same m8
      refine ⟨p2, p3, _, _, rfl, rfl, sqt_more m8 q2, q3, Nat.le_of_lt (small1000 (show (cutV xs none (some v) ++ [x5]).length + (cutV xs (some (v + 1)) none).length ≤ 1000 by rw [List.length_append]; show _ + 1 + _ ≤ 1000; omega)), fun p4 H9 m9 q4 => ?_⟩
      have s9 := s8.same m9
      have B9 := ((B6.keep m7).keep m8).keep m9
      obtain ⟨e1, A1, sub1, le1⟩ := datA_cut (hA.more s9.1) none (some v)
      obtain ⟨e2, A2, sub2, le2⟩ := datA_cut (hA.more s9.1) (some (v + 1)) none
      have D9 := ((D5'.more (wo_same m7)).more (wo_same m8)).more (wo_same m9)
      refine fin (.ref p4) (.tuple (e1 ++ [d5] ++ e2)) H9 (.tup (sqt_wo' q4 B9) (datA_app (datA_app A1 (.cons D9 .nil)) A2)) ?_ B9 s9
      simp only [Bd]
      refine ⟨by rw [List.length_append, List.length_append]; show _ + 1 + _ ≤ _; omega, bdA_iff.mpr fun u hu => ?_⟩
      have old : ∀ u ∈ ds, Bd (3 * w' + 40) u := fun u hu => Bd.up (by omega) (bdA_iff.mp hD.2 u hu)
      rcases List.mem_append.mp hu with hu | hu
      · rcases List.mem_append.mp hu with hu | hu
        · exact old u (sub1 u hu)
        · rw [List.mem_singleton.mp hu]; exact b5
      · exact old u (sub2 u hu)
    clear B1 s1
    rintro σ1 H1 ⟨rfl, B1, s1⟩
    -- the second one
    refine ⟨fun σ' H' => σ' = [some (.ref b), some x, some (.int n), some (.int way), none, none] ∧ Bag H' b ∧ Sb b H H', ?_, ?_⟩
    · refine ⟨_, rfl, x, d, rfl, (D.more s1.1).more (wo_sub H1 b), qT d, rfl, ?_⟩
      refine ite2 (fun h => ?_) (fun _ => ⟨rfl, B1, s1⟩)
      obtain ⟨a, xs, ds, rfl, rfl, hT, hA⟩ := dat_tup D h
      simp only [Bd] at hD
      have vT : ∀ {G : Hp}, Sb b H G → SqT K G a xs := fun {G} s => sqt_more (wo_sub G b) (sqt_more s.1 hT)
      have lx := hA.len
      refine ⟨_, rfl, _, _, rfl, rfl, _, rfl, ?_⟩
      refine ite2 (fun _ => ?_) (fun _ => ⟨rfl, B1, s1⟩)
      refine ⟨_, rfl, _, rfl, a, xs, rfl, .inr (vT s1), _, _, rfl, rfl, b, _, rfl, B1, by omega, Nat.lt_of_le_of_lt (show ((xs.length : Int) + 1).natAbs ≤ 1000 by omega) (by decide), fun v H2 v0 v1 B2 s2' => ?_⟩
      have s2 := s1.trans s2'
      have cl1 := cutV_length xs none (some v)
      have cl2 := cutV_length xs (some (v + 1)) none
      have cl3 := cutV_length xs (some v) none
      have cl4 := cut_one xs
      refine ⟨_, rfl, a, xs, rfl, .inr (vT s2), fun l1 u1 => ?_⟩
      have M1 := same_new (o := .lst xs) (Same.refl H2) u1
      have f1 : SqL K (upd H2 l1 (.lst xs)) l1 xs := SqL.of upd_same
      have g1 : SqL K (wo (upd H2 l1 (.lst xs)) b) l1 xs := sql_new upd_same (B2.ne u1)
      generalize upd H2 l1 (.lst xs) = H3 at M1 f1 g1 ⊢
      have B3 := B2.keep M1
      have s3 := s2.same M1
      refine ⟨_, rfl, a, xs, rfl, vT s3, fun l2 u2 => ?_⟩
      have M2 := same_new (o := .tup xs.reverse) (Same.refl H3) u2
      have f2 : SqT K (upd H3 l2 (.tup xs.reverse)) l2 xs.reverse := SqT.of upd_same
      generalize upd H3 l2 (.tup xs.reverse) = H4 at M2 f2 ⊢
      have s4 := s3.same M2
      refine ⟨_, rfl, _, rfl, v, rfl, a, xs, rfl, vT s4, fun p1 H5 M3 q1 => ?_⟩
      have s5 := s4.same M3
      refine ⟨_, rfl, _, rfl, _, _, rfl, rfl, _, rfl, a, xs, rfl, vT s5, fun p2 H6 M4 q2 => ?_⟩
      have s6 := s5.same M4
      refine ⟨p1, p2, _, _, rfl, rfl, sqt_more M4 q1, q2, Nat.le_of_lt (small1000 (by omega)), fun l3 H7 M5 f3 => ?_⟩
      have s7 := s6.same M5
      refine ⟨_, rfl, _, rfl, v, rfl, a, xs, rfl, vT s7, fun p3 H8 M6 q3 => ?_⟩
      have s8 := s7.same M6
      refine ⟨_, rfl, _, rfl, a, xs, rfl, vT s8, fun p4 H9 M7 q4 => ?_⟩
      have s9 := s8.same M7
      refine ⟨p3, p4, _, _, rfl, rfl, sqt_more M7 q3, q4, Nat.le_of_lt (small1000 (by omega)), fun p5 HA M8 q5 => ?_⟩
      have sA := s9.same M8
      refine ⟨_, rfl, _, rfl, v, rfl, a, xs, rfl, vT sA, fun p6 HB M9 q6 => ?_⟩
      have sB := sA.same M9
      have l5 : (cutV xs none (some v) ++ cutV xs none (some 1)).length ≤ xs.length + 1 := by rw [List.length_append]; omega
      refine ⟨p5, p6, _, _, rfl, rfl, sqt_more M9 q5, q6, Nat.le_of_lt (small1000 (by omega)), fun l4 HC MA f4 => ?_⟩
      have sC := sB.same MA
      have BC := ((((((((B3.keep M2).keep M3).keep M4).keep M5).keep M6).keep M7).keep M8).keep M9).keep MA
      have MM : Same H4 HC := ((((((M3.trans M4).trans M5).trans M6).trans M7).trans M8).trans M9).trans MA
      have MN : Same H7 HC := (((M6.trans M7).trans M8).trans M9).trans MA
      have g1' := Same.seq (wo_same (M2.trans MM)) g1
      have f2' := sqt_more MM f2
      have f3' := sqt_more MN f3
      refine ⟨by show 4 ≤ sizeLine; decide, fun t ht => ?_⟩
      have MB := same_new (o := .lst [.ref l1, .ref l2, .ref l3, .ref l4]) (Same.refl HC) ht
      have et : upd HC t (.lst [.ref l1, .ref l2, .ref l3, .ref l4]) t = some (.lst [.ref l1, .ref l2, .ref l3, .ref l4]) := upd_same
      have ntb := BC.ne ht
      generalize upd HC t (.lst [.ref l1, .ref l2, .ref l3, .ref l4]) = HD at MB et ⊢
      have BD := BC.keep MB
      have sD := sC.same MB
      have g1D := Same.seq (wo_same MB) g1'
      have f2D := sqt_wo' (sqt_more MB f2') BD
      have f3D := sqt_wo' (sqt_more MB f3') BD
      have f4D := sqt_wo' (sqt_more MB f4) BD
      clear M1 M2 M3 M4 M5 M6 M7 M8 M9 MA MB MM MN f1 g1 f2 f3 f4 g1' f2' f3' q1 q2 q3 q4 q5 q6 s2' s3 s4 s5 s6 s7 s8 s9 sA sB sC B3 BC ht
      -- some + [..]
      refine ⟨_, rfl, _, rfl, _, rfl, _, rfl, v, rfl, a, xs, rfl, vT sD, fun p1 H5 M3 q1 => ?_⟩
      have s5 := sD.same M3
      refine ⟨_, rfl, _, rfl, v, rfl, a, xs, rfl, vT s5, fun p2 H6 M4 q2 => ?_⟩
      have s6 := s5.same M4
      refine ⟨p1, p2, _, _, rfl, rfl, sqt_more M4 q1, q2, Nat.le_of_lt (small1000 (by omega)), fun l5 H7 M5 f5 => ?_⟩
      have s7 := s6.same M5
      refine ⟨_, rfl, _, rfl, v, rfl, a, xs, rfl, vT s7, fun p3 H8 M6 q3 => ?_⟩
      have s8 := s7.same M6
      have M8 : Same HD H8 := ((M3.trans M4).trans M5).trans M6
      have B8 := BD.keep M8
      refine ⟨_, rfl, b, rfl, B8, fun xo dO H9 DO bO B9 s9' => ?_⟩
      have s9 := s8.trans s9'
      refine ⟨by show 1 ≤ sizeLine; decide, fun t1 ht1 => ?_⟩
      have m9 := same_new (o := .tup [xo]) (Same.refl H9) ht1
      have q3' := sqt_more m9 (sbT s9' B8 q3)
      have e1 : SqT K (upd H9 t1 (.tup [xo])) t1 [xo] := SqT.of upd_same
      have f5' := sqt_more m9 (sbT s9' B8 (sqt_more M6 f5))
      have et' := (s9'.get (M8 _ _ et) ntb)
      have et2 := m9 _ _ et'
      have k1 := Same.seq (wo_same m9) (Same.seq s9'.1 (Same.seq (wo_same M8) g1D))
      have k2 := sqt_more (wo_same m9) (sqt_more s9'.1 (sqt_more (wo_same M8) f2D))
      have k3 := sqt_more (wo_same m9) (sqt_more s9'.1 (sqt_more (wo_same M8) f3D))
      have k4 := sqt_more (wo_same m9) (sqt_more s9'.1 (sqt_more (wo_same M8) f4D))
      have DO' := DO.more (wo_same m9)
      have sE := s9.same m9
      have BE := B9.keep m9
      generalize upd H9 t1 (.tup [xo]) = HE at m9 q3' e1 f5' et2 k1 k2 k3 k4 DO' sE BE ⊢
      have l6 : (cutV xs none (some v) ++ [xo]).length ≤ xs.length + 1 := by rw [List.length_append]; show _ + 1 ≤ _; omega
      refine ⟨p3, t1, _, _, rfl, rfl, q3', e1, Nat.le_of_lt (small1000 (show (cutV xs none (some v)).length + 1 ≤ 1000 by omega)), fun p4 HF MF q4 => ?_⟩
      have sF := sE.same MF
      refine ⟨_, rfl, _, rfl, v, rfl, a, xs, rfl, vT sF, fun p5 HG MG q5 => ?_⟩
      have sG := sF.same MG
      refine ⟨p4, p5, _, _, rfl, rfl, sqt_more MG q4, q5, Nat.le_of_lt (small1000 (by omega)), fun l6' HI MI f6 => ?_⟩
      have MJ : Same HE HI := (MF.trans MG).trans MI
      have sI := sG.same MI
      have BI := BE.keep MJ
      have f5I := sqt_more MJ f5'
      refine ⟨by show 2 ≤ sizeLine; decide, fun t2 ht2 => ⟨t, t2, _, _, rfl, rfl, s3u ht2 (MJ _ _ et2), upd_same, by show 4 + 2 ≤ sizeLine; decide, fun t3 ht3 => ?_⟩⟩
      have MK : Same HI (upd HI t2 (.lst [.ref l5, .ref l6'])) := same_new (Same.refl HI) ht2
      have BK := BI.keep MK
      have sK := sI.same MK
      have ML := (MJ.trans MK)
      have f5K := sqt_wo' (sqt_more MK f5I) BK
      have f6K := sqt_wo' (sqt_more MK f6) BK
      have k1K := Same.seq (wo_same ML) k1
      have k2K := sqt_more (wo_same ML) k2
      have k3K := sqt_more (wo_same ML) k3
      have k4K := sqt_more (wo_same ML) k4
      have DK := DO'.more (wo_same ML)
      generalize upd HI t2 (.lst [.ref l5, .ref l6']) = HK at MK BK sK ML f5K f6K k1K k2K k3K k4K DK ht3 ⊢
      obtain ⟨c1, A1, sb1, le1⟩ := datA_cut (hA.more sK.1) none (some v)
      obtain ⟨c2, A2, sb2, le2⟩ := datA_cut (hA.more sK.1) (some (v + 1)) none
      obtain ⟨c3, A3, sb3, le3⟩ := datA_cut (hA.more sK.1) (some v) none
      obtain ⟨c4, A4, sb4, le4⟩ := datA_cut (hA.more sK.1) none (some 1)
      have a1 := A1.len
      have a2 := A2.len
      have a3 := A3.len
      have a4 := A4.len
      have old : ∀ u ∈ ds, Bd (3 * w' + 40) u := fun u hu => Bd.up (by omega) (bdA_iff.mp hD.2 u hu)
      have row : DatA K (wo HK b) [.ref l1, .ref l2, .ref l3, .ref l4, .ref l5, .ref l6'] [.list ds, .tuple ds.reverse, .tuple (c1 ++ c2), .tuple (c1 ++ c4 ++ c3), .tuple (c3 ++ c1), .tuple (c1 ++ [dO] ++ c3)] :=
        .cons (.lst k1K (hA.more sK.1)) (.cons (.tup k2K (datA_rev (hA.more sK.1))) (.cons (.tup k3K (datA_app A1 A2)) (.cons (.tup k4K (datA_app (datA_app A1 A4) A3)) (.cons (.tup f5K (datA_app A3 A1)) (.cons (.tup f6K (datA_app (datA_app A1 (.cons DK .nil)) A3)) .nil)))))
      have rowB : ∀ u ∈ [PyData.list ds, .tuple ds.reverse, .tuple (c1 ++ c2), .tuple (c1 ++ c4 ++ c3), .tuple (c3 ++ c1), .tuple (c1 ++ [dO] ++ c3)], Bd (3 * w' + 40) u := by
        have ap : ∀ {l r : List PyData}, (∀ u ∈ l, Bd (3 * w' + 40) u) → (∀ u ∈ r, Bd (3 * w' + 40) u) → ∀ u ∈ l ++ r, Bd (3 * w' + 40) u := fun h g u hu => (List.mem_append.mp hu).elim (h u) (g u)
        have o1 := fun u hu => old u (sb1 u hu)
        have o2 := fun u hu => old u (sb2 u hu)
        have o3 := fun u hu => old u (sb3 u hu)
        have o4 := fun u hu => old u (sb4 u hu)
        intro u hu
        simp only [List.mem_cons, List.not_mem_nil, or_false] at hu
        rcases hu with rfl | rfl | rfl | rfl | rfl | rfl <;> simp only [Bd]
        · exact ⟨by omega, bdA_iff.mpr old⟩
        · exact ⟨by rw [List.length_reverse]; omega, bdA_iff.mpr fun u hu => old u (List.mem_reverse.mp hu)⟩
        · exact ⟨by rw [List.length_append]; omega, bdA_iff.mpr (ap o1 o2)⟩
        · exact ⟨by rw [List.length_append, List.length_append]; omega, bdA_iff.mpr (ap (ap o1 o4) o3)⟩
        · exact ⟨by rw [List.length_append]; omega, bdA_iff.mpr (ap o3 o1)⟩
        · exact ⟨by rw [List.length_append, List.length_append]; show _ + 1 + _ ≤ _; omega, bdA_iff.mpr (ap (ap o1 fun u hu => by rw [List.mem_singleton.mp hu]; exact Bd.up (by omega) bO) o3)⟩
      refine ⟨b, t3, _, rfl, BK.new ht3, sql_new upd_same (BK.ne ht3), (fun z => nomatch z), by show 6 ≤ 1000000; decide, fun x' H' hx B' s' => ?_⟩
      obtain ⟨d', hd', D'⟩ := datA_mem row hx
      exact fin x' d' H' ((D'.more (wo_same (same_new (Same.refl HK) ht3))).more s'.1) (rowB d' hd') B' ((sK.new ht3).trans s')
    clear B1 s1
    rintro σ1 H1 ⟨rfl, B1, s1⟩
    -- texts
    refine ⟨fun σ' H' => σ' = [some (.ref b), some x, some (.int n), some (.int way), none, none] ∧ Bag H' b ∧ Sb b H H', ?_, ?_⟩
    · refine ⟨_, rfl, x, d, rfl, (D.more s1.1).more (wo_sub H1 b), qS d, rfl, ?_⟩
      refine ite2 (fun h => ?_) (fun _ => ⟨rfl, B1, s1⟩)
      obtain ⟨z, rfl, rfl⟩ := dat_str D h
      simp only [Bd] at hD
      refine ⟨_, rfl, _, _, rfl, rfl, _, rfl, ?_⟩
      refine ite2 (fun _ => ?_) (fun _ => ⟨rfl, B1, s1⟩)
      refine ⟨_, rfl, _, rfl, b, z, rfl, B1, by omega, fun y H' yl B' s' => ?_⟩
      exact fin (.str y) (.str y) H' (.str y) (by simp only [Bd]; omega) B' (s1.trans s')
    clear B1 s1
    rintro σ1 H1 ⟨rfl, B1, s1⟩
    -- whole numbers
    refine ⟨fun σ' H' => σ' = [some (.ref b), some x, some (.int n), some (.int way), none, none] ∧ Bag H' b ∧ Sb b H H', ?_, ?_⟩
    · refine ⟨_, rfl, x, d, rfl, (D.more s1.1).more (wo_sub H1 b), qI d, rfl, ?_⟩
      refine ite2 (fun h => ?_) (fun _ => ⟨rfl, B1, s1⟩)
      refine ⟨_, rfl, x, d, rfl, (D.more s1.1).more (wo_sub H1 b), qB d, rfl, ?_⟩
      refine ite2 (fun g => ?_) (fun _ => ⟨rfl, B1, s1⟩)
      obtain ⟨i, rfl, rfl⟩ := dat_whole D h (by simpa using g)
      simp only [Bd] at hD
      refine ⟨_, rfl, _, _, rfl, rfl, _, rfl, ?_⟩
      refine ite2 (fun _ => ?_) (fun _ => ⟨rfl, B1, s1⟩)
      obtain ⟨sl, lg⟩ := str_int hD hw
      have up1 : i.natAbs + 1 < 10 ^ (w' + 1) := by
        rw [Nat.pow_succ]
        omega
      have bi : ∀ j : Int, j.natAbs ≤ i.natAbs + 1 → Bd (3 * w' + 40) (.int j) := fun j hj => by
        simp only [Bd]
        exact Nat.lt_of_le_of_lt hj (pow_up up1 (by omega))
      refine ⟨_, rfl, _, rfl, _, _, rfl, rfl, _, rfl, _, _, rfl, rfl, _, rfl, _, _, rfl, rfl, _, rfl, rfl, _, rfl, i, rfl, lg, 10, 30, rfl, rfl, ⟨by decide, by decide, by decide⟩, by show 8 ≤ sizeLine; decide, fun t ht => ?_⟩
      refine ⟨b, t, _, rfl, B1.new ht, sql_new upd_same (B1.ne ht), (fun z => nomatch z), by show 8 ≤ 1000000; decide, fun x' H' hx B' s' => ?_⟩
      have row : DatA K (wo H1 b) [.int (i + 1), .int (i - 1), .int (0 - i), .bl (decide (V.int i = V.int 1)), .str (toString i), .non, .int 0, .int (10 ^ Int.toNat 30)] [.int (i + 1), .int (i - 1), .int (0 - i), .bool (decide (V.int i = V.int 1)), .str (toString i), .none, .int 0, .int (10 ^ Int.toNat 30)] :=
        .cons (.int _) (.cons (.int _) (.cons (.int _) (.cons (.bl _) (.cons (.str _) (.cons .non (.cons (.int _) (.cons (.int _) .nil)))))))
      obtain ⟨d', hd', D'⟩ := datA_mem row hx
      have bd' : Bd (3 * w' + 40) d' := by
        simp only [List.mem_cons, List.not_mem_nil, or_false] at hd'
        rcases hd' with rfl | rfl | rfl | rfl | rfl | rfl | rfl | rfl
        · exact bi _ (by omega)
        · exact bi _ (by omega)
        · exact bi _ (by omega)
        · simp only [Bd]
        · simp only [Bd]; omega
        · simp only [Bd]
        · exact bi _ (by omega)
        · simp only [Bd]; exact pow_up (show (10 ^ Int.toNat 30 : Int).natAbs < 10 ^ 40 by decide +kernel) (by omega)
      exact fin x' d' H' ((D'.more (wo_same (same_new (Same.refl H1) ht))).more s'.1) bd' B' ((s1.new ht).trans s')
    clear B1 s1
    rintro σ1 H1 ⟨rfl, B1, s1⟩
    exact ⟨_, rfl, b, rfl, B1, fun x' d' H' D' b' B' s' => fin x' d' H' D' (Bd.up (by omega) b') B' (s1.trans s')⟩
end
end Y

/-! OG: nets; what each number has left. -/
namespace Y
open PySem PySem.Spec PyProof.Rows L2 Ns
abbrev Arc := Nat × Nat × Option Int
def capV : Option Int → V | none => .non | some c => .int c
def capD : Option Int → PyData | none => .none | some c => .int c
def ArcV (K : PySem.W.Frag) (H : Hp) (x : V) (a : Arc) : Prop := ∃ t, x = .ref t ∧ SqT K H t [.int a.1, .int a.2.1, capV a.2.2]
def NetV (K : PySem.W.Frag) (H : Hp) (y : V) (m : Nat) (as : List Arc) : Prop := ∃ (t a : Addr) (xs : List V), y = .ref t ∧ SqT K H t [.int m, .ref a] ∧ SqT K H a xs ∧ Paired (ArcV K H) xs as
theorem arcs_more {K : PySem.W.Frag} {H H' : Hp} {xs : List V} {as : List Arc} (h : Paired (ArcV K H) xs as) (m : Same H H') : Paired (ArcV K H') xs as := paired_imp (fun v c ⟨a, e, q⟩ => ⟨a, e, sqt_more m q⟩) h
theorem NetV.more {K : PySem.W.Frag} {H H' : Hp} {y : V} {m : Nat} {as : List Arc} (h : NetV K H y m as) (s : Same H H') : NetV K H' y m as := by
  obtain ⟨t, a, xs, e, h1, h2, h3⟩ := h
  exact ⟨t, a, xs, e, sqt_more s h1, sqt_more s h2, arcs_more h3 s⟩
structure NetP (m : Nat) (as : List Arc) : Prop where
  m2 : 2 ≤ m
  m7 : m ≤ 7
  len : as.length ≤ 14
  each : ∀ a ∈ as, a.1 < m ∧ a.2.1 < m ∧ a.1 ≠ a.2.1 ∧ ∀ c, a.2.2 = some c → 0 ≤ c ∧ c ≤ 10 ^ 12
/-- what the number k has left -/
def srp (k : Nat) : List Arc → List Int → Int
  | a :: as, t :: ts => (if a.2.1 = k then t else 0) - (if a.1 = k then t else 0) + srp k as ts
  | _, _ => 0
theorem srp_take (k : Nat) : ∀ {as : List Arc} {ts : List Int} {i : Nat} {a : Arc} {t : Int}, as[i]? = some a → ts[i]? = some t →
    srp k (as.take (i + 1)) (ts.take (i + 1)) = srp k (as.take i) (ts.take i) + ((if a.2.1 = k then t else 0) - (if a.1 = k then t else 0))
  | a0 :: as, t0 :: ts, 0, a, t, h, g => by
    cases h
    cases g
    show _ - _ + 0 = 0 + _
    omega
  | a0 :: as, t0 :: ts, i + 1, a, t, h, g => by
    have ih := srp_take k (as := as) (ts := ts) (i := i) h g
    show _ - _ + srp k (as.take (i + 1)) (ts.take (i + 1)) = _ - _ + srp k (as.take i) (ts.take i) + _
    rw [ih]
    omega
  | [], _, _, _, _, h, _ => nomatch h
  | _ :: _, [], _, _, _, _, g => nomatch g
def srps (m : Nat) (as : List Arc) (ts : List Int) : List Int := (List.range m).map fun k => srp k as ts
theorem srps_len (m : Nat) (as : List Arc) (ts : List Int) : (srps m as ts).length = m := by unfold srps; rw [List.length_map, List.length_range]
theorem srps_at {m k : Nat} (as : List Arc) (ts : List Int) (h : k < m) : (srps m as ts)[k]? = some (srp k as ts) := by
  unfold srps
  rw [List.getElem?_map, List.getElem?_range h]
  rfl
theorem srps_zero (m : Nat) (as : List Arc) (ts : List Int) : srps m (as.take 0) (ts.take 0) = List.replicate m 0 := by
  unfold srps
  rw [List.take_zero, List.take_zero]
  refine List.ext_getElem? fun i => ?_
  rw [List.getElem?_map]
  by_cases h : i < m
  · rw [List.getElem?_range h, List.getElem?_replicate, if_pos h]
    rfl
  · rw [List.getElem?_eq_none (by rw [List.length_range]; omega), List.getElem?_replicate, if_neg h]
    rfl
theorem srps_step {m : Nat} {as : List Arc} {ts : List Int} {i : Nat} {a : Arc} {t : Int} (h : as[i]? = some a) (g : ts[i]? = some t) (h1 : a.1 < m) (h2 : a.2.1 < m) (ne : a.1 ≠ a.2.1) :
    ((srps m (as.take i) (ts.take i)).set a.1 (srp a.1 (as.take i) (ts.take i) - t)).set a.2.1 (srp a.2.1 (as.take i) (ts.take i) + t) = srps m (as.take (i + 1)) (ts.take (i + 1)) := by
  refine List.ext_getElem? fun k => ?_
  have lm := srps_len m (as.take i) (ts.take i)
  by_cases hk : k < m
  · rw [srps_at _ _ hk, srp_take k h g, List.getElem?_set, List.length_set, lm, List.getElem?_set, lm, srps_at _ _ hk]
    by_cases e2 : a.2.1 = k
    · have e1 : ¬ a.1 = k := fun z => ne (z.trans e2.symm)
      rw [if_pos e2, if_pos h2, if_pos e2, if_neg e1, ← e2]
      congr 1
      omega
    · rw [if_neg e2, if_neg e2]
      by_cases e1 : a.1 = k
      · rw [if_pos e1, if_pos h1, if_pos e1, ← e1]
        congr 1
        omega
      · rw [if_neg e1, if_neg e1]
        congr 1
        omega
  · rw [List.getElem?_eq_none (by rw [List.length_set, List.length_set, lm]; omega), List.getElem?_eq_none (by rw [srps_len]; omega)]
section
variable {P : Program} {w : World} {K : PySem.W.Frag} {mg : Str → Option Value} {base : Heap}
def spSur (K : PySem.W.Frag) : Sp := fun as H Q _ => ∃ (y : V) (a : Addr) (m : Nat) (rs : List Arc) (ts : List Int), as = [y, .ref a] ∧ NetV K H y m rs ∧ NetP m rs ∧ SqT K H a (ts.map V.int) ∧ ts.length = rs.length ∧
  ∀ (p : Addr) (H' : Hp), H' p = some (.lst ((srps m rs ts).map V.int)) → H p = none → Same H H' → Q (.ref p) H'
theorem scSu : FnScope ["net", "through", "many", "arcs", "surplus", "start", "end", "cap", "much"] ["net", "through"] (defScope sSurplus) := ⟨rfl, rfl, rfl, by decide +kernel, rfl, by decide +kernel, by decide +kernel⟩
theorem ixN_nat {n k : Nat} (h : k < n) : ixN n (k : Int) = some k := by
  unfold ixN
  rw [if_pos (by omega), if_pos (by omega), Int.toNat_natCast]
theorem ok_surplus {f : Addr} {fd : FuncData} (F : Fun K "_surplus" "_surplus" sSurplus f fd) (T : Nat0 mg) : FnOk P w K mg base CX0 1 f fd ["net", "through"] (spSur K) := by
  refine F.ok scSu (fun as H Q E h => ?_) (fun cdv A outer s H as Q E hr h => ?_)
  · obtain ⟨y, a, m, rs, ts, rfl, _⟩ := h
    rfl
  · obtain ⟨y, a, m, rs, ts, rfl, hN, hP, hT, hl, k⟩ := h
    refine ⟨_, pss_cons (ps_asg (pv 0) (pg_tup (by rfl) (pgs_cons (pg_name (i := 2) scSu.nd rfl (.inl rfl)) (pgs_cons (pg_name (i := 3) scSu.nd rfl (.inl rfl)) pgs_nil))))
      (pss_cons (ps_set (i := 4) scSu.nd rfl (.inl rfl) (pe_op op_rep (pe_lst (pa_cons pe_int pa_nil)) (pv 2)))
      (pss_cons (ps_for PassesOwn.never rfl (RZ.pi_zipA (by rfl) T.zip (pa_cons (pv 3) (pa_cons (pv 1) pa_nil))) (pg_tup rfl (pgs_cons (pg_tup rfl (pgs_cons (pg_name (i := 5) scSu.nd rfl (.inl rfl)) (pgs_cons (pg_name (i := 6) scSu.nd rfl (.inl rfl)) (pgs_cons (pg_name (i := 7) scSu.nd rfl (.inl rfl)) pgs_nil)))) (pgs_cons (pg_name (i := 8) scSu.nd rfl (.inl rfl)) pgs_nil)))
        (pss_cons (ps_augS (pv 4) (pv 5) get_list (pv 8) ip_sub set_list) (pss_one (ps_augS (pv 4) (pv 6) get_list (pv 8) ip_add set_list))))
      (pss_one (ps_ret (pv 4))))), ?_⟩
    obtain ⟨t, ra, xs, rfl, h1, h2, h3⟩ := hN
    have lx := paired_len h3
    have m7 := hP.m7
    refine ⟨_, rfl, t, _, rfl, h1, rfl, _, _, rfl, _, _, rfl, rfl, ?_⟩
    refine ⟨by show 1 ≤ sizeLine; decide, fun q hq => ⟨_, rfl, q, m, _, rfl, rfl, upd_same, by omega, by omega, Nat.le_of_lt (small1000 (show 1 * (m : Int).toNat ≤ 1000 by omega)), fun p hp => ?_⟩⟩
    have M1 : Same H (upd (upd H q (.lst [.int 0])) p (.lst (List.replicate (m : Int).toNat [V.int 0]).flatten)) := same_new (same_new (Same.refl H) hq) hp
    have pn : H p = none := fr_none (same_new (Same.refl H) hq) hp
    have e1 : upd (upd H q (.lst [.int 0])) p (.lst (List.replicate (m : Int).toNat [V.int 0]).flatten) p = some (.lst ((srps m (rs.take 0) (ts.take 0)).map V.int)) := by
      rw [upd_same, srps_zero, Int.toNat_natCast]
      congr 2
      rw [List.map_replicate]
      clear M1 hp k hP m7 h1
      induction m with
      | zero => rfl
      | succ m ih => rw [List.replicate_succ, List.flatten_cons, ih, List.replicate_succ]; rfl
    generalize upd (upd H q (.lst [.int 0])) p (.lst (List.replicate (m : Int).toNat [V.int 0]).flatten) = H1 at M1 e1 ⊢
    refine ⟨_, rfl, _, rfl, ra, a, xs, _, rfl, .inr ⟨sqt_more M1 h2, sqt_more M1 hT, ?_⟩⟩
    refine RZ.for_zipT (K := K) (a := ra) (b := a) (xs := xs) (ys := ts.map V.int) (by rw [List.length_map]; omega) (fun i σ H' => ∃ v5 v6 v7 v8 : Option V, σ = [some (.ref t), some (.ref a), some (.int m), some (.ref ra), some (.ref p), v5, v6, v7, v8] ∧
      H' p = some (.lst ((srps m (rs.take i) (ts.take i)).map V.int)) ∧ Same H H') ?_ ?_ ?_ ?_
    · exact ⟨none, none, none, none, rfl, e1, M1⟩
    · rintro i σ H' ⟨_, _, _, _, _, _, M⟩
      exact ⟨sqt_more M h2, sqt_more M hT⟩
    · clear M1 e1
      rintro i x y' T' σ H' hx hy ⟨v5, v6, v7, v8, rfl, e, M⟩ hT'
      obtain ⟨r, hr', q', rfl, hq'⟩ := paired_at h3 hx
      obtain ⟨z, hz, rfl⟩ := ints_at hy
      obtain ⟨b1, b2, bn, _⟩ := hP.each r (List.mem_of_getElem? hr')
      have M2 := same_new (o := .tup [.ref q', .int z]) M hT'
      have e2 := s3u (o := .tup [.ref q', .int z]) hT' e
      have et : upd H' T' (.tup [.ref q', .int z]) T' = some (.tup [.ref q', .int z]) := upd_same
      generalize upd H' T' (.tup [.ref q', .int z]) = H2 at M2 e2 et ⊢
      have len : ((srps m (rs.take i) (ts.take i)).map V.int).length = m := by rw [List.length_map, srps_len]
      have a1 : ((srps m (rs.take i) (ts.take i)).map V.int)[r.1]? = some (.int (srp r.1 (rs.take i) (ts.take i))) := by rw [List.getElem?_map, srps_at _ _ b1]; rfl
      have a2 : (((srps m (rs.take i) (ts.take i)).map V.int).set r.1 (.int (srp r.1 (rs.take i) (ts.take i) - z)))[r.2.1]? = some (.int (srp r.2.1 (rs.take i) (ts.take i))) := by
        rw [List.getElem?_set_ne bn, List.getElem?_map, srps_at _ _ b2]
        rfl
      refine ⟨T', _, rfl, SqT.of et, rfl, _, _, rfl, q', _, rfl, sqt_more M2 hq', rfl, _, _, rfl, _, _, rfl, _, _, rfl, rfl, _, _, rfl, rfl, ?_⟩
      refine ⟨_, rfl, _, rfl, p, _, _, _, rfl, rfl, SqL.of e2, atI_nat a1, _, rfl, _, _, rfl, rfl, p, _, _, r.1, rfl, rfl, e2, ixN_nat (by rw [len]; exact b1), ?_⟩
      refine ⟨_, rfl, _, rfl, p, _, _, _, rfl, rfl, SqL.of upd_same, atI_nat a2, _, rfl, _, _, rfl, rfl, p, _, _, r.2.1, rfl, rfl, upd_same, ixN_nat (by rw [List.length_set, len]; exact b2), ?_⟩
      refine ⟨_, _, _, _, rfl, ?_, ?_⟩
      · rw [upd_upd, upd_same, ← srps_step hr' hz b1 b2 bn, List.map_set, List.map_set]
      · rw [upd_upd]
        exact same_put M2 pn
    · rintro σ H' ⟨v5, v6, v7, v8, rfl, e, M⟩
      rw [lx, List.take_length, ← hl, List.take_length] at e
      exact ⟨_, rfl, k p H' e pn M⟩
end
end Y

/-! OH: value_of, is_through. -/
namespace Y
open PySem PySem.Spec PyProof.Rows L2 Ns
section
variable {K : PySem.W.Frag} {a b : Addr} {xs ys : List V}
theorem walk_zipP {n : Nat} (hn : n = min xs.length ys.length) : Walk (RZ.ItzT K a b) n (fun H => SqT K H a xs ∧ SqT K H b ys) (YPair (fun i => xs[i]?) (fun i => ys[i]?)) := by
  subst hn
  refine ⟨fun i _ hi q => ?_, fun _ q => ⟨xs, ys, q.1, q.2, by omega⟩, fun i H v H' _ q y => ?_⟩
  · have h1 : i < xs.length := by omega
    have h2 : i < ys.length := by omega
    exact ⟨xs, ys, xs[i], ys[i], q.1, q.2, by simp [h1], by simp [h2]⟩
  · obtain ⟨T, x, z, h1, h2, h3, h4, h5⟩ := y
    exact ⟨T, x, z, h1, h2, h3, h4 xs q.1, h5 ys q.2⟩
end
def capOk : Option Int → Int → Bool
  | none, _ => true
  | some c, t => decide (t ≤ c)
def intD : PyData → Int | .int i => i | _ => 0
def thrOk (m : Nat) (rs : List Arc) (ts : List Int) : Bool := ((rs.zip ts).all fun p => capOk p.1.2.2 p.2) && ((List.range (m - 2)).all fun k => decide (srp (k + 2) rs ts = 0))
def isThr (m : Nat) (rs : List Arc) : PyData → Bool
  | .tuple ds => decide (ds.length = rs.length) && (ds.all isCnt && thrOk m rs (ds.map intD))
  | _ => false
theorem isThr_tup (m : Nat) (rs : List Arc) (ds : List PyData) : isThr m rs (.tuple ds) = (decide (ds.length = rs.length) && (ds.all isCnt && thrOk m rs (ds.map intD))) := rfl
theorem all_ints {K : PySem.W.Frag} {H : Hp} : ∀ {xs : List V} {ds : List PyData}, DatA K H xs ds → ds.all isCnt = true → ∃ ts : List Int, ds = ts.map PyData.int ∧ xs = ts.map V.int ∧ ∀ t ∈ ts, 0 ≤ t
  | _, _, .nil, _ => ⟨[], rfl, rfl, fun _ z => nomatch z⟩
  | _, _, .cons (d := d) h t, e => by
    rw [List.all_cons, Bool.and_eq_true] at e
    obtain ⟨ts, e1, e2, e3⟩ := all_ints t e.2
    cases d with
    | int i =>
      cases h
      exact ⟨i :: ts, by rw [e1]; rfl, by rw [e2]; rfl, fun t ht => (List.mem_cons.mp ht).elim (fun z => by rw [z]; exact of_decide_eq_true e.1) (e3 t)⟩
    | _ => exact absurd e.1 Bool.false_ne_true
theorem intD_ints (ts : List Int) : (ts.map PyData.int).map intD = ts := by
  rw [List.map_map]
  conv => rhs; rw [← List.map_id ts]
  rfl
/-- what tells a thing of a net -/
def spThr (K : PySem.W.Frag) : Sp := fun as H Q _ => ∃ (y x : V) (m : Nat) (rs : List Arc) (d : PyData), as = [y, x] ∧ NetV K H y m rs ∧ NetP m rs ∧ DatV K H x d ∧ ∀ H', Same H H' → Q (.bl (isThr m rs d)) H'
/-- the value -/
def spVal (K : PySem.W.Frag) : Sp := fun as H Q _ => ∃ (y : V) (a : Addr) (m : Nat) (rs : List Arc) (ts : List Int), as = [y, .ref a] ∧ NetV K H y m rs ∧ NetP m rs ∧ SqT K H a (ts.map V.int) ∧ ts.length = rs.length ∧ ∀ H', Same H H' → Q (.int (srp 1 rs ts)) H'
section
variable {P : Program} {w : World} {K : PySem.W.Frag} {mg : Str → Option Value} {base : Heap}
theorem scVO : FnScope ["net", "through"] ["net", "through"] (defScope sValueOf) := ⟨rfl, rfl, rfl, by decide +kernel, rfl, by decide +kernel, by decide +kernel⟩
theorem ok_valueOf {f fS : Addr} {fd dS : FuncData} (F : Fun K "value_of" "value_of" sValueOf f fd) (GS : FnOk P w K mg base CX0 1 fS dS ["net", "through"] (spSur K)) (FS : Fun K "_surplus" "_surplus" sSurplus fS dS) (mS : mg "_surplus" = some (.ref fS)) (bS : Binds K dS ["net", "through"] []) :
    FnOk P w K mg base CX0 2 f fd ["net", "through"] (spVal K) := by
  refine F.ok scVO (fun as H Q E h => ?_) (fun cdv A outer s H as Q E hr h => ?_)
  · obtain ⟨y, a, m, rs, ts, rfl, _⟩ := h
    rfl
  · obtain ⟨y, a, m, rs, ts, rfl, hN, hP, hT, hl, k⟩ := h
    refine ⟨_, pss_one (ps_ret (pe_ix ix_list (pe_call GS hr rfl mS FS.kp bS .nil pass0 (pa_cons (pv 0) (pa_cons (pv 1) pa_nil))) pe_int (fun _ _ => rfl))), ?_⟩
    have m2 := hP.m2
    refine ⟨_, rfl, _, rfl, y, a, m, rs, ts, rfl, hN, hP, hT, hl, fun p H' e _ M => ⟨p, _, 1, .int (srp 1 rs ts), rfl, rfl, SqL.of e, atI_nat (j := 1) ?_, k H' M⟩⟩
    rw [List.getElem?_map, srps_at _ _ (by omega)]
    rfl
theorem scIT : FnScope ["net", "thing", "arcs", "much", "start", "end", "cap"] ["net", "thing"] (defScope sIsThrough) := ⟨rfl, rfl, rfl, by decide +kernel, rfl, by decide +kernel, by decide +kernel⟩
theorem ok_isThrough {f fS fC : Addr} {fd dS dC : FuncData} (F : Fun K "is_through" "is_through" sIsThrough f fd) (T : Nat0 mg) (GS : FnOk P w K mg base CX0 1 fS dS ["net", "through"] (spSur K)) (FS : Fun K "_surplus" "_surplus" sSurplus fS dS) (mS : mg "_surplus" = some (.ref fS)) (bS : Binds K dS ["net", "through"] [])
    (GC : FnOk P w K mg base CX0 2 fC dC ["thing"] (spTells K isCnt)) (FC : Fun K "is_count" "is_count" sIsCount fC dC) (mC : mg "is_count" = some (.ref fC)) (bC : Binds K dC ["thing"] []) : FnOk P w K mg base CX0 3 f fd ["net", "thing"] (spThr K) := by
  refine F.ok scIT (fun as H Q E h => ?_) (fun cdv A outer s H as Q E hr h => ?_)
  · obtain ⟨y, x, m, rs, d, rfl, _⟩ := h
    rfl
  · obtain ⟨y, x, m, rs, d, rfl, hN, hP, hD, k⟩ := h
    have hr1 : Room 1 _ := hr.mono (by decide)
    refine ⟨_, pss_cons (ps_set (i := 2) scIT.nd rfl (.inl rfl) (pe_ix ix_tup (pv 0) pe_int (fun _ _ => rfl)))
      (pss_cons (ps_if (PW.pt (pw_or (pt_not (pt_val (pe_callB (call_isD kit_T) (by rfl) T.isi (by decide +kernel) (pa_cons (pv 1) (pa_cons (pe_bltn (v := .ty "tuple") (by rfl) T.tuple (by decide +kernel) rfl) pa_nil)))))
          (pw_or1 (pt_cmpR op_ne (pe_callB call_len_seq (by rfl) T.len PySem.boot_len (pa_cons (pv 1) pa_nil)) (pe_callB call_len_seq (by rfl) T.len PySem.boot_len (pa_cons (pv 2) pa_nil)) (nomark _))))) (pss_one (ps_ret pe_bl)) pss_nil)
      (pss_cons (ps_if (pt_not (pt_val (pe_callB (cr_all rfl) (by rfl) T.all (by decide +kernel) (pa_cons (pe_lc (own := [("much", 3)]) (g := gName 3) (tt := tYes) rfl scIT.nd (pi_tup (pv 1)) (blkOk_by (N := ["net", "thing", "arcs", "much", "start", "end", "cap"]) (sc := defScope sIsThrough) (by decide +kernel))
          (fun _ _ _ _ _ => pg_name (i := 3) scIT.nd rfl (Or.inl rfl)) (fun _ _ _ _ _ => pts_nil) (fun _ _ _ _ _ => pe_call GC hr rfl mC FC.kp bC .nil pass0 (pa_cons (pv 3) pa_nil))) pa_nil)))) (pss_one (ps_ret pe_bl)) pss_nil)
      (pss_cons (ps_if (pt_val (pe_callB (cr_any rfl) (by rfl) T.any (by decide +kernel) (pa_cons (pe_lc (own := [("start", 4), ("end", 5), ("cap", 6), ("much", 3)]) (g := gTup K 2 (gCons (gTup K 3 (gCons (gName 4) (gCons (gName 5) (gCons (gName 6) gNil)))) (gCons (gName 3) gNil))) (tt := tYes) rfl scIT.nd
          (RZ.pi_zipA (by rfl) T.zip (pa_cons (pv 2) (pa_cons (pv 1) pa_nil))) (blkOk_by (N := ["net", "thing", "arcs", "much", "start", "end", "cap"]) (sc := defScope sIsThrough) (by decide +kernel))
          (fun _ _ _ _ _ => pg_tup rfl (pgs_cons (pg_tup rfl (pgs_cons (pg_name (i := 4) scIT.nd rfl (Or.inl rfl)) (pgs_cons (pg_name (i := 5) scIT.nd rfl (Or.inl rfl)) (pgs_cons (pg_name (i := 6) scIT.nd rfl (Or.inl rfl)) pgs_nil)))) (pgs_cons (pg_name (i := 3) scIT.nd rfl (Or.inl rfl)) pgs_nil)))
          (fun _ _ _ _ _ => pts_nil) (fun _ _ _ _ _ => pe_and (pe_cmpR op_notN (pv 6) pe_non (nomark _)) (pe_one (pe_cmpR op_gt (pv 3) (pv 6) (nomark _))))) pa_nil))) (pss_one (ps_ret pe_bl)) pss_nil)
      (pss_one (ps_ret (pe_callB (cr_all rfl) (by rfl) T.all (by decide +kernel) (pa_cons (pe_lc (own := [("much", 3)]) (g := gName 3) (tt := tYes) rfl scIT.nd (pi_list (pe_slice sl_list (pe_call GS hr1 rfl mS FS.kp bS .nil pass0 (pa_cons (pv 0) (pa_cons (pv 1) pa_nil))) (po_some pe_int) po_none))
          (blkOk_by (N := ["net", "thing", "arcs", "much", "start", "end", "cap"]) (sc := defScope sIsThrough) (by decide +kernel))
          (fun _ _ _ _ _ => pg_name (i := 3) scIT.nd rfl (Or.inl rfl)) (fun _ _ _ _ _ => pts_nil) (fun _ _ _ _ _ => pe_cmpR op_eq (pv 3) pe_int (nomark _))) pa_nil))))))), ?_⟩
    obtain ⟨t, ra, zs, rfl, h1, h2, h3⟩ := id hN
    have lz := paired_len h3
    have l14 := hP.len
    have m7 := hP.m7
    have m2 := hP.m2
    refine ⟨_, rfl, t, _, 1, .ref ra, rfl, rfl, h1, at1, ?_⟩
    refine ⟨_, rfl, x, d, rfl, hD, qT d, rfl, ?_⟩
    refine ite2 (fun h => ?_) (fun h => ?_)
    · have e : isThr m rs d = false := by cases d <;> first | rfl | exact absurd h Bool.false_ne_true
      rw [e] at k
      exact k H (Same.refl H)
    obtain ⟨a, xs, ds, rfl, rfl, hT, hA⟩ := dat_tup hD (by simpa using h)
    have lx := hA.len
    refine ⟨_, rfl, a, xs, rfl, .inr hT, _, rfl, ra, zs, rfl, .inr h2, rfl, _, rfl, ?_⟩
    refine ite2 (fun h => ?_) (fun h => ?_)
    · have ne : ¬ ds.length = rs.length := fun z => by
        rw [lx, lz, z] at h
        simp at h
      have e : isThr m rs (.tuple ds) = false := by
        rw [isThr_tup, decide_eq_false ne]
        rfl
      rw [e] at k
      exact k H (Same.refl H)
    have eqL : ds.length = rs.length := by
      rw [lx, lz] at h
      have := (by simpa using h : (ds.length : Int) = (rs.length : Int))
      omega
    have k' : ∀ H', Same H H' → Q (.bl (ds.all isCnt && thrOk m rs (ds.map intD))) H' := fun H' M => by
      have := k H' M
      rwa [isThr_tup, decide_eq_true eqL, Bool.true_and] at this
    clear k
    refine ⟨_, rfl, a, rfl, ⟨_, hT⟩, fun D hDn => ?_⟩
    refine lc_tup (K := K) (a := a) (xs := xs) (fun i H' => H' D = some (.lst (((ds.take i).map isCnt).map V.bl)) ∧ Same H H') ?_ ?_ ?_ ?_
    · exact ⟨by rw [List.take_zero, upd_same]; rfl, same_new (Same.refl H) hDn⟩
    · rintro i H' _ ⟨_, M⟩
      exact sqt_more M hT
    · rintro i u H' hu ⟨q1, M⟩
      obtain ⟨du, hdu, Du⟩ := datA_at hA hu
      refine ⟨rfl, _, rfl, u, du, rfl, Du.more M, _, q1, ?_, ?_, same_put M hDn⟩
      · rw [List.length_map, List.length_map, List.length_take]
        exact small1000 (by omega)
      · rw [upd_same, List.take_succ, hdu]
        simp
    rintro H1 ⟨q1, M1⟩
    rw [lx, List.take_length] at q1
    refine ⟨D, _, rfl, SqL.of q1, _, rfl, ?_⟩
    have ea : ((ds.map isCnt).all id) = ds.all isCnt := by rw [List.all_map]; rfl
    rw [ea]
    refine ite2 (fun h => ?_) (fun h => ?_)
    · have e : ds.all isCnt = false := by simpa using h
      rw [e] at k'
      exact k' H1 M1
    have hall : ds.all isCnt = true := by simpa using h
    rw [hall] at k'
    obtain ⟨ts, rfl, rfl, pos⟩ := all_ints hA hall
    rw [intD_ints] at k'
    rw [List.length_map] at eqL
    clear q1 ea hall h
    refine ⟨_, rfl, _, rfl, ra, a, zs, ts.map V.int, rfl, .inr ⟨sqt_more M1 h2, sqt_more M1 hT, fun D2 hD2 => ?_⟩⟩
    have D2n := fr_none M1 hD2
    refine lc_it (walk_zipP (K := K) (a := ra) (b := a) (xs := zs) (ys := ts.map V.int) (n := rs.length) (by rw [List.length_map]; omega)) (fun i H' => H' D2 = some (.lst ((((rs.zip ts).take i).map fun p => !capOk p.1.2.2 p.2).map V.bl)) ∧ Same H H') ?_ ?_ ?_ ?_
    · exact ⟨by rw [List.take_zero, upd_same]; rfl, same_new M1 hD2⟩
    · rintro i H' _ ⟨_, M⟩
      exact ⟨sqt_more M h2, sqt_more M hT⟩
    · rintro i u H' H'' hi ⟨q1, M⟩ ⟨T', x', y', rfl, fT, rfl, hx, hy⟩
      obtain ⟨r, hr', q', rfl, hq'⟩ := paired_at h3 hx
      obtain ⟨z, hz, rfl⟩ := ints_at hy
      have M2 := same_new (o := .tup [.ref q', .int z]) M fT
      have e2 := s3u (o := .tup [.ref q', .int z]) fT q1
      have et : upd H' T' (.tup [.ref q', .int z]) T' = some (.tup [.ref q', .int z]) := upd_same
      generalize upd H' T' (.tup [.ref q', .int z]) = H2 at M2 e2 et ⊢
      have hzip : (rs.zip ts)[i]? = some (r, z) := by rw [List.getElem?_zip_eq_some]; exact ⟨hr', hz⟩
      refine ⟨T', _, rfl, SqT.of et, rfl, _, _, rfl, q', _, rfl, sqt_more M2 hq', rfl, _, _, rfl, _, _, rfl, _, _, rfl, rfl, _, _, rfl, rfl, ?_⟩
      have step : ∀ b : Bool, b = (!capOk r.2.2 z) → ∃ ys, H2 D2 = some (.lst ys) ∧ ys.length < sizeLine ∧ upd H2 D2 (.lst (ys ++ [V.bl b])) D2 = some (.lst ((((rs.zip ts).take (i + 1)).map fun p => !capOk p.1.2.2 p.2).map V.bl)) ∧ Same H (upd H2 D2 (.lst (ys ++ [V.bl b]))) := fun b hb => by
        refine ⟨_, e2, ?_, ?_, same_put M2 D2n⟩
        · rw [List.length_map, List.length_map, List.length_take]
          exact small1000 (by have := hP.len; omega)
        · rw [upd_same, List.take_succ, hzip, hb]
          simp
      refine ⟨rfl, _, rfl, rfl, _, rfl, ?_⟩
      cases hc : r.2.2 with
      | none =>
        refine ite2 (fun h => absurd h (by decide)) (fun _ => ?_)
        exact step false (by rw [hc]; rfl)
      | some c =>
        refine iteT ?_
        refine ⟨_, rfl, _, rfl, _, _, rfl, rfl, ?_⟩
        refine step _ ?_
        rw [hc]
        show decide (c < z) = !decide (z ≤ c)
        by_cases g : z ≤ c
        · rw [decide_eq_true g, decide_eq_false (by omega)]; rfl
        · rw [decide_eq_false g, decide_eq_true (by omega)]; rfl
    rintro H2 ⟨q1, M2⟩
    rw [List.take_of_length_le (by rw [List.length_zip]; omega)] at q1
    refine ⟨D2, _, rfl, SqL.of q1, _, rfl, ?_⟩
    have ea : ((((rs.zip ts).map fun p => !capOk p.1.2.2 p.2)).any id) = !((rs.zip ts).all fun p => capOk p.1.2.2 p.2) := by
      rw [List.any_map]
      generalize rs.zip ts = l
      induction l with
      | nil => rfl
      | cons p l ih => rw [List.any_cons, List.all_cons, ih, Bool.not_and]; rfl
    rw [ea]
    refine ite2 (fun h => ?_) (fun h => ?_)
    · have e : thrOk m rs ts = false := by
        unfold thrOk
        rw [show ((rs.zip ts).all fun p => capOk p.1.2.2 p.2) = false by simpa using h]
        rfl
      rw [e] at k'
      exact k' H2 M2
    have e : thrOk m rs ts = (List.range (m - 2)).all fun k => decide (srp (k + 2) rs ts = 0) := by
      unfold thrOk
      rw [show ((rs.zip ts).all fun p => capOk p.1.2.2 p.2) = true by simpa using h]
      rfl
    rw [e] at k'
    clear q1 ea h e
    refine ⟨_, rfl, _, rfl, .ref t, a, m, rs, ts, rfl, hN.more M2, hP, sqt_more M2 hT, eqL, fun p H3 e3 _ M3' => ?_⟩
    have M3 := M2.trans M3'
    refine ⟨_, rfl, p, _, rfl, SqL.of e3, fun q hq => ⟨q, rfl, ⟨_, SqL.of upd_same⟩, fun D3 hD3 => ?_⟩⟩
    have ec : cutV ((srps m rs ts).map V.int) (some (2 : Int)) none = ((List.range (m - 2)).map fun k => srp (k + 2) rs ts).map V.int := by
      rw [show (2 : Int) = ((2 : Nat) : Int) from rfl, cut_from, ← List.map_drop]
      congr 1
      refine List.ext_getElem? fun i => ?_
      rw [List.getElem?_drop, List.getElem?_map]
      by_cases hi : i < m - 2
      · rw [srps_at _ _ (by omega), List.getElem?_range hi, Nat.add_comm 2 i]
        rfl
      · rw [List.getElem?_eq_none (by rw [srps_len]; omega), List.getElem?_eq_none (l := List.range (m - 2)) (by rw [List.length_range]; omega)]
        rfl
    rw [ec] at hD3 ⊢
    have MQ := same_new (o := .lst (((List.range (m - 2)).map fun k => srp (k + 2) rs ts).map V.int)) M3 hq
    have eq : upd H3 q (.lst (((List.range (m - 2)).map fun k => srp (k + 2) rs ts).map V.int)) q = some (.lst (((List.range (m - 2)).map fun k => srp (k + 2) rs ts).map V.int)) := upd_same
    generalize upd H3 q (.lst (((List.range (m - 2)).map fun k => srp (k + 2) rs ts).map V.int)) = H4 at MQ eq hD3 ⊢
    have D3n := fr_none MQ hD3
    have nq : q ≠ D3 := fun z => by rw [z, hD3] at eq; cases eq
    generalize hL : ((List.range (m - 2)).map fun k => srp (k + 2) rs ts) = L at eq ⊢
    have lL : L.length ≤ 7 := by rw [← hL, List.length_map, List.length_range]; omega
    refine lc_list (K := K) (a := q) (xs := L.map V.int) (fun i H' => H' D3 = some (.lst (((L.take i).map fun z => decide (z = 0)).map V.bl)) ∧ Same H4 H') ?_ ?_ ?_ ?_
    · exact ⟨by rw [List.take_zero, upd_same]; rfl, same_new (Same.refl H4) hD3⟩
    · rintro i H' _ ⟨_, M⟩
      exact SqL.of (M _ _ eq)
    · rintro i u H' hu ⟨q1, M⟩
      obtain ⟨z, hz, rfl⟩ := ints_at hu
      refine ⟨rfl, _, rfl, rfl, _, q1, ?_, ?_, same_put M hD3⟩
      · rw [List.length_map, List.length_map, List.length_take]
        exact small1000 (by omega)
      · rw [upd_same, List.take_succ, hz]
        simp
    rintro H5 ⟨q1, M5⟩
    rw [List.length_map, List.take_length] at q1
    refine ⟨D3, _, rfl, SqL.of q1, ?_⟩
    have ea : ((L.map fun z => decide (z = 0)).all id) = (List.range (m - 2)).all fun k => decide (srp (k + 2) rs ts = 0) := by
      rw [← hL, List.map_map, List.all_map]
      rfl
    rw [ea]
    exact k' H5 (MQ.trans M5)
end
end Y

/-! OI: _law_value, _law_is_through. -/
namespace Y
open PySem PySem.Spec PyProof.Rows L2 Ns
open C8 (pss_cut)
theorem dpI {K : PySem.W.Frag} {H : Hp} : ∀ l : List Int, DpAll K H (l.map V.int) (l.map PyData.int)
  | [] => .nil
  | i :: l => .cons (.int i) (dpI l)
theorem layI : ∀ l : List Int, PyData.canLayAll0 (l.map PyData.int) = true ∧ PyData.depthAll (l.map PyData.int) = 0
  | [] => ⟨rfl, rfl⟩
  | i :: l => by
    obtain ⟨h1, h2⟩ := layI l
    simp [PyData.canLayAll0, PyData.canLay0, PyData.depthAll, PyData.depth, h1, h2]
theorem shpI (l : List Int) : SeqAt.shaped (.list (l.map PyData.int)) = true := by
  obtain ⟨h1, h2⟩ := layI l
  unfold SeqAt.shaped
  rw [Bool.and_eq_true]
  refine ⟨by simp [PyData.canLay0, h1], decide_eq_true ?_⟩
  simp only [PyData.depth, h2]
  decide
theorem emptyI (l : List Int) : PyData.eqv (.list (l.map PyData.int)) (.list []) = decide (l = []) := by
  cases l with
  | nil => rfl
  | cons i l => rfl
/-- one arc's part of the value -/
def valA (r : Arc) (z : Int) : Int := z * ((if decide (V.int r.2.1 = V.int 1) = true then 1 else 0) - (if decide (V.int r.1 = V.int 1) = true then 1 else 0))
theorem valA_eq (r : Arc) (z : Int) : valA r z = (if r.2.1 = 1 then z else 0) - (if r.1 = 1 then z else 0) := by
  have e : ∀ n : Nat, (decide (V.int n = V.int 1) = true) ↔ n = 1 := fun n => by
    rw [decide_eq_true_eq]
    constructor
    · intro h
      have : (n : Int) = 1 := by injection h
      omega
    · rintro rfl
      rfl
  unfold valA
  simp only [e]
  by_cases h1 : r.2.1 = 1
  · by_cases h2 : r.1 = 1
    · rw [if_pos h1, if_pos h2, if_pos h1, if_pos h2]; omega
    · rw [if_pos h1, if_neg h2, if_pos h1, if_neg h2]; omega
  · by_cases h2 : r.1 = 1
    · rw [if_neg h1, if_pos h2, if_neg h1, if_pos h2]; omega
    · rw [if_neg h1, if_neg h2, if_neg h1, if_neg h2]; omega
theorem valA_sum : ∀ (rs : List Arc) (ts : List Int), ((rs.zip ts).map fun p => valA p.1 p.2).sum = srp 1 rs ts
  | [], _ => rfl
  | _ :: _, [] => rfl
  | r :: rs, t :: ts => by
    rw [List.zip_cons_cons, List.map_cons, List.sum_cons, valA_sum rs ts, valA_eq]
    rfl
section
variable {P : Program} {w : World} {K : PySem.W.Frag} {mg : Str → Option Value} {base : Heap}
theorem scLV : FnScope ["net", "through", "arc", "many"] ["net", "through"] (defScope sValue) := ⟨rfl, rfl, rfl, by decide +kernel, rfl, by decide +kernel, by decide +kernel⟩
theorem ok_lawValue {f : Addr} {fd : FuncData} (F : Fun K "_law_value" "_law_value" sValue f fd) (T : Nat0 mg) : FnOk P w K mg base CX0 1 f fd ["net", "through"] (spVal K) := by
  refine F.ok scLV (fun as H Q E h => ?_) (fun cdv A outer s H as Q E hr h => ?_)
  · obtain ⟨y, a, m, rs, ts, rfl, _⟩ := h
    rfl
  · obtain ⟨y, a, m, rs, ts, rfl, hN, hP, hT, hl, k⟩ := h
    refine ⟨_, pss_one (ps_ret (pe_callB (cr_sum rfl) (by rfl) T.sum (by decide +kernel) (pa_cons (pe_lc (own := [("arc", 2), ("many", 3)]) (g := gTup K 2 (gCons (gName 2) (gCons (gName 3) gNil))) (tt := tYes)
      (te := tOp (rI CMul fun i j => .int (i * j)) (tVar 3) (tOp (rI0 fun i j => .int (i - j)) (tCB _ (tCons (tOp _ (tOp (rIxT K) (tVar 2) (tC (V.int 1))) (tC (V.int 1))) tNil)) (tCB _ (tCons (tOp _ (tOp (rIxT K) (tVar 2) (tC (V.int 0))) (tC (V.int 1))) tNil)))) rfl scLV.nd
      (RZ.pi_zipA (by rfl) T.zip (pa_cons (pe_ix ix_tup (pv 0) pe_int (fun _ _ => rfl)) (pa_cons (pv 1) pa_nil))) (blkOk_by (N := ["net", "through", "arc", "many"]) (sc := defScope sValue) (by decide +kernel))
      (fun _ _ _ _ _ => pg_tup rfl (pgs_cons (pg_name (i := 2) scLV.nd rfl (Or.inl rfl)) (pgs_cons (pg_name (i := 3) scLV.nd rfl (Or.inl rfl)) pgs_nil))) (fun _ _ _ _ _ => pts_nil)
      (fun _ _ _ _ _ => by exact pe_op op_mul (pv 3) (pe_op op_sub (pe_callTy call_int1 (by rfl) T.int (by decide +kernel) (pa_cons (pe_cmpR op_eq (pe_ix ix_tup (pv 2) pe_int (fun _ _ => rfl)) pe_int (nomark _)) pa_nil))
        (pe_callTy call_int1 (by rfl) T.int (by decide +kernel) (pa_cons (pe_cmpR op_eq (pe_ix ix_tup (pv 2) pe_int (fun _ _ => rfl)) pe_int (nomark _)) pa_nil))))) pa_nil))), ?_⟩
    obtain ⟨t, ra, zs, rfl, h1, h2, h3⟩ := id hN
    have lz := paired_len h3
    have l14 := hP.len
    refine ⟨_, rfl, t, _, 1, .ref ra, rfl, rfl, h1, at1, _, rfl, ra, a, zs, ts.map V.int, rfl, .inr ⟨h2, hT, fun D hD => ?_⟩⟩
    refine lc_it (walk_zipP (K := K) (a := ra) (b := a) (xs := zs) (ys := ts.map V.int) (n := rs.length) (by rw [List.length_map]; omega)) (fun i H' => H' D = some (.lst ((((rs.zip ts).take i).map fun p => valA p.1 p.2).map V.int)) ∧ Same H H') ?_ ?_ ?_ ?_
    · exact ⟨by rw [List.take_zero, upd_same]; rfl, same_new (Same.refl H) hD⟩
    · rintro i H' _ ⟨_, M⟩
      exact ⟨sqt_more M h2, sqt_more M hT⟩
    · rintro i u H' H'' hi ⟨q1, M⟩ ⟨T', x', y', rfl, fT, rfl, hx, hy⟩
      obtain ⟨r, hr', q', rfl, hq'⟩ := paired_at h3 hx
      obtain ⟨z, hz, rfl⟩ := ints_at hy
      have M2 := same_new (o := .tup [.ref q', .int z]) M fT
      have e2 := s3u (o := .tup [.ref q', .int z]) fT q1
      have et : upd H' T' (.tup [.ref q', .int z]) T' = some (.tup [.ref q', .int z]) := upd_same
      generalize upd H' T' (.tup [.ref q', .int z]) = H2 at M2 e2 et ⊢
      have hzip : (rs.zip ts)[i]? = some (r, z) := by rw [List.getElem?_zip_eq_some]; exact ⟨hr', hz⟩
      refine ⟨T', _, rfl, SqT.of et, rfl, _, _, rfl, _, _, rfl, rfl, ?_⟩
      refine ⟨rfl, _, rfl, _, rfl, q', _, 1, _, rfl, rfl, sqt_more M2 hq', at1, rfl, .inr ⟨_, rfl, _, rfl, q', _, 0, _, rfl, rfl, sqt_more M2 hq', at0, rfl, .inr ⟨_, rfl, _, _, rfl, rfl, ?_⟩⟩⟩
      refine ⟨z, _, rfl, rfl, .inr ?_, _, e2, ?_, ?_, same_put M2 hD⟩
      · constructor <;> (split <;> split <;> decide)
      · rw [List.length_map, List.length_map, List.length_take]
        exact small1000 (by omega)
      · rw [upd_same, List.take_succ, hzip]
        simp [valA]
    · rintro H' ⟨q1, M⟩
      rw [List.take_of_length_le (by rw [List.length_zip]; omega)] at q1
      refine ⟨D, _, rfl, SqL.of q1, ?_⟩
      rw [valA_sum]
      exact k H' M
theorem scLT : FnScope ["net", "thing", "lack", "start", "end", "cap", "many", "k"] ["net", "thing"] (defScope sLIsThrough) := ⟨rfl, rfl, rfl, by decide +kernel, rfl, by decide +kernel, by decide +kernel⟩
/-- what is known of a thing up to its i-th item -/
def Upto (rs : List Arc) (ds : List PyData) (i : Nat) : Prop := (ds.take i).all isCnt = true ∧ ((rs.take i).zip ((ds.take i).map intD)).all (fun p => capOk p.1.2.2 p.2) = true
theorem not_at {ds : List PyData} {i : Nat} {d : PyData} (h : ds[i]? = some d) (g : isCnt d = false) : ds.all isCnt = false := by
  rw [← Bool.not_eq_true, List.all_eq_true]
  intro z
  rw [z d (List.mem_of_getElem? h)] at g
  cases g
theorem not_cap {m : Nat} {rs : List Arc} {ds : List PyData} {i : Nat} {r : Arc} {z : Int} (h : rs[i]? = some r) (g : ds[i]? = some (.int z)) (c : capOk r.2.2 z = false) : thrOk m rs (ds.map intD) = false := by
  unfold thrOk
  rw [Bool.and_eq_false_iff]
  left
  rw [← Bool.not_eq_true, List.all_eq_true]
  intro e
  have hz : (rs.zip (ds.map intD))[i]? = some (r, z) := by
    rw [List.getElem?_zip_eq_some]
    exact ⟨h, by rw [List.getElem?_map, g]; rfl⟩
  have := e _ (List.mem_of_getElem? hz)
  rw [show capOk (r, z).1.2.2 (r, z).2 = capOk r.2.2 z from rfl, c] at this
  cases this
theorem ok_lawThrough {f fW : Addr} {fd dW : FuncData} (F : Fun K "_law_is_through" "_law_is_through" sLIsThrough f fd) (T : Nat0 mg) (GW : FnOk P w K mg base CX0 1 fW dW ["thing"] (spTells K isInt)) (FW : Fun K "_law_whole" "_law_whole" sWhole fW dW) (mW : mg "_law_whole" = some (.ref fW)) (bW : Binds K dW ["thing"] []) :
    FnOk P w K mg base CX0 2 f fd ["net", "thing"] (spThr K) := by
  refine F.ok scLT (fun as H Q E h => ?_) (fun cdv A outer s H as Q E hr h => ?_)
  · obtain ⟨y, x, m, rs, d, rfl, _⟩ := h
    rfl
  · obtain ⟨y, x, m, rs, d, rfl, hN, hP, hD, k⟩ := h
    refine ⟨_, pss_cons (ps_if (PW.pt (pw_or (pt_not (pt_val (pe_callB (call_isD kit_T) (by rfl) T.isi (by decide +kernel) (pa_cons (pv 1) (pa_cons (pe_bltn (v := .ty "tuple") (by rfl) T.tuple (by decide +kernel) rfl) pa_nil)))))
          (pw_or1 (pt_cmpR op_ne (pe_callB call_len_seq (by rfl) T.len PySem.boot_len (pa_cons (pv 1) pa_nil)) (pe_callB call_len_seq (by rfl) T.len PySem.boot_len (pa_cons (pe_ix ix_tup (pv 0) pe_int (fun _ _ => rfl)) pa_nil)) (nomark _))))) (pss_one (ps_ret pe_bl)) pss_nil)
      (pss_cons (ps_set (i := 2) scLT.nd rfl (.inr rfl) (pe_op op_rep (pe_lst (pa_cons pe_int pa_nil)) (pe_ix ix_tup (pv 0) pe_int (fun _ _ => rfl))))
      (pss_cons (ps_for PassesOwn.never rfl (RZ.pi_zipA (by rfl) T.zip (pa_cons (pe_ix ix_tup (pv 0) pe_int (fun _ _ => rfl)) (pa_cons (pv 1) pa_nil))) (pg_tup rfl (pgs_cons (pg_tup rfl (pgs_cons (pg_name (i := 3) scLT.nd rfl (.inl rfl)) (pgs_cons (pg_name (i := 4) scLT.nd rfl (.inl rfl)) (pgs_cons (pg_name (i := 5) scLT.nd rfl (.inl rfl)) pgs_nil)))) (pgs_cons (pg_name (i := 6) scLT.nd rfl (.inl rfl)) pgs_nil)))
        (pss_cut (ps_if (PW.pt (pw_or (pt_not (pt_val (pe_call GW hr rfl mW FW.kp bW .nil pass0 (pa_cons (pv 6) pa_nil)))) (pw_or (pt_cmpR op_lt (pv 6) pe_int (nomark _))
          (pw_or1 (PW.pt (pw_and (pt_cmpR op_notN (pv 5) pe_non (nomark _)) (pw_and1 (pt_cmpR op_gt (pv 6) (pv 5) (nomark _))))))))) (pss_one (ps_ret pe_bl)) pss_nil)
        (pss_cons (ps_augS (pv 2) (pv 3) get_list (pv 6) ip_sub set_list) (pss_one (ps_augS (pv 2) (pv 4) get_list (pv 6) ip_add set_list)))))
      (pss_one (ps_ret (pe_cmpR (op_eqD hr.units) (pe_lc (own := [("k", 7)]) (g := gName 7) (tt := tTest (tOp _ (tOp (rIxL K) (tVar 2) (tVar 7)) (tC (V.int 0)))) rfl scLT.nd (pi_range2 (by rfl) T.range (pa_cons pe_int (pa_cons (pe_ix ix_tup (pv 0) pe_int (fun _ _ => rfl)) pa_nil)))
        (blkOk_by (N := ["net", "thing", "lack", "start", "end", "cap", "many", "k"]) (sc := defScope sLIsThrough) (by decide +kernel)) (fun _ _ _ _ _ => pg_name (i := 7) scLT.nd rfl (Or.inl rfl))
        (fun _ _ _ _ _ => by exact pts_one (pt_cmpR op_ne (pe_ix ix_list (pv 2) (pv 7) (fun _ _ => rfl)) pe_int (nomark _))) (fun _ _ _ _ _ => pv 7)) (pe_lst pa_nil) (nomark _)))))), ?_⟩
    obtain ⟨t, ra, zs, rfl, h1, h2, h3⟩ := id hN
    have lz := paired_len h3
    have l14 := hP.len
    have m7 := hP.m7
    have m2 := hP.m2
    refine ⟨_, rfl, x, d, rfl, hD, qT d, rfl, ?_⟩
    refine ite2 (fun h => ?_) (fun h => ?_)
    · have e : isThr m rs d = false := by cases d <;> first | rfl | exact absurd h Bool.false_ne_true
      rw [e] at k
      exact k H (Same.refl H)
    obtain ⟨a, xs, ds, rfl, rfl, hT, hA⟩ := dat_tup hD (by simpa using h)
    have lx := hA.len
    refine ⟨_, rfl, a, xs, rfl, .inr hT, _, rfl, t, _, 1, .ref ra, rfl, rfl, h1, at1, ra, zs, rfl, .inr h2, rfl, _, rfl, ?_⟩
    refine ite2 (fun h => ?_) (fun h => ?_)
    · have ne : ¬ ds.length = rs.length := fun z => by
        rw [lx, lz, z] at h
        simp at h
      have e : isThr m rs (.tuple ds) = false := by
        rw [isThr_tup, decide_eq_false ne]
        rfl
      rw [e] at k
      exact k H (Same.refl H)
    have eqL : ds.length = rs.length := by
      rw [lx, lz] at h
      have := (by simpa using h : (ds.length : Int) = (rs.length : Int))
      omega
    have k' : ∀ H', Same H H' → Q (.bl (ds.all isCnt && thrOk m rs (ds.map intD))) H' := fun H' M => by
      have := k H' M
      rwa [isThr_tup, decide_eq_true eqL, Bool.true_and] at this
    clear k h
    refine ⟨by show 1 ≤ sizeLine; decide, fun q hq => ⟨_, rfl, t, _, 0, _, rfl, rfl, sqt_more (same_new (Same.refl H) hq) h1, at0, q, m, _, rfl, rfl, upd_same, by omega, by omega, Nat.le_of_lt (small1000 (show 1 * (m : Int).toNat ≤ 1000 by omega)), fun p hp => ?_⟩⟩
    have M1 : Same H (upd (upd H q (.lst [.int 0])) p (.lst (List.replicate (m : Int).toNat [V.int 0]).flatten)) := same_new (same_new (Same.refl H) hq) hp
    have pn : H p = none := fr_none (same_new (Same.refl H) hq) hp
    have e1 : upd (upd H q (.lst [.int 0])) p (.lst (List.replicate (m : Int).toNat [V.int 0]).flatten) p = some (.lst ((srps m (rs.take 0) ((ds.take 0).map intD)).map V.int)) := by
      rw [upd_same, List.take_zero, List.take_zero, show ([] : List PyData).map intD = ([] : List Int).take 0 from rfl, show ([] : List Arc) = ([] : List Arc).take 0 from rfl, srps_zero, Int.toNat_natCast]
      congr 2
      rw [List.map_replicate]
      clear M1 hp k' hP hN m7 m2 h1
      induction m with
      | zero => rfl
      | succ m ih => rw [List.replicate_succ, List.flatten_cons, ih, List.replicate_succ]; rfl
    generalize upd (upd H q (.lst [.int 0])) p (.lst (List.replicate (m : Int).toNat [V.int 0]).flatten) = H1 at M1 e1 ⊢
    refine ⟨_, rfl, t, _, 1, .ref ra, rfl, rfl, sqt_more M1 h1, at1, _, rfl, ra, a, zs, xs, rfl, .inr ⟨sqt_more M1 h2, sqt_more M1 hT, ?_⟩⟩
    refine RZ.for_zipT (K := K) (a := ra) (b := a) (xs := zs) (ys := xs) (by omega) (fun i σ H' => ∃ v3 v4 v5 v6 : Option V, σ = [some (.ref t), some (.ref a), some (.ref p), v3, v4, v5, v6, none] ∧
      H' p = some (.lst ((srps m (rs.take i) ((ds.take i).map intD)).map V.int)) ∧ Upto rs ds i ∧ Same H H') ?_ ?_ ?_ ?_
    · exact ⟨none, none, none, none, rfl, e1, ⟨by rw [List.take_zero]; rfl, by rw [List.take_zero]; rfl⟩, M1⟩
    · rintro i σ H' ⟨_, _, _, _, _, _, _, M⟩
      exact ⟨sqt_more M h2, sqt_more M hT⟩
    · clear M1 e1
      rintro i x' y' T' σ H' hx hy ⟨v3, v4, v5, v6, rfl, e, U, M⟩ hT'
      obtain ⟨r, hr', q', rfl, hq'⟩ := paired_at h3 hx
      obtain ⟨dy, hdy, Dy⟩ := datA_at hA hy
      obtain ⟨b1, b2, bn, _⟩ := hP.each r (List.mem_of_getElem? hr')
      have M2 := same_new (o := .tup [.ref q', y']) M hT'
      have e2 := s3u (o := .tup [.ref q', y']) hT' e
      have et : upd H' T' (.tup [.ref q', y']) T' = some (.tup [.ref q', y']) := upd_same
      generalize upd H' T' (.tup [.ref q', y']) = H2 at M2 e2 et ⊢
      refine ⟨T', _, rfl, SqT.of et, rfl, _, _, rfl, q', _, rfl, sqt_more M2 hq', rfl, _, _, rfl, _, _, rfl, _, _, rfl, rfl, _, _, rfl, rfl, ?_⟩
      refine ⟨fun σ' H' => ∃ z : Int, dy = .int z ∧ 0 ≤ z ∧ capOk r.2.2 z = true ∧ σ' = [some (.ref t), some (.ref a), some (.ref p), some (.int r.1), some (.int r.2.1), some (capV r.2.2), some (.int z), none] ∧ H' = H2, ?_, ?_⟩
      · refine ⟨_, rfl, y', dy, rfl, Dy.more M2, _, rfl, ?_⟩
        refine ite2 (fun h => ?_) (fun h => ?_)
        · have e : ds.all isCnt = false := not_at hdy (by cases dy <;> first | rfl | exact absurd h Bool.false_ne_true)
          rw [e] at k'
          exact k' H2 M2
        obtain ⟨z, rfl⟩ := isInt_int (d := dy) (by simpa using h)
        cases dat_int Dy
        refine ⟨_, rfl, _, _, rfl, rfl, _, rfl, ?_⟩
        refine ite2 (fun h => ?_) (fun h => ?_)
        · have z0 : z < 0 := of_decide_eq_true h
          have e : ds.all isCnt = false := not_at hdy (decide_eq_false (by omega))
          rw [e] at k'
          exact k' H2 M2
        have z0 : 0 ≤ z := by
          have : ¬ z < 0 := fun g => h (decide_eq_true g)
          omega
        refine ⟨_, rfl, rfl, _, rfl, ?_⟩
        cases hc : r.2.2 with
        | none =>
          refine ite2 (fun h => absurd h (by decide)) (fun _ => ?_)
          exact ⟨z, rfl, z0, rfl, rfl, rfl⟩
        | some c =>
          refine ite2 (fun _ => ?_) (fun h => absurd rfl h)
          refine ⟨_, rfl, _, rfl, _, _, rfl, rfl, _, rfl, ?_⟩
          refine ite2 (fun h => ?_) (fun h => ?_)
          · have g : c < z := of_decide_eq_true h
            have e : thrOk m rs (ds.map intD) = false := not_cap hr' hdy (by rw [hc]; exact decide_eq_false (by omega))
            rw [e, Bool.and_false] at k'
            exact k' H2 M2
          · have g : ¬ c < z := fun g => h (decide_eq_true g)
            exact ⟨z, rfl, z0, decide_eq_true (show z ≤ c by omega), rfl, rfl⟩
      rintro σ3 H3 ⟨z, rfl, z0, hc, rfl, rfl⟩
      have hz : (ds.map intD)[i]? = some z := by rw [List.getElem?_map, hdy]; rfl
      have len : ((srps m (rs.take i) ((ds.take i).map intD)).map V.int).length = m := by rw [List.length_map, srps_len]
      have a1 : ((srps m (rs.take i) ((ds.take i).map intD)).map V.int)[r.1]? = some (.int (srp r.1 (rs.take i) ((ds.take i).map intD))) := by rw [List.getElem?_map, srps_at _ _ b1]; rfl
      have a2 : (((srps m (rs.take i) ((ds.take i).map intD)).map V.int).set r.1 (.int (srp r.1 (rs.take i) ((ds.take i).map intD) - z)))[r.2.1]? = some (.int (srp r.2.1 (rs.take i) ((ds.take i).map intD))) := by
        rw [List.getElem?_set_ne bn, List.getElem?_map, srps_at _ _ b2]
        rfl
      refine ⟨_, rfl, _, rfl, p, _, _, _, rfl, rfl, SqL.of e2, atI_nat a1, _, rfl, _, _, rfl, rfl, p, _, _, r.1, rfl, rfl, e2, ixN_nat (by rw [len]; exact b1), ?_⟩
      refine ⟨_, rfl, _, rfl, p, _, _, _, rfl, rfl, SqL.of upd_same, atI_nat a2, _, rfl, _, _, rfl, rfl, p, _, _, r.2.1, rfl, rfl, upd_same, ixN_nat (by rw [List.length_set, len]; exact b2), ?_⟩
      refine ⟨_, _, _, _, rfl, ?_, ⟨?_, ?_⟩, ?_⟩
      · rw [upd_upd, upd_same, List.map_take, List.map_take, ← srps_step hr' hz b1 b2 bn, List.map_set, List.map_set]
      · rw [List.take_succ, hdy, List.all_append, U.1]
        simp [isCnt, z0]
      · have lr : (rs.take i).length = ((ds.take i).map intD).length := by rw [List.length_map, List.length_take, List.length_take]; omega
        rw [List.take_succ, hr', List.take_succ, hdy, List.map_append, List.zip_append lr, List.all_append, U.2]
        simpa [intD] using hc
      · rw [upd_upd]
        exact same_put M2 pn
    · clear M1 e1
      rintro σ H1 ⟨v3, v4, v5, v6, rfl, e1, U, M1⟩
      have full : Upto rs ds rs.length := by rw [lz] at U; exact U
      have al : ds.all isCnt = true := by have := full.1; rwa [List.take_of_length_le (by omega)] at this
      have cp : ((rs.zip (ds.map intD)).all fun p => capOk p.1.2.2 p.2) = true := by have := full.2; rwa [List.take_length, List.take_of_length_le (by omega)] at this
      rw [List.take_of_length_le (by omega), List.take_of_length_le (by omega)] at e1
      have ek : (ds.all isCnt && thrOk m rs (ds.map intD)) = (List.range (m - 2)).all fun k => decide (srp (k + 2) rs (ds.map intD) = 0) := by
        unfold thrOk
        rw [al, cp]
        rfl
      rw [ek] at k'
      generalize ds.map intD = ts at e1 k'
      refine ⟨_, rfl, t, _, 0, _, rfl, rfl, sqt_more M1 h1, at0, 2, (m : Int), rfl, ⟨by decide, by decide, by omega, by omega⟩, fun D hD1 => ?_⟩
      have Dn := fr_none M1 hD1
      have npD : p ≠ D := fun z => by rw [z, hD1] at e1; cases e1
      refine lc_range (lo := 2) (n := ((m : Int) - 2).toNat) (fun i H' => H' D = some (.lst ((((List.range i).map fun j => (2 : Int) + (j : Nat)).filter fun j => !decide (srp j.toNat rs ts = 0)).map V.int)) ∧ Same H1 H') ?_ ?_ ?_
      · exact ⟨by rw [upd_same]; rfl, same_new (Same.refl H1) hD1⟩
      · rintro i H' hi ⟨q1, M⟩
        have hi' : 2 + i < m := by omega
        have at2 : ((srps m rs ts).map V.int)[2 + i]? = some (.int (srp (2 + i) rs ts)) := by rw [List.getElem?_map, srps_at _ _ hi']; rfl
        have ei : (2 + (i : Int)).toNat = 2 + i := by omega
        refine ⟨rfl, _, rfl, _, rfl, p, _, _, _, rfl, rfl, SqL.of (M _ _ e1), by rw [show (2 + (i : Int)) = ((2 + i : Nat) : Int) by omega]; exact atI_nat at2, rfl, _, rfl, ?_⟩
        have nxt : ((List.range (i + 1)).map fun j => (2 : Int) + (j : Nat)).filter (fun j => !decide (srp j.toNat rs ts = 0)) = ((List.range i).map fun j => (2 : Int) + (j : Nat)).filter (fun j => !decide (srp j.toNat rs ts = 0)) ++ (if srp (2 + i) rs ts = 0 then [] else [2 + (i : Int)]) := by
          rw [List.range_succ, List.map_append, List.filter_append]
          congr 1
          show List.filter _ [2 + (i : Int)] = _
          by_cases z : srp (2 + i) rs ts = 0
          · simp [ei, z]
          · simp [ei, z]
        refine ite2 (fun h => ?_) (fun h => ?_)
        · have z : ¬ srp (2 + i) rs ts = 0 := fun z => by rw [z] at h; exact absurd h (by decide)
          refine ⟨_, rfl, _, q1, ?_, ?_, same_put M hD1⟩
          · rw [List.length_map]
            refine Nat.lt_of_le_of_lt (List.length_filter_le _ _) ?_
            rw [List.length_map, List.length_range]
            exact small1000 (by omega)
          · rw [upd_same, nxt, if_neg z, List.map_append]
            rfl
        · have z : srp (2 + i) rs ts = 0 := by
            have := (by simpa using h : V.int (srp (2 + i) rs ts) = V.int 0)
            injection this
          refine ⟨?_, M⟩
          rw [nxt, if_pos z, List.append_nil]
          exact q1
      · rintro H2 ⟨q1, M⟩
        refine ⟨by show 0 ≤ sizeLine; decide, fun e he => ?_⟩
        refine ⟨.list (List.map PyData.int _), .list [], .lst (SqL.of (s3u he q1)) (dpI _), .lst (SqL.of upd_same) .nil, shpI _, by decide +kernel, ?_⟩
        rw [emptyI]
        have eb : decide (((List.range ((m : Int) - 2).toNat).map fun j => (2 : Int) + (j : Nat)).filter (fun j => !decide (srp j.toNat rs ts = 0)) = []) = (List.range (m - 2)).all fun k => decide (srp (k + 2) rs ts = 0) := by
          rw [show ((m : Int) - 2).toNat = m - 2 by omega]
          rw [Bool.eq_iff_iff, decide_eq_true_eq, List.filter_eq_nil_iff, List.all_eq_true]
          constructor
          · intro g j hj
            have := g (2 + (j : Int)) (List.mem_map.mpr ⟨j, hj, rfl⟩)
            rw [show (2 + (j : Int)).toNat = j + 2 by omega] at this
            simpa using this
          · intro g j hj
            obtain ⟨i, hi, rfl⟩ := List.mem_map.mp hj
            have := g i hi
            rw [show (2 + (i : Int)).toNat = i + 2 by omega]
            simpa using this
        rw [eb]
        exact k' _ (same_new (M1.trans M) he)
end
end Y

/-! OJ: _law_net. -/
namespace Y
open PySem PySem.Spec PyProof.Rows L2 Ns
open C8 (pss_cut)
/-- an arc of a net with m numbers -/
def ArcP (m : Nat) (a : Arc) : Prop := a.1 < m ∧ a.2.1 < m ∧ a.1 ≠ a.2.1 ∧ ∀ c, a.2.2 = some c → 0 ≤ c ∧ c ≤ 10 ^ 12
/-- an arc's tuple, apart from the bag -/
def ArcT (H : Hp) (b : Addr) (t : Addr) (a : Arc) : Prop := t ≠ b ∧ H t = some (.tup [.int a.1, .int a.2.1, capV a.2.2])
theorem arcT_sb {b : Addr} {H H' : Hp} (s : Sb b H H') {ts : List Addr} {as : List Arc} (h : Paired (ArcT H b) ts as) : Paired (ArcT H' b) ts as := paired_imp (fun t a ⟨n, e⟩ => ⟨n, s.get e n⟩) h
theorem arcs_of {K : PySem.W.Frag} {H : Hp} {b : Addr} : ∀ {ts : List Addr} {as : List Arc}, Paired (ArcT H b) ts as → Paired (ArcV K (wo H b)) (ts.map V.ref) as
  | _, _, .nil => .nil
  | _, _, .cons h t => .cons ⟨_, rfl, sqt_new h.2 h.1⟩ (arcs_of t)
def spNet (K : PySem.W.Frag) : Sp := fun as H Q _ => ∃ (b : Addr), as = [.ref b] ∧ Bag H b ∧ ∀ (y : V) (m : Nat) (rs : List Arc) (H' : Hp), NetP m rs → NetV K (wo H' b) y m rs → Bag H' b → Sb b H H' → Q y H'
/-- amid the loop -/
def NtI (H : Hp) (b A : Addr) (m i : Nat) (H' : Hp) : Prop := ∃ (ts : List Addr) (rs : List Arc), H' A = some (.lst (ts.map V.ref)) ∧ Paired (ArcT H' b) ts rs ∧ rs.length ≤ i ∧ (∀ a ∈ rs, ArcP m a) ∧ Bag H' b ∧ Sb b H H'
theorem NtI.sb {H H' H'' : Hp} {b A : Addr} {m i : Nat} (h : NtI H b A m i H') (n : A ≠ b) (B : Bag H'' b) (s : Sb b H' H'') : NtI H b A m i H'' := by
  obtain ⟨ts, rs, e, p, l, q, _, s0⟩ := h
  exact ⟨ts, rs, s.get e n, arcT_sb s p, l, q, B, s0.trans s⟩
theorem NtI.bag {H H' : Hp} {b A : Addr} {m i : Nat} (h : NtI H b A m i H') : Bag H' b := by
  obtain ⟨_, _, _, _, _, _, B, _⟩ := h
  exact B
theorem NtI.up {H H' : Hp} {b A : Addr} {m i : Nat} (h : NtI H b A m i H') : NtI H b A m (i + 1) H' := by
  obtain ⟨ts, rs, e, p, l, r⟩ := h
  exact ⟨ts, rs, e, p, Nat.le_succ_of_le l, r⟩
section
variable {P : Program} {w : World} {K : PySem.W.Frag} {mg : Str → Option Value} {base : Heap}
theorem scNt : FnScope ["bag", "many", "most", "arcs", "k", "start", "end", "cap"] ["bag"] (defScope sNet) := ⟨rfl, rfl, rfl, by decide +kernel, rfl, by decide +kernel, by decide +kernel⟩
theorem ok_net {f fT fS fZ : Addr} {fd dT dS dZ : FuncData} (F : Fun K "_law_net" "_law_net" sNet f fd) (T : Nat0 mg) (FT : Fun K "_law_take" "_law_take" sTake fT dT) (mT : mg "_law_take" = some (.ref fT)) (bT : Binds K dT ["bag", "many"] [])
    (FS : Fun K "_law_some" "_law_some" sSome fS dS) (mS : mg "_law_some" = some (.ref fS)) (bS : Binds K dS ["bag", "things"] [])
    (FZ : Fun K "_law_size" "_law_size" sSize fZ dZ) (mZ : mg "_law_size" = some (.ref fZ)) (bZ : Binds K dZ ["bag", "most"] []) : FnOk P w K mg base CX0 4 f fd ["bag"] (spNet K) := by
  have GT : FnOk P w K mg base CX0 1 fT dT ["bag", "many"] spTake := ok_take FT T
  have GS : FnOk P w K mg base CX0 2 fS dS ["bag", "things"] (spSome K) := ok_some FS T FT mT bT
  have GZ : FnOk P w K mg base CX0 3 fZ dZ ["bag", "most"] spSize := ok_size FZ T FT mT bT FS mS bS
  refine F.ok scNt (fun as H Q E h => ?_) (fun cdv A outer s H as Q E hr h => ?_)
  · obtain ⟨b, rfl, _⟩ := h
    rfl
  · obtain ⟨b, rfl, hB, k⟩ := h
    have hr1 : Room 1 _ := hr.mono (by decide)
    have hr2 : Room 2 _ := hr.mono (by decide)
    refine ⟨_, pss_cut (ps_set (i := 1) scNt.nd rfl (.inl rfl) (pe_op op_add pe_int (pe_call GT hr1 rfl mT FT.kp bT .nil pass0 (pa_cons (pv 0) (pa_cons pe_int pa_nil)))))
      (pss_cons (ps_par (i := 2) (j := 3) rfl scNt.nd rfl rfl (by decide) rfl rfl (pa_cons (pe_call GS hr2 rfl mS FS.kp bS .nil pass0 (pa_cons (pv 0) (pa_cons (pe_lst (pa_cons pe_int (pa_cons pe_int (pa_cons (pe_op op_sub (pe_op op_pow pe_int pe_int) pe_int) pa_nil)))) pa_nil))) (pa_cons (pe_lst pa_nil) pa_nil)) (by rfl))
      (pss_cons (ps_for PassesOwn.never rfl (pi_range1 (by rfl) T.range (pa_cons (pe_call GS hr2 rfl mS FS.kp bS .nil pass0 (pa_cons (pv 0) (pa_cons (pe_lst (pa_cons pe_int (pa_cons pe_int (pa_cons pe_int (pa_cons pe_int (pa_cons pe_int pa_nil)))))) pa_nil))) pa_nil)) (pg_name (i := 4) scNt.nd rfl (.inl rfl))
        (pss_cons (ps_par (i := 5) (j := 6) rfl scNt.nd rfl rfl (by decide) rfl rfl (pa_cons (pe_call GT hr1 rfl mT FT.kp bT .nil pass0 (pa_cons (pv 0) (pa_cons (pv 1) pa_nil))) (pa_cons (pe_call GT hr1 rfl mT FT.kp bT .nil pass0 (pa_cons (pv 0) (pa_cons (pv 1) pa_nil))) pa_nil)) (by rfl))
        (pss_cut (ps_if (pt_cmpR op_eq (pe_call GT hr1 rfl mT FT.kp bT .nil pass0 (pa_cons (pv 0) (pa_cons pe_int pa_nil))) pe_int (nomark _))
          (pss_one (ps_par (i := 5) (j := 6) rfl scNt.nd rfl rfl (by decide) rfl rfl (pa_cons (pe_callB (call_min2 rfl) (by rfl) T.min (by decide +kernel) (pa_cons (pv 5) (pa_cons (pv 6) pa_nil))) (pa_cons (pe_callB (call_max2 rfl) (by rfl) T.max (by decide +kernel) (pa_cons (pv 5) (pa_cons (pv 6) pa_nil))) pa_nil)) (by rfl))) pss_nil)
        (pss_cut (ps_if (pt_cmpR op_eq (pe_call GT hr1 rfl mT FT.kp bT .nil pass0 (pa_cons (pv 0) (pa_cons pe_int pa_nil))) pe_int (nomark _)) (pss_one (ps_set (i := 6) scNt.nd rfl (.inl rfl) pe_int)) pss_nil)
        (pss_one (ps_if (pt_cmpR op_ne (pv 5) (pv 6) (nomark _))
          (pss_cut (ps_set (i := 7) scNt.nd rfl (.inl rfl) (pe_ifExp (PW.pt (pw_and (pt_cmpR op_ne (pv 5) pe_int (nomark _)) (pw_and1 (pt_cmpR op_eq (pe_call GT hr1 rfl mT FT.kp bT .nil pass0 (pa_cons (pv 0) (pa_cons pe_int pa_nil))) pe_int (nomark _)))))
            pe_non (pe_call GZ hr rfl mZ FZ.kp bZ .nil pass0 (pa_cons (pv 0) (pa_cons (pv 2) pa_nil)))))
          (pss_one (ps_expr (pe_bm PySem.F.plainAttrs_list PySem.F.slot_list_append PySem.F.type_list_append mt_append (pv 3) (pa_cons (pe_tup (pa_cons (pv 5) (pa_cons (pv 6) (pa_cons (pv 7) pa_nil)))) pa_nil))))) pss_nil))))))
      (pss_one (ps_ret (pe_tup (pa_cons (pv 1) (pa_cons (pe_callTy call_tuple_of (by rfl) T.tuple (by decide +kernel) (pa_cons (pv 3) pa_nil)) pa_nil))))))), ?_⟩
    refine ⟨fun σ' H' => ∃ m : Nat, 2 ≤ m ∧ m ≤ 7 ∧ σ' = [some (.ref b), some (.int m), none, none, none, none, none, none] ∧ Bag H' b ∧ Sb b H H', ?_, ?_⟩
    · refine ⟨_, rfl, b, 6, rfl, hB, by decide, by decide, fun v H1 v0 v1 B1 s1 => ⟨2, v, rfl, rfl, ?_⟩⟩
      obtain ⟨m, em⟩ : ∃ m : Nat, (2 : Int) + v = (m : Int) := ⟨(2 + v).toNat, by omega⟩
      refine ⟨m, by omega, by omega, ?_, B1, s1⟩
      show [some (V.ref b), some (.int (2 + v)), none, none, none, none, none, none] = _
      rw [em]
    rintro σ1 H1 ⟨m, m2, m7, rfl, B1, s1⟩
    refine ⟨_, rfl, _, _, rfl, rfl, ⟨by decide, by decide, by decide⟩, _, _, rfl, rfl, by show 3 ≤ sizeLine; decide, fun q hq => ⟨b, q, _, rfl, B1.new hq, sql_new upd_same (B1.ne hq), (fun z => nomatch z), by show 3 ≤ 1000000; decide, fun x H2 hx B2 s2' => ?_⟩⟩
    obtain ⟨mo, rfl, mo0, mo1⟩ : ∃ mo : Int, x = .int mo ∧ 0 ≤ mo ∧ mo ≤ 10 ^ 12 := by
      simp only [List.mem_cons, List.not_mem_nil, or_false] at hx
      rcases hx with rfl | rfl | rfl
      · exact ⟨_, rfl, by decide, by decide⟩
      · exact ⟨_, rfl, by decide, by decide⟩
      · exact ⟨_, rfl, by decide, by decide⟩
    have s2 := (s1.new hq).trans s2'
    clear hx s2' hq B1 s1
    refine ⟨by show 0 ≤ sizeLine; decide, fun A hA => ⟨_, _, rfl, ?_⟩⟩
    have nA := B2.ne hA
    have I3 : NtI H b A m 0 (upd H2 A (.lst [])) := ⟨[], [], upd_same, .nil, Nat.le_refl _, (fun _ z => nomatch z), B2.new hA, s2.new hA⟩
    have An : H A = none := s2.free hA nA
    generalize upd H2 A (.lst []) = H3 at I3 ⊢
    clear B2 s2 hA
    refine ⟨_, rfl, by show 5 ≤ sizeLine; decide, fun q hq => ⟨b, q, _, rfl, I3.bag.new hq, sql_new upd_same (I3.bag.ne hq), (fun z => nomatch z), by show 5 ≤ 1000000; decide, fun x H4 hx B4 s4 => ?_⟩⟩
    obtain ⟨n, rfl, n14⟩ : ∃ n : Nat, x = .int n ∧ n ≤ 14 := by
      simp only [List.mem_cons, List.not_mem_nil, or_false] at hx
      rcases hx with rfl | rfl | rfl | rfl | rfl
      · exact ⟨2, rfl, by decide⟩
      · exact ⟨5, rfl, by decide⟩
      · exact ⟨9, rfl, by decide⟩
      · exact ⟨14, rfl, by decide⟩
      · exact ⟨0, rfl, by decide⟩
    have I4 : NtI H b A m 0 H4 := I3.sb nA B4 (((Sb.refl b H3).new hq).trans s4)
    clear I3 hx hq B4 s4
    have big : ((m : Int)).natAbs < 2 ^ 200 := Nat.lt_of_le_of_lt (show ((m : Int)).natAbs ≤ 7 by omega) (by decide)
    refine ⟨n, rfl, by omega, by omega, for_range (n := ((n : Int)).toNat) (fun i σ H' => ∃ v4 v5 v6 v7 : Option V, σ = [some (.ref b), some (.int m), some (.int mo), some (.ref A), v4, v5, v6, v7] ∧ NtI H b A m i H') ?_ ?_ ?_⟩
    · exact ⟨none, none, none, none, rfl, I4⟩
    · clear I4
      rintro i σ H5 hi ⟨v4, v5, v6, v7, rfl, I5⟩
      refine ⟨_, rfl, _, rfl, b, m, rfl, I5.bag, by omega, big, fun s0 H6 s0a s0b B6 s6 => ⟨_, rfl, _, rfl, b, m, rfl, B6, by omega, big, fun e0 H7 e0a e0b B7 s7 => ⟨_, _, rfl, ?_⟩⟩⟩
      have I7 : NtI H b A m i H7 := I5.sb nA B7 (s6.trans s7)
      clear I5 B6 s6 B7 s7
      refine ⟨fun σ' H' => ∃ s e : Nat, s < m ∧ e < m ∧ σ' = [some (.ref b), some (.int m), some (.int mo), some (.ref A), some (.int (0 + (i : Int))), some (.int s), some (.int e), v7] ∧ NtI H b A m i H', ?_, ?_⟩
      · refine ⟨_, rfl, b, 3, rfl, I7.bag, by decide, by decide, fun z H8 _ _ B8 s8 => ⟨rfl, _, rfl, ?_⟩⟩
        have I8 := I7.sb nA B8 s8
        refine ite2 (fun _ => ?_) (fun _ => ?_)
        · refine ⟨_, rfl, _, rfl, s0, e0, rfl, _, rfl, _, rfl, s0, e0, rfl, _, _, rfl, ?_⟩
          refine ⟨(if e0 < s0 then e0 else s0).toNat, (if e0 > s0 then e0 else s0).toNat, ?_, ?_, ?_, I8⟩
          · split <;> omega
          · split <;> omega
          · rw [Int.toNat_of_nonneg (by split <;> omega), Int.toNat_of_nonneg (by split <;> omega)]
            rfl
        · exact ⟨s0.toNat, e0.toNat, by omega, by omega, by rw [Int.toNat_of_nonneg s0a, Int.toNat_of_nonneg e0a]; rfl, I8⟩
      clear I7
      rintro σ8 H8 ⟨s, e, hs, he, rfl, I8⟩
      refine ⟨fun σ' H' => ∃ e : Nat, e < m ∧ σ' = [some (.ref b), some (.int m), some (.int mo), some (.ref A), some (.int (0 + (i : Int))), some (.int s), some (.int e), v7] ∧ NtI H b A m i H', ?_, ?_⟩
      · refine ⟨_, rfl, b, 4, rfl, I8.bag, by decide, by decide, fun z H9 _ _ B9 s9 => ⟨rfl, _, rfl, ?_⟩⟩
        have I9 := I8.sb nA B9 s9
        refine ite2 (fun _ => ?_) (fun _ => ?_)
        · exact ⟨1, by omega, rfl, I9⟩
        · exact ⟨e, he, rfl, I9⟩
      clear I8 he e
      rintro σ9 H9 ⟨e, he, rfl, I9⟩
      refine ⟨_, rfl, _, rfl, rfl, _, rfl, ?_⟩
      refine ite2 (fun h => ?_) (fun _ => ⟨_, _, _, _, rfl, I9.up⟩)
      have ne : s ≠ e := fun z => by rw [z] at h; simp at h
      refine ⟨fun σ' H' => ∃ c : Option Int, (∀ x, c = some x → 0 ≤ x ∧ x ≤ 10 ^ 12) ∧ σ' = [some (.ref b), some (.int m), some (.int mo), some (.ref A), some (.int (0 + (i : Int))), some (.int s), some (.int e), some (capV c)] ∧ NtI H b A m i H', ?_, ?_⟩
      · have none_ : ∀ H', NtI H b A m i H' → ∃ c : Option Int, (∀ x, c = some x → 0 ≤ x ∧ x ≤ 10 ^ 12) ∧ [some (V.ref b), some (.int m), some (.int mo), some (.ref A), some (.int (0 + (i : Int))), some (.int s), some (.int e), some .non] = [some (.ref b), some (.int m), some (.int mo), some (.ref A), some (.int (0 + (i : Int))), some (.int s), some (.int e), some (capV c)] ∧ NtI H b A m i H' := fun H' I => ⟨none, (fun _ z => nomatch z), rfl, I⟩
        refine ⟨_, rfl, rfl, _, rfl, ?_⟩
        have sz : ∀ H', NtI H b A m i H' → ∀ (v : Int) (H'' : Hp), 0 ≤ v → v ≤ mo → Bag H'' b → Sb b H' H'' → ∃ c : Option Int, (∀ x, c = some x → 0 ≤ x ∧ x ≤ 10 ^ 12) ∧ [some (V.ref b), some (.int m), some (.int mo), some (.ref A), some (.int (0 + (i : Int))), some (.int s), some (.int e), some (.int v)] = [some (.ref b), some (.int m), some (.int mo), some (.ref A), some (.int (0 + (i : Int))), some (.int s), some (.int e), some (capV c)] ∧ NtI H b A m i H'' := fun H' I v H'' h0 h1 B s => ⟨some v, fun x z => by cases z; exact ⟨h0, by omega⟩, rfl, I.sb nA B s⟩
        refine ite2 (fun _ => ?_) (fun _ => ?_)
        · refine ⟨_, rfl, b, 5, rfl, I9.bag, by decide, by decide, fun z HA _ _ BA sA => ⟨rfl, _, rfl, ?_⟩⟩
          have IA := I9.sb nA BA sA
          refine ite2 (fun _ => none_ _ IA) (fun _ => ?_)
          exact ⟨_, rfl, _, rfl, b, mo, rfl, IA.bag, mo0, by omega, fun v H' h0 h1 B s => sz _ IA v H' h0 h1 B s⟩
        · exact ⟨_, rfl, _, rfl, b, mo, rfl, I9.bag, mo0, by omega, fun v H' h0 h1 B s => sz _ I9 v H' h0 h1 B s⟩
      clear I9
      rintro σA HA ⟨c, hc, rfl, ts, rs, eA, pA, lA, qA, BA, sA⟩
      have lt := paired_len pA
      refine ⟨_, rfl, .inl ⟨rfl, _, SqL.of eA⟩, _, rfl, _, rfl, _, rfl, by show 3 ≤ sizeLine; decide, fun t ht => ⟨A, _, _, rfl, rfl, s3u ht eA, ?_, ⟨_, _, _, _, rfl, ?_⟩⟩⟩
      · rw [List.length_map]
        exact small1000 (by omega)
      have nt : t ≠ A := fun z => by rw [z, eA] at ht; cases ht
      have ntb := BA.ne ht
      refine ⟨ts ++ [t], rs ++ [(s, e, c)], by rw [upd_same, List.map_append]; rfl, ?_, by rw [List.length_append]; show _ + 1 ≤ _; omega, fun a ha => ?_, hB.wr An (sA.new ht) (BA.new ht), (sA.new ht).wr An⟩
      · refine paired_snoc ⟨ntb, by rw [upd_ne nt, upd_same]⟩ (paired_imp (fun t0 r h => ?_) pA)
        have n0 : t0 ≠ A := fun z => by
          have h2 := h.2
          rw [z, eA] at h2
          cases h2
        exact ⟨h.1, by rw [upd_ne n0]; exact s3u ht h.2⟩
      · rcases List.mem_append.mp ha with z | z
        · exact qA a z
        · rw [List.mem_singleton.mp z]
          exact ⟨hs, he, ne, hc⟩
    · clear I4
      rintro σ H5 ⟨v4, v5, v6, v7, rfl, ts, rs, eA, pA, lA, qA, BA, sA⟩
      refine ⟨_, rfl, _, rfl, A, _, rfl, .inl ⟨SqL.of eA, fun l hl => ⟨by show 2 ≤ sizeLine; decide, fun t ht => ?_⟩⟩⟩
      have M1 := same_new (o := .tup (ts.map V.ref)) (Same.refl H5) hl
      have M2 := same_new (o := .tup [.int m, .ref l]) M1 ht
      have B6 := (BA.new (o := .tup (ts.map V.ref)) hl)
      refine k (.ref t) m rs _ ⟨m2, m7, by omega, qA⟩ ⟨t, l, ts.map V.ref, rfl, sqt_new upd_same (B6.ne ht), sqt_new (s3u ht upd_same) (BA.ne hl), ?_⟩ (B6.new ht) (sA.same M2)
      exact arcs_more (arcs_of pA) (wo_same M2)
end
end Y

/-! OK: _law_room. -/
namespace Y
open PySem PySem.Spec PyProof.Rows L2 Ns
open C8 (pss_cut)
/-- a row of what can still go: from, to, how much, the arc, whether onwards -/
abbrev Rw := Nat × Nat × Int × Nat × Bool
def rwV (r : Rw) : List V := [.int r.1, .int r.2.1, .int r.2.2.1, .int r.2.2.2.1, .bl r.2.2.2.2]
def RwT (H : Hp) (t : Addr) (r : Rw) : Prop := H t = some (.tup (rwV r))
def RwP (m n : Nat) (B : Int) (r : Rw) : Prop := r.1 < m ∧ r.2.1 < m ∧ 0 < r.2.2.1 ∧ r.2.2.1 ≤ B ∧ r.2.2.2.1 < n
theorem rwT_more {H H' : Hp} (s : Same H H') {ts : List Addr} {rs : List Rw} (h : Paired (RwT H) ts rs) : Paired (RwT H') ts rs := paired_imp (fun t r e => s _ _ e) h
theorem rwT_put {H : Hp} {a : Addr} {o u : HO} (ha : H a = some u) (hn : ∀ xs, u ≠ .tup xs) {ts : List Addr} {rs : List Rw} (h : Paired (RwT H) ts rs) : Paired (RwT (upd H a o)) ts rs := paired_imp (fun t r e => by
  have n : t ≠ a := fun z => by
    have e' : H t = some (.tup (rwV r)) := e
    rw [z, ha] at e'
    exact hn _ (Option.some.inj e')
  exact (upd_ne n).trans e) h
def spRoom (K : PySem.W.Frag) : Sp := fun as H Q _ => ∃ (y : V) (a : Addr) (m : Nat) (rs : List Arc) (ts : List Int) (B : Int), as = [y, .ref a] ∧ NetV K H y m rs ∧ NetP m rs ∧ SqT K H a (ts.map V.int) ∧ ts.length = rs.length ∧ (∀ t ∈ ts, t ≤ B ∧ -B ≤ t) ∧ 0 ≤ B ∧
  ∀ (p : Addr) (us : List Addr) (ws : List Rw) (H' : Hp), H' p = some (.lst (us.map V.ref)) → Paired (RwT H') us ws → (∀ r ∈ ws, RwP m rs.length (10 ^ 30 + B) r) → ws.length ≤ 28 → H p = none → Same H H' → Q (.ref p) H'
section
variable {P : Program} {w : World} {K : PySem.W.Frag} {mg : Str → Option Value} {base : Heap}
theorem scRo : FnScope ["net", "through", "found", "at", "start", "end", "cap", "most"] ["net", "through"] (defScope sRoom) := ⟨rfl, rfl, rfl, by decide +kernel, rfl, by decide +kernel, by decide +kernel⟩
theorem ok_room {f : Addr} {fd : FuncData} (F : Fun K "_law_room" "_law_room" sRoom f fd) (T : Nat0 mg) (hE : mg "enumerate" = none) : FnOk P w K mg base CX0 1 f fd ["net", "through"] (spRoom K) := by
  refine F.ok scRo (fun as H Q E h => ?_) (fun cdv A outer s H as Q E hr h => ?_)
  · obtain ⟨y, a, m, rs, ts, B, rfl, _⟩ := h
    rfl
  · obtain ⟨y, a, m, rs, ts, B, rfl, hN, hP, hT, hl, hB, hB0, k⟩ := h
    refine ⟨_, pss_cons (ps_set (i := 2) scRo.nd rfl (.inl rfl) (pe_lst pa_nil))
      (pss_cons (ps_for PassesOwn.never rfl (pi_enumT (by rfl) hE (pa_cons (pe_ix ix_tup (pv 0) pe_int (fun _ _ => rfl)) pa_nil)) (pg_tup rfl (pgs_cons (pg_name (i := 3) scRo.nd rfl (.inl rfl)) (pgs_cons (pg_tup rfl (pgs_cons (pg_name (i := 4) scRo.nd rfl (.inl rfl)) (pgs_cons (pg_name (i := 5) scRo.nd rfl (.inl rfl)) (pgs_cons (pg_name (i := 6) scRo.nd rfl (.inl rfl)) pgs_nil)))) pgs_nil)))
        (pss_cut (ps_set (i := 7) scRo.nd rfl (.inl rfl) (pe_ifExp (pt_cmpR op_isN (pv 6) pe_non (nomark _)) (pe_op op_pow pe_int pe_int) (pe_op op_sub (pv 6) (pe_ix ix_tup (pv 1) (pv 3) (fun _ _ => rfl)))))
        (pss_cut (ps_expr (pe_bm PySem.F.plainAttrs_list PySem.F.slot_list_extend PySem.F.type_list_extend mt_extend (pv 2) (pa_cons (pe_ifExp (pt_cmpR op_gt (pv 7) pe_int (nomark _)) (pe_lst (pa_cons (pe_tup (pa_cons (pv 4) (pa_cons (pv 5) (pa_cons (pv 7) (pa_cons (pv 3) (pa_cons pe_bl pa_nil)))))) pa_nil)) (pe_lst pa_nil)) pa_nil)))
        (pss_one (ps_expr (pe_bm PySem.F.plainAttrs_list PySem.F.slot_list_extend PySem.F.type_list_extend mt_extend (pv 2) (pa_cons (pe_ifExp (pt_cmpR op_gt (pe_ix ix_tup (pv 1) (pv 3) (fun _ _ => rfl)) pe_int (nomark _)) (pe_lst (pa_cons (pe_tup (pa_cons (pv 5) (pa_cons (pv 4) (pa_cons (pe_ix ix_tup (pv 1) (pv 3) (fun _ _ => rfl)) (pa_cons (pv 3) (pa_cons pe_bl pa_nil)))))) pa_nil)) (pe_lst pa_nil)) pa_nil)))))))
      (pss_one (ps_ret (pv 2)))), ?_⟩
    obtain ⟨t, ra, zs, rfl, h1, h2, h3⟩ := id hN
    have lz := paired_len h3
    have l14 := hP.len
    refine ⟨by show 0 ≤ sizeLine; decide, fun p hp => ?_⟩
    have M0 : Same H (upd H p (.lst [])) := same_new (Same.refl H) hp
    have e0 : upd H p (.lst []) p = some (.lst []) := upd_same
    have hp' := hp
    generalize upd H p (.lst []) = H0 at M0 e0 ⊢
    -- what is found so far
    refine ⟨_, rfl, t, _, 1, .ref ra, rfl, rfl, sqt_more M0 h1, at1, ra, zs, rfl, sqt_more M0 h2, ?_⟩
    refine for_it (walk_enumT (K := K) (a := ra) (xs := zs)) (fun i σ H' => ∃ (v3 v4 v5 v6 v7 : Option V) (us : List Addr) (ws : List Rw), σ = [some (.ref t), some (.ref a), some (.ref p), v3, v4, v5, v6, v7] ∧
      H' p = some (.lst (us.map V.ref)) ∧ Paired (RwT H') us ws ∧ (∀ r ∈ ws, RwP m rs.length (10 ^ 30 + B) r) ∧ ws.length ≤ 2 * i ∧ Same H H') ?_ ?_ ?_ ?_
    · exact ⟨none, none, none, none, none, [], [], rfl, e0, .nil, (fun _ z => nomatch z), Nat.le_refl _, M0⟩
    · rintro i σ H' _ ⟨_, _, _, _, _, _, _, _, _, _, _, _, M⟩
      exact sqt_more M h2
    · clear M0 e0
      rintro i x σ H' H'' hi ⟨v3, v4, v5, v6, v7, us, ws, rfl, e, pw, qw, lw, M⟩ ⟨T', x', y', rfl, fT, rfl, hx, hy⟩
      cases (Option.some.inj hx)
      obtain ⟨r, hr', q', rfl, hq'⟩ := paired_at h3 hy
      obtain ⟨b1, b2, bn, bc⟩ := hP.each r (List.mem_of_getElem? hr')
      have hi' : i < rs.length := by omega
      obtain ⟨z, hz⟩ : ∃ z, ts[i]? = some z := ⟨_, List.getElem?_eq_getElem (by omega)⟩
      have hzV : (ts.map V.int)[i]? = some (.int z) := by rw [List.getElem?_map, hz]; rfl
      obtain ⟨zb1, zb2⟩ := hB z (List.mem_of_getElem? hz)
      have M2 := same_new (o := .tup [.int (i : Nat), .ref q']) M fT
      have e2 := s3u (o := .tup [.int (i : Nat), .ref q']) fT e
      have p2 := rwT_more (same_new (o := .tup [.int (i : Nat), .ref q']) (Same.refl H') fT) pw
      have et : upd H' T' (.tup [.int (i : Nat), .ref q']) T' = some (.tup [.int (i : Nat), .ref q']) := upd_same
      generalize upd H' T' (.tup [.int (i : Nat), .ref q']) = H2 at M2 e2 p2 et ⊢
      refine ⟨T', _, rfl, SqT.of et, rfl, _, _, rfl, _, _, rfl, q', _, rfl, sqt_more M2 hq', rfl, _, _, rfl, _, _, rfl, _, _, rfl, rfl, rfl, ?_⟩
      refine ⟨fun σ' H' => ∃ mo : Int, mo ≤ 10 ^ 30 + B ∧ σ' = [some (.ref t), some (.ref a), some (.ref p), some (.int (i : Nat)), some (.int r.1), some (.int r.2.1), some (capV r.2.2), some (.int mo)] ∧ H' = H2, ?_, ?_⟩
      · refine ⟨_, rfl, rfl, _, rfl, ?_⟩
        cases hc : r.2.2 with
        | none =>
          refine ite2 (fun _ => ?_) (fun h => absurd rfl h)
          refine ⟨10, 30, rfl, rfl, ⟨by decide, by decide, by decide⟩, 10 ^ 30, ?_, rfl, rfl⟩
          have : (0 : Int) ≤ B := hB0
          omega
        | some c =>
          refine ite2 (fun h => absurd h (by show ¬ (decide (V.int c = V.non) = true); simp)) (fun _ => ?_)
          obtain ⟨c0, c1⟩ := bc c hc
          refine ⟨_, rfl, _, rfl, _, rfl, a, _, _, _, rfl, rfl, sqt_more M2 hT, atI_nat hzV, c, z, rfl, rfl, c - z, ?_, rfl, rfl⟩
          omega
      rintro σ3 H3 ⟨mo, hmo, rfl, rfl⟩
      have step : ∀ (H3 : Hp) (us3 : List Addr) (ws3 : List Rw) (g : Rw), H3 p = some (.lst (us3.map V.ref)) → Paired (RwT H3) us3 ws3 → (∀ r ∈ ws3, RwP m rs.length (10 ^ 30 + B) r) → Same H H3 → ws3.length ≤ 28 → RwP m rs.length (10 ^ 30 + B) g →
          ∀ t3, H3 t3 = none → ∀ q3, upd H3 t3 (.tup (rwV g)) q3 = none → (us3.map V.ref).length + [V.ref t3].length ≤ sizeLine ∧ upd (upd H3 t3 (.tup (rwV g))) q3 (.lst [.ref t3]) p = some (.lst (us3.map V.ref)) ∧
            upd (upd (upd H3 t3 (.tup (rwV g))) q3 (.lst [.ref t3])) p (.lst (us3.map V.ref ++ [.ref t3])) p = some (.lst ((us3 ++ [t3]).map V.ref)) ∧ Paired (RwT (upd (upd (upd H3 t3 (.tup (rwV g))) q3 (.lst [.ref t3])) p (.lst (us3.map V.ref ++ [.ref t3])))) (us3 ++ [t3]) (ws3 ++ [g]) ∧
            (∀ r ∈ ws3 ++ [g], RwP m rs.length (10 ^ 30 + B) r) ∧ Same H (upd (upd (upd H3 t3 (.tup (rwV g))) q3 (.lst [.ref t3])) p (.lst (us3.map V.ref ++ [.ref t3]))) := by
        intro H3 us3 ws3 g e3 p3 q3' M3 l3 hg t3 ht3 q3 hq3
        have lu := paired_len p3
        have N1 := same_new (o := .tup (rwV g)) (Same.refl H3) ht3
        have N2 := same_new (o := .lst [.ref t3]) N1 hq3
        refine ⟨by rw [List.length_map, sizeLine_eq]; show _ + 1 ≤ _; omega, N2 _ _ e3, by rw [upd_same, List.map_append]; rfl, ?_, fun r hr => ?_, same_put (M3.trans N2) hp'⟩
        · refine rwT_put (N2 _ _ e3) (fun xs z => nomatch z) (paired_snoc ?_ (rwT_more N2 p3))
          exact s3u hq3 upd_same
        · rcases List.mem_append.mp hr with z | z
          · exact q3' r z
          · rw [List.mem_singleton.mp z]; exact hg
      have none_ : ∀ (H3 : Hp) (us3 : List Addr) (ws3 : List Rw), H3 p = some (.lst (us3.map V.ref)) → Paired (RwT H3) us3 ws3 → Same H H3 → ws3.length ≤ 28 →
          ∀ q3, H3 q3 = none → (us3.map V.ref).length + ([] : List V).length ≤ sizeLine ∧ upd H3 q3 (.lst []) p = some (.lst (us3.map V.ref)) ∧
            upd (upd H3 q3 (.lst [])) p (.lst (us3.map V.ref ++ [])) p = some (.lst (us3.map V.ref)) ∧ Paired (RwT (upd (upd H3 q3 (.lst [])) p (.lst (us3.map V.ref ++ [])))) us3 ws3 ∧ Same H (upd (upd H3 q3 (.lst [])) p (.lst (us3.map V.ref ++ []))) := by
        intro H3 us3 ws3 e3 p3 M3 l3 q3 hq3
        have lu := paired_len p3
        have N2 := same_new (o := .lst []) (Same.refl H3) hq3
        exact ⟨by rw [List.length_map, sizeLine_eq]; show _ + 0 ≤ _; omega, N2 _ _ e3, by rw [upd_same, List.append_nil], rwT_put (N2 _ _ e3) (fun xs z => nomatch z) (rwT_more N2 p3), same_put (M3.trans N2) hp'⟩
      refine ⟨fun σ' H' => ∃ (us : List Addr) (ws : List Rw), σ' = [some (.ref t), some (.ref a), some (.ref p), some (.int (i : Nat)), some (.int r.1), some (.int r.2.1), some (capV r.2.2), some (.int mo)] ∧
        H' p = some (.lst (us.map V.ref)) ∧ Paired (RwT H') us ws ∧ (∀ r ∈ ws, RwP m rs.length (10 ^ 30 + B) r) ∧ ws.length ≤ 2 * i + 1 ∧ Same H H', ?_, ?_⟩
      · refine ⟨_, rfl, .inl ⟨rfl, _, SqL.of e2⟩, _, rfl, _, _, rfl, rfl, _, rfl, ?_⟩
        refine ite2 (fun h => ?_) (fun h => ?_)
        · have hm0 : 0 < mo := of_decide_eq_true h
          refine ⟨_, rfl, _, rfl, _, rfl, _, rfl, by show 5 ≤ sizeLine; decide, fun t3 ht3 => ⟨by show 1 ≤ sizeLine; decide, fun q3 hq3 => ?_⟩⟩
          obtain ⟨g1, g2, g3, g4, g5, g6⟩ := step H3 us ws (r.1, r.2.1, mo, i, true) e2 p2 qw M2 (by omega) ⟨b1, b2, hm0, hmo, hi'⟩ t3 ht3 q3 hq3
          exact ⟨p, q3, _, _, rfl, rfl, g2, upd_same, g1, _, _, rfl, g3, g4, g5, by rw [List.length_append]; show _ + 1 ≤ _; omega, g6⟩
        · refine ⟨by show 0 ≤ sizeLine; decide, fun q3 hq3 => ?_⟩
          obtain ⟨g1, g2, g3, g4, g6⟩ := none_ H3 us ws e2 p2 M2 (by omega) q3 hq3
          exact ⟨p, q3, _, _, rfl, rfl, g2, upd_same, g1, _, _, rfl, g3, g4, qw, by omega, g6⟩
      clear e2 p2 qw lw M2 et e pw M us ws fT
      rintro σ4 H4 ⟨us, ws, rfl, e2, p2, qw, lw, M2⟩
      refine ⟨_, rfl, .inl ⟨rfl, _, SqL.of e2⟩, _, rfl, _, rfl, a, _, _, _, rfl, rfl, sqt_more M2 hT, atI_nat hzV, _, _, rfl, rfl, _, rfl, ?_⟩
      refine ite2 (fun h => ?_) (fun h => ?_)
      · have hm0 : 0 < z := of_decide_eq_true h
        refine ⟨_, rfl, _, rfl, _, rfl, _, rfl, a, _, _, _, rfl, rfl, sqt_more M2 hT, atI_nat hzV, _, rfl, by show 5 ≤ sizeLine; decide, fun t3 ht3 => ⟨by show 1 ≤ sizeLine; decide, fun q3 hq3 => ?_⟩⟩
        obtain ⟨g1, g2, g3, g4, g5, g6⟩ := step H4 us ws (r.2.1, r.1, z, i, false) e2 p2 qw M2 (by omega) ⟨b2, b1, hm0, by show z ≤ _; omega, hi'⟩ t3 ht3 q3 hq3
        exact ⟨p, q3, _, _, rfl, rfl, g2, upd_same, g1, _, _, _, _, _, _, _, rfl, g3, g4, g5, by rw [List.length_append]; show _ + 1 ≤ _; omega, g6⟩
      · refine ⟨by show 0 ≤ sizeLine; decide, fun q3 hq3 => ?_⟩
        obtain ⟨g1, g2, g3, g4, g6⟩ := none_ H4 us ws e2 p2 M2 (by omega) q3 hq3
        exact ⟨p, q3, _, _, rfl, rfl, g2, upd_same, g1, _, _, _, _, _, _, _, rfl, g3, g4, qw, by omega, g6⟩
    · rintro σ H' ⟨v3, v4, v5, v6, v7, us, ws, rfl, e, pw, qw, lw, M⟩
      exact ⟨_, rfl, k p us ws H' e pw qw (by omega) hp M⟩
end
end Y

/-! OL: _law_way. -/
namespace Y
open PySem PySem.Spec PyProof.Rows L2 Ns
open C8 (pss_cut)
/-- where one came from -/
abbrev CmE := Nat × Option (Addr × Rw)
def cmV : Option (Addr × Rw) → V | none => .non | some p => .ref p.1
def cam (cs : List CmE) : List (Key × V) := cs.map fun c => ((Sum.inl (c.1 : Int) : Key), cmV c.2)
def cks (cs : List CmE) : List Nat := cs.map (·.1)
theorem cam_none {cs : List CmE} {k : Nat} (h : k ∉ cks cs) : valV (cam cs) (Sum.inl (k : Int)) = none := by
  induction cs with
  | nil => rfl
  | cons c cs ih =>
    unfold cks at h
    rw [List.map_cons, List.mem_cons, not_or] at h
    show valV ((Sum.inl (c.1 : Int), cmV c.2) :: cam cs) _ = none
    rw [valV_neg (fun z => h.1 (by injection z with z; omega))]
    exact ih h.2
theorem cam_get {cs : List CmE} (n : (cks cs).Nodup) {c : CmE} (h : c ∈ cs) : valV (cam cs) (Sum.inl (c.1 : Int)) = some (cmV c.2) := by
  induction cs with
  | nil => cases h
  | cons e cs ih =>
    unfold cks at n
    rw [List.map_cons, List.nodup_cons] at n
    show valV ((Sum.inl (e.1 : Int), cmV e.2) :: cam cs) _ = _
    rcases List.mem_cons.mp h with z | z
    · rw [z]; exact valV_pos rfl
    · rw [valV_neg (fun y => n.1 (List.mem_map.mpr ⟨c, z, by injection y with y; omega⟩))]
      exact ih n.2 z
theorem cam_has {cs : List CmE} (n : (cks cs).Nodup) (k : Nat) : (valV (cam cs) (Sum.inl (k : Int))).isSome = decide (k ∈ cks cs) := by
  by_cases h : k ∈ cks cs
  · obtain ⟨c, hc, rfl⟩ := List.mem_map.mp h
    rw [cam_get n hc, decide_eq_true h]
    rfl
  · rw [cam_none h, decide_eq_false h]
    rfl
theorem cam_put {cs : List CmE} {k : Nat} {v : Option (Addr × Rw)} (h : k ∉ cks cs) : putK (cam cs) (Sum.inl (k : Int)) (cmV v) = cam (cs ++ [(k, v)]) := by
  rw [putK_new _ (cam_none h)]
  unfold cam
  rw [List.map_append]
  rfl
structure CamOk (m : Nat) (us : List Addr) (ws : List Rw) (cs : List CmE) : Prop where
  nodup : (cks cs).Nodup
  low : ∀ k ∈ cks cs, k < m
  non : ∀ c ∈ cs, c.2 = none → c.1 = 0
  row : ∀ c ∈ cs, ∀ p, c.2 = some p → p ∈ us.zip ws ∧ p.2.2.1 = c.1 ∧ p.2.1 ∈ cks cs
theorem CamOk.len {m : Nat} {us : List Addr} {ws : List Rw} {cs : List CmE} (h : CamOk m us ws cs) : cs.length ≤ m := by
  have := sub_len h.nodup (m := List.range m) fun k hk => List.mem_range.mpr (h.low k hk)
  rw [List.length_range] at this
  unfold cks at this
  rw [List.length_map] at this
  exact this
theorem CamOk.add {m : Nat} {us : List Addr} {ws : List Rw} {cs : List CmE} (h : CamOk m us ws cs) {t : Addr} {r : Rw} (hz : (t, r) ∈ us.zip ws) (hm : r.2.1 < m) (hk : r.2.1 ∉ cks cs) (hf : r.1 ∈ cks cs) : CamOk m us ws (cs ++ [(r.2.1, some (t, r))]) := by
  have ek : cks (cs ++ [(r.2.1, some (t, r))]) = cks cs ++ [r.2.1] := by unfold cks; rw [List.map_append]; rfl
  refine ⟨?_, fun k hk' => ?_, fun c hc e => ?_, fun c hc p e => ?_⟩
  · rw [ek, List.nodup_append]
    exact ⟨h.nodup, List.nodup_cons.mpr ⟨(fun z => nomatch z), List.nodup_nil⟩, fun a ha b hb z => hk (by rw [List.mem_singleton] at hb; rw [← hb, ← z]; exact ha)⟩
  · rw [ek] at hk'
    rcases List.mem_append.mp hk' with z | z
    · exact h.low k z
    · rw [List.mem_singleton.mp z]; exact hm
  · rcases List.mem_append.mp hc with z | z
    · exact h.non c z e
    · rw [List.mem_singleton.mp z] at e; cases e
  · rw [ek]
    rcases List.mem_append.mp hc with z | z
    · obtain ⟨h1, h2, h3⟩ := h.row c z p e
      exact ⟨h1, h2, List.mem_append_left _ h3⟩
    · rw [List.mem_singleton.mp z] at e ⊢
      cases e
      exact ⟨hz, rfl, List.mem_append_left _ hf⟩
/-- amid the search -/
def WyS (H : Hp) (d p l : Addr) (m : Nat) (us : List Addr) (ws : List Rw) (cs : List CmE) (H' : Hp) : Prop := H' d = some (.dK (cam cs)) ∧ H' l = some (.lst (cs.map fun c => V.int (c.1 : Int))) ∧ H' p = some (.lst (us.map V.ref)) ∧ Paired (RwT H') us ws ∧ CamOk m us ws cs ∧ Same H H'
theorem zip_at {α β : Type} {as : List α} {bs : List β} {i : Nat} {a : α} {b : β} (h : as[i]? = some a) (g : bs[i]? = some b) : (a, b) ∈ as.zip bs := List.mem_of_getElem? (by rw [List.getElem?_zip_eq_some]; exact ⟨h, g⟩ : (as.zip bs)[i]? = some (a, b))
theorem zip_get {α β : Type} {R : α → β → Prop} : ∀ {as : List α} {bs : List β}, Paired R as bs → ∀ {a : α} {b : β}, (a, b) ∈ as.zip bs → R a b ∧ b ∈ bs
  | _, _, .cons h t, a, b, m => by
    rw [List.zip_cons_cons] at m
    rcases List.mem_cons.mp m with e | e
    · cases e
      exact ⟨h, List.mem_cons_self⟩
    · obtain ⟨h1, h2⟩ := zip_get t e
      exact ⟨h1, List.mem_cons_of_mem _ h2⟩
def spWay (K : PySem.W.Frag) : Sp := fun as H Q _ => ∃ (y : V) (a : Addr) (m : Nat) (rs : List Arc) (ts : List Int) (B : Int), as = [y, .ref a] ∧ NetV K H y m rs ∧ NetP m rs ∧ SqT K H a (ts.map V.int) ∧ ts.length = rs.length ∧ (∀ t ∈ ts, t ≤ B ∧ -B ≤ t) ∧ 0 ≤ B ∧
  (∀ H', Same H H' → Q .non H') ∧ (∀ (p : Addr) (us : List Addr) (ws : List Rw) (H' : Hp), H' p = some (.lst (us.map V.ref)) → Paired (RwT H') us ws → (∀ r ∈ ws, RwP m rs.length (10 ^ 30 + B) r) → ws ≠ [] → ws.length ≤ 7 → H p = none → Same H H' → Q (.ref p) H')
section
variable {P : Program} {w : World} {K : PySem.W.Frag} {mg : Str → Option Value} {base : Heap}
theorem scWy : FnScope ["net", "through", "came", "room", "line", "at", "row", "found", "node", "turn"] ["net", "through"] (defScope sWay) := ⟨rfl, rfl, rfl, by decide +kernel, rfl, by decide +kernel, by decide +kernel⟩
theorem ok_way {f fR : Addr} {fd dR : FuncData} (F : Fun K "_law_way" "_law_way" sWay f fd) (T : Nat0 mg) (GR : FnOk P w K mg base CX0 1 fR dR ["net", "through"] (spRoom K)) (FR : Fun K "_law_room" "_law_room" sRoom fR dR) (mR : mg "_law_room" = some (.ref fR)) (bR : Binds K dR ["net", "through"] []) : FnOk P w K mg base CX0 2 f fd ["net", "through"] (spWay K) := by
  refine F.ok scWy (fun as H Q E h => ?_) (fun cdv A outer s H as Q E hr h => ?_)
  · obtain ⟨y, a, m, rs, ts, B, rfl, _⟩ := h
    rfl
  · obtain ⟨y, a, m, rs, ts, B, rfl, hN, hP, hT, hl, hB, hB0, k0, k1⟩ := h
    have hu := hu_of hr
    refine ⟨_, pss_cons (ps_par3 (i := 2) (j := 3) (k := 4) rfl scWy.nd rfl rfl rfl (by decide) (by decide) (by decide) rfl rfl rfl (pa_cons (pe_disp (pps_cons pe_int pe_non pps_nil) (by rfl) (by rfl) (fun z => by cases z) (by decide)) (pa_cons (pe_call GR hr rfl mR FR.kp bR .nil pass0 (pa_cons (pv 0) (pa_cons (pv 1) pa_nil))) (pa_cons (pe_lst (pa_cons pe_int pa_nil)) pa_nil))) (by rfl))
      (pss_cons (ps_for PassesOwn.never rfl (pi_range1 (by rfl) T.range (pa_cons (pe_ix ix_tup (pv 0) pe_int (fun _ _ => rfl)) pa_nil)) (pg_name (i := 5) scWy.nd rfl (.inl rfl))
        (pss_one (ps_if (pt_cmpR op_lt (pv 5) (pe_callB call_len_seq (by rfl) T.len PySem.boot_len (pa_cons (pv 4) pa_nil)) (nomark _))
          (pss_one (ps_for PassesOwn.never rfl (pi_list (pv 3)) (pg_name (i := 6) scWy.nd rfl (.inl rfl))
            (pss_one (ps_if (PW.pt (pw_and (pt_cmpR op_eq (pe_ix ix_tup (pv 6) pe_int (fun _ _ => rfl)) (pe_ix ix_list (pv 4) (pv 5) (fun _ _ => rfl)) (nomark _)) (pw_and1 (pt_cmp (pc_dnotin hu (pe_ix ix_tup (pv 6) pe_int (fun _ _ => rfl)) (pv 2))))))
              (pss_cons (ps_dput hu (pv 2) (pe_ix ix_tup (pv 6) pe_int (fun _ _ => rfl)) (pv 6) rfl)
              (pss_one (ps_expr (pe_bm PySem.F.plainAttrs_list PySem.F.slot_list_append PySem.F.type_list_append mt_append (pv 4) (pa_cons (pe_ix ix_tup (pv 6) pe_int (fun _ _ => rfl)) pa_nil))))) pss_nil)))) pss_nil)))
      (pss_cons (ps_if (pt_cmp (pc_dnotin hu pe_int (pv 2))) (pss_one (ps_ret pe_non)) pss_nil)
      (pss_cons (ps_par (i := 7) (j := 8) rfl scWy.nd rfl rfl (by decide) rfl rfl (pa_cons (pe_lst pa_nil) (pa_cons pe_int pa_nil)) (by rfl))
      (pss_cons (ps_for PassesOwn.never rfl (pi_range1 (by rfl) T.range (pa_cons (pe_ix ix_tup (pv 0) pe_int (fun _ _ => rfl)) pa_nil)) (pg_name (i := 9) scWy.nd rfl (.inl rfl))
        (pss_one (ps_if (pt_cmpR op_notN (pe_dget hu (pv 2) (pv 8) (fun _ _ => rfl)) pe_non (nomark _))
          (pss_cons (ps_expr (pe_bm PySem.F.plainAttrs_list PySem.F.slot_list_append PySem.F.type_list_append mt_append (pv 7) (pa_cons (pe_dget hu (pv 2) (pv 8) (fun _ _ => rfl)) pa_nil)))
          (pss_one (ps_set (i := 8) scWy.nd rfl (.inl rfl) (pe_ix ix_tup (pe_dget hu (pv 2) (pv 8) (fun _ _ => rfl)) pe_int (fun _ _ => rfl))))) pss_nil)))
      (pss_one (ps_ret (pv 7))))))), ?_⟩
    obtain ⟨t, ra, zs, rfl, h1, h2, h3⟩ := id hN
    have m2 := hP.m2
    have m7 := hP.m7
    refine fun d hd => ⟨upd_same, [((Sum.inl 0 : Key), V.non)], rfl, by decide, ?_⟩
    rw [upd_upd, show mergeK [] [((Sum.inl 0 : Key), V.non)] = cam [(0, none)] from rfl]
    have M1 := same_new (o := .dK (cam [(0, none)])) (Same.refl H) hd
    have e1 : upd H d (.dK (cam [(0, none)])) d = some (.dK (cam [(0, none)])) := upd_same
    generalize upd H d (.dK (cam [(0, none)])) = H1 at M1 e1 ⊢
    refine ⟨_, rfl, _, rfl, .ref t, a, m, rs, ts, B, rfl, hN.more M1, hP, sqt_more M1 hT, hl, hB, hB0, fun p us ws H2 e2 p2 q2 lw fp M2' => ?_⟩
    have M2 := M1.trans M2'
    have pn := fr_none M1 fp
    refine ⟨by show 1 ≤ sizeLine; decide, fun l hl' => ⟨_, _, _, rfl, ?_⟩⟩
    have ln := fr_none M2 hl'
    have npl : p ≠ l := fun z => by rw [z, hl'] at e2; cases e2
    have S3 : WyS H d p l m us ws [(0, none)] (upd H2 l (.lst [.int 0])) := by
      refine ⟨s3u hl' (M2' _ _ e1), upd_same, s3u hl' e2, rwT_more (same_new (Same.refl H2) hl') p2, ⟨?_, ?_, ?_, ?_⟩, same_new M2 hl'⟩
      · show [0].Nodup
        decide
      · intro k hk
        rw [List.mem_singleton.mp hk]
        show 0 < m
        omega
      · intro c hc _
        rw [List.mem_singleton.mp hc]
      · intro c hc p e
        rw [List.mem_singleton.mp hc] at e
        cases e
    generalize upd H2 l (.lst [.int 0]) = H3 at S3 ⊢
    clear e1 M1 e2 p2 M2' M2 fp hl'
    have wl := fun {H' : Hp} (h : Paired (RwT H') us ws) => paired_len h
    refine ⟨_, rfl, t, _, 0, _, rfl, rfl, sqt_more S3.2.2.2.2.2 h1, at0, m, rfl, by omega, by omega, for_range (n := ((m : Int)).toNat) (fun i σ H' => ∃ (v5 v6 : Option V) (cs : List CmE), σ = [some (.ref t), some (.ref a), some (.ref d), some (.ref p), some (.ref l), v5, v6, none, none, none] ∧ WyS H d p l m us ws cs H') ?_ ?_ ?_⟩
    · exact ⟨none, none, _, rfl, S3⟩
    · clear S3
      rintro i σ H4 hi ⟨v5, v6, cs, rfl, S⟩
      obtain ⟨s1, s2, s3, s4, s5, s6⟩ := id S
      refine ⟨_, rfl, _, rfl, l, _, rfl, .inl (SqL.of s2), _, _, rfl, rfl, _, rfl, ?_⟩
      refine ite2 (fun h => ?_) (fun _ => ⟨_, _, cs, rfl, S⟩)
      have hi' : i < cs.length := by
        have := of_decide_eq_true h
        rw [List.length_map] at this
        omega
      refine ⟨_, rfl, p, rfl, ⟨_, SqL.of s3⟩, ?_⟩
      refine for_list (K := K) (a := p) (xs := us.map V.ref) (fun j σ H' => ∃ (v6 : Option V) (cs : List CmE), σ = [some (.ref t), some (.ref a), some (.ref d), some (.ref p), some (.ref l), some (.int (0 + (i : Int))), v6, none, none, none] ∧ i < cs.length ∧ WyS H d p l m us ws cs H') ?_ ?_ ?_ ?_
      · exact ⟨_, cs, rfl, hi', S⟩
      · rintro j σ H' _ ⟨_, _, _, _, S⟩
        exact SqL.of S.2.2.1
      · clear S s1 s2 s3 s4 s5 s6 hi' h cs v6 v5 H4
        rintro j x σ H4 hx ⟨v6, cs, rfl, hi', s1, s2, s3, s4, s5, s6⟩
        rw [List.getElem?_map] at hx
        obtain ⟨u, hu', rfl⟩ := Option.map_eq_some_iff.mp hx
        obtain ⟨r, hr', eu⟩ := paired_at s4 hu'
        have eu' : H4 u = some (.tup (rwV r)) := eu
        obtain ⟨c, hc⟩ : ∃ c, cs[i]? = some c := ⟨_, List.getElem?_eq_getElem hi'⟩
        have el : (cs.map fun c => V.int (c.1 : Int))[i]? = some (.int (c.1 : Int)) := by rw [List.getElem?_map, hc]; rfl
        have cl := s5.len
        refine ⟨_, rfl, u, _, 0, _, rfl, rfl, SqT.of eu', at0, _, rfl, _, rfl, l, _, _, _, rfl, rfl, SqL.of s2, by rw [show (0 + (i : Int)) = ((i : Nat) : Int) by omega]; exact atI_nat el, rfl, _, rfl, ?_⟩
        refine ite2 (fun h => ?_) (fun _ => ⟨_, cs, rfl, hi', s1, s2, s3, s4, s5, s6⟩)
        have er : r.1 = c.1 := by
          have := of_decide_eq_true h
          injection this with this
          omega
        refine ⟨_, rfl, u, _, 1, _, rfl, rfl, SqT.of eu', at1, _, rfl, d, _, rfl, DGet.k (k := Sum.inl (r.2.1 : Int)) s1, _, rfl, ?_⟩
        rw [cam_has s5.nodup]
        refine ite2 (fun h => ?_) (fun _ => ⟨_, cs, rfl, hi', s1, s2, s3, s4, s5, s6⟩)
        have nk : r.2.1 ∉ cks cs := by simpa using h
        have rm : r.2.1 < m := (q2 r (List.mem_of_getElem? hr')).2.1
        have fk : r.1 ∈ cks cs := by rw [er]; exact List.mem_map.mpr ⟨c, List.mem_of_getElem? hc, rfl⟩
        have nld : l ≠ d := ne_at s2 s1 (fun z => by cases z)
        have npd : p ≠ d := ne_at s3 s1 (fun z => by cases z)
        refine ⟨_, rfl, _, rfl, _, rfl, u, _, 1, _, rfl, rfl, SqT.of eu', at1, d, _, rfl, DPut.k (k := Sum.inl (r.2.1 : Int)) s1 ?_, ?_⟩
        · unfold cam
          rw [List.length_map]
          exact small1000 (by omega)
        rw [show (V.ref u) = cmV (some (u, r)) from rfl, cam_put nk]
        have f1 : upd H4 d (.dK (cam (cs ++ [(r.2.1, some (u, r))]))) d = some (.dK (cam (cs ++ [(r.2.1, some (u, r))]))) := upd_same
        have f2 : upd H4 d (.dK (cam (cs ++ [(r.2.1, some (u, r))]))) l = some (.lst (cs.map fun c => V.int (c.1 : Int))) := by rw [upd_ne nld]; exact s2
        have f3 : upd H4 d (.dK (cam (cs ++ [(r.2.1, some (u, r))]))) p = some (.lst (us.map V.ref)) := by rw [upd_ne npd]; exact s3
        have f4 : Paired (RwT (upd H4 d (.dK (cam (cs ++ [(r.2.1, some (u, r))]))))) us ws := rwT_put s1 (fun xs z => nomatch z) s4
        have f6 := same_put (o := .dK (cam (cs ++ [(r.2.1, some (u, r))]))) s6 hd
        have fu : upd H4 d (.dK (cam (cs ++ [(r.2.1, some (u, r))]))) u = some (.tup (rwV r)) := by rw [upd_ne (ne_at eu' s1 (fun z => by cases z))]; exact eu'
        generalize upd H4 d (.dK (cam (cs ++ [(r.2.1, some (u, r))]))) = H5 at f1 f2 f3 f4 f6 fu ⊢
        refine ⟨_, rfl, .inl ⟨rfl, _, SqL.of f2⟩, _, rfl, u, _, 1, _, rfl, rfl, SqT.of fu, at1, l, _, _, rfl, rfl, f2, by rw [List.length_map]; exact small1000 (by omega), ?_⟩
        refine ⟨_, cs ++ [(r.2.1, some (u, r))], rfl, by rw [List.length_append]; omega, ?_, ?_, ?_, rwT_put f2 (fun xs z => nomatch z) f4, s5.add (zip_at hu' hr') rm nk fk, same_put f6 ln⟩
        · rw [upd_ne nld.symm]; exact f1
        · rw [upd_same, List.map_append]; rfl
        · rw [upd_ne npl]; exact f3
      · rintro σ H' ⟨v6, cs, rfl, _, S⟩
        exact ⟨_, _, cs, rfl, S⟩
    · clear S3
      rintro σ H4 ⟨v5, v6, cs, rfl, s1, s2, s3, s4, s5, s6⟩
      refine ⟨_, rfl, d, _, rfl, DGet.k (k := Sum.inl ((1 : Nat) : Int)) s1, _, rfl, ?_⟩
      rw [cam_has s5.nodup]
      refine ite2 (fun _ => k0 H4 s6) (fun h => ?_)
      have k1in : 1 ∈ cks cs := by simpa using h
      refine ⟨by show 0 ≤ sizeLine; decide, fun F hF => ⟨_, _, rfl, ?_⟩⟩
      have Fn := fr_none s6 hF
      have M5 := same_new (o := .lst []) s6 hF
      have e5 : upd H4 F (.lst []) F = some (.lst []) := upd_same
      have d5 := s3u (o := .lst []) hF s1
      have p5 := rwT_more (same_new (o := .lst []) (Same.refl H4) hF) s4
      have nFd : F ≠ d := fun z => by rw [z, s1] at hF; cases hF
      generalize upd H4 F (.lst []) = H5 at M5 e5 d5 p5 ⊢
      refine ⟨_, rfl, t, _, 0, _, rfl, rfl, sqt_more M5 h1, at0, m, rfl, by omega, by omega, for_range (n := ((m : Int)).toNat) (fun i σ H' => ∃ (v9 : Option V) (n : Nat) (gs : List Addr) (qs : List Rw), σ = [some (.ref t), some (.ref a), some (.ref d), some (.ref p), some (.ref l), v5, v6, some (.ref F), some (.int n), v9] ∧ n ∈ cks cs ∧
        H' F = some (.lst (gs.map V.ref)) ∧ Paired (RwT H') gs qs ∧ (∀ r ∈ qs, RwP m rs.length (10 ^ 30 + B) r) ∧ qs.length ≤ i ∧ (i = 0 → n = 1) ∧ (0 < i → qs ≠ []) ∧ H' d = some (.dK (cam cs)) ∧ Paired (RwT H') us ws ∧ Same H H') ?_ ?_ ?_⟩
      · exact ⟨none, 1, [], [], rfl, k1in, e5, .nil, (fun _ z => nomatch z), Nat.le_refl _, fun _ => rfl, fun z => absurd z (by omega), d5, p5, M5⟩
      · clear e5 d5 p5 M5
        rintro i σ H6 hi ⟨v9, n, gs, qs, rfl, nk, e6, g6, q6, l6, z6, y6, d6, p6, M6⟩
        obtain ⟨c, hc, ec⟩ := List.mem_map.mp nk
        have gd := DGet.k (k := Sum.inl (n : Int)) d6
        rw [← ec, cam_get s5.nodup hc] at gd
        rw [← ec]
        refine ⟨_, rfl, _, rfl, d, _, rfl, gd, rfl, _, rfl, ?_⟩
        cases hv : c.2 with
        | none =>
          refine ite2 (fun h => absurd h (by decide)) (fun _ => ?_)
          refine ⟨_, c.1, gs, qs, rfl, by rw [ec]; exact nk, e6, g6, q6, by omega, fun z => absurd z (by omega), fun _ => ?_, d6, p6, M6⟩
          by_cases z : i = 0
          · have c0 := s5.non c hc hv
            have c1 := z6 z
            omega
          · exact y6 (by omega)
        | some tr =>
          obtain ⟨tt, r⟩ := tr
          obtain ⟨hz, hr1, hr2⟩ := s5.row c hc _ hv
          obtain ⟨ett, hrw⟩ := zip_get p6 hz
          have ett' : H6 tt = some (.tup (rwV r)) := ett
          rw [hv] at gd
          refine ite2 (fun _ => ?_) (fun h => absurd (show (!decide (V.ref tt = V.non)) = true by simp) h)
          refine ⟨_, rfl, .inl ⟨rfl, _, SqL.of e6⟩, _, rfl, _, rfl, d, _, rfl, gd, F, _, _, rfl, rfl, e6, by rw [List.length_map, paired_len g6]; exact small1000 (by omega), ?_⟩
          have nFt : tt ≠ F := ne_at ett' e6 (fun z => by cases z)
          have dd : upd H6 F (.lst (gs.map V.ref ++ [cmV (some (tt, r))])) d = some (.dK (cam cs)) := by rw [upd_ne nFd.symm]; exact d6
          have gd2 := DGet.k (k := Sum.inl (c.1 : Int)) dd
          rw [cam_get s5.nodup hc, hv] at gd2
          have ett2 : upd H6 F (.lst (gs.map V.ref ++ [cmV (some (tt, r))])) tt = some (.tup (rwV r)) := by rw [upd_ne nFt]; exact ett'
          refine ⟨_, rfl, _, rfl, d, _, rfl, gd2, tt, _, 0, _, rfl, rfl, SqT.of ett2, at0, ?_⟩
          refine ⟨_, r.1, gs ++ [tt], qs ++ [r], rfl, hr2, by rw [upd_same, List.map_append]; rfl, paired_snoc (show RwT _ tt r from ett2) (rwT_put e6 (fun xs z => nomatch z) g6), fun u hu' => ?_, by rw [List.length_append]; show _ + 1 ≤ _; omega, fun z => absurd z (by omega), fun _ z => ?_, dd, rwT_put e6 (fun xs z => nomatch z) p6, same_put M6 Fn⟩
          · rcases List.mem_append.mp hu' with z | z
            · exact q6 u z
            · rw [List.mem_singleton.mp z]; exact q2 r hrw
          · have := congrArg List.length z
            rw [List.length_append] at this
            simp at this
      · clear e5 d5 p5 M5
        rintro σ H6 ⟨v9, n, gs, qs, rfl, nk, e6, g6, q6, l6, z6, y6, d6, p6, M6⟩
        exact ⟨_, rfl, k1 F gs qs H6 e6 g6 q6 (y6 (by omega)) (by omega) Fn M6⟩
end
end Y

/-! OM: _law_part. -/
namespace Y
open PySem PySem.Spec PyProof.Rows L2 Ns
open C8 (pss_cut)
/-- how great a part may be -/
def bnd : Nat → Int
  | 0 => 10000000000000000000000000000000
  | i + 1 => 10 * bnd i
theorem bnd_low : ∀ i, 10000000000000000000000000000000 ≤ bnd i
  | 0 => Int.le_refl _
  | i + 1 => by
    have := bnd_low i
    show _ ≤ 10 * bnd i
    omega
theorem bnd_up {i j : Nat} (h : i ≤ j) : bnd i ≤ bnd j := by
  induction h with
  | refl => exact Int.le_refl _
  | @step m _ ih =>
    have := bnd_low m
    show _ ≤ 10 * bnd m
    omega
def stp (B k : Int) : Nat → Int
  | 0 => B
  | j + 1 => stp B k j + k
theorem stp_7 {B k : Int} (h : 0 ≤ k) {j : Nat} (hj : j ≤ 7) : stp B k j ≤ B + 7 * k := by
  have e : stp B k 7 = B + 7 * k := by
    show B + k + k + k + k + k + k + k = _
    omega
  have up : ∀ {i j : Nat}, i ≤ j → stp B k i ≤ stp B k j := fun {i j} hij => by
    induction hij with
    | refl => exact Int.le_refl _
    | @step n _ ih => exact Int.le_trans ih (by show _ ≤ stp B k n + k; omega)
  rw [← e]
  exact up hj
theorem rep_flat (k : Nat) : (List.replicate k [V.int 0]).flatten = (List.replicate k (0 : Int)).map V.int := by
  rw [List.map_replicate]
  induction k with
  | zero => rfl
  | succ k ih => rw [List.replicate_succ, List.flatten_cons, ih, List.replicate_succ]; rfl
theorem rwT_sb {b : Addr} {H H' : Hp} (B : Bag H b) (s : Sb b H H') {us : List Addr} {ws : List Rw} (h : Paired (RwT H) us ws) : Paired (RwT H') us ws := paired_imp (fun t r e => by
  have e' : H t = some (.tup (rwV r)) := e
  refine s.get e' fun z => ?_
  obtain ⟨_, _, _, _, _, h1, _⟩ := B
  rw [z, h1] at e'
  cases e') h
def spPart (K : PySem.W.Frag) : Sp := fun as H Q _ => ∃ (b : Addr) (y : V) (m : Nat) (rs : List Arc), as = [.ref b, y] ∧ Bag H b ∧ NetV K (wo H b) y m rs ∧ NetP m rs ∧
  ∀ (a : Addr) (ts : List Int) (H' : Hp), SqT K (wo H' b) a (ts.map V.int) → ts.length = rs.length → (∀ t ∈ ts, t ≤ bnd 3 ∧ -bnd 3 ≤ t) → Bag H' b → Sb b H H' → Q (.ref a) H'
section
variable {P : Program} {w : World} {K : PySem.W.Frag} {mg : Str → Option Value} {base : Heap}
theorem scPt : FnScope ["bag", "net", "through", "turn", "way", "most", "rows", "many", "start", "end", "room", "at", "onwards", "row"] ["bag", "net"] (defScope sPart) := ⟨rfl, rfl, rfl, by decide +kernel, rfl, by decide +kernel, by decide +kernel⟩
theorem ok_part {f fT fS fW : Addr} {fd dT dS dW : FuncData} (F : Fun K "_law_part" "_law_part" sPart f fd) (T : Nat0 mg) (FT : Fun K "_law_take" "_law_take" sTake fT dT) (mT : mg "_law_take" = some (.ref fT)) (bT : Binds K dT ["bag", "many"] [])
    (FS : Fun K "_law_some" "_law_some" sSome fS dS) (mS : mg "_law_some" = some (.ref fS)) (bS : Binds K dS ["bag", "things"] [])
    (GW : FnOk P w K mg base CX0 2 fW dW ["net", "through"] (spWay K)) (FW : Fun K "_law_way" "_law_way" sWay fW dW) (mW : mg "_law_way" = some (.ref fW)) (bW : Binds K dW ["net", "through"] []) : FnOk P w K mg base CX0 3 f fd ["bag", "net"] (spPart K) := by
  have GT : FnOk P w K mg base CX0 1 fT dT ["bag", "many"] spTake := ok_take FT T
  have GS : FnOk P w K mg base CX0 2 fS dS ["bag", "things"] (spSome K) := ok_some FS T FT mT bT
  refine F.ok scPt (fun as H Q E h => ?_) (fun cdv A outer s H as Q E hr h => ?_)
  · obtain ⟨b, y, m, rs, rfl, _⟩ := h
    rfl
  · obtain ⟨b, y, m, rs, rfl, hB, hN, hP, k⟩ := h
    have hr1 : Room 1 _ := hr.mono (by decide)
    refine ⟨_, pss_cons (ps_set (i := 2) scPt.nd rfl (.inl rfl) (pe_op op_repN (pe_tup (pa_cons pe_int pa_nil)) (pe_callB call_len_seq (by rfl) T.len PySem.boot_len (pa_cons (pe_ix ix_tup (pv 1) pe_int (fun _ _ => rfl)) pa_nil))))
      (pss_cons (ps_for PassesOwn.never rfl (pi_range1 (by rfl) T.range (pa_cons (pe_call GT hr1 rfl mT FT.kp bT .nil pass0 (pa_cons (pv 0) (pa_cons pe_int pa_nil))) pa_nil)) (pg_name (i := 3) scPt.nd rfl (.inl rfl))
        (pss_cons (ps_set (i := 4) scPt.nd rfl (.inl rfl) (pe_call GW hr rfl mW FW.kp bW .nil pass0 (pa_cons (pv 1) (pa_cons (pv 2) pa_nil))))
        (pss_one (ps_if (pt_cmpR op_notN (pv 4) pe_non (nomark _))
          (pss_cons (ps_par (i := 5) (j := 6) rfl scPt.nd rfl rfl (by decide) rfl rfl (pa_cons (pe_callB (cr_min rfl) (by rfl) T.min (by decide +kernel) (pa_cons (pe_lc (own := [("row", 13)]) (g := gName 13) (tt := tYes) (te := tOp (rIxT K) (tVar 13) (tC (V.int 2))) rfl scPt.nd (pi_list (pv 4))
              (blkOk_by (N := ["bag", "net", "through", "turn", "way", "most", "rows", "many", "start", "end", "room", "at", "onwards", "row"]) (sc := defScope sPart) (by decide +kernel)) (fun _ _ _ _ _ => pg_name (i := 13) scPt.nd rfl (Or.inl rfl)) (fun _ _ _ _ _ => pts_nil)
              (fun _ _ _ _ _ => by exact pe_ix ix_tup (pv 13) pe_int (fun _ _ => rfl))) pa_nil)) (pa_cons (pe_callTy call_list_of (by rfl) T.list_ (by decide +kernel) (pa_cons (pv 2) pa_nil)) pa_nil)) (by rfl))
          (pss_cut (ps_set (i := 7) scPt.nd rfl (.inl rfl) (pe_call GS hr rfl mS FS.kp bS .nil pass0 (pa_cons (pv 0) (pa_cons (pe_lst (pa_cons (pv 5) (pa_cons pe_int (pa_cons (pe_op op_add pe_int (pe_call GT hr1 rfl mT FT.kp bT .nil pass0 (pa_cons (pv 0) (pa_cons (pv 5) pa_nil)))) pa_nil)))) pa_nil))))
          (pss_cons (ps_for PassesOwn.never rfl (pi_list (pv 4)) (pg_tup (by rfl) (pgs_cons (pg_name (i := 8) scPt.nd rfl (.inl rfl)) (pgs_cons (pg_name (i := 9) scPt.nd rfl (.inl rfl)) (pgs_cons (pg_name (i := 10) scPt.nd rfl (.inl rfl)) (pgs_cons (pg_name (i := 11) scPt.nd rfl (.inl rfl)) (pgs_cons (pg_name (i := 12) scPt.nd rfl (.inl rfl)) pgs_nil))))))
            (pss_one (ps_augS (pv 6) (pv 11) get_list (pe_ifExp (pt_val (pv 12)) (pv 7) (pe_op op_sub pe_int (pv 7))) ip_add set_list)))
          (pss_one (ps_set (i := 2) scPt.nd rfl (.inl rfl) (pe_callTy call_tuple_of (by rfl) T.tuple (by decide +kernel) (pa_cons (pv 6) pa_nil))))))) pss_nil))))
      (pss_one (ps_ret (pv 2)))), ?_⟩
    obtain ⟨tn, ra, zs, rfl, h1, h2, h3⟩ := id hN
    have lz := paired_len h3
    have l14 := hP.len
    have vN : ∀ {G : Hp}, Sb b H G → NetV K G (.ref tn) m rs := fun {G} s => (hN.more s.1).more (wo_sub G b)
    have v1 : ∀ {G : Hp}, Sb b H G → SqT K G tn [.int m, .ref ra] := fun {G} s => sqt_more (wo_sub G b) (sqt_more s.1 h1)
    have v2 : ∀ {G : Hp}, Sb b H G → SqT K G ra zs := fun {G} s => sqt_more (wo_sub G b) (sqt_more s.1 h2)
    refine ⟨by show 1 ≤ sizeLine; decide, fun t0 ht0 => ?_⟩
    have s1 := (Sb.refl b H).new (o := .tup [.int 0]) ht0
    have B1 := hB.new (o := .tup [.int 0]) ht0
    refine ⟨_, rfl, tn, _, 1, .ref ra, rfl, rfl, v1 s1, at1, ra, zs, rfl, .inr (v2 s1), t0, zs.length, _, rfl, rfl, SqT.of upd_same, (fun z => nomatch z), by omega, by show 1 ≤ 1000; decide, fun p0 H1 M1 q1 => ?_⟩
    rw [rep_flat] at q1
    have s1 := s1.same M1
    have B1 := B1.keep M1
    refine ⟨_, rfl, b, 4, rfl, B1, by decide, by decide, fun n H2 n0 n1 B2 s2 => ?_⟩
    have q2 := sqt_wo' (sbT s2 B1 q1) B2
    have s2 := s1.trans s2
    clear B1 s1 M1 q1 ht0
    refine ⟨n, rfl, by omega, by omega, for_range (n := n.toNat) (fun i σ H' => ∃ (v3 v4 v5 v6 v7 v8 v9 v10 v11 v12 : Option V) (a' : Addr) (ts : List Int), σ = [some (.ref b), some (.ref tn), some (.ref a'), v3, v4, v5, v6, v7, v8, v9, v10, v11, v12, none] ∧
      SqT K (wo H' b) a' (ts.map V.int) ∧ ts.length = rs.length ∧ (∀ t ∈ ts, t ≤ bnd i ∧ -bnd i ≤ t) ∧ Bag H' b ∧ Sb b H H') ?_ ?_ ?_⟩
    · exact ⟨none, none, none, none, none, none, none, none, none, none, p0, List.replicate zs.length 0, rfl, q2, by rw [List.length_replicate, lz], fun t ht => by rw [(List.mem_replicate.mp ht).2]; exact ⟨by decide, by decide⟩, B2, s2⟩
    · clear B2 s2 q2
      rintro i σ H3 hi ⟨v3, v4, v5, v6, v7, v8, v9, v10, v11, v12, a', ts, rfl, hT, hl, hb, B3, s3⟩
      have bl := bnd_low i
      have i2 : i ≤ 2 := by omega
      have bu : bnd i ≤ bnd 2 := bnd_up i2
      have b2 : bnd 2 = 1000000000000000000000000000000000 := by decide
      have bs : bnd (i + 1) = 10 * bnd i := rfl
      have p30 : (10 : Int) ^ 30 = 1000000000000000000000000000000 := by decide
      have hT' : ∀ {G : Hp}, Sb b H3 G → SqT K G a' (ts.map V.int) := fun {G} s => sqt_more (wo_sub G b) (sqt_more s.1 hT)
      refine ⟨_, rfl, _, rfl, .ref tn, a', m, rs, ts, bnd i, rfl, vN s3, hP, hT' (Sb.refl b H3), hl, hb, by omega, fun H4 M4 => ?_, fun p us ws H4 e4 p4 q4 ne4 l7 f4 M4 => ?_⟩
      · refine ⟨_, rfl, rfl, _, rfl, ?_⟩
        refine ite2 (fun h => absurd h (by decide)) (fun _ => ?_)
        exact ⟨_, _, _, _, _, _, _, _, _, _, a', ts, rfl, sqt_more (wo_same M4) hT, hl, fun t ht => by have := hb t ht; omega, B3.keep M4, s3.same M4⟩
      · have B4 := B3.keep M4
        have s4 := s3.same M4
        have s34 := (Sb.refl b H3).same M4
        have npb := B3.ne f4
        refine ⟨_, rfl, rfl, _, rfl, ?_⟩
        refine ite2 (fun _ => ?_) (fun h => absurd (show (!decide (V.ref p = V.non)) = true by simp) h)
        refine ⟨_, rfl, p, rfl, ⟨_, SqL.of e4⟩, fun D hD => ?_⟩
        refine lc_list (K := K) (a := p) (xs := us.map V.ref) (fun j H' => H' D = some (.lst (((ws.take j).map fun r => r.2.2.1).map V.int)) ∧ Same H4 H') ?_ ?_ ?_ ?_
        · exact ⟨by rw [List.take_zero, upd_same]; rfl, same_new (Same.refl H4) hD⟩
        · rintro j H' _ ⟨_, M⟩
          exact SqL.of (M _ _ e4)
        · rintro j u H' hu ⟨q1, M⟩
          rw [List.getElem?_map] at hu
          obtain ⟨t, ht, rfl⟩ := Option.map_eq_some_iff.mp hu
          obtain ⟨r, hr', et⟩ := paired_at p4 ht
          have et' : H4 t = some (.tup (rwV r)) := et
          refine ⟨rfl, _, rfl, t, _, 2, _, rfl, rfl, SqT.of (M _ _ et'), at2, _, q1, ?_, ?_, same_put M hD⟩
          · rw [List.length_map, List.length_map, List.length_take]
            exact small1000 (by omega)
          · rw [upd_same, List.take_succ, hr']
            simp
        rintro H5 ⟨q5, M5⟩
        rw [List.length_map, paired_len p4, List.take_length] at q5
        refine ⟨D, _, rfl, SqL.of q5, by rw [List.length_map]; exact List.length_pos_iff.mpr ne4, fun mo hmo _ => ?_⟩
        obtain ⟨r0, hr0, rfl⟩ := List.mem_map.mp hmo
        obtain ⟨_, _, mo0, mo1, _⟩ := q4 r0 hr0
        generalize r0.2.2.1 = mo at mo0 mo1
        clear q5
        have s35 := s34.same M5
        refine ⟨_, rfl, a', _, rfl, .inr (hT' s35), fun R hR => ⟨_, _, rfl, ?_⟩⟩
        have B5 := B4.keep M5
        have s5 := s4.same M5
        have nRb := B5.ne hR
        have fR : H R = none := s5.free hR nRb
        have M6 := same_new (o := .lst (ts.map V.int)) (Same.refl H5) hR
        have e6 := M6 _ _ (M5 _ _ e4)
        have p6 := rwT_more M6 (rwT_more M5 p4)
        have r6 : upd H5 R (.lst (ts.map V.int)) R = some (.lst (ts.map V.int)) := upd_same
        have npR : p ≠ R := fun z => by rw [← z, M5 _ _ e4] at hR; cases hR
        have B6 := B5.keep M6
        have s6 := s5.same M6
        generalize upd H5 R (.lst (ts.map V.int)) = H6 at M6 e6 p6 r6 B6 s6 ⊢
        clear M5 s35 B5 s5 hR hD D e4 p4 B4 s4 s34 M6 H5
        refine ⟨fun σ' H' => ∃ many : Int, 1 ≤ many ∧ many ≤ mo ∧ σ' = [some (.ref b), some (.ref tn), some (.ref a'), some (.int (0 + (i : Int))), some (.ref p), some (.int mo), some (.ref R), some (.int many), v8, v9, v10, v11, v12, none] ∧ H' p = some (.lst (us.map V.ref)) ∧ Paired (RwT H') us ws ∧ H' R = some (.lst (ts.map V.int)) ∧ Bag H' b ∧ Sb b H H', ?_, ?_⟩
        · refine ⟨_, rfl, _, rfl, _, rfl, _, rfl, b, mo, rfl, B6, mo0, Nat.lt_of_le_of_lt (show mo.natAbs ≤ 10000000000000000000000000000000000 by omega) (by decide), fun v H7 v0 v1 B7 s7 => ⟨1, v, rfl, rfl, by show 3 ≤ sizeLine; decide, fun q hq => ?_⟩⟩
          refine ⟨b, q, _, rfl, B7.new hq, sql_new upd_same (B7.ne hq), (fun z => nomatch z), by show 3 ≤ 1000000; decide, fun x H8 hx B8 s8 => ?_⟩
          have s68 := s7.trans (((Sb.refl b H7).new hq).trans s8)
          have fin : ∀ c : Int, 1 ≤ c → c ≤ mo → ∃ many : Int, 1 ≤ many ∧ many ≤ mo ∧ [some (V.ref b), some (.ref tn), some (.ref a'), some (.int (0 + (i : Int))), some (.ref p), some (.int mo), some (.ref R), some (.int c), v8, v9, v10, v11, v12, none] = [some (.ref b), some (.ref tn), some (.ref a'), some (.int (0 + (i : Int))), some (.ref p), some (.int mo), some (.ref R), some (.int many), v8, v9, v10, v11, v12, none] ∧ H8 p = some (.lst (us.map V.ref)) ∧ Paired (RwT H8) us ws ∧ H8 R = some (.lst (ts.map V.int)) ∧ Bag H8 b ∧ Sb b H H8 :=
            fun c c1 c2 => ⟨c, c1, c2, rfl, s68.get e6 npb, rwT_sb B6 s68 p6, s68.get r6 nRb, B8, s6.trans s68⟩
          simp only [List.mem_cons, List.not_mem_nil, or_false] at hx
          rcases hx with rfl | rfl | rfl
          · exact fin mo (by omega) (Int.le_refl _)
          · exact fin 1 (by omega) (by omega)
          · exact fin (1 + v) (by omega) (by omega)
        clear e6 p6 r6 B6 s6 H6
        rintro σ7 H7 ⟨many, c1, c2, rfl, e7, p7, r7, B7, s7⟩
        refine ⟨_, rfl, p, rfl, ⟨_, SqL.of e7⟩, ?_⟩
        refine for_list (K := K) (a := p) (xs := us.map V.ref) (fun j σ H' => ∃ (v8 v9 v10 v11 v12 : Option V) (xs : List Int), σ = [some (.ref b), some (.ref tn), some (.ref a'), some (.int (0 + (i : Int))), some (.ref p), some (.int mo), some (.ref R), some (.int many), v8, v9, v10, v11, v12, none] ∧
          H' R = some (.lst (xs.map V.int)) ∧ xs.length = rs.length ∧ (∀ x ∈ xs, x ≤ stp (bnd i) many j ∧ -stp (bnd i) many j ≤ x) ∧ H' p = some (.lst (us.map V.ref)) ∧ Paired (RwT H') us ws ∧ Bag H' b ∧ Sb b H H') ?_ ?_ ?_ ?_
        · exact ⟨_, _, _, _, _, ts, rfl, r7, hl, hb, e7, p7, B7, s7⟩
        · rintro j σ H' _ ⟨_, _, _, _, _, _, _, _, _, _, e, _⟩
          exact SqL.of e
        · clear e7 p7 r7 B7 s7
          rintro j u σ H8 hu ⟨v8, v9, v10, v11, v12, xs, rfl, r8, lx, bx, e8, p8, B8, s8⟩
          rw [List.getElem?_map] at hu
          obtain ⟨t, ht, rfl⟩ := Option.map_eq_some_iff.mp hu
          obtain ⟨r, hr', et⟩ := paired_at p8 ht
          have et' : H8 t = some (.tup (rwV r)) := et
          have rn := (q4 r (List.mem_of_getElem? hr')).2.2.2.2
          obtain ⟨x, hx⟩ : ∃ x, xs[r.2.2.2.1]? = some x := ⟨_, List.getElem?_eq_getElem (by omega)⟩
          have hxV : (xs.map V.int)[r.2.2.2.1]? = some (.int x) := by rw [List.getElem?_map, hx]; rfl
          have bxx := bx x (List.mem_of_getElem? hx)
          have put : ∀ v : Int, v ≤ many → -many ≤ v → ∃ (v8 v9 v10 v11 v12 : Option V) (xs' : List Int), [some (V.ref b), some (.ref tn), some (.ref a'), some (.int (0 + (i : Int))), some (.ref p), some (.int mo), some (.ref R), some (.int many), some (.int r.1), some (.int r.2.1), some (.int r.2.2.1), some (.int r.2.2.2.1), some (.bl r.2.2.2.2), none] = [some (V.ref b), some (.ref tn), some (.ref a'), some (.int (0 + (i : Int))), some (.ref p), some (.int mo), some (.ref R), some (.int many), v8, v9, v10, v11, v12, none] ∧
              upd H8 R (.lst ((xs.map V.int).set r.2.2.2.1 (.int (x + v)))) R = some (.lst (xs'.map V.int)) ∧ xs'.length = rs.length ∧ (∀ x ∈ xs', x ≤ stp (bnd i) many (j + 1) ∧ -stp (bnd i) many (j + 1) ≤ x) ∧ upd H8 R (.lst ((xs.map V.int).set r.2.2.2.1 (.int (x + v)))) p = some (.lst (us.map V.ref)) ∧ Paired (RwT (upd H8 R (.lst ((xs.map V.int).set r.2.2.2.1 (.int (x + v)))))) us ws ∧ Bag (upd H8 R (.lst ((xs.map V.int).set r.2.2.2.1 (.int (x + v))))) b ∧ Sb b H (upd H8 R (.lst ((xs.map V.int).set r.2.2.2.1 (.int (x + v))))) := fun v vl vh => by
            refine ⟨_, _, _, _, _, xs.set r.2.2.2.1 (x + v), rfl, by rw [upd_same, List.map_set], by rw [List.length_set]; exact lx, fun z hz => ?_, by rw [upd_ne npR]; exact e8, rwT_put r8 (fun xs z => nomatch z) p8, hB.wr fR s8 B8, s8.wr fR⟩
            have st : stp (bnd i) many (j + 1) = stp (bnd i) many j + many := rfl
            rcases List.mem_or_eq_of_mem_set hz with q | q
            · have := bx z q
              omega
            · rw [q]
              omega
          refine ⟨t, _, rfl, SqT.of et', rfl, _, _, rfl, _, _, rfl, _, _, rfl, _, _, rfl, _, _, rfl, rfl, ?_⟩
          refine ⟨_, rfl, _, rfl, R, _, _, _, rfl, rfl, SqL.of r8, atI_nat hxV, _, rfl, _, rfl, ?_⟩
          refine ite2 (fun _ => ?_) (fun _ => ?_)
          · exact ⟨_, rfl, x, many, rfl, rfl, R, _, _, r.2.2.2.1, rfl, rfl, r8, ixN_nat (by rw [List.length_map]; omega), put many (Int.le_refl _) (by omega)⟩
          · exact ⟨_, rfl, 0, many, rfl, rfl, x, 0 - many, rfl, rfl, R, _, _, r.2.2.2.1, rfl, rfl, r8, ixN_nat (by rw [List.length_map]; omega), put (0 - many) (by omega) (by omega)⟩
        · clear e7 p7 r7 B7 s7
          rintro σ H8 ⟨v8, v9, v10, v11, v12, xs, rfl, r8, lx, bx, e8, p8, B8, s8⟩
          have sm := stp_7 (B := bnd i) (k := many) (by omega) (j := (us.map V.ref).length) (by rw [List.length_map, paired_len p8]; exact l7)
          refine ⟨_, rfl, R, _, rfl, .inl ⟨SqL.of r8, fun l hl' => ?_⟩⟩
          refine ⟨_, _, _, _, _, _, _, _, _, _, l, xs, rfl, sqt_new upd_same (B8.ne hl'), lx, fun t ht => ?_, B8.new hl', s8.new hl'⟩
          have := bx t ht
          omega
    · clear B2 s2 q2
      rintro σ H3 ⟨v3, v4, v5, v6, v7, v8, v9, v10, v11, v12, a', ts, rfl, hT, hl, hb, B3, s3⟩
      have up : bnd n.toNat ≤ bnd 3 := bnd_up (by omega)
      exact ⟨_, rfl, k a' ts H3 hT hl (fun t ht => by have := hb t ht; omega) B3 s3⟩
end
end Y

/-! ON: _law_near. -/
namespace Y
open PySem PySem.Spec PyProof.Rows L2 Ns
open C8 (pss_cut)
theorem wo2_put {H : Hp} {b p : Addr} {o : HO} : wo (wo (upd H p o) b) p = wo (wo H b) p := by
  funext c
  by_cases h : c = p
  · rw [h, wo_at, wo_at]
  · rw [wo_ne h, wo_ne h]
    by_cases g : c = b
    · rw [g, wo_at, wo_at]
    · rw [wo_ne g, wo_ne g, upd_ne h]
theorem wo2_new {H : Hp} {b p : Addr} {o : HO} (hp : H p = none) : Same (wo H b) (wo (wo (upd H p o) b) p) := fun c u e => by
  obtain ⟨n1, e1⟩ := wo_of e
  have n2 : c ≠ p := fun z => by rw [z, hp] at e1; cases e1
  rw [wo_ne n2, wo_ne n1, upd_ne n2]
  exact e1
/-- a tuple stands apart from a list -/
theorem sqt_off {K : PySem.W.Frag} {H : Hp} {p q : Addr} {xs ys : List V} (h : SqT K H q xs) (e : H p = some (.lst ys)) : SqT K (wo H p) q xs := by
  have nb : ∀ {o : HO}, H q = some o → (∀ l, o ≠ .lst l) → q ≠ p := fun {o} e' n z => by
    rw [z, e] at e'
    exact n _ (Option.some.inj e').symm
  rcases h with (h | ⟨o, h⟩) | h
  · exact .inl (.inl ((wo_ne (nb h (fun l z => by cases z))).trans h))
  · exact .inl (.inr ⟨o, (wo_ne (nb h (fun l z => by cases z))).trans h⟩)
  · exact .inr h
theorem cut_two {ts : List Int} {k : Nat} (h : k + 1 < ts.length) : ∃ u v : Int, u ∈ ts ∧ v ∈ ts ∧ cutV (ts.map V.int) (some (k : Int)) (some ((k : Int) + 2)) = [.int u, .int v] := by
  refine ⟨ts[k], ts[k + 1], List.getElem_mem _, List.getElem_mem _, ?_⟩
  unfold cutV
  rw [show ((k : Int) + 2) = ((k + 2 : Nat) : Int) by omega, HT.sIx_nat, HT.sIx_nat, List.length_map, Nat.min_eq_left (by omega), Nat.min_eq_left (by omega), show k + 2 - k = 2 by omega, ← List.map_drop, ← List.map_take, List.drop_eq_getElem_cons (by omega), List.drop_eq_getElem_cons h]
  rfl
/-- what is near, so far -/
def NrI (K : PySem.W.Frag) (H : Hp) (b p : Addr) (n : Nat) (H' : Hp) : Prop := ∃ (xs : List V) (ds : List PyData), H' p = some (.lst xs) ∧ xs.length ≤ n ∧ DatA K (wo (wo H' b) p) xs ds ∧ (∀ d ∈ ds, Bd 200 d) ∧ Bag H' b ∧ Sb b H H'
theorem NrI.sb {K : PySem.W.Frag} {H H' H'' : Hp} {b p : Addr} {n : Nat} (h : NrI K H b p n H') (np : p ≠ b) (B : Bag H'' b) (s : Sb b H' H'') : NrI K H b p n H'' := by
  obtain ⟨xs, ds, e, l, D, bd, _, s0⟩ := h
  exact ⟨xs, ds, s.get e np, l, D.more (wo_same s.1), bd, B, s0.trans s⟩
theorem NrI.add {K : PySem.W.Frag} {H H' : Hp} {b p : Addr} {n : Nat} {xs : List V} {ds : List PyData} (hB : Bag H b) (hp : H p = none) (e : H' p = some (.lst xs)) (l : xs.length ≤ n) (D : DatA K (wo (wo H' b) p) xs ds) (bd : ∀ d ∈ ds, Bd 200 d) (B : Bag H' b) (s : Sb b H H')
    {x : V} {d : PyData} (Dx : DatV K (wo (wo H' b) p) x d) (bx : Bd 200 d) : NrI K H b p (n + 1) (upd H' p (.lst (xs ++ [x]))) :=
  ⟨xs ++ [x], ds ++ [d], upd_same, by rw [List.length_append]; exact Nat.succ_le_succ l, by rw [wo2_put]; exact datA_app D (.cons Dx .nil), fun u hu => (List.mem_append.mp hu).elim (bd u) fun z => by rw [List.mem_singleton.mp z]; exact bx, hB.wr hp s B, s.wr hp⟩
def spNear (K : PySem.W.Frag) : Sp := fun as H Q _ => ∃ (b : Addr) (y : V) (a : Addr) (m : Nat) (rs : List Arc) (ts : List Int), as = [.ref b, y, .ref a] ∧ Bag H b ∧ NetV K (wo H b) y m rs ∧ NetP m rs ∧ SqT K (wo H b) a (ts.map V.int) ∧ ts.length = rs.length ∧ (∀ t ∈ ts, t ≤ bnd 3 ∧ -bnd 3 ≤ t) ∧
  ∀ (p : Addr) (xs : List V) (ds : List PyData) (H' : Hp), H' p = some (.lst xs) → xs.length ≤ 30 → DatA K (wo H' b) xs ds → (∀ d ∈ ds, Bd 200 d) → Bag H' b → Sb b H H' → Q (.ref p) H'
section
variable {P : Program} {w : World} {K : PySem.W.Frag} {mg : Str → Option Value} {base : Heap}
theorem scNe : FnScope ["bag", "net", "through", "found", "at", "cap", "many", "one", "other"] ["bag", "net", "through"] (defScope sNear) := ⟨rfl, rfl, rfl, by decide +kernel, rfl, by decide +kernel, by decide +kernel⟩
theorem ok_nearN {f fT fS fO fB : Addr} {fd dT dS dO dB : FuncData} (F : Fun K "_law_near" "_law_near" sNear f fd) (T : Nat0 mg) (FT : Fun K "_law_take" "_law_take" sTake fT dT) (mT : mg "_law_take" = some (.ref fT)) (bT : Binds K dT ["bag", "many"] [])
    (FS : Fun K "_law_some" "_law_some" sSome fS dS) (mS : mg "_law_some" = some (.ref fS)) (bS : Binds K dS ["bag", "things"] [])
    (FO : Fun K "_law_odd" "_law_odd" sOdd fO dO) (mO : mg "_law_odd" = some (.ref fO)) (bO : Binds K dO ["bag"] [])
    (GB : FnOk P w K mg base CX0 5 fB dB ["bag", "thing", "deep"] (spBent K 1)) (FB : Fun K "_law_bent" "_law_bent" sBent fB dB) (mB : mg "_law_bent" = some (.ref fB)) (bB : Binds K dB ["bag", "thing", "deep"] []) : FnOk P w K mg base CX0 6 f fd ["bag", "net", "through"] (spNear K) := by
  have GT : FnOk P w K mg base CX0 1 fT dT ["bag", "many"] spTake := ok_take FT T
  have GS : FnOk P w K mg base CX0 2 fS dS ["bag", "things"] (spSome K) := ok_some FS T FT mT bT
  have GO : FnOk P w K mg base CX0 3 fO dO ["bag"] (spOdd K) := ok_odd FO FS mS bS GS
  refine F.ok scNe (fun as H Q E h => ?_) (fun cdv A outer s H as Q E hr h => ?_)
  · obtain ⟨b, y, a, m, rs, ts, rfl, _⟩ := h
    rfl
  · obtain ⟨b, y, a, m, rs, ts, rfl, hB, hN, hP, hT, hl, hb, k⟩ := h
    have hr1 : Room 1 _ := hr.mono (by decide)
    have hr2 : Room 2 _ := hr.mono (by decide)
    have hr3 : Room 3 _ := hr.mono (by decide)
    refine ⟨_, pss_cons (ps_set (i := 3) scNe.nd rfl (.inl rfl) (pe_lst (pa_cons (pe_call GB hr rfl mB FB.kp bB .nil pass0 (pa_cons (pv 0) (pa_cons (pv 2) (pa_cons pe_int pa_nil)))) (pa_cons (pe_call GB hr rfl mB FB.kp bB .nil pass0 (pa_cons (pv 0) (pa_cons (pv 2) (pa_cons pe_int pa_nil))))
        (pa_cons (pe_callTy call_list_of (by rfl) T.list_ (by decide +kernel) (pa_cons (pv 2) pa_nil)) (pa_cons (pe_op op_catP (pv 2) (pe_tup (pa_cons pe_int pa_nil))) (pa_cons (pe_call GO hr3 rfl mO FO.kp bO .nil pass0 (pa_cons (pv 0) pa_nil)) pa_nil)))))))
      (pss_cons (ps_for PassesOwn.never rfl (pi_range1 (by rfl) T.range (pa_cons (pe_callB call_len_seq (by rfl) T.len PySem.boot_len (pa_cons (pv 2) pa_nil)) pa_nil)) (pg_name (i := 4) scNe.nd rfl (.inl rfl))
        (pss_cons (ps_set (i := 5) scNe.nd rfl (.inl rfl) (pe_ix ix_tup (pe_ix ix_tup (pe_ix ix_tup (pv 1) pe_int (fun _ _ => rfl)) (pv 4) (fun _ _ => rfl)) pe_int (fun _ _ => rfl)))
        (pss_cut (ps_set (i := 6) scNe.nd rfl (.inl rfl) (pe_call GS hr2 rfl mS FS.kp bS .nil pass0 (pa_cons (pv 0) (pa_cons (pe_lst (pa_cons (pe_op op_add (pe_ix ix_tup (pv 2) (pv 4) (fun _ _ => rfl)) pe_int) (pa_cons (pe_op op_sub (pe_ix ix_tup (pv 2) (pv 4) (fun _ _ => rfl)) pe_int)
            (pa_cons (pe_ifExp (pt_cmpR op_isN (pv 5) pe_non (nomark _)) pe_int (pe_op op_add (pv 5) pe_int)) (pa_cons (pe_cmpR op_eq (pe_ix ix_tup (pv 2) (pv 4) (fun _ _ => rfl)) pe_int (nomark _)) pa_nil))))) pa_nil))))
        (pss_one (ps_expr (pe_bm PySem.F.plainAttrs_list PySem.F.slot_list_append PySem.F.type_list_append mt_append (pv 3) (pa_cons (pe_op op_catP (pe_op op_catP (pe_slice sl_tupP (pv 2) po_none (po_some (pv 4))) (pe_tup (pa_cons (pv 6) pa_nil))) (pe_slice sl_tupP (pv 2) (po_some (pe_op op_add (pv 4) pe_int)) po_none)) pa_nil)))))))
      (pss_cons (ps_if (pt_cmpR op_gt (pe_callB call_len_seq (by rfl) T.len PySem.boot_len (pa_cons (pv 2) pa_nil)) pe_int (nomark _))
        (pss_cons (ps_set (i := 4) scNe.nd rfl (.inl rfl) (pe_call GT hr1 rfl mT FT.kp bT .nil pass0 (pa_cons (pv 0) (pa_cons (pe_op op_sub (pe_callB call_len_seq (by rfl) T.len PySem.boot_len (pa_cons (pv 2) pa_nil)) pe_int) pa_nil))))
        (pss_cons (ps_asg (pe_slice sl_tupP (pv 2) (po_some (pv 4)) (po_some (pe_op op_add (pv 4) pe_int))) (pg_tup (by rfl) (pgs_cons (pg_name (i := 7) scNe.nd rfl (.inl rfl)) (pgs_cons (pg_name (i := 8) scNe.nd rfl (.inl rfl)) pgs_nil))))
        (pss_cons (ps_expr (pe_bm PySem.F.plainAttrs_list PySem.F.slot_list_append PySem.F.type_list_append mt_append (pv 3) (pa_cons (pe_op op_catP (pe_op op_catP (pe_slice sl_tupP (pv 2) po_none (po_some (pv 4))) (pe_tup (pa_cons (pe_op op_add (pv 7) pe_int) (pa_cons (pe_op op_sub (pv 8) pe_int) pa_nil)))) (pe_slice sl_tupP (pv 2) (po_some (pe_op op_add (pv 4) pe_int)) po_none)) pa_nil)))
        (pss_one (ps_expr (pe_bm PySem.F.plainAttrs_list PySem.F.slot_list_append PySem.F.type_list_append mt_append (pv 3) (pa_cons (pe_op op_catP (pe_op op_catP (pe_slice sl_tupP (pv 2) po_none (po_some (pv 4))) (pe_tup (pa_cons (pe_op op_add (pv 7) pe_int) (pa_cons (pe_op op_add (pv 8) pe_int) pa_nil)))) (pe_slice sl_tupP (pv 2) (po_some (pe_op op_add (pv 4) pe_int)) po_none)) pa_nil))))))) pss_nil)
      (pss_one (ps_ret (pv 3))))), ?_⟩
    obtain ⟨tn, ra, zs, rfl, h1, h2, h3⟩ := id hN
    have lz := paired_len h3
    have l14 := hP.len
    have v1 : ∀ {G : Hp}, Sb b H G → SqT K G tn [.int m, .ref ra] := fun {G} s => sqt_more (wo_sub G b) (sqt_more s.1 h1)
    have v2 : ∀ {G : Hp}, Sb b H G → SqT K G ra zs := fun {G} s => sqt_more (wo_sub G b) (sqt_more s.1 h2)
    have v3 : ∀ {G : Hp}, Sb b H G → Paired (ArcV K G) zs rs := fun {G} s => arcs_more (arcs_more h3 s.1) (wo_sub G b)
    have vT : ∀ {G : Hp}, Sb b H G → SqT K G a (ts.map V.int) := fun {G} s => sqt_more (wo_sub G b) (sqt_more s.1 hT)
    have b3 : bnd 3 = 10000000000000000000000000000000000 := by decide
    have dT : DatV K (wo H b) (.ref a) (.tuple (ts.map PyData.int)) := .tup hT (datA_ints ts)
    have bdT : Bd 40 (.tuple (ts.map PyData.int)) := by
      simp only [Bd]
      refine ⟨by rw [List.length_map]; omega, bdA_iff.mpr fun d hd => ?_⟩
      obtain ⟨t, ht, rfl⟩ := List.mem_map.mp hd
      have := hb t ht
      simp only [Bd]
      exact Nat.lt_of_le_of_lt (show t.natAbs ≤ 10000000000000000000000000000000000 by omega) (by decide)
    have lT : (ts.map V.int).length ≤ 14 := by rw [List.length_map]; omega
    -- the first five
    refine ⟨_, rfl, _, rfl, b, .ref a, _, 40, rfl, hB, dT, bdT, by decide, fun x1 d1 H1 D1 c1 B1 s1 => ?_⟩
    refine ⟨_, rfl, _, rfl, b, .ref a, _, 40, rfl, B1, dT.more s1.1, bdT, by decide, fun x2 d2 H2 D2 c2 B2 s2 => ?_⟩
    have s02 := s1.trans s2
    refine ⟨_, rfl, a, _, rfl, .inr (vT s02), fun l hl' => ?_⟩
    have M3 := same_new (o := .lst (ts.map V.int)) (Same.refl H2) hl'
    have e3 := sql_new (K := K) (upd_same (H := H2) (a := l) (o := .lst (ts.map V.int))) (B2.ne hl')
    generalize upd H2 l (.lst (ts.map V.int)) = H3 at M3 e3 ⊢
    have B3 := B2.keep M3
    have s03 := s02.same M3
    refine ⟨_, rfl, by show 1 ≤ sizeLine; decide, fun t0 ht0 => ?_⟩
    have M4 := same_new (o := .tup [.int 0]) (Same.refl H3) ht0
    have e4 : SqT K (upd H3 t0 (.tup [.int 0])) t0 [.int 0] := SqT.of upd_same
    generalize upd H3 t0 (.tup [.int 0]) = H4 at M4 e4 ⊢
    have s04 := s03.same M4
    refine ⟨a, t0, _, _, rfl, rfl, vT s04, e4, Nat.le_of_lt (small1000 (show (ts.map V.int).length + 1 ≤ 1000 by omega)), fun q H5 M5 q5 => ?_⟩
    have s05 := s04.same M5
    have B5 := (B3.keep M4).keep M5
    refine ⟨_, rfl, b, rfl, B5, fun x6 d6 H6 D6 c6 B6 s6 => ?_⟩
    have s06 := s05.trans s6
    have M35 := M4.trans M5
    have row : DatA K (wo H6 b) [x1, x2, .ref l, .ref q, x6] [d1, d2, .list (ts.map PyData.int), .tuple (ts.map PyData.int ++ [.int 0]), d6] :=
      .cons ((((D1.more s2.1).more (wo_same M3)).more (wo_same M35)).more s6.1) (.cons (((D2.more (wo_same M3)).more (wo_same M35)).more s6.1) (.cons (.lst (Same.seq s6.1 (Same.seq (wo_same M35) e3)) (datA_ints ts))
        (.cons (.tup (sqt_more s6.1 (sqt_wo' q5 B5)) (datA_app (datA_ints ts) (.cons (.int 0) .nil))) (.cons D6 .nil))))
    have items : ∀ u ∈ ts.map PyData.int, Bd 200 u := fun u hu => by
      simp only [Bd] at bdT
      exact Bd.up (by decide) (bdA_iff.mp bdT.2 u hu)
    have rowB : ∀ u ∈ [d1, d2, .list (ts.map PyData.int), .tuple (ts.map PyData.int ++ [.int 0]), d6], Bd 200 u := by
      intro u hu
      simp only [List.mem_cons, List.not_mem_nil, or_false] at hu
      rcases hu with rfl | rfl | rfl | rfl | rfl
      · exact Bd.up (by decide) c1
      · exact Bd.up (by decide) c2
      · simp only [Bd]
        exact ⟨by rw [List.length_map]; omega, bdA_iff.mpr items⟩
      · simp only [Bd]
        refine ⟨by rw [List.length_append, List.length_map]; show _ + 1 ≤ _; omega, bdA_iff.mpr fun v hv => (List.mem_append.mp hv).elim (items v) fun z => ?_⟩
        rw [List.mem_singleton.mp z]
        simp only [Bd]
        decide
      · exact Bd.up (by decide) c6
    refine ⟨by show 5 ≤ sizeLine; decide, fun p hp => ?_⟩
    have npb := B6.ne hp
    have fp : H p = none := s06.free hp npb
    have I7 : NrI K H b p 5 (upd H6 p (.lst [x1, x2, .ref l, .ref q, x6])) := ⟨_, _, upd_same, by show 5 ≤ 5; decide, row.more (wo2_new hp), rowB, B6.new hp, s06.new hp⟩
    generalize upd H6 p (.lst [x1, x2, .ref l, .ref q, x6]) = H7 at I7 ⊢
    clear rowB c1 c2 c6 row hp M35 B5 s05 s04 s03 s02 B3 M3 M4 M5 e3 e4 q5 D1 D2 D6 B1 B2 B6 s1 s2 s6 s06 hl' ht0
    have apB : ∀ {l1 l2 l3 : List PyData}, (∀ e ∈ l1, e ∈ ts.map PyData.int) → (∀ e ∈ l2, e ∈ ts.map PyData.int) → (∀ e ∈ l3, Bd 200 e) → ∀ e ∈ l1 ++ l3 ++ l2, Bd 200 e := fun h1 h2 h3 e he => by
      rcases List.mem_append.mp he with he | he
      · rcases List.mem_append.mp he with he | he
        · exact items e (h1 e he)
        · exact h3 e he
      · exact items e (h2 e he)
    -- one more tuple
    have more : ∀ {n : Nat} {H1 H2 : Hp} {q : Addr} {vs : List V} {es : List PyData}, n ≤ 29 → NrI K H b p n H1 → Same H1 H2 → SqT K H2 q vs → (∀ G : Hp, DatA K G vs es) → (∀ e ∈ es, Bd 200 e) → es.length ≤ 200 → ∃ xs : List V, H2 p = some (.lst xs) ∧ xs.length < sizeLine ∧ NrI K H b p (n + 1) (upd H2 p (.lst (xs ++ [.ref q]))) := by
      intro n H1 H2 q vs es hn I M sq De be le
      obtain ⟨xs, ds, e, l, D, bd, B, s⟩ := I
      refine ⟨xs, M _ _ e, small1000 (by omega), NrI.add hB fp (M _ _ e) l (D.more (wo_same (wo_same M))) bd (B.keep M) (s.same M) (.tup (sqt_off (sqt_wo' sq (B.keep M)) ((wo_ne npb).trans (M _ _ e))) (De _)) (by simp only [Bd]; exact ⟨le, bdA_iff.mpr be⟩)⟩
    have sbOf : ∀ {n : Nat} {G : Hp}, NrI K H b p n G → Sb b H G := fun {n G} ⟨_, _, _, _, _, _, _, s⟩ => s
    have bagOf : ∀ {n : Nat} {G : Hp}, NrI K H b p n G → Bag G b := fun {n G} ⟨_, _, _, _, _, _, B, _⟩ => B
    have atOf : ∀ {n : Nat} {G : Hp}, NrI K H b p n G → ∃ xs, G p = some (.lst xs) := fun {n G} ⟨xs, _, e, _⟩ => ⟨xs, e⟩
    refine ⟨_, rfl, a, _, rfl, .inr (vT (sbOf I7)), ((ts.map V.int).length : Nat), rfl, by omega, by omega, for_range (n := (((ts.map V.int).length : Nat) : Int).toNat) (fun i σ H' => ∃ v4 v5 v6 : Option V, σ = [some (.ref b), some (.ref tn), some (.ref a), some (.ref p), v4, v5, v6, none, none] ∧ NrI K H b p (5 + i) H') ?_ ?_ ?_⟩
    · exact ⟨none, none, none, rfl, I7⟩
    · clear I7
      rintro i σ H8 hi ⟨v4, v5, v6, rfl, I8⟩
      have hi' : i < ts.length := by rw [List.length_map] at hi; omega
      obtain ⟨z, hz⟩ : ∃ z, ts[i]? = some z := ⟨_, List.getElem?_eq_getElem hi'⟩
      have hzV : (ts.map V.int)[i]? = some (.int z) := by rw [List.getElem?_map, hz]; rfl
      obtain ⟨ze, hze⟩ : ∃ ze, zs[i]? = some ze := ⟨_, List.getElem?_eq_getElem (by omega)⟩
      have s8 := sbOf I8
      obtain ⟨r, hr', rq, rfl, hrq⟩ := paired_at (v3 s8) hze
      have ei : (0 + (i : Int)) = ((i : Nat) : Int) := by omega
      refine ⟨_, rfl, tn, _, 1, .ref ra, rfl, rfl, v1 s8, at1, _, rfl, ra, _, _, _, rfl, rfl, v2 s8, by rw [ei]; exact atI_nat hze, rq, _, 2, _, rfl, rfl, hrq, at2, ?_⟩
      refine ⟨fun σ' H' => ∃ (x : V) (d : PyData), (∀ G : Hp, DatV K G x d) ∧ Bd 200 d ∧ σ' = [some (.ref b), some (.ref tn), some (.ref a), some (.ref p), some (.int (0 + (i : Int))), some (capV r.2.2), some x, none, none] ∧ NrI K H b p (5 + i) H', ?_, ?_⟩
      · have go : ∀ (c : Int) (q : Addr), c.natAbs ≤ 10000000000000 → H8 q = none → ∀ (x : V) (H' : Hp), x ∈ [V.int (z + 1), .int (z - 1), .int c, .bl (decide (V.int z = V.int 1))] → Bag H' b → Sb b (upd H8 q (.lst [V.int (z + 1), .int (z - 1), .int c, .bl (decide (V.int z = V.int 1))])) H' →
            ∃ (x' : V) (d : PyData), (∀ G : Hp, DatV K G x' d) ∧ Bd 200 d ∧ [some (V.ref b), some (.ref tn), some (.ref a), some (.ref p), some (.int (0 + (i : Int))), some (capV r.2.2), some x, none, none] = [some (.ref b), some (.ref tn), some (.ref a), some (.ref p), some (.int (0 + (i : Int))), some (capV r.2.2), some x', none, none] ∧ NrI K H b p (5 + i) H' := by
          intro c q hc hq x H' hx B s
          have zz := hb z (List.mem_of_getElem? hz)
          have bi : ∀ j : Int, j.natAbs ≤ 10000000000000000000000000000000001 → Bd 200 (.int j) := fun j hj => by
            simp only [Bd]
            exact Nat.lt_of_le_of_lt hj (by decide)
          have I9 := I8.sb npb B (((Sb.refl b H8).new hq).trans s)
          simp only [List.mem_cons, List.not_mem_nil, or_false] at hx
          rcases hx with rfl | rfl | rfl | rfl
          · exact ⟨_, _, fun _ => .int _, bi _ (by omega), rfl, I9⟩
          · exact ⟨_, _, fun _ => .int _, bi _ (by omega), rfl, I9⟩
          · exact ⟨_, _, fun _ => .int _, bi _ (by omega), rfl, I9⟩
          · exact ⟨_, _, fun _ => .bl _, by simp only [Bd], rfl, I9⟩
        refine ⟨_, rfl, _, rfl, _, rfl, a, _, _, _, rfl, rfl, vT s8, by rw [ei]; exact atI_nat hzV, z, 1, rfl, rfl, _, rfl, _, rfl, a, _, _, _, rfl, rfl, vT s8, by rw [ei]; exact atI_nat hzV, z, 1, rfl, rfl, _, rfl, rfl, _, rfl, ?_⟩
        cases hc : r.2.2 with
        | none =>
          refine ite2 (fun _ => ?_) (fun h => absurd rfl h)
          refine ⟨_, rfl, _, rfl, a, _, _, _, rfl, rfl, vT s8, by rw [ei]; exact atI_nat hzV, rfl, by show 4 ≤ sizeLine; decide, fun q hq => ⟨b, q, _, rfl, (bagOf I8).new hq, sql_new upd_same ((bagOf I8).ne hq), (fun z => nomatch z), by show 4 ≤ 1000000; decide, fun x H' hx B s => ?_⟩⟩
          have := go 0 q (by decide) hq x H' hx B s
          rw [hc] at this
          exact this
        | some c =>
          refine ite2 (fun h => absurd h (by show ¬ (decide (V.int c = V.non) = true); simp)) (fun _ => ?_)
          refine ⟨_, rfl, c, 1, rfl, rfl, _, rfl, _, rfl, a, _, _, _, rfl, rfl, vT s8, by rw [ei]; exact atI_nat hzV, rfl, by show 4 ≤ sizeLine; decide, fun q hq => ⟨b, q, _, rfl, (bagOf I8).new hq, sql_new upd_same ((bagOf I8).ne hq), (fun z => nomatch z), by show 4 ≤ 1000000; decide, fun x H' hx B s => ?_⟩⟩
          have cb := (hP.each r (List.mem_of_getElem? hr')).2.2.2 c hc
          have := go (c + 1) q (by omega) hq x H' hx B s
          rw [hc] at this
          exact this
      clear s8 I8 hrq
      rintro σ9 H9 ⟨x, d, Dx, bx, rfl, I9⟩
      have s9 := sbOf I9
      obtain ⟨xs, e9⟩ := atOf I9
      have c1 := cutV_length (ts.map V.int) none (some (0 + (i : Int)))
      have c2 := cutV_length (ts.map V.int) (some (0 + (i : Int) + 1)) none
      obtain ⟨w1, A1, sb1, le1⟩ := datA_cut (K := K) (H := fun _ => none) (datA_ints ts) none (some (0 + (i : Int)))
      obtain ⟨w2, A2, sb2, le2⟩ := datA_cut (K := K) (H := fun _ => none) (datA_ints ts) (some (0 + (i : Int) + 1)) none
      have any : ∀ {G : Hp} {vs : List V} {es : List PyData}, DatA K (fun _ => none) vs es → DatA K G vs es := fun {G vs es} D => D.more (fun _ _ z => by cases z)
      refine ⟨_, rfl, .inl ⟨rfl, _, SqL.of e9⟩, _, rfl, _, rfl, _, rfl, a, _, rfl, vT s9, fun p1 HA M1 q1 => ?_⟩
      refine ⟨_, rfl, by show 1 ≤ sizeLine; decide, fun t ht => ?_⟩
      have M2 := same_new (o := .tup [x]) (Same.refl HA) ht
      have e2 : SqT K (upd HA t (.tup [x])) t [x] := SqT.of upd_same
      generalize upd HA t (.tup [x]) = HB at M2 e2 ⊢
      refine ⟨p1, t, _, _, rfl, rfl, sqt_more M2 q1, e2, Nat.le_of_lt (small1000 (show (cutV (ts.map V.int) none (some (0 + (i : Int)))).length + 1 ≤ 1000 by omega)), fun p2 HC M3 q3 => ?_⟩
      have MM := (M1.trans M2).trans M3
      refine ⟨_, rfl, _, rfl, _, _, rfl, rfl, _, rfl, a, _, rfl, vT (s9.same MM), fun p3 HD M4 q4 => ?_⟩
      refine ⟨p2, p3, _, _, rfl, rfl, sqt_more M4 q3, q4, Nat.le_of_lt (small1000 (show (cutV (ts.map V.int) none (some (0 + (i : Int))) ++ [x]).length + (cutV (ts.map V.int) (some (0 + (i : Int) + 1)) none).length ≤ 1000 by rw [List.length_append]; show _ + 1 + _ ≤ 1000; omega)), fun p4 HE M5 q5 => ?_⟩
      obtain ⟨ys, ey, ly, In⟩ := more (by rw [List.length_map] at hi; omega) I9 ((MM.trans M4).trans M5) q5 (es := w1 ++ [d] ++ w2) (fun G => datA_app (datA_app (any A1) (.cons (Dx G) .nil)) (any A2)) (apB sb1 sb2 fun u hu => by rw [List.mem_singleton.mp hu]; exact bx) (by rw [List.length_map] at le1 le2; rw [List.length_append, List.length_append]; show _ + 1 + _ ≤ _; omega)
      exact ⟨p, ys, _, rfl, rfl, ey, ly, _, _, _, rfl, In⟩
    · clear I7
      rintro σ H8 ⟨v4, v5, v6, rfl, I8⟩
      have I8 : NrI K H b p 19 H8 := by
        obtain ⟨xs, ds, e, l, r⟩ := I8
        exact ⟨xs, ds, e, by rw [List.length_map] at l; omega, r⟩
      have fin : ∀ {n : Nat} {G : Hp}, n ≤ 30 → NrI K H b p n G → Q (.ref p) G := fun {n G} hn ⟨xs, ds, e, l, D, bd, B, s⟩ => k p xs ds G e (by omega) (D.more (wo_sub _ p)) bd B s
      refine ⟨_, rfl, a, _, rfl, .inr (vT (sbOf I8)), _, _, rfl, rfl, _, rfl, ?_⟩
      refine ite2 (fun h => ?_) (fun _ => ⟨_, rfl, fin (by decide) I8⟩)
      have l2 : 1 < ts.length := by
        have := of_decide_eq_true h
        rw [List.length_map] at this
        omega
      refine ⟨_, rfl, _, rfl, a, _, rfl, .inr (vT (sbOf I8)), _, _, rfl, rfl, b, _, rfl, bagOf I8, by rw [List.length_map]; omega, Nat.lt_of_le_of_lt (show (((ts.map V.int).length : Int) - 1).natAbs ≤ 1000 by omega) (by decide), fun v H9 v0 v1 B9 s9 => ?_⟩
      rw [List.length_map] at v1
      obtain ⟨c, rfl⟩ : ∃ c : Nat, v = (c : Int) := ⟨v.toNat, by omega⟩
      have I9 := I8.sb npb B9 s9
      clear I8 s9 B9
      obtain ⟨u1, u2, m1, m2', eu⟩ := cut_two (ts := ts) (k := c) (by omega)
      refine ⟨_, rfl, _, rfl, _, rfl, _, rfl, _, _, rfl, rfl, _, rfl, a, _, rfl, vT (sbOf I9), fun q HA MA qA => ?_⟩
      rw [eu] at qA
      refine ⟨q, _, rfl, qA, rfl, _, _, rfl, _, _, rfl, rfl, ?_⟩
      have IA := I9.sb npb ((bagOf I9).keep MA) ((Sb.refl b H9).same MA)
      clear qA eu I9
      have c1 := cutV_length (ts.map V.int) none (some (c : Int))
      have c2 := cutV_length (ts.map V.int) (some ((c : Int) + 2)) none
      obtain ⟨w1, A1, sb1, le1⟩ := datA_cut (K := K) (H := fun _ => none) (datA_ints ts) none (some (c : Int))
      obtain ⟨w2, A2, sb2, le2⟩ := datA_cut (K := K) (H := fun _ => none) (datA_ints ts) (some ((c : Int) + 2)) none
      have any : ∀ {G : Hp} {vs : List V} {es : List PyData}, DatA K (fun _ => none) vs es → DatA K G vs es := fun {G vs es} D => D.more (fun _ _ z => by cases z)
      have bu : ∀ i1 i2 : Int, i1.natAbs ≤ u1.natAbs + 1 → i2.natAbs ≤ u2.natAbs + 1 → ∀ e ∈ [PyData.int i1, .int i2], Bd 200 e := fun i1 i2 h1 h2 e he => by
        have z1 := hb u1 m1
        have z2 := hb u2 m2'
        simp only [List.mem_cons, List.not_mem_nil, or_false] at he
        rcases he with rfl | rfl
        · simp only [Bd]
          exact Nat.lt_of_le_of_lt (show i1.natAbs ≤ 10000000000000000000000000000000001 by omega) (by decide)
        · simp only [Bd]
          exact Nat.lt_of_le_of_lt (show i2.natAbs ≤ 10000000000000000000000000000000001 by omega) (by decide)
      rw [List.length_map] at le1 le2
      obtain ⟨xs, e9⟩ := atOf IA
      refine ⟨_, rfl, .inl ⟨rfl, _, SqL.of e9⟩, _, rfl, _, rfl, _, rfl, a, _, rfl, vT (sbOf IA), fun p1 HB M1 q1 => ?_⟩
      refine ⟨_, rfl, _, _, rfl, rfl, _, rfl, _, _, rfl, rfl, by show 2 ≤ sizeLine; decide, fun t ht => ?_⟩
      have M2 := same_new (o := .tup [.int (u1 + 1), .int (u2 - 1)]) (Same.refl HB) ht
      have e2 : SqT K (upd HB t (.tup [.int (u1 + 1), .int (u2 - 1)])) t [.int (u1 + 1), .int (u2 - 1)] := SqT.of upd_same
      generalize upd HB t (.tup [.int (u1 + 1), .int (u2 - 1)]) = HC at M2 e2 ⊢
      refine ⟨p1, t, _, _, rfl, rfl, sqt_more M2 q1, e2, Nat.le_of_lt (small1000 (show (cutV (ts.map V.int) none (some (c : Int))).length + 2 ≤ 1000 by omega)), fun p2 HD M3 q3 => ?_⟩
      have MM := (M1.trans M2).trans M3
      refine ⟨_, rfl, _, rfl, _, _, rfl, rfl, _, rfl, a, _, rfl, vT ((sbOf IA).same MM), fun p3 HE M4 q4 => ?_⟩
      refine ⟨p2, p3, _, _, rfl, rfl, sqt_more M4 q3, q4, Nat.le_of_lt (small1000 (show (cutV (ts.map V.int) none (some (c : Int)) ++ [V.int (u1 + 1), .int (u2 - 1)]).length + (cutV (ts.map V.int) (some ((c : Int) + 2)) none).length ≤ 1000 by rw [List.length_append]; show _ + 2 + _ ≤ 1000; omega)), fun p4 HF M5 q5 => ?_⟩
      obtain ⟨ys, ey, ly, In⟩ := more (by decide) IA ((MM.trans M4).trans M5) q5 (es := w1 ++ [.int (u1 + 1), .int (u2 - 1)] ++ w2) (fun G => datA_app (datA_app (any A1) (.cons (.int _) (.cons (.int _) .nil))) (any A2)) (apB sb1 sb2 (bu _ _ (by omega) (by omega))) (by rw [List.length_append, List.length_append]; show _ + 2 + _ ≤ _; omega)
      refine ⟨p, ys, _, rfl, rfl, ey, ly, ?_⟩
      generalize upd HF p (.lst (ys ++ [.ref p4])) = HG at In ⊢
      clear ey ly q5 M5 q4 M4 MM q3 M3 q1 M1 M2 e2 ht IA e9
      obtain ⟨xs, e9⟩ := atOf In
      refine ⟨_, rfl, .inl ⟨rfl, _, SqL.of e9⟩, _, rfl, _, rfl, _, rfl, a, _, rfl, vT (sbOf In), fun p1 HB M1 q1 => ?_⟩
      refine ⟨_, rfl, _, _, rfl, rfl, _, rfl, _, _, rfl, rfl, by show 2 ≤ sizeLine; decide, fun t ht => ?_⟩
      have M2 := same_new (o := .tup [.int (u1 + 1), .int (u2 + 1)]) (Same.refl HB) ht
      have e2 : SqT K (upd HB t (.tup [.int (u1 + 1), .int (u2 + 1)])) t [.int (u1 + 1), .int (u2 + 1)] := SqT.of upd_same
      generalize upd HB t (.tup [.int (u1 + 1), .int (u2 + 1)]) = HC at M2 e2 ⊢
      refine ⟨p1, t, _, _, rfl, rfl, sqt_more M2 q1, e2, Nat.le_of_lt (small1000 (show (cutV (ts.map V.int) none (some (c : Int))).length + 2 ≤ 1000 by omega)), fun p2 HD M3 q3 => ?_⟩
      have MM := (M1.trans M2).trans M3
      refine ⟨_, rfl, _, rfl, _, _, rfl, rfl, _, rfl, a, _, rfl, vT ((sbOf In).same MM), fun p3 HE M4 q4 => ?_⟩
      refine ⟨p2, p3, _, _, rfl, rfl, sqt_more M4 q3, q4, Nat.le_of_lt (small1000 (show (cutV (ts.map V.int) none (some (c : Int)) ++ [V.int (u1 + 1), .int (u2 + 1)]).length + (cutV (ts.map V.int) (some ((c : Int) + 2)) none).length ≤ 1000 by rw [List.length_append]; show _ + 2 + _ ≤ 1000; omega)), fun p4 HH M5 q5 => ?_⟩
      obtain ⟨ys, ey, ly, Io⟩ := more (by decide) In ((MM.trans M4).trans M5) q5 (es := w1 ++ [.int (u1 + 1), .int (u2 + 1)] ++ w2) (fun G => datA_app (datA_app (any A1) (.cons (.int _) (.cons (.int _) .nil))) (any A2)) (apB sb1 sb2 (bu _ _ (by omega) (by omega))) (by rw [List.length_append, List.length_append]; show _ + 2 + _ ≤ _; omega)
      exact ⟨p, ys, _, rfl, rfl, ey, ly, _, rfl, fin (by decide) Io⟩
end
end Y

/-! OP: the law. -/
namespace Y
open PySem PySem.Spec PyProof.Rows L2 Ns
open C8 (pss_cut)
def arcD (a : Arc) : PyData := .tuple [.int a.1, .int a.2.1, capD a.2.2]
def netD (m : Nat) (rs : List Arc) (ts : List Int) : PyData := .tuple [.tuple [.int m, .tuple (rs.map arcD)], .tuple (ts.map PyData.int)]
theorem dat_cap {K : PySem.W.Frag} {H : Hp} (c : Option Int) : DatV K H (capV c) (capD c) := by
  cases c with
  | none => exact .non
  | some c => exact .int c
theorem dat_arcs {K : PySem.W.Frag} {H : Hp} : ∀ {xs : List V} {rs : List Arc}, Paired (ArcV K H) xs rs → DatA K H xs (rs.map arcD)
  | _, _, .nil => .nil
  | _, _, .cons h t => by
    obtain ⟨a, rfl, q⟩ := h
    exact .cons (.tup q (.cons (.int _) (.cons (.int _) (.cons (dat_cap _) .nil)))) (dat_arcs t)
theorem dat_net {K : PySem.W.Frag} {H : Hp} {y : V} {m : Nat} {rs : List Arc} (h : NetV K H y m rs) : DatV K H y (.tuple [.int m, .tuple (rs.map arcD)]) := by
  obtain ⟨t, a, xs, rfl, h1, h2, h3⟩ := h
  exact .tup h1 (.cons (.int _) (.cons (.tup h2 (dat_arcs h3)) .nil))
theorem fitI {i : Int} (h : i.natAbs < 10 ^ 299) : Fit 300 0 (.int i) := fit_int (n := 299) (by decide) h (by decide)
theorem fitN : Fit 300 0 .none := ⟨rfl, by decide +kernel, by decide⟩
theorem small_abs {i : Int} (h : i.natAbs ≤ 100000000000000000000000000000000000) : i.natAbs < 10 ^ 299 := Nat.lt_of_le_of_lt h (by decide +kernel)
theorem fit_arc {m : Nat} {a : Arc} (h1 : a.1 < m) (h2 : a.2.1 < m) (hm : m ≤ 7) (h : ∀ c, a.2.2 = some c → 0 ≤ c ∧ c ≤ 10 ^ 12) : Fit 1000 1 (arcD a) := by
  refine (fit_tuple (m := 300) (k := 0) fun d hd => ?_).mono (by show 3 * 302 + 3 ≤ 1000; decide) (Nat.le_refl _)
  simp only [List.mem_cons, List.not_mem_nil, or_false] at hd
  rcases hd with rfl | rfl | rfl
  · exact fitI (small_abs (by omega))
  · exact fitI (small_abs (by omega))
  · cases hc : a.2.2 with
    | none => exact fitN
    | some c =>
      have := h c hc
      exact fitI (small_abs (by omega))
theorem fit_ts {ts : List Int} (hl : ts.length ≤ 14) (h : ∀ t ∈ ts, t.natAbs ≤ 100000000000000000000000000000000000) : Fit 5000 1 (.tuple (ts.map PyData.int)) := by
  refine (fit_tuple (m := 300) (k := 0) fun d hd => ?_).mono (by rw [List.length_map]; omega) (Nat.le_refl _)
  obtain ⟨t, ht, rfl⟩ := List.mem_map.mp hd
  exact fitI (small_abs (h t ht))
theorem fit_net {m : Nat} {rs : List Arc} {ts : List Int} (hP : NetP m rs) (hl : ts.length = rs.length) (h : ∀ t ∈ ts, t.natAbs ≤ 100000000000000000000000000000000000) : Fit 100000 4 (netD m rs ts) := by
  have l14 := hP.len
  have m7 := hP.m7
  have f1 : Fit 15000 2 (.tuple (rs.map arcD)) := (fit_tuple (m := 1000) (k := 1) fun d hd => by
    obtain ⟨a, ha, rfl⟩ := List.mem_map.mp hd
    obtain ⟨h1, h2, _, h4⟩ := hP.each a ha
    exact fit_arc h1 h2 m7 h4).mono (by rw [List.length_map]; omega) (Nat.le_refl _)
  have f2 : Fit 40000 3 (.tuple [.int m, .tuple (rs.map arcD)]) := (fit_tuple (m := 15000) (k := 2) fun d hd => by
    simp only [List.mem_cons, List.not_mem_nil, or_false] at hd
    rcases hd with rfl | rfl
    · exact (fitI (small_abs (by omega))).mono (by decide) (by decide)
    · exact f1).mono (by show 2 * 15002 + 3 ≤ 40000; decide) (Nat.le_refl _)
  refine (fit_tuple (m := 40000) (k := 3) fun d hd => ?_).mono (by show 2 * 40002 + 3 ≤ 100000; decide) (Nat.le_refl _)
  simp only [List.mem_cons, List.not_mem_nil, or_false] at hd
  rcases hd with rfl | rfl
  · exact f2
  · exact (fit_ts (by omega) h).mono (by decide) (by decide)
theorem srp_bd {k : Nat} {B : Int} (hB : 0 ≤ B) : ∀ (rs : List Arc) (ts : List Int), (∀ t ∈ ts, t ≤ B ∧ -B ≤ t) → srp k rs ts ≤ stp 0 (2 * B) rs.length ∧ -stp 0 (2 * B) rs.length ≤ srp k rs ts
  | [], _, _ => ⟨Int.le_refl _, Int.le_refl _⟩
  | r :: rs, [], _ => by
    have nn : ∀ n, 0 ≤ stp 0 (2 * B) n := fun n => by
      induction n with
      | zero => exact Int.le_refl _
      | succ n ih => show 0 ≤ stp 0 (2 * B) n + 2 * B; omega
    have := nn (r :: rs).length
    show (0 : Int) ≤ _ ∧ _ ≤ (0 : Int)
    omega
  | r :: rs, t :: ts, h => by
    have ih := srp_bd hB (k := k) rs ts fun t ht => h t (List.mem_cons_of_mem _ ht)
    have ht := h t List.mem_cons_self
    have es : stp 0 (2 * B) (r :: rs).length = stp 0 (2 * B) rs.length + 2 * B := rfl
    have ed : srp k (r :: rs) (t :: ts) = (if r.2.1 = k then t else 0) - (if r.1 = k then t else 0) + srp k rs ts := rfl
    rw [es, ed]
    split <;> split <;> omega
theorem stp_14 {B : Int} (h : 0 ≤ B) {j : Nat} (hj : j ≤ 14) : stp 0 (2 * B) j ≤ 28 * B := by
  have e : stp 0 (2 * B) 14 = 28 * B := by
    show 0 + 2 * B + 2 * B + 2 * B + 2 * B + 2 * B + 2 * B + 2 * B + 2 * B + 2 * B + 2 * B + 2 * B + 2 * B + 2 * B + 2 * B = _
    omega
  have up : ∀ {i j : Nat}, i ≤ j → stp 0 (2 * B) i ≤ stp 0 (2 * B) j := fun {i j} hij => by
    induction hij with
    | refl => exact Int.le_refl _
    | @step n _ ih => exact Int.le_trans ih (by show _ ≤ stp 0 (2 * B) n + 2 * B; omega)
  rw [← e]
  exact up hj
theorem srp_fit {m k : Nat} {rs : List Arc} {ts : List Int} (hP : NetP m rs) (h : ∀ t ∈ ts, t.natAbs < 10 ^ 200) : Fit 300 0 (.int (srp k rs ts)) := by
  have e : (10 : Int) ^ 200 = ((10 ^ 200 : Nat) : Int) := by decide +kernel
  obtain ⟨B, hB⟩ : ∃ B : Nat, B = 10 ^ 200 := ⟨_, rfl⟩
  rw [← hB] at h
  obtain ⟨h1, h2⟩ := srp_bd (k := k) (B := (B : Int)) (by omega) rs ts fun t ht => by have := h t ht; omega
  have h3 := stp_14 (B := (B : Int)) (by omega) hP.len
  refine fitI (Nat.lt_of_le_of_lt (show (srp k rs ts).natAbs ≤ 28 * B by omega) ?_)
  rw [hB]
  decide +kernel
theorem thr_get {K : PySem.W.Frag} {H : Hp} {x : V} {d : PyData} {m : Nat} {rs : List Arc} (D : DatV K H x d) (h : isThr m rs d = true) (bd : Bd 200 d) : ∃ (a : Addr) (ts : List Int), x = .ref a ∧ SqT K H a (ts.map V.int) ∧ ts.length = rs.length ∧ ∀ t ∈ ts, t.natAbs < 10 ^ 200 := by
  cases D with
  | @tup a xs ds hT hA =>
    rw [isThr_tup, Bool.and_eq_true, Bool.and_eq_true] at h
    obtain ⟨ts, rfl, rfl, _⟩ := all_ints hA h.2.1
    have l := of_decide_eq_true h.1
    rw [List.length_map] at l
    simp only [Bd] at bd
    refine ⟨a, ts, rfl, hT, l, fun t ht => ?_⟩
    have := bdA_iff.mp bd.2 _ (List.mem_map.mpr ⟨t, ht, rfl⟩)
    simpa only [Bd] using this
  | _ => cases h
theorem boolFit (b : Bool) : (PyData.bool b).showable = true ∧ (PyData.bool b).shown.length ≤ sizeLine ∧ (PyData.bool b).depth ≤ 60 := by
  cases b <;> exact ⟨rfl, by decide +kernel, by decide⟩
section
variable {P : Program} {w : World} {K : PySem.W.Frag} {mg : Str → Option Value} {base : Heap} {fB fNt fPt fVO fLV fNe fIT fLT fA : Addr} {dB dNt dPt dVO dLV dNe dIT dLT dA : FuncData}
structure D11 (P : Program) (w : World) (K : PySem.W.Frag) (mg : Str → Option Value) (base : Heap) (fB fNt fPt fVO fLV fNe fIT fLT fA : Addr) (dB dNt dPt dVO dLV dNe dIT dLT dA : FuncData) : Prop where
  B : Fun K "_law_bag" "_law_bag" sBag fB dB
  mB : mg "_law_bag" = some (.ref fB)
  bB : Binds K dB ["script"] []
  gB : FnOk P w K mg base CX0 1 fB dB ["script"] (spBag K)
  Nt : Fun K "_law_net" "_law_net" sNet fNt dNt
  mNt : mg "_law_net" = some (.ref fNt)
  bNt : Binds K dNt ["bag"] []
  gNt : FnOk P w K mg base CX0 4 fNt dNt ["bag"] (spNet K)
  Pt : Fun K "_law_part" "_law_part" sPart fPt dPt
  mPt : mg "_law_part" = some (.ref fPt)
  bPt : Binds K dPt ["bag", "net"] []
  gPt : FnOk P w K mg base CX0 3 fPt dPt ["bag", "net"] (spPart K)
  VO : Fun K "value_of" "value_of" sValueOf fVO dVO
  mVO : mg "value_of" = some (.ref fVO)
  bVO : Binds K dVO ["net", "through"] []
  gVO : FnOk P w K mg base CX0 2 fVO dVO ["net", "through"] (spVal K)
  LV : Fun K "_law_value" "_law_value" sValue fLV dLV
  mLV : mg "_law_value" = some (.ref fLV)
  bLV : Binds K dLV ["net", "through"] []
  gLV : FnOk P w K mg base CX0 1 fLV dLV ["net", "through"] (spVal K)
  Ne : Fun K "_law_near" "_law_near" sNear fNe dNe
  mNe : mg "_law_near" = some (.ref fNe)
  bNe : Binds K dNe ["bag", "net", "through"] []
  gNe : FnOk P w K mg base CX0 6 fNe dNe ["bag", "net", "through"] (spNear K)
  IT : Fun K "is_through" "is_through" sIsThrough fIT dIT
  mIT : mg "is_through" = some (.ref fIT)
  bIT : Binds K dIT ["net", "thing"] []
  gIT : FnOk P w K mg base CX0 3 fIT dIT ["net", "thing"] (spThr K)
  LT : Fun K "_law_is_through" "_law_is_through" sLIsThrough fLT dLT
  mLT : mg "_law_is_through" = some (.ref fLT)
  bLT : Binds K dLT ["net", "thing"] []
  gLT : FnOk P w K mg base CX0 2 fLT dLT ["net", "thing"] (spThr K)
  A : Fun K "_law_alike" "_law_alike" sAlike fA dA
  mA : mg "_law_alike" = some (.ref fA)
  bA : Binds K dA ["found", "due"] []
  gA : GnOk P w K mg base 1 fA dA ["found", "due"] (spAlike K)
theorem scL : FnScope ["script", "bag", "turn", "net", "through", "said", "again", "thing"] ["script"] (defScope sLaw) := ⟨rfl, rfl, rfl, by decide +kernel, rfl, by decide +kernel, by decide +kernel⟩
theorem ok_law {f : Addr} {fd : FuncData} (F : Fun K "law" "law" sLaw f fd) (T : Nat0 mg) (D : D11 P w K mg base fB fNt fPt fVO fLV fNe fIT fLT fA dB dNt dPt dVO dLV dNe dIT dLT dA) : GnOk P w K mg base 7 f fd ["script"] (spTop K) := by
  refine Fun.okG F scL (fun as H Q E h => ?_) (fun cdv A outer s H as Q E hr hgd h => ?_)
  · obtain ⟨a, ns, rfl, _⟩ := h
    rfl
  · obtain ⟨a, ns, rfl, hS, hl, k⟩ := h
    have hr1 : Room 1 _ := hr.mono (by decide)
    have hr2 : Room 2 _ := hr.mono (by decide)
    have hr3 : Room 3 _ := hr.mono (by decide)
    have hr4 : Room 4 _ := hr.mono (by decide)
    have hun := hr.units
    refine ⟨_, pss_cons (ps_set (i := 1) scL.nd rfl (.inl rfl) (pe_call D.gB hr1 rfl D.mB D.B.kp D.bB .nil pass0 (pa_cons (pv 0) pa_nil)))
      (pss_cons (ps_for PassesOwn.never rfl (pi_range1 (by rfl) T.range (pa_cons pe_int pa_nil)) (pg_name (i := 2) scL.nd rfl (.inl rfl))
        (pss_cons (ps_set (i := 3) scL.nd rfl (.inl rfl) (pe_call D.gNt hr4 rfl D.mNt D.Nt.kp D.bNt .nil pass0 (pa_cons (pv 1) pa_nil)))
        (pss_cons (ps_set (i := 4) scL.nd rfl (.inl rfl) (pe_call D.gPt hr3 rfl D.mPt D.Pt.kp D.bPt .nil pass0 (pa_cons (pv 1) (pa_cons (pv 3) pa_nil))))
        (pss_cons (ps_set (i := 5) scL.nd rfl (.inl rfl) (pe_callB (call_reprD hgd hun) (by rfl) T.repr (by decide +kernel) (pa_cons (pe_tup (pa_cons (pv 3) (pa_cons (pv 4) pa_nil))) pa_nil)))
        (pss_cons (ps_for PassesOwn.never rfl (pi_range1 (by rfl) T.range (pa_cons pe_int pa_nil)) (pg_name (i := 6) scL.nd rfl (.inl rfl))
          (pss_one (ps_if (pt_not (pt_val (pe_callG D.gA hr1 hgd rfl D.mA D.A.kp D.bA (pa_cons (pe_call D.gVO hr2 rfl D.mVO D.VO.kp D.bVO .nil pass0 (pa_cons (pv 3) (pa_cons (pv 4) pa_nil))) (pa_cons (pe_call D.gLV hr1 rfl D.mLV D.LV.kp D.bLV .nil pass0 (pa_cons (pv 3) (pa_cons (pv 4) pa_nil))) pa_nil))))) (pss_one (ps_ret pe_bl)) pss_nil)))
        (pss_cons (ps_for PassesOwn.never rfl (pi_list (pe_op op_cat (pe_lst (pa_cons (pv 4) pa_nil)) (pe_call D.gNe hr rfl D.mNe D.Ne.kp D.bNe .nil pass0 (pa_cons (pv 1) (pa_cons (pv 3) (pa_cons (pv 4) pa_nil)))))) (pg_name (i := 7) scL.nd rfl (.inl rfl))
          (pss_cons (ps_if (pt_not (pt_val (pe_callG D.gA hr1 hgd rfl D.mA D.A.kp D.bA (pa_cons (pe_call D.gIT hr3 rfl D.mIT D.IT.kp D.bIT .nil pass0 (pa_cons (pv 3) (pa_cons (pv 7) pa_nil))) (pa_cons (pe_call D.gLT hr2 rfl D.mLT D.LT.kp D.bLT .nil pass0 (pa_cons (pv 3) (pa_cons (pv 7) pa_nil))) pa_nil))))) (pss_one (ps_ret pe_bl)) pss_nil)
          (pss_one (ps_if (PW.pt (pw_and (pt_val (pe_call D.gLT hr2 rfl D.mLT D.LT.kp D.bLT .nil pass0 (pa_cons (pv 3) (pa_cons (pv 7) pa_nil)))) (pw_and1 (pt_not (pt_val (pe_callG D.gA hr1 hgd rfl D.mA D.A.kp D.bA (pa_cons (pe_call D.gVO hr2 rfl D.mVO D.VO.kp D.bVO .nil pass0 (pa_cons (pv 3) (pa_cons (pv 7) pa_nil)))
              (pa_cons (pe_call D.gLV hr1 rfl D.mLV D.LV.kp D.bLV .nil pass0 (pa_cons (pv 3) (pa_cons (pv 7) pa_nil))) pa_nil)))))))) (pss_one (ps_ret pe_bl)) pss_nil))))
        (pss_one (ps_if (pt_cmpR op_ne (pe_callB (call_reprD hgd hun) (by rfl) T.repr (by decide +kernel) (pa_cons (pe_tup (pa_cons (pv 3) (pa_cons (pv 4) pa_nil))) pa_nil)) (pv 5) (nomark _)) (pss_one (ps_ret pe_bl)) pss_nil))))))))
      (pss_one (ps_ret pe_bl))), ?_⟩
    refine ⟨_, rfl, a, ns, rfl, hS, hl, fun b H1 hB1 _ _ => ?_⟩
    refine ⟨6, rfl, by decide, by decide, for_range (n := 6) (fun i σ H' => ∃ v2 v3 v4 v5 v6 v7 : Option V, σ = [some (.ref a), some (.ref b), v2, v3, v4, v5, v6, v7] ∧ Bag H' b) ?_ ?_ ?_⟩
    · exact ⟨none, none, none, none, none, none, rfl, hB1⟩
    · clear hB1
      rintro i σ H0 hi ⟨v2, v3, v4, v5, v6, v7, rfl, hB⟩
      refine ⟨_, rfl, b, rfl, hB, fun y m rs H2 hP hN B2 s2 => ?_⟩
      refine ⟨_, rfl, _, rfl, b, y, m, rs, rfl, B2, hN, hP, fun a' ts H3 hT hl' hb B3 s3 => ?_⟩
      have hN3 := hN.more s3.1
      have b3 : bnd 3 = 10000000000000000000000000000000000 := by decide
      have abs : ∀ t ∈ ts, t.natAbs ≤ 100000000000000000000000000000000000 := fun t ht => by have := hb t ht; omega
      have abs2 : ∀ t ∈ ts, t.natAbs < 10 ^ 200 := fun t ht => Nat.lt_of_le_of_lt (abs t ht) (by decide +kernel)
      obtain ⟨f1, f2, f3⟩ := fit_net hP hl' abs
      have f2' : (netD m rs ts).shown.length ≤ sizeLine := Nat.le_trans f2 (by rw [sizeLine_eq]; decide)
      have f3' : (netD m rs ts).depth ≤ 60 := Nat.le_trans f3 (by decide)
      clear s2 s3 hN B2 f2 f3
      obtain ⟨g1, g2, g3⟩ := srp_fit (k := 1) hP abs2
      have g2' : (PyData.int (srp 1 rs ts)).shown.length ≤ sizeLine := Nat.le_trans g2 (by rw [sizeLine_eq]; decide)
      have g3' : (PyData.int (srp 1 rs ts)).depth ≤ 60 := Nat.le_trans g3 (by decide)
      have nT : ∀ {G : Hp}, Same H3 G → NetV K G y m rs := fun {G} M => (hN3.more (wo_same M)).more (wo_sub G b)
      have tT : ∀ {G : Hp}, Same H3 G → SqT K G a' (ts.map V.int) := fun {G} M => sqt_more (wo_sub G b) (sqt_more (wo_same M) hT)
      have rep : ∀ {G : Hp} {t : Addr}, Same H3 G → G t = none → DatV K (upd G t (.tup [y, .ref a'])) (.ref t) (netD m rs ts) := fun {G t} M ht => by
        have M' := same_new (o := .tup [y, .ref a']) M ht
        exact .tup (SqT.of upd_same) (.cons (dat_net (nT M')) (.cons (.tup (tT M') (datA_ints ts)) .nil))
      -- said
      refine ⟨_, rfl, _, rfl, by show 2 ≤ sizeLine; decide, fun t ht => ⟨.ref t, _, rfl, rep (Same.refl H3) ht, f1, f2', f3', ?_⟩⟩
      have M4 := same_new (o := .tup [y, .ref a']) (Same.refl H3) ht
      generalize upd H3 t (.tup [y, .ref a']) = H4 at M4 ⊢
      refine ⟨2, rfl, by decide, by decide, for_range (n := 2) (fun j σ H' => ∃ v6 : Option V, σ = [some (.ref a), some (.ref b), some (.int (0 + (i : Int))), some y, some (.ref a'), some (.str (netD m rs ts).shown), v6, v7] ∧ Same H3 H') ?_ ?_ ?_⟩
      · exact ⟨_, rfl, M4⟩
      · clear M4 ht
        rintro j σ H5 _ ⟨v6, rfl, M5⟩
        refine ⟨_, rfl, _, rfl, y, a', m, rs, ts, rfl, nT M5, hP, tT M5, hl', fun H6 M6 => ?_⟩
        refine ⟨_, rfl, _, rfl, y, a', m, rs, ts, rfl, nT (M5.trans M6), hP, tT (M5.trans M6), hl', fun H7 M7 => ?_⟩
        refine ⟨.int (srp 1 rs ts), .int (srp 1 rs ts), .int (srp 1 rs ts), rfl, .inl ⟨rfl, .inl ⟨_, rfl⟩⟩, .int _, .int _, g1, g2', g3', ?_⟩
        refine ⟨_, rfl, ?_⟩
        refine ite2 (fun h => by cases h) (fun _ => ?_)
        exact ⟨_, rfl, (M5.trans M6).trans M7⟩
      · clear M4 ht
        rintro σ H5 ⟨v6, rfl, M5⟩
        refine ⟨_, rfl, by show 1 ≤ sizeLine; decide, fun l hl2 => ?_⟩
        have M6 := same_new (o := .lst [.ref a']) M5 hl2
        have e6 : upd H5 l (.lst [.ref a']) l = some (.lst [.ref a']) := upd_same
        generalize upd H5 l (.lst [.ref a']) = H6 at M6 e6 ⊢
        have B6 := B3.keep M6
        have nlb : l ≠ b := fun z => by
          obtain ⟨n0, n1, n2, l0, ms, h1, _⟩ := B6
          rw [z, h1] at e6
          cases e6
        refine ⟨_, rfl, _, rfl, _, rfl, b, y, a', m, rs, ts, rfl, B6, hN3.more (wo_same M6), hP, sqt_more (wo_same M6) hT, hl', hb, fun p xs ds H7 e7 lx D7 bd7 B7 s7 => ?_⟩
        have n7 := (hN3.more (wo_same M6)).more s7.1
        have t7 := sqt_more s7.1 (sqt_more (wo_same M6) hT)
        refine ⟨l, p, [.ref a'], xs, rfl, rfl, s7.get e6 nlb, e7, Nat.le_of_lt (small1000 (show 1 + xs.length ≤ 1000 by omega)), fun q hq => ⟨q, rfl, ⟨_, SqL.of upd_same⟩, ?_⟩⟩
        have M8 := same_new (o := .lst ([.ref a'] ++ xs)) (Same.refl H7) hq
        have e8 : upd H7 q (.lst ([.ref a'] ++ xs)) q = some (.lst ([.ref a'] ++ xs)) := upd_same
        generalize upd H7 q (.lst ([.ref a'] ++ xs)) = H8 at M8 e8 ⊢
        have n8 : ∀ {G : Hp}, Same H8 G → NetV K G y m rs := fun {G} M => (n7.more (wo_same (M8.trans M))).more (wo_sub G b)
        have t8 : ∀ {G : Hp}, Same H8 G → SqT K G a' (ts.map V.int) := fun {G} M => sqt_more (wo_sub G b) (sqt_more (wo_same (M8.trans M)) t7)
        have row : DatA K (wo H7 b) ([.ref a'] ++ xs) (.tuple (ts.map PyData.int) :: ds) := .cons (.tup t7 (datA_ints ts)) D7
        have bdr : ∀ d ∈ PyData.tuple (ts.map PyData.int) :: ds, Bd 200 d := fun d hd => by
          rcases List.mem_cons.mp hd with rfl | hd
          · have l14 := hP.len
            simp only [Bd]
            refine ⟨by rw [List.length_map]; omega, bdA_iff.mpr fun e he => ?_⟩
            obtain ⟨t, ht, rfl⟩ := List.mem_map.mp he
            simp only [Bd]
            exact abs2 t ht
          · exact bd7 d hd
        have B8 := B7.keep M8
        clear D7 bd7 e6 M6 B6 s7 e7 M5 hl2
        refine for_list (K := K) (a := q) (xs := [.ref a'] ++ xs) (fun j σ H' => ∃ v7 : Option V, σ = [some (.ref a), some (.ref b), some (.int (0 + (i : Int))), some y, some (.ref a'), some (.str (netD m rs ts).shown), v6, v7] ∧ Same H8 H') ?_ ?_ ?_ ?_
        · exact ⟨_, rfl, Same.refl H8⟩
        · rintro j σ H' _ ⟨_, _, M⟩
          exact SqL.of (M _ _ e8)
        · rintro j x σ H9 hx ⟨v7, rfl, M9⟩
          obtain ⟨d, hd, Dx⟩ := datA_at row hx
          have bx := bdr d (List.mem_of_getElem? hd)
          have Dx' : ∀ {G : Hp}, Same H8 G → DatV K G x d := fun {G} M => (Dx.more (wo_same (M8.trans M))).more (wo_sub G b)
          obtain ⟨z1, z2, z3⟩ := boolFit (isThr m rs d)
          refine ⟨_, rfl, _, rfl, y, x, m, rs, d, rfl, n8 M9, hP, Dx' M9, fun HA MA => ?_⟩
          have M10 := M9.trans MA
          refine ⟨_, rfl, _, rfl, y, x, m, rs, d, rfl, n8 M10, hP, Dx' M10, fun HB MB => ?_⟩
          have M11 := M10.trans MB
          refine ⟨.bl (isThr m rs d), .bl (isThr m rs d), .bool (isThr m rs d), rfl, .inl ⟨rfl, .inr (.inr (.inr ⟨_, rfl⟩))⟩, .bl _, .bl _, z1, z2, z3, ?_⟩
          refine ⟨_, rfl, ?_⟩
          refine ite2 (fun h => by cases h) (fun _ => ?_)
          refine ⟨_, rfl, _, rfl, y, x, m, rs, d, rfl, n8 M11, hP, Dx' M11, fun HC MC => ⟨_, rfl, ?_⟩⟩
          have M12 := M11.trans MC
          refine ite2 (fun h => ?_) (fun _ => ⟨_, rfl, M12⟩)
          obtain ⟨a2, ts2, rfl, hT2, hl2, hb2⟩ := thr_get Dx h bx
          have T2 : ∀ {G : Hp}, Same H8 G → SqT K G a2 (ts2.map V.int) := fun {G} M => sqt_more (wo_sub G b) (sqt_more (wo_same (M8.trans M)) hT2)
          obtain ⟨w1, w2, w3⟩ := srp_fit (k := 1) hP hb2
          refine ⟨_, rfl, _, rfl, y, a2, m, rs, ts2, rfl, n8 M12, hP, T2 M12, hl2, fun HD MD => ?_⟩
          have M13 := M12.trans MD
          refine ⟨_, rfl, _, rfl, y, a2, m, rs, ts2, rfl, n8 M13, hP, T2 M13, hl2, fun HE ME => ?_⟩
          refine ⟨.int (srp 1 rs ts2), .int (srp 1 rs ts2), .int (srp 1 rs ts2), rfl, .inl ⟨rfl, .inl ⟨_, rfl⟩⟩, .int _, .int _, w1, Nat.le_trans w2 (by rw [sizeLine_eq]; decide), Nat.le_trans w3 (by decide), ?_⟩
          refine ⟨_, rfl, ?_⟩
          refine ite2 (fun h => by cases h) (fun _ => ?_)
          exact ⟨_, rfl, M13.trans ME⟩
        · rintro σ H9 ⟨v7, rfl, M9⟩
          refine ⟨_, rfl, _, rfl, by show 2 ≤ sizeLine; decide, fun t2 ht2 => ⟨.ref t2, netD m rs ts, rfl, ?_, f1, f2', f3', _, rfl, rfl, _, rfl, ?_⟩⟩
          · have M' := same_new (o := .tup [y, .ref a']) M9 ht2
            exact .tup (SqT.of upd_same) (.cons (dat_net (n8 M')) (.cons (.tup (t8 M') (datA_ints ts)) .nil))
          · refine ite2 (fun h => absurd h (by simp)) (fun _ => ?_)
            exact ⟨_, _, _, _, _, _, rfl, (B8.keep M9).new ht2⟩
    · rintro σ H2 ⟨_, _, _, _, _, _, rfl, _⟩
      exact k _
end
end Y

namespace Y
open PySem PySem.Spec PyProof.Rows L2 Ns
/-- the def's data -/
def fdOf {K : PySem.W.Frag} {x q : Str} {st : Stmt} {f : Addr} {fd : FuncData} (_ : Fun K x q st f fd) : FuncData := fd
set_option maxHeartbeats 4000000 in
theorem all_mk {l : PySem.W.OpenLaw} {w : World} {K : PySem.W.Frag} {h : Heap} {mg : Str → Option Value} {fa : Addr} (X : K.In h) (G : h.Ns mainGlobals mg) (hfa : mg "law" = some (.ref fa))
    {fII fIC fVO fIT fSu fB fT fS fA fZ fWh fO fW fBe fNt fLV fLT fRo fWy fPt fNe fL : Addr}
    {oddII andII : Option Addr} {sldII : Array (Option Value)} {ocdII kVdII dcdII pmdII cddII ctdII : Value}
    {oddIC andIC : Option Addr} {sldIC : Array (Option Value)} {ocdIC kVdIC dcdIC pmdIC cddIC ctdIC : Value}
    {oddVO andVO : Option Addr} {sldVO : Array (Option Value)} {ocdVO kVdVO dcdVO pmdVO cddVO ctdVO : Value}
    {oddIT andIT : Option Addr} {sldIT : Array (Option Value)} {ocdIT kVdIT dcdIT pmdIT cddIT ctdIT : Value}
    {oddSu andSu : Option Addr} {sldSu : Array (Option Value)} {ocdSu kVdSu dcdSu pmdSu cddSu ctdSu : Value}
    {oddB andB : Option Addr} {sldB : Array (Option Value)} {ocdB kVdB dcdB pmdB cddB ctdB : Value}
    {oddT andT : Option Addr} {sldT : Array (Option Value)} {ocdT kVdT dcdT pmdT cddT ctdT : Value}
    {oddS andS : Option Addr} {sldS : Array (Option Value)} {ocdS kVdS dcdS pmdS cddS ctdS : Value}
    {oddA andA : Option Addr} {sldA : Array (Option Value)} {ocdA kVdA dcdA pmdA cddA ctdA : Value}
    {oddZ andZ : Option Addr} {sldZ : Array (Option Value)} {ocdZ kVdZ dcdZ pmdZ cddZ ctdZ : Value}
    {oddWh andWh : Option Addr} {sldWh : Array (Option Value)} {ocdWh kVdWh dcdWh pmdWh cddWh ctdWh : Value}
    {oddO andO : Option Addr} {sldO : Array (Option Value)} {ocdO kVdO dcdO pmdO cddO ctdO : Value}
    {oddW andW : Option Addr} {sldW : Array (Option Value)} {ocdW kVdW dcdW pmdW cddW ctdW : Value}
    {oddBe andBe : Option Addr} {sldBe : Array (Option Value)} {ocdBe kVdBe dcdBe pmdBe cddBe ctdBe : Value}
    {oddNt andNt : Option Addr} {sldNt : Array (Option Value)} {ocdNt kVdNt dcdNt pmdNt cddNt ctdNt : Value}
    {oddLV andLV : Option Addr} {sldLV : Array (Option Value)} {ocdLV kVdLV dcdLV pmdLV cddLV ctdLV : Value}
    {oddLT andLT : Option Addr} {sldLT : Array (Option Value)} {ocdLT kVdLT dcdLT pmdLT cddLT ctdLT : Value}
    {oddRo andRo : Option Addr} {sldRo : Array (Option Value)} {ocdRo kVdRo dcdRo pmdRo cddRo ctdRo : Value}
    {oddWy andWy : Option Addr} {sldWy : Array (Option Value)} {ocdWy kVdWy dcdWy pmdWy cddWy ctdWy : Value}
    {oddPt andPt : Option Addr} {sldPt : Array (Option Value)} {ocdPt kVdPt dcdPt pmdPt cddPt ctdPt : Value}
    {oddNe andNe : Option Addr} {sldNe : Array (Option Value)} {ocdNe kVdNe dcdNe pmdNe cddNe ctdNe : Value}
    {oddL andL : Option Addr} {sldL : Array (Option Value)} {ocdL kVdL dcdL pmdL cddL ctdL : Value}
    (adII : PySem.W.nsIn K mainGlobals "is_integer" = some (some (.ref fII)))
    (ldII : K.lookup fII = some ⟨ocdII, oddII, .func (PySem.W.fnOf "is_integer" "is_integer" (defArgs sIsInteger) (defBody sIsInteger) (defScope sIsInteger) .none kVdII dcdII pmdII andII cddII ctdII), sldII⟩)
    (cdII : PySem.W.codeIn K cddII "is_integer" = true)
    (kdII : PySem.W.keepIn K (.ref fII) = true)
    (adIC : PySem.W.nsIn K mainGlobals "is_count" = some (some (.ref fIC)))
    (ldIC : K.lookup fIC = some ⟨ocdIC, oddIC, .func (PySem.W.fnOf "is_count" "is_count" (defArgs sIsCount) (defBody sIsCount) (defScope sIsCount) .none kVdIC dcdIC pmdIC andIC cddIC ctdIC), sldIC⟩)
    (cdIC : PySem.W.codeIn K cddIC "is_count" = true)
    (kdIC : PySem.W.keepIn K (.ref fIC) = true)
    (adVO : PySem.W.nsIn K mainGlobals "value_of" = some (some (.ref fVO)))
    (ldVO : K.lookup fVO = some ⟨ocdVO, oddVO, .func (PySem.W.fnOf "value_of" "value_of" (defArgs sValueOf) (defBody sValueOf) (defScope sValueOf) .none kVdVO dcdVO pmdVO andVO cddVO ctdVO), sldVO⟩)
    (cdVO : PySem.W.codeIn K cddVO "value_of" = true)
    (kdVO : PySem.W.keepIn K (.ref fVO) = true)
    (adIT : PySem.W.nsIn K mainGlobals "is_through" = some (some (.ref fIT)))
    (ldIT : K.lookup fIT = some ⟨ocdIT, oddIT, .func (PySem.W.fnOf "is_through" "is_through" (defArgs sIsThrough) (defBody sIsThrough) (defScope sIsThrough) .none kVdIT dcdIT pmdIT andIT cddIT ctdIT), sldIT⟩)
    (cdIT : PySem.W.codeIn K cddIT "is_through" = true)
    (kdIT : PySem.W.keepIn K (.ref fIT) = true)
    (adSu : PySem.W.nsIn K mainGlobals "_surplus" = some (some (.ref fSu)))
    (ldSu : K.lookup fSu = some ⟨ocdSu, oddSu, .func (PySem.W.fnOf "_surplus" "_surplus" (defArgs sSurplus) (defBody sSurplus) (defScope sSurplus) .none kVdSu dcdSu pmdSu andSu cddSu ctdSu), sldSu⟩)
    (cdSu : PySem.W.codeIn K cddSu "_surplus" = true)
    (kdSu : PySem.W.keepIn K (.ref fSu) = true)
    (adB : PySem.W.nsIn K mainGlobals "_law_bag" = some (some (.ref fB)))
    (ldB : K.lookup fB = some ⟨ocdB, oddB, .func (PySem.W.fnOf "_law_bag" "_law_bag" (defArgs sBag) (defBody sBag) (defScope sBag) .none kVdB dcdB pmdB andB cddB ctdB), sldB⟩)
    (cdB : PySem.W.codeIn K cddB "_law_bag" = true)
    (kdB : PySem.W.keepIn K (.ref fB) = true)
    (adT : PySem.W.nsIn K mainGlobals "_law_take" = some (some (.ref fT)))
    (ldT : K.lookup fT = some ⟨ocdT, oddT, .func (PySem.W.fnOf "_law_take" "_law_take" (defArgs sTake) (defBody sTake) (defScope sTake) .none kVdT dcdT pmdT andT cddT ctdT), sldT⟩)
    (cdT : PySem.W.codeIn K cddT "_law_take" = true)
    (kdT : PySem.W.keepIn K (.ref fT) = true)
    (adS : PySem.W.nsIn K mainGlobals "_law_some" = some (some (.ref fS)))
    (ldS : K.lookup fS = some ⟨ocdS, oddS, .func (PySem.W.fnOf "_law_some" "_law_some" (defArgs sSome) (defBody sSome) (defScope sSome) .none kVdS dcdS pmdS andS cddS ctdS), sldS⟩)
    (cdS : PySem.W.codeIn K cddS "_law_some" = true)
    (kdS : PySem.W.keepIn K (.ref fS) = true)
    (adA : PySem.W.nsIn K mainGlobals "_law_alike" = some (some (.ref fA)))
    (ldA : K.lookup fA = some ⟨ocdA, oddA, .func (PySem.W.fnOf "_law_alike" "_law_alike" (defArgs sAlike) (defBody sAlike) (defScope sAlike) .none kVdA dcdA pmdA andA cddA ctdA), sldA⟩)
    (cdA : PySem.W.codeIn K cddA "_law_alike" = true)
    (kdA : PySem.W.keepIn K (.ref fA) = true)
    (adZ : PySem.W.nsIn K mainGlobals "_law_size" = some (some (.ref fZ)))
    (ldZ : K.lookup fZ = some ⟨ocdZ, oddZ, .func (PySem.W.fnOf "_law_size" "_law_size" (defArgs sSize) (defBody sSize) (defScope sSize) .none kVdZ dcdZ pmdZ andZ cddZ ctdZ), sldZ⟩)
    (cdZ : PySem.W.codeIn K cddZ "_law_size" = true)
    (kdZ : PySem.W.keepIn K (.ref fZ) = true)
    (adWh : PySem.W.nsIn K mainGlobals "_law_whole" = some (some (.ref fWh)))
    (ldWh : K.lookup fWh = some ⟨ocdWh, oddWh, .func (PySem.W.fnOf "_law_whole" "_law_whole" (defArgs sWhole) (defBody sWhole) (defScope sWhole) .none kVdWh dcdWh pmdWh andWh cddWh ctdWh), sldWh⟩)
    (cdWh : PySem.W.codeIn K cddWh "_law_whole" = true)
    (kdWh : PySem.W.keepIn K (.ref fWh) = true)
    (adO : PySem.W.nsIn K mainGlobals "_law_odd" = some (some (.ref fO)))
    (ldO : K.lookup fO = some ⟨ocdO, oddO, .func (PySem.W.fnOf "_law_odd" "_law_odd" (defArgs sOdd) (defBody sOdd) (defScope sOdd) .none kVdO dcdO pmdO andO cddO ctdO), sldO⟩)
    (cdO : PySem.W.codeIn K cddO "_law_odd" = true)
    (kdO : PySem.W.keepIn K (.ref fO) = true)
    (adW : PySem.W.nsIn K mainGlobals "_law_bent_word" = some (some (.ref fW)))
    (ldW : K.lookup fW = some ⟨ocdW, oddW, .func (PySem.W.fnOf "_law_bent_word" "_law_bent_word" (defArgs sBentWord) (defBody sBentWord) (defScope sBentWord) .none kVdW dcdW pmdW andW cddW ctdW), sldW⟩)
    (cdW : PySem.W.codeIn K cddW "_law_bent_word" = true)
    (kdW : PySem.W.keepIn K (.ref fW) = true)
    (adBe : PySem.W.nsIn K mainGlobals "_law_bent" = some (some (.ref fBe)))
    (ldBe : K.lookup fBe = some ⟨ocdBe, oddBe, .func (PySem.W.fnOf "_law_bent" "_law_bent" (defArgs sBent) (defBody sBent) (defScope sBent) .none kVdBe dcdBe pmdBe andBe cddBe ctdBe), sldBe⟩)
    (cdBe : PySem.W.codeIn K cddBe "_law_bent" = true)
    (kdBe : PySem.W.keepIn K (.ref fBe) = true)
    (adNt : PySem.W.nsIn K mainGlobals "_law_net" = some (some (.ref fNt)))
    (ldNt : K.lookup fNt = some ⟨ocdNt, oddNt, .func (PySem.W.fnOf "_law_net" "_law_net" (defArgs sNet) (defBody sNet) (defScope sNet) .none kVdNt dcdNt pmdNt andNt cddNt ctdNt), sldNt⟩)
    (cdNt : PySem.W.codeIn K cddNt "_law_net" = true)
    (kdNt : PySem.W.keepIn K (.ref fNt) = true)
    (adLV : PySem.W.nsIn K mainGlobals "_law_value" = some (some (.ref fLV)))
    (ldLV : K.lookup fLV = some ⟨ocdLV, oddLV, .func (PySem.W.fnOf "_law_value" "_law_value" (defArgs sValue) (defBody sValue) (defScope sValue) .none kVdLV dcdLV pmdLV andLV cddLV ctdLV), sldLV⟩)
    (cdLV : PySem.W.codeIn K cddLV "_law_value" = true)
    (kdLV : PySem.W.keepIn K (.ref fLV) = true)
    (adLT : PySem.W.nsIn K mainGlobals "_law_is_through" = some (some (.ref fLT)))
    (ldLT : K.lookup fLT = some ⟨ocdLT, oddLT, .func (PySem.W.fnOf "_law_is_through" "_law_is_through" (defArgs sLIsThrough) (defBody sLIsThrough) (defScope sLIsThrough) .none kVdLT dcdLT pmdLT andLT cddLT ctdLT), sldLT⟩)
    (cdLT : PySem.W.codeIn K cddLT "_law_is_through" = true)
    (kdLT : PySem.W.keepIn K (.ref fLT) = true)
    (adRo : PySem.W.nsIn K mainGlobals "_law_room" = some (some (.ref fRo)))
    (ldRo : K.lookup fRo = some ⟨ocdRo, oddRo, .func (PySem.W.fnOf "_law_room" "_law_room" (defArgs sRoom) (defBody sRoom) (defScope sRoom) .none kVdRo dcdRo pmdRo andRo cddRo ctdRo), sldRo⟩)
    (cdRo : PySem.W.codeIn K cddRo "_law_room" = true)
    (kdRo : PySem.W.keepIn K (.ref fRo) = true)
    (adWy : PySem.W.nsIn K mainGlobals "_law_way" = some (some (.ref fWy)))
    (ldWy : K.lookup fWy = some ⟨ocdWy, oddWy, .func (PySem.W.fnOf "_law_way" "_law_way" (defArgs sWay) (defBody sWay) (defScope sWay) .none kVdWy dcdWy pmdWy andWy cddWy ctdWy), sldWy⟩)
    (cdWy : PySem.W.codeIn K cddWy "_law_way" = true)
    (kdWy : PySem.W.keepIn K (.ref fWy) = true)
    (adPt : PySem.W.nsIn K mainGlobals "_law_part" = some (some (.ref fPt)))
    (ldPt : K.lookup fPt = some ⟨ocdPt, oddPt, .func (PySem.W.fnOf "_law_part" "_law_part" (defArgs sPart) (defBody sPart) (defScope sPart) .none kVdPt dcdPt pmdPt andPt cddPt ctdPt), sldPt⟩)
    (cdPt : PySem.W.codeIn K cddPt "_law_part" = true)
    (kdPt : PySem.W.keepIn K (.ref fPt) = true)
    (adNe : PySem.W.nsIn K mainGlobals "_law_near" = some (some (.ref fNe)))
    (ldNe : K.lookup fNe = some ⟨ocdNe, oddNe, .func (PySem.W.fnOf "_law_near" "_law_near" (defArgs sNear) (defBody sNear) (defScope sNear) .none kVdNe dcdNe pmdNe andNe cddNe ctdNe), sldNe⟩)
    (cdNe : PySem.W.codeIn K cddNe "_law_near" = true)
    (kdNe : PySem.W.keepIn K (.ref fNe) = true)
    (adL : PySem.W.nsIn K mainGlobals "law" = some (some (.ref fL)))
    (ldL : K.lookup fL = some ⟨ocdL, oddL, .func (PySem.W.fnOf "law" "law" (defArgs sLaw) (defBody sLaw) (defScope sLaw) .none kVdL dcdL pmdL andL cddL ctdL), sldL⟩)
    (cdL : PySem.W.codeIn K cddL "law" = true)
    (kdL : PySem.W.keepIn K (.ref fL) = true)
    (zabs : PySem.W.nsIn K mainGlobals "abs" = some none)
    (zint : PySem.W.nsIn K mainGlobals "int" = some none)
    (zlen : PySem.W.nsIn K mainGlobals "len" = some none)
    (zrepr : PySem.W.nsIn K mainGlobals "repr" = some none)
    (zisinstance : PySem.W.nsIn K mainGlobals "isinstance" = some none)
    (zrange : PySem.W.nsIn K mainGlobals "range" = some none)
    (zsorted : PySem.W.nsIn K mainGlobals "sorted" = some none)
    (ztuple : PySem.W.nsIn K mainGlobals "tuple" = some none)
    (zlist : PySem.W.nsIn K mainGlobals "list" = some none)
    (zdict : PySem.W.nsIn K mainGlobals "dict" = some none)
    (zset : PySem.W.nsIn K mainGlobals "set" = some none)
    (zsum : PySem.W.nsIn K mainGlobals "sum" = some none)
    (zmax : PySem.W.nsIn K mainGlobals "max" = some none)
    (zmin : PySem.W.nsIn K mainGlobals "min" = some none)
    (zstr : PySem.W.nsIn K mainGlobals "str" = some none)
    (zall : PySem.W.nsIn K mainGlobals "all" = some none)
    (zany : PySem.W.nsIn K mainGlobals "any" = some none)
    (zzip : PySem.W.nsIn K mainGlobals "zip" = some none)
    (zbool : PySem.W.nsIn K mainGlobals "bool" = some none)
    (zenumerate : PySem.W.nsIn K mainGlobals "enumerate" = some none) :
    ∃ fd : FuncData, (∀ (s : Shared) (v : Value), BindsTo s fd ⟨[v], []⟩ [("script", v)]) ∧ ∀ base : Heap, K.In base → base.Ns mainGlobals mg → GnOk l.prog w K mg base 7 fa fd ["script"] (spTop K) := by
  have e := hfa.symm.trans (PySem.W.mg_of X G adL)
  cases e
  have T : Nat0 mg := ⟨PySem.W.mg_none_of X G zabs, PySem.W.mg_none_of X G zint, PySem.W.mg_none_of X G zlen, PySem.W.mg_none_of X G zrepr, PySem.W.mg_none_of X G zisinstance, PySem.W.mg_none_of X G zrange, PySem.W.mg_none_of X G zsorted, PySem.W.mg_none_of X G ztuple, PySem.W.mg_none_of X G zlist, PySem.W.mg_none_of X G zdict, PySem.W.mg_none_of X G zset, PySem.W.mg_none_of X G zsum, PySem.W.mg_none_of X G zmax, PySem.W.mg_none_of X G zmin, PySem.W.mg_none_of X G zstr, PySem.W.mg_none_of X G zall, PySem.W.mg_none_of X G zany, PySem.W.mg_none_of X G zzip⟩
  have h_bool : mg "bool" = none := PySem.W.mg_none_of X G zbool
  have h_enumerate : mg "enumerate" = none := PySem.W.mg_none_of X G zenumerate
  have FII := fun_mk (st := sIsInteger) ldII cdII kdII
  have bII := FII.binds (ps := ["thing"]) fun _ _ _ _ _ _ us hl => match us, hl with | [_], _ => rfl
  have mII := PySem.W.mg_of X G adII
  have FIC := fun_mk (st := sIsCount) ldIC cdIC kdIC
  have bIC := FIC.binds (ps := ["thing"]) fun _ _ _ _ _ _ us hl => match us, hl with | [_], _ => rfl
  have mIC := PySem.W.mg_of X G adIC
  have FVO := fun_mk (st := sValueOf) ldVO cdVO kdVO
  have bVO := FVO.binds (ps := ["net", "through"]) fun _ _ _ _ _ _ us hl => match us, hl with | [_, _], _ => rfl
  have mVO := PySem.W.mg_of X G adVO
  have FIT := fun_mk (st := sIsThrough) ldIT cdIT kdIT
  have bIT := FIT.binds (ps := ["net", "thing"]) fun _ _ _ _ _ _ us hl => match us, hl with | [_, _], _ => rfl
  have mIT := PySem.W.mg_of X G adIT
  have FSu := fun_mk (st := sSurplus) ldSu cdSu kdSu
  have bSu := FSu.binds (ps := ["net", "through"]) fun _ _ _ _ _ _ us hl => match us, hl with | [_, _], _ => rfl
  have mSu := PySem.W.mg_of X G adSu
  have FB := fun_mk (st := sBag) ldB cdB kdB
  have bB := FB.binds (ps := ["script"]) fun _ _ _ _ _ _ us hl => match us, hl with | [_], _ => rfl
  have mB := PySem.W.mg_of X G adB
  have FT := fun_mk (st := sTake) ldT cdT kdT
  have bT := FT.binds (ps := ["bag", "many"]) fun _ _ _ _ _ _ us hl => match us, hl with | [_, _], _ => rfl
  have mT := PySem.W.mg_of X G adT
  have FS := fun_mk (st := sSome) ldS cdS kdS
  have bS := FS.binds (ps := ["bag", "things"]) fun _ _ _ _ _ _ us hl => match us, hl with | [_, _], _ => rfl
  have mS := PySem.W.mg_of X G adS
  have FA := fun_mk (st := sAlike) ldA cdA kdA
  have bA := FA.binds (ps := ["found", "due"]) fun _ _ _ _ _ _ us hl => match us, hl with | [_, _], _ => rfl
  have mA := PySem.W.mg_of X G adA
  have FZ := fun_mk (st := sSize) ldZ cdZ kdZ
  have bZ := FZ.binds (ps := ["bag", "most"]) fun _ _ _ _ _ _ us hl => match us, hl with | [_, _], _ => rfl
  have mZ := PySem.W.mg_of X G adZ
  have FWh := fun_mk (st := sWhole) ldWh cdWh kdWh
  have bWh := FWh.binds (ps := ["thing"]) fun _ _ _ _ _ _ us hl => match us, hl with | [_], _ => rfl
  have mWh := PySem.W.mg_of X G adWh
  have FO := fun_mk (st := sOdd) ldO cdO kdO
  have bO := FO.binds (ps := ["bag"]) fun _ _ _ _ _ _ us hl => match us, hl with | [_], _ => rfl
  have mO := PySem.W.mg_of X G adO
  have FW := fun_mk (st := sBentWord) ldW cdW kdW
  have bW := FW.binds (ps := ["bag", "word"]) fun _ _ _ _ _ _ us hl => match us, hl with | [_, _], _ => rfl
  have mW := PySem.W.mg_of X G adW
  have FBe := fun_mk (st := sBent) ldBe cdBe kdBe
  have bBe := FBe.binds (ps := ["bag", "thing", "deep"]) fun _ _ _ _ _ _ us hl => match us, hl with | [_, _, _], _ => rfl
  have mBe := PySem.W.mg_of X G adBe
  have FNt := fun_mk (st := sNet) ldNt cdNt kdNt
  have bNt := FNt.binds (ps := ["bag"]) fun _ _ _ _ _ _ us hl => match us, hl with | [_], _ => rfl
  have mNt := PySem.W.mg_of X G adNt
  have FLV := fun_mk (st := sValue) ldLV cdLV kdLV
  have bLV := FLV.binds (ps := ["net", "through"]) fun _ _ _ _ _ _ us hl => match us, hl with | [_, _], _ => rfl
  have mLV := PySem.W.mg_of X G adLV
  have FLT := fun_mk (st := sLIsThrough) ldLT cdLT kdLT
  have bLT := FLT.binds (ps := ["net", "thing"]) fun _ _ _ _ _ _ us hl => match us, hl with | [_, _], _ => rfl
  have mLT := PySem.W.mg_of X G adLT
  have FRo := fun_mk (st := sRoom) ldRo cdRo kdRo
  have bRo := FRo.binds (ps := ["net", "through"]) fun _ _ _ _ _ _ us hl => match us, hl with | [_, _], _ => rfl
  have mRo := PySem.W.mg_of X G adRo
  have FWy := fun_mk (st := sWay) ldWy cdWy kdWy
  have bWy := FWy.binds (ps := ["net", "through"]) fun _ _ _ _ _ _ us hl => match us, hl with | [_, _], _ => rfl
  have mWy := PySem.W.mg_of X G adWy
  have FPt := fun_mk (st := sPart) ldPt cdPt kdPt
  have bPt := FPt.binds (ps := ["bag", "net"]) fun _ _ _ _ _ _ us hl => match us, hl with | [_, _], _ => rfl
  have mPt := PySem.W.mg_of X G adPt
  have FNe := fun_mk (st := sNear) ldNe cdNe kdNe
  have bNe := FNe.binds (ps := ["bag", "net", "through"]) fun _ _ _ _ _ _ us hl => match us, hl with | [_, _, _], _ => rfl
  have mNe := PySem.W.mg_of X G adNe
  have FL := fun_mk (st := sLaw) ldL cdL kdL
  exact ⟨_, fun s v => .of_eq rfl, fun base _ _ =>
    have gII : FnOk l.prog w K mg base CX0 1 fII _ ["thing"] (spTells K isInt) := ok_isInteger FII T h_bool
    have gIC : FnOk l.prog w K mg base CX0 2 fIC _ ["thing"] (spTells K isCnt) := ok_isCount FIC gII FII mII bII
    have gSu : FnOk l.prog w K mg base CX0 1 fSu _ ["net", "through"] (spSur K) := ok_surplus FSu T
    have gWh : FnOk l.prog w K mg base CX0 1 fWh _ ["thing"] (spTells K isInt) := ok_whole FWh T h_bool
    have gRo : FnOk l.prog w K mg base CX0 1 fRo _ ["net", "through"] (spRoom K) := ok_room FRo T h_enumerate
    have gWy : FnOk l.prog w K mg base CX0 2 fWy _ ["net", "through"] (spWay K) := ok_way FWy T gRo FRo mRo bRo
    have gB0 : FnOk l.prog w K mg base CX0 4 fBe _ ["bag", "thing", "deep"] (spBent K 0) := bent_step (n := 0) (k := 3) FBe T h_bool mBe bBe ((ok_never FBe).mono (by decide)) (by decide) FT mT bT FS mS bS FO mO bO FW mW bW
    have gB1 : FnOk l.prog w K mg base CX0 5 fBe _ ["bag", "thing", "deep"] (spBent K 1) := bent_step (n := 1) (k := 4) FBe T h_bool mBe bBe gB0 (by decide) FT mT bT FS mS bS FO mO bO FW mW bW
    have D : D11 l.prog w K mg base fB fNt fPt fVO fLV fNe fIT fLT fA _ _ _ _ _ _ _ _ _ := { B := FB, mB := mB, bB := bB, gB := ok_bag FB T, Nt := FNt, mNt := mNt, bNt := bNt, gNt := ok_net FNt T FT mT bT FS mS bS FZ mZ bZ, Pt := FPt, mPt := mPt, bPt := bPt, gPt := ok_part FPt T FT mT bT FS mS bS gWy FWy mWy bWy, VO := FVO, mVO := mVO, bVO := bVO, gVO := ok_valueOf FVO gSu FSu mSu bSu, LV := FLV, mLV := mLV, bLV := bLV, gLV := ok_lawValue FLV T, Ne := FNe, mNe := mNe, bNe := bNe, gNe := ok_nearN FNe T FT mT bT FS mS bS FO mO bO gB1 FBe mBe bBe, IT := FIT, mIT := mIT, bIT := bIT, gIT := ok_isThrough FIT T gSu FSu mSu bSu gIC FIC mIC bIC, LT := FLT, mLT := mLT, bLT := bLT, gLT := ok_lawThrough FLT T gWh FWh mWh bWh, A := FA, mA := mA, bA := bA, gA := ok_alike FA T }
    ok_law FL T D⟩
end Y
open PySem PySem.W PyProof.Rows in
set_option maxRecDepth 100000 in
set_option maxHeartbeats 0 in
theorem PySem.Challenge.cw_nightstairs_k11_throughs_judged_holds : PySem.Challenge.rw_nightstairs_k11_throughs_judged.Holds := by
  w_on; o_law; k_head; (case hw => w_witness2)
  k_fill
  refine Ns.walk_ofG (l := PySem.Challenge.rw_nightstairs_k11_throughs_judged) (k := 7) rfl rfl ⟨rfl, by decide, by decide⟩ (fun w h Y => PySem.W.kIn_of Y) ?F
  case F =>
    intro w mg fa h KX G hmg
    refine' Y.all_mk KX G hmg ?adII ?ldII ?cdII ?kdII ?adIC ?ldIC ?cdIC ?kdIC ?adVO ?ldVO ?cdVO ?kdVO ?adIT ?ldIT ?cdIT ?kdIT ?adSu ?ldSu ?cdSu ?kdSu ?adB ?ldB ?cdB ?kdB ?adT ?ldT ?cdT ?kdT ?adS ?ldS ?cdS ?kdS ?adA ?ldA ?cdA ?kdA ?adZ ?ldZ ?cdZ ?kdZ ?adWh ?ldWh ?cdWh ?kdWh ?adO ?ldO ?cdO ?kdO ?adW ?ldW ?cdW ?kdW ?adBe ?ldBe ?cdBe ?kdBe ?adNt ?ldNt ?cdNt ?kdNt ?adLV ?ldLV ?cdLV ?kdLV ?adLT ?ldLT ?cdLT ?kdLT ?adRo ?ldRo ?cdRo ?kdRo ?adWy ?ldWy ?cdWy ?kdWy ?adPt ?ldPt ?cdPt ?kdPt ?adNe ?ldNe ?cdNe ?kdNe ?adL ?ldL ?cdL ?kdL ?zabs ?zint ?zlen ?zrepr ?zisinstance ?zrange ?zsorted ?ztuple ?zlist ?zdict ?zset ?zsum ?zmax ?zmin ?zstr ?zall ?zany ?zzip ?zbool ?zenumerate
    (case adII => k_is)
    (case ldII => k_is)
    (case cdII => k_is)
    (case kdII => k_is)
    (case adIC => k_is)
    (case ldIC => k_is)
    (case cdIC => k_is)
    (case kdIC => k_is)
    (case adVO => k_is)
    (case ldVO => k_is)
    (case cdVO => k_is)
    (case kdVO => k_is)
    (case adIT => k_is)
    (case ldIT => k_is)
    (case cdIT => k_is)
    (case kdIT => k_is)
    (case adSu => k_is)
    (case ldSu => k_is)
    (case cdSu => k_is)
    (case kdSu => k_is)
    (case adB => k_is)
    (case ldB => k_is)
    (case cdB => k_is)
    (case kdB => k_is)
    (case adT => k_is)
    (case ldT => k_is)
    (case cdT => k_is)
    (case kdT => k_is)
    (case adS => k_is)
    (case ldS => k_is)
    (case cdS => k_is)
    (case kdS => k_is)
    (case adA => k_is)
    (case ldA => k_is)
    (case cdA => k_is)
    (case kdA => k_is)
    (case adZ => k_is)
    (case ldZ => k_is)
    (case cdZ => k_is)
    (case kdZ => k_is)
    (case adWh => k_is)
    (case ldWh => k_is)
    (case cdWh => k_is)
    (case kdWh => k_is)
    (case adO => k_is)
    (case ldO => k_is)
    (case cdO => k_is)
    (case kdO => k_is)
    (case adW => k_is)
    (case ldW => k_is)
    (case cdW => k_is)
    (case kdW => k_is)
    (case adBe => k_is)
    (case ldBe => k_is)
    (case cdBe => k_is)
    (case kdBe => k_is)
    (case adNt => k_is)
    (case ldNt => k_is)
    (case cdNt => k_is)
    (case kdNt => k_is)
    (case adLV => k_is)
    (case ldLV => k_is)
    (case cdLV => k_is)
    (case kdLV => k_is)
    (case adLT => k_is)
    (case ldLT => k_is)
    (case cdLT => k_is)
    (case kdLT => k_is)
    (case adRo => k_is)
    (case ldRo => k_is)
    (case cdRo => k_is)
    (case kdRo => k_is)
    (case adWy => k_is)
    (case ldWy => k_is)
    (case cdWy => k_is)
    (case kdWy => k_is)
    (case adPt => k_is)
    (case ldPt => k_is)
    (case cdPt => k_is)
    (case kdPt => k_is)
    (case adNe => k_is)
    (case ldNe => k_is)
    (case cdNe => k_is)
    (case kdNe => k_is)
    (case adL => k_is)
    (case ldL => k_is)
    (case cdL => k_is)
    (case kdL => k_is)
    (case zabs => k_is)
    (case zint => k_is)
    (case zlen => k_is)
    (case zrepr => k_is)
    (case zisinstance => k_is)
    (case zrange => k_is)
    (case zsorted => k_is)
    (case ztuple => k_is)
    (case zlist => k_is)
    (case zdict => k_is)
    (case zset => k_is)
    (case zsum => k_is)
    (case zmax => k_is)
    (case zmin => k_is)
    (case zstr => k_is)
    (case zall => k_is)
    (case zany => k_is)
    (case zzip => k_is)
    (case zbool => k_is)
    (case zenumerate => k_is)

