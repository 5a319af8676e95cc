import PyProof.Rows.All
import Wide.All
import OpenK.AllK
import Wide.FinOn
import PyProof.ReprRoads
import HandS.ForMost
import HandS.DeepEq
import HandS.Ends
import HandS.Wide
import HandS.Codes
import KE.KEqNest
import HandS.Conv
import KE.SortData
import HandS.DictTup
import PyProof.DictUpdate
import KE.KItemsList
import KE.KDictSum
import HandS.Strs
import HandS.SetFor
import HandS.Style
import HandS.SortInts
import HandS.Lambda
import KE.KNest
import HandS.TupAny
import KE.KNestM
import HandS.EndBits
import KE.GoesMore
import KE.GoesEnum
import HandS.Iter
import HandS.Walk
import HandS.More
import HandS.Zip
import PySem.Challenge.RW_nightstairs_k78_whole_nights_of_great_ro
set_option Elab.async false
set_option linter.all false
set_option maxRecDepth 100000
set_option pp.maxSteps 150
set_option pp.deepTerms false
set_option maxHeartbeats 4000000
/-! NsA: data as a whole over the abstract heap; its repr; its ==. -/
namespace Ns
open PySem PySem.Spec PyProof.Rows L2

/-- a key as data -/
def kD : Key → PyData
  | .inl i => .int i
  | .inr x => .str x

mutual
/-- the value x is the datum d -/
inductive DatV (K : PySem.W.Frag) (H : Hp) : V → PyData → Prop
  | non : DatV K H .non .none
  | bl (b : Bool) : DatV K H (.bl b) (.bool b)
  | int (i : Int) : DatV K H (.int i) (.int i)
  | str (x : Str) : DatV K H (.str x) (.str x)
  | lst {a : Addr} {xs : List V} {ds : List PyData} : SqL K H a xs → DatA K H xs ds → DatV K H (.ref a) (.list ds)
  | tup {a : Addr} {xs : List V} {ds : List PyData} : SqT K H a xs → DatA K H xs ds → DatV K H (.ref a) (.tuple ds)
  | dic {a : Addr} {kvs : List (Key × V)} {ds : List PyData} : H a = some (.dK kvs) → DatA K H (kvs.map (·.2)) ds → DatV K H (.ref a) (.dict ((kvs.map fun p => kD p.1).zip ds))
inductive DatA (K : PySem.W.Frag) (H : Hp) : List V → List PyData → Prop
  | nil : DatA K H [] []
  | cons {x : V} {d : PyData} {xs : List V} {ds : List PyData} : DatV K H x d → DatA K H xs ds → DatA K H (x :: xs) (d :: ds)
end

theorem DatA.len {K : PySem.W.Frag} {H : Hp} : ∀ {xs : List V} {ds : List PyData}, DatA K H xs ds → xs.length = ds.length
  | _, _, .nil => rfl
  | _, _, .cons _ t => by rw [List.length_cons, List.length_cons, t.len]

mutual
/-- what stood stands: the datum too -/
theorem DatV.more {K : PySem.W.Frag} {H H' : Hp} (m : Same H H') : ∀ {x : V} {d : PyData}, DatV K H x d → DatV K H' x d
  | _, _, .non => .non
  | _, _, .bl b => .bl b
  | _, _, .int i => .int i
  | _, _, .str x => .str x
  | _, _, .lst h t => .lst (m.seq h) (t.more m)
  | _, _, .tup h t => .tup (h.elim (fun z => .inl (z.elim (fun z => .inl (m _ _ z)) fun ⟨o, z⟩ => .inr ⟨o, m _ _ z⟩)) .inr) (t.more m)
  | _, _, .dic h t => .dic (m _ _ h) (t.more m)
theorem DatA.more {K : PySem.W.Frag} {H H' : Hp} (m : Same H H') : ∀ {xs : List V} {ds : List PyData}, DatA K H xs ds → DatA K H' xs ds
  | _, _, .nil => .nil
  | _, _, .cons h t => .cons (h.more m) (t.more m)
end

theorem map_fst_zip {α β : Type} : ∀ {as : List α} {bs : List β}, as.length = bs.length → (as.zip bs).map (·.1) = as
  | [], [], _ => rfl
  | a :: as, b :: bs, h => by
    have h' : as.length = bs.length := by simpa using h
    simp [map_fst_zip h']
theorem map_snd_zip {α β : Type} : ∀ {as : List α} {bs : List β}, as.length = bs.length → (as.zip bs).map (·.2) = bs
  | [], [], _ => rfl
  | a :: as, b :: bs, h => by
    have h' : as.length = bs.length := by simpa using h
    simp [map_snd_zip h']

section
variable {X : Cx} {pins : List (Addr × Obj)} {σ : L2.St} {H : Hp} {s : Shared}

/-- the keys of a dict's entries are read -/
theorem keys_read {h : Heap} {P : Program} {w : World} : ∀ {es : List DictEntry} {vs : List (Key × Value)}, Pairs (mixKind P w) es vs → ReadsAll h (es.map (·.key)) (vs.map fun p => kD p.1) []
  | _, _, .nil => .nil
  | e :: es, kv :: vs, .cons h1 _ t => by
    have q : Reads h e.key (kD kv.1) [] := by
      rcases keyIs_shape (show keyIs kv.1 e.key = true from h1) with ⟨i, t, ek, ev⟩ | ⟨x, t, ek, ev⟩
      · rw [ek, ev]; exact .int i t
      · rw [ek, ev]; exact .str x t
    exact ReadsAll.cons (as := []) (bs := []) q (keys_read t)
theorem pairs_vals {P : Program} {w : World} : ∀ {es : List DictEntry} {vs : List (Key × Value)}, Pairs (mixKind P w) es vs → es.map (·.val) = vs.map (·.2)
  | _, _, .nil => rfl
  | e :: es, kv :: vs, .cons _ h2 t => by
    rw [List.map_cons, List.map_cons, h2, pairs_vals t]
theorem kv_fst : ∀ {ks : List (Key × V)} {vs : List (Key × Value)}, KV ks vs → vs.map (fun p => kD p.1) = ks.map fun p => kD p.1
  | _, _, .nil => rfl
  | _, _, .cons h t => by rw [List.map_cons, List.map_cons, h.1, kv_fst t]
theorem kv_vals : ∀ {ks : List (Key × V)} {vs : List (Key × Value)}, KV ks vs → Vals (ks.map (·.2)) (vs.map (·.2))
  | _, _, .nil => .nil
  | _, _, .cons h t => .cons h.2 (kv_vals t)

mutual
/-- what the heap reads of it -/
theorem reads_of (I : Inv X pins σ H s) : ∀ {x : V} {d : PyData}, DatV X.K H x d → ∀ {v : Value}, RelV x v → ∃ as, Reads s.heap v d as
  | _, _, .non, v, r => by cases (show v = Value.none from r); exact ⟨_, .none⟩
  | _, _, .bl b, v, r => by cases (show v = Value.bool b from r); exact ⟨_, .bool b⟩
  | _, _, .int i, v, r => by obtain ⟨t, rfl⟩ := (show ∃ t, v = Value.int i t from r); exact ⟨_, .int i t⟩
  | _, _, .str x, v, r => by obtain ⟨t, rfl⟩ := (show ∃ t, v = Value.str x t from r); exact ⟨_, .str x t⟩
  | _, _, .lst (a := a) h t, v, r => by
    cases (show v = Value.ref a from r)
    obtain ⟨its, rv, ⟨o, n, h1, h2, h3, h4⟩, _⟩ := I.list h
    obtain ⟨as, q⟩ := readsA_of I t rv
    exact ⟨_, .list h1 h2 (by first | exact h3 | exact h4) (by simpa using q)⟩
  | _, _, .tup (a := a) h t, v, r => by
    cases (show v = Value.ref a from r)
    obtain ⟨its, rv, ⟨o, h1, h2, n, h3⟩, _⟩ := I.tuple h
    obtain ⟨as, q⟩ := readsA_of I t rv
    exact ⟨_, .tuple h1 h2 h3 (by simpa using q)⟩
  | _, _, .dic (a := a) (kvs := kvs) (ds := ds) h t, v, r => by
    cases (show v = Value.ref a from r)
    obtain ⟨_, _, vs, rv, o, es, ep, h1, h2, h3, _, h5, _⟩ := (show ObjOk X.prog X.w H s.heap a (.dK kvs) from I.hok a _ h)
    obtain ⟨as, q⟩ := readsA_of I t (kv_vals rv)
    have hl : (kvs.map fun p => kD p.1).length = ds.length := by
      have z := t.len
      rw [List.length_map] at z ⊢
      exact z
    refine ⟨_, Reads.dict (as := []) (bs := as) h1 h2.1 h3 ?_ ?_⟩
    · rw [map_fst_zip hl, ← kv_fst rv]
      exact keys_read h5
    · rw [map_snd_zip hl, pairs_vals h5]
      exact q
theorem readsA_of (I : Inv X pins σ H s) : ∀ {xs : List V} {ds : List PyData}, DatA X.K H xs ds → ∀ {us : List Value}, Vals xs us → ∃ as, ReadsAll s.heap us ds as
  | _, _, .nil, us, r => by cases r; exact ⟨_, .nil⟩
  | _, _, .cons h t, us, r => by
    cases r with
    | cons r1 r2 =>
      obtain ⟨as, q⟩ := reads_of I h r1
      obtain ⟨bs, q2⟩ := readsA_of I t r2
      exact ⟨_, .cons q q2⟩
end
end
end Ns

/-! NsB: repr of data. -/
namespace Ns
open PySem PySem.Spec PyProof.Rows L2
section
variable {X : Cx} {pins : List (Addr × Obj)} {σ : L2.St} {H : Hp} {s : Shared}

theorem zip_kv : ∀ {as : List Key} {ds : List PyData}, as.length = ds.length → ((as.map kD).zip ds).map (·.1) = as.map kD := fun {as ds} h => map_fst_zip (by rw [List.length_map]; exact h)

theorem kv_of_zip {α : Type} {f : α → PyData} {l : List α} {ds : List PyData} (h : l.length = ds.length) : (((l.map f).zip ds).map (·.1) = l.map f) ∧ (((l.map f).zip ds).map (·.2) = ds) :=
  ⟨map_fst_zip (by rw [List.length_map]; exact h), map_snd_zip (by rw [List.length_map]; exact h)⟩

/-- keys show themselves, whatever stands -/
theorem keys_shown {P : Program} {w : World} {h : Heap} {n : Nat} : ∀ {es : List DictEntry} {vs : List (Key × Value)}, Pairs (mixKind P w) es vs → (∀ p ∈ vs, (kD p.1).showable = true ∧ (kD p.1).shown.length ≤ sizeLine) →
    ReprAllK P w [] h n (es.map (·.key)) (PyData.shownAll (vs.map fun p => kD p.1))
  | _, _, .nil, _ => by simp only [List.map_nil, PyData.shownAll]; exact .nil
  | e :: es, kv :: vs, .cons h1 _ t, hz => by
    rw [List.map_cons, List.map_cons, PyData.shownAll_cons]
    obtain ⟨z1, z2⟩ := hz kv List.mem_cons_self
    refine .cons (ReprK.of_is ?_ _ _ _) (keys_shown t fun p hp => hz p (List.mem_cons_of_mem _ hp))
    rcases keyIs_shape (show keyIs kv.1 e.key = true from h1) with ⟨i, tk, ek, ev⟩ | ⟨x, tk, ek, ev⟩
    · rw [ek] at z1 ⊢
      rw [ev]
      show ReprIs P w _ (PyData.int i).shown
      rw [PyData.shown_int]
      exact ReprIs.int tk (of_decide_eq_true (by simpa [kD, PyData.showable] using z1))
    · rw [ek] at z2 ⊢
      rw [ev]
      show ReprIs P w _ (PyData.str x).shown
      have z2' : (PyData.str x).shown.length ≤ sizeLine := z2
      rw [PyData.shown_str] at z2' ⊢
      exact ReprIs.str x tk z2'

theorem all_of : ∀ {l : List PyData}, PyData.showableAll l = true → ∀ d ∈ l, d.showable = true
  | [], _, _, hd => nomatch hd
  | x :: l, h, d, hd => by
    have h' : x.showable = true ∧ PyData.showableAll l = true := by simpa [PyData.showableAll] using h
    rcases List.mem_cons.mp hd with e | e
    · rw [e]; exact h'.1
    · exact all_of h'.2 d e
theorem shown_mem : ∀ {l : List PyData} {d : PyData}, d ∈ l → d.shown ∈ PyData.shownAll l
  | [], _, h => nomatch h
  | x :: l, d, h => by
    rw [PyData.shownAll_cons]
    rcases List.mem_cons.mp h with e | e
    · rw [e]; exact List.mem_cons_self
    · exact List.mem_cons_of_mem _ (shown_mem e)

mutual
theorem reprK_of (I : Inv X pins σ H s) : ∀ {x : V} {d : PyData}, DatV X.K H x d → ∀ {v : Value}, RelV x v → d.showable = true → d.shown.length ≤ sizeLine →
    ∃ bs, ReadAtMost s.heap d.depth bs ∧ ReprK X.prog X.w bs s.heap d.depth v d.shown
  | _, _, .non, v, r, _, _ => by
    cases (show v = Value.none from r)
    exact ⟨[], (fun _ z => nomatch z), by rw [PyData.shown_none]; exact .of_is ReprIs.none _ _ _⟩
  | _, _, .bl b, v, r, _, _ => by
    cases (show v = Value.bool b from r)
    refine ⟨[], (fun _ z => nomatch z), ?_⟩
    simp only [PyData.shown]
    exact .of_is (ReprIs.bool b) _ _ _
  | _, _, .int i, v, r, hs, _ => by
    obtain ⟨t, rfl⟩ := (show ∃ t, v = Value.int i t from r)
    refine ⟨[], (fun _ z => nomatch z), ?_⟩
    rw [PyData.shown_int]
    exact .of_is (ReprIs.int t (by simpa [PyData.showable] using hs)) _ _ _
  | _, _, .str x, v, r, _, hz => by
    obtain ⟨t, rfl⟩ := (show ∃ t, v = Value.str x t from r)
    refine ⟨[], (fun _ z => nomatch z), ?_⟩
    rw [PyData.shown_str] at hz ⊢
    exact .of_is (ReprIs.str x t hz) _ _ _
  | _, _, .lst (a := a) (ds := ds) h t, v, r, hs, hz => by
    cases (show v = Value.ref a from r)
    have hz1 : (listText (PyData.shownAll ds)).length ≤ sizeLine := by simpa only [PyData.shown] using hz
    have hs1 : PyData.showableAll ds = true := by simpa [PyData.showable] using hs
    obtain ⟨as, rd⟩ := reads_of I (.lst h t) (v := .ref a) rfl
    obtain ⟨its, rv, ⟨o, n, h1, h2, h3, h4⟩, _⟩ := I.list h
    have h5 : o.data = .seq its.toArray n := by first | exact h3 | exact h4
    obtain ⟨bs, hb, hk⟩ := reprA_of I t rv hs1 fun u hu => Nat.le_trans (listText_mem_le hu) hz1
    have dp : (PyData.list ds).depth = PyData.depthAll ds + 1 := by simp only [PyData.depth] <;> omega
    have hna : a ∉ bs := not_mem_of_deeper rd (by rw [dp]; omega) hb
    refine ⟨a :: bs, ReadAtMost.cons rd (by rw [dp]; omega) hb, ?_⟩
    rw [dp]
    simp only [PyData.shown]
    cases its with
    | nil =>
      have e0 : PyData.shownAll ds = [] := List.length_eq_zero_iff.mp (by simpa using hk.length_eq)
      rw [e0, listText_nil]
      exact ReprK.listEmpty h1 h2 h5
    | cons y l => exact ReprK.list h1 h2 h5 hna (by simpa using hk.length_eq) fun i u e => hk.item i u (by simpa using e)
  | _, _, .tup (a := a) (ds := ds) h t, v, r, hs, hz => by
    cases (show v = Value.ref a from r)
    have hz1 : (tupleText (PyData.shownAll ds)).length ≤ sizeLine := by simpa only [PyData.shown] using hz
    have hs1 : PyData.showableAll ds = true := by simpa [PyData.showable] using hs
    obtain ⟨as, rd⟩ := reads_of I (.tup h t) (v := .ref a) rfl
    obtain ⟨its, rv, ⟨o, h1, h2, n, h3⟩, _⟩ := I.tuple h
    obtain ⟨bs, hb, hk⟩ := reprA_of I t rv hs1 fun u hu => Nat.le_trans (tupleText_mem_le hu) hz1
    have dp : (PyData.tuple ds).depth = PyData.depthAll ds + 1 := by simp only [PyData.depth] <;> omega
    have hna : a ∉ bs := not_mem_of_deeper rd (by rw [dp]; omega) hb
    refine ⟨a :: bs, ReadAtMost.cons rd (by rw [dp]; omega) hb, ?_⟩
    rw [dp]
    simp only [PyData.shown]
    exact ReprK.tuple h1 h2 h3 hna (by simpa using hk)
  | _, _, .dic (a := a) (kvs := kvs) (ds := ds) h t, v, r, hs, hz => by
    cases (show v = Value.ref a from r)
    have hl : kvs.length = ds.length := by
      have z := t.len
      rw [List.length_map] at z
      exact z
    obtain ⟨e1, e2⟩ := kv_of_zip (f := fun p : Key × V => kD p.1) (l := kvs) hl
    have hz1 : (dictText (PyData.shownKv ((kvs.map fun p => kD p.1).zip ds))).length ≤ sizeLine := by simpa only [PyData.shown] using hz
    have hs1 : PyData.showableKv ((kvs.map fun p => kD p.1).zip ds) = true := by simpa [PyData.showable] using hs
    obtain ⟨s1, s2⟩ := PyData.showableKv_split _ hs1
    rw [e1] at s1
    rw [e2] at s2
    obtain ⟨as, rd⟩ := reads_of I (.dic h t) (v := .ref a) rfl
    obtain ⟨_, hsy, vs, rv, o, es, ep, h1, h2, h3, _, h5, _⟩ := (show ObjOk X.prog X.w H s.heap a (.dK kvs) from I.hok a _ h)
    have vl : ∀ u ∈ PyData.shownAll ds, u.length ≤ sizeLine := fun u hu => by
      obtain ⟨p, hp, hq⟩ := PyData.shownKv_val_le _ u (by rw [e2]; exact hu)
      exact Nat.le_trans hq (Nat.le_trans (dictText_mem_le hp) hz1)
    have kl : ∀ u ∈ PyData.shownAll (kvs.map fun p => kD p.1), u.length ≤ sizeLine := fun u hu => by
      obtain ⟨p, hp, hq⟩ := PyData.shownKv_key_le _ u (by rw [e1]; exact hu)
      exact Nat.le_trans hq (Nat.le_trans (dictText_mem_le hp) hz1)
    obtain ⟨bs, hb, hk⟩ := reprA_of I t (kv_vals rv) s2 vl
    have kk : ReprAllK X.prog X.w [] s.heap (PyData.depthKv ((kvs.map fun p => kD p.1).zip ds)) (es.toList.map (·.key)) (PyData.shownAll (kvs.map fun p => kD p.1)) := by
      rw [← kv_fst rv]
      refine keys_shown h5 fun p hp => ?_
      have hm : kD p.1 ∈ kvs.map fun p => kD p.1 := by
        rw [← kv_fst rv]
        exact List.mem_map.mpr ⟨p, hp, rfl⟩
      exact ⟨all_of s1 _ hm, kl _ (shown_mem hm)⟩
    have dv : PyData.depthAll ds ≤ PyData.depthKv ((kvs.map fun p => kD p.1).zip ds) := by
      have z := PyData.depthAll_vals_le ((kvs.map fun p => kD p.1).zip ds)
      rw [e2] at z
      exact z
    have hb2 : ReadAtMost s.heap (PyData.depthKv ((kvs.map fun p => kD p.1).zip ds)) bs := hb.mono dv
    have dp : (PyData.dict ((kvs.map fun p => kD p.1).zip ds)).depth = PyData.depthKv ((kvs.map fun p => kD p.1).zip ds) + 1 := by simp only [PyData.depth] <;> omega
    have hna : a ∉ bs := not_mem_of_deeper rd (by rw [dp]; omega) hb2
    refine ⟨a :: bs, ReadAtMost.cons rd (by rw [dp]; omega) hb2, ?_⟩
    rw [dp]
    simp only [PyData.shown, PyData.shownKv_eq]
    rw [e1, e2]
    refine ReprK.dict h1 h2.1 h3 hsy hna (ReprEntriesK.of_two es.toList _ _ (kk.more_le (fun b z => absurd z List.not_mem_nil) (Nat.le_refl _)) ?_)
    rw [pairs_vals h5]
    exact hk.more_le (fun b z => z) dv
theorem reprA_of (I : Inv X pins σ H s) : ∀ {xs : List V} {ds : List PyData}, DatA X.K H xs ds → ∀ {us : List Value}, Vals xs us → PyData.showableAll ds = true → (∀ t ∈ PyData.shownAll ds, t.length ≤ sizeLine) →
    ∃ bs, ReadAtMost s.heap (PyData.depthAll ds) bs ∧ ReprAllK X.prog X.w bs s.heap (PyData.depthAll ds) us (PyData.shownAll ds)
  | _, _, .nil, us, r, _, _ => by
    cases r
    exact ⟨[], (fun _ z => nomatch z), by simp only [PyData.shownAll]; exact .nil⟩
  | _, _, .cons (d := d) (ds := ds) h t, us, r, hs, hz => by
    cases r with
    | cons r1 r2 =>
      have hs1 : d.showable = true ∧ PyData.showableAll ds = true := by simpa [PyData.showableAll] using hs
      rw [PyData.shownAll_cons] at hz ⊢
      obtain ⟨b1, g1, k1⟩ := reprK_of I h r1 hs1.1 (hz _ List.mem_cons_self)
      obtain ⟨b2, g2, k2⟩ := reprA_of I t r2 hs1.2 fun u hu => hz u (List.mem_cons_of_mem _ hu)
      have dp : PyData.depthAll (d :: ds) = max d.depth (PyData.depthAll ds) := by simp only [PyData.depthAll]
      refine ⟨b1 ++ b2, ?_, ?_⟩
      · rw [dp]
        exact (g1.mono (Nat.le_max_left _ _)).append (g2.mono (Nat.le_max_right _ _))
      · rw [dp]
        exact .cons ((k1.more fun b z => List.mem_append_left _ z).level_le (Nat.le_max_left _ _)) (k2.more_le (fun b z => List.mem_append_right _ z) (Nat.le_max_right _ _))
end
theorem dict_entries (I : Inv X pins σ H s) {a : Addr} {kvs : List (Key × V)} {ds : List PyData} {vs : List (Key × Value)} {o : Obj} {es : Array DictEntry} {ep : Nat} (h : H a = some (.dK kvs)) (t : DatA X.K H (kvs.map (·.2)) ds)
    (hs : (PyData.dict ((kvs.map fun p => kD p.1).zip ds)).showable = true) (hz : (PyData.dict ((kvs.map fun p => kD p.1).zip ds)).shown.length ≤ sizeLine) (h1 : s.heap.get? a = some o) (h3 : o.data = .dict es ep)
    (h5 : Pairs (mixKind X.prog X.w) es.toList vs) (rv : KV kvs vs) :
    ∃ n bs, a ∉ bs ∧ ReprEntriesK X.prog X.w bs s.heap n es.toList (PyData.shownKv ((kvs.map fun p => kD p.1).zip ds)) ∧ n + 1 ≤ (PyData.dict ((kvs.map fun p => kD p.1).zip ds)).depth := by
  have hl : kvs.length = ds.length := by
    have z := t.len
    rw [List.length_map] at z
    exact z
  obtain ⟨e1, e2⟩ := kv_of_zip (f := fun p : Key × V => kD p.1) (l := kvs) hl
  have hz1 : (dictText (PyData.shownKv ((kvs.map fun p => kD p.1).zip ds))).length ≤ sizeLine := by simpa only [PyData.shown] using hz
  have hs1 : PyData.showableKv ((kvs.map fun p => kD p.1).zip ds) = true := by simpa [PyData.showable] using hs
  obtain ⟨s1, s2⟩ := PyData.showableKv_split _ hs1
  rw [e1] at s1
  rw [e2] at s2
  obtain ⟨as, rd⟩ := reads_of I (.dic h t) (v := .ref a) rfl
  obtain ⟨bs, hb, hk⟩ := reprA_of I t (kv_vals rv) s2 fun u hu => by
    obtain ⟨p, hp, hq⟩ := PyData.shownKv_val_le _ u (by rw [e2]; exact hu)
    exact Nat.le_trans hq (Nat.le_trans (dictText_mem_le hp) hz1)
  have kk : ReprAllK X.prog X.w [] s.heap (PyData.depthKv ((kvs.map fun p => kD p.1).zip ds)) (es.toList.map (·.key)) (PyData.shownAll (kvs.map fun p => kD p.1)) := by
    rw [← kv_fst rv]
    refine keys_shown h5 fun p hp => ?_
    have hm : kD p.1 ∈ kvs.map fun p => kD p.1 := by
      rw [← kv_fst rv]
      exact List.mem_map.mpr ⟨p, hp, rfl⟩
    obtain ⟨y, hy, hq⟩ := PyData.shownKv_key_le _ _ (by rw [e1]; exact shown_mem hm)
    exact ⟨all_of s1 _ hm, Nat.le_trans hq (Nat.le_trans (dictText_mem_le hy) hz1)⟩
  have dv : PyData.depthAll ds ≤ PyData.depthKv ((kvs.map fun p => kD p.1).zip ds) := by
    have z := PyData.depthAll_vals_le ((kvs.map fun p => kD p.1).zip ds)
    rw [e2] at z
    exact z
  have dp : (PyData.dict ((kvs.map fun p => kD p.1).zip ds)).depth = PyData.depthKv ((kvs.map fun p => kD p.1).zip ds) + 1 := by simp only [PyData.depth] <;> omega
  have hna : a ∉ bs := not_mem_of_deeper rd (by rw [dp]; omega) (hb.mono dv)
  refine ⟨_, bs, hna, ?_, Nat.le_of_eq dp.symm⟩
  rw [PyData.shownKv_eq, e1, e2]
  refine ReprEntriesK.of_two es.toList _ _ (kk.more_le (fun b z => absurd z List.not_mem_nil) (Nat.le_refl _)) ?_
  rw [pairs_vals h5]
  exact hk.more_le (fun b z => z) dv
end
end Ns

/-! NsC: the call of repr; == of equal data. -/
namespace Ns
open PySem PySem.Spec PyProof.Rows L2
section
variable {X : Cx} {pins : List (Addr × Obj)} {σ : L2.St} {H : Hp} {s : Shared}

theorem repr_run (I : Inv X pins σ H s) {A : Around} (hg : A.guards = some []) {x : V} {d : PyData} (D : DatV X.K H x d) {v : Value} (r : RelV x v) (hs : d.showable = true) (hz : d.shown.length ≤ sizeLine) (hu : A.units + (d.depth + 2) < cLine)
    {E Q : Value → Shared → Prop} (q : ∀ h' u tk, (∀ b o, s.heap.get? b = some o → h'.get? b = some o) → Q (.str d.shown u) { s with heap := h', toks := tk }) :
    wpAny (model X.prog X.w) A (call (.builtin "repr") [v]) Q E s := by
  cases D with
  | non =>
    cases (show v = Value.none from r)
    rw [PyData.shown_none] at q
    exact PySem.P.repr_of_none (q s.heap _ _ fun _ _ e => e)
  | bl b =>
    cases (show v = Value.bool b from r)
    rw [PyData.shown_bool] at q
    exact PySem.P.repr_of_bool (q s.heap _ _ fun _ _ e => e)
  | int i =>
    obtain ⟨t, rfl⟩ := (show ∃ t, v = Value.int i t from r)
    rw [PyData.shown_int] at q
    exact PySem.P.repr_of_int (of_decide_eq_true (by simpa [PyData.showable] using hs)) (q s.heap _ _ fun _ _ e => e)
  | str y =>
    obtain ⟨t, rfl⟩ := (show ∃ t, v = Value.str y t from r)
    rw [PyData.shown_str] at q hz
    exact PySem.P.repr_of_str (q s.heap _ _ fun _ _ e => e) hz
  | @lst a xs ds h t =>
    cases (show v = Value.ref a from r)
    have hz1 : (listText (PyData.shownAll ds)).length ≤ sizeLine := by simpa only [PyData.shown] using hz
    have hs1 : PyData.showableAll ds = true := by simpa [PyData.showable] using hs
    obtain ⟨as, rd⟩ := reads_of I (.lst h t) (v := .ref a) rfl
    obtain ⟨its, rv, ⟨o, n, h1, h2, h3, h4⟩, _⟩ := I.list h
    have h5 : o.data = .seq its.toArray n := by first | exact h3 | exact h4
    obtain ⟨bs, hb, hk⟩ := reprA_of I t rv hs1 fun u hu => Nat.le_trans (listText_mem_le hu) hz1
    have dp : (PyData.list ds).depth = PyData.depthAll ds + 1 := by simp only [PyData.depth] <;> omega
    have hna : a ∉ bs := not_mem_of_deeper rd (by rw [dp]; omega) hb
    simp only [PyData.shown] at q
    rw [dp] at hu
    refine call_repr_slot (by omega) ⟨o, h1, h2⟩ F.slot_list_repr.toG ?_
    cases its with
    | nil =>
      have e0 : PyData.shownAll ds = [] := List.length_eq_zero_iff.mp (by simpa using hk.length_eq)
      rw [e0, listText_nil] at q
      exact call_list_repr_empty ⟨o, h1, h2⟩ h1 h5 ⟨_, _, rfl, q s.heap _ _ fun _ _ e => e⟩
    | cons y l =>
      exact call_list_reprK (A := A.in1) (g := []) h1 h2 h5 hna (by simpa using hk.length_eq) (fun i u e => hk.item i u (by simpa using e)) hg (fun b _ => Clear.nil b) (by show A.units + 1 + _ < _; omega) (fun _ _ e => e)
        (fun h' u tk k => ⟨_, _, rfl, q h' u tk k⟩) hz1
  | @tup a xs ds h t =>
    cases (show v = Value.ref a from r)
    have hz1 : (tupleText (PyData.shownAll ds)).length ≤ sizeLine := by simpa only [PyData.shown] using hz
    have hs1 : PyData.showableAll ds = true := by simpa [PyData.showable] using hs
    obtain ⟨as, rd⟩ := reads_of I (.tup h t) (v := .ref a) rfl
    obtain ⟨its, rv, ⟨o, h1, h2, n, h3⟩, _⟩ := I.tuple h
    obtain ⟨bs, hb, hk⟩ := reprA_of I t rv hs1 fun u hu => Nat.le_trans (tupleText_mem_le hu) hz1
    have dp : (PyData.tuple ds).depth = PyData.depthAll ds + 1 := by simp only [PyData.depth] <;> omega
    have hna : a ∉ bs := not_mem_of_deeper rd (by rw [dp]; omega) hb
    simp only [PyData.shown] at q
    rw [dp] at hu
    refine call_repr_slot (by omega) ⟨o, h1, h2⟩ F.slot_tuple_repr ?_
    exact call_tuple_reprK (A := A.in1) (g := []) h1 h2 h3 hna (by simpa using hk) hg (fun b _ => Clear.nil b) (by show A.units + 1 + _ < _; omega) (fun _ _ e => e)
      (fun h' u tk k => ⟨_, _, rfl, q h' u tk k⟩) hz1
  | @dic a kvs ds h t =>
    cases (show v = Value.ref a from r)
    obtain ⟨_, hsy, vs, rv, o, es, ep, h1, h2, h3, _, h5, _⟩ := (show ObjOk X.prog X.w H s.heap a (.dK kvs) from I.hok a _ h)
    obtain ⟨n, bs, hna, hE, hd⟩ := dict_entries I h t hs hz h1 h3 h5 rv
    simp only [PyData.shown] at q hz
    refine call_repr_slot (by omega) ⟨o, h1, h2.1⟩ F.slot_dict_repr ?_
    exact call_dict_reprK (A := A.in1) (g := []) h1 h2.1 h3 hsy hna hE hg (fun b _ => Clear.nil b) (by show A.units + 1 + _ < _; omega) (fun _ _ e => e)
      (fun h' u tk k => ⟨_, _, rfl, q h' u tk k⟩) hz

/-- repr(x), x data -/
def rRep (K : PySem.W.Frag) : List V → Hp → VK → Prop := fun xs H Q => ∃ x d, xs = [x] ∧ DatV K H x d ∧ d.showable = true ∧ d.shown.length ≤ sizeLine ∧ d.depth ≤ 60 ∧ Q (.str d.shown) H
theorem call_reprD (hg : X.A.guards = some []) (hu : X.A.units + 64 < cLine) : CallR X (.builtin "repr") (rRep X.K) := by
  intro pins s σ H xs us Q I r h
  obtain ⟨x, d, rfl, D, hs, hz, hd, q⟩ := h
  obtain ⟨u, rfl, r1⟩ := vals1 r
  exact repr_run I hg D r1 hs hz (by omega) fun h' u tk k => ⟨.str d.shown, H, I.kept (t' := tk) k, ⟨u, rfl⟩, q⟩
end
end Ns

/-! NsG: defs that are called where no repr is under way (the guards are known to be none); xs[i] op= e of a list; the end of a law over such a def. -/
namespace Ns
open PySem PySem.Spec PyProof.Rows L2

/-- as FnOk, for calls with no guard around -/
structure GnOk (P : Program) (w : World) (K : PySem.W.Frag) (mg : Str → Option Value) (base : Heap) (k : Nat) (f : Addr) (fd : FuncData) (ps : List Str) (sp : Sp) : Prop where
  glen : ∀ as H Q E, sp as H Q E → as.length = ps.length
  grun : ∀ (A : Around) (outer : List Env) (s : Shared) (H : Hp) (args : Args) (us : List Value) (as : List V) (Q : VK) (E : XK), Room k A → A.guards = some [] → Env0 P w K mg base A outer s H →
    BindsTo s fd args (ps.zip us) → Vals as us → sp as H Q E → codeAny (model P w) A (.call (.ref f) args) (CR CX0 outer P w H s Q E) s
theorem FnOk.guarded {P : Program} {w : World} {K : PySem.W.Frag} {mg : Str → Option Value} {base : Heap} {k : Nat} {f : Addr} {fd : FuncData} {ps : List Str} {sp : Sp} (F : FnOk P w K mg base CX0 k f fd ps sp) : GnOk P w K mg base k f fd ps sp :=
  ⟨F.len, fun A outer s H args us as Q E hr _ e b v h => F.run A outer s H args us as Q E hr e b v h⟩

section
variable {X : Cx} {k : Nat} {f : Addr} {fd : FuncData} {ps : List Str} {sp : Sp} {x : Str} {p pos : Pos} {e : Expr} {es : List Expr} {t : TA}
theorem run_g {pins : List (Addr × Obj)} {σ : L2.St} {H : Hp} {s : Shared} {Q : VK} {us : List Value} {as : List V} (F : GnOk X.prog X.w X.K X.mg X.base k f fd ps sp) (hr : Room k X.A) (hgd : X.A.guards = some []) (hb : Binds X.K fd ps [])
    (I : Inv X pins σ H s) (r : Vals as us) (h : sp as H Q E0) : wpAny (model X.prog X.w) X.A (call (.ref f) us) (EP X pins σ Q) X.xe s := by
  have hl : us.length = ps.length := r.length.symm.trans (F.glen _ _ _ _ h)
  have bb := hb s us I.kIn (by rw [List.append_nil]; exact hl)
  rw [List.append_nil] at bb
  refine wpAny_call (codeAny_mono (F.grun X.A X.stack s H ⟨us, []⟩ us as Q E0 hr hgd I.env0 bb r h) fun z s' hz => ?_)
  match z, hz with
  | .error _, hz => exact (show False from hz).elim
  | .ok (.ret u), hz => exact I.after hz
  | .ok .next, hz => exact (show False from hz).elim
  | .ok .brk, hz => exact (show False from hz).elim
  | .ok .cont, hz => exact (show False from hz).elim
theorem pe_callG (F : GnOk X.prog X.w X.K X.mg X.base k f fd ps sp) (hr : Room k X.A) (hgd : X.A.guards = some []) (hg : Gl X x) (hm : X.mg x = some (.ref f)) (hk : PySem.W.keepIn X.K (.ref f) = true) (hb : Binds X.K fd ps [])
    (ha : PA X (e :: es) t) (hdb : (x == ("__debug__" : Str)) = false := by decide) (he : starEach (e :: es) X.env = (false, eval e X.env) :: starEach es X.env := by rfl) (hpl : (backTo pos (starEach es X.env)).any (·.1) = false := by rfl) :
    PE X (.Call (.Name x p) (e :: es) [] pos) (tCall sp [] E0 t) :=
  ⟨fun pins s σ H Q I h => wpAny_Call_Name_kw (ld_glob I hg hm (PySem.W.callWith_K (h₀ := X.base) I.ok.mod.kin hk (thn (ha.run pos pins s σ H _ I h) fun us s1 ⟨as, H1, I1, r, q⟩ => ⟨I1.kIn, run_g F hr hgd hb I1 r (by have q' : sp (as ++ []) H1 Q E0 := q; rw [List.append_nil] at q'; exact q')⟩) he hpl) hdb)⟩
end

/-- the def by its body: the guards are known within -/
theorem Fun.okG {P : Program} {w : World} {K : PySem.W.Frag} {mg : Str → Option Value} {base : Heap} {x qual : Str} {st : Stmt} {f : Addr} {fd : FuncData} {N ps : List Str} {k : Nat} {sp : Sp} (F : Fun K x qual st f fd) (S : FnScope N ps (defScope st))
    (len : ∀ as H Q E, sp as H Q E → as.length = ps.length)
    (body : ∀ (cdv : Value) (A : Around) (outer : List Env) (s : Shared) (H : Hp) (as : List V) (Q : VK) (E : XK), Room k (A.deeper (envOfC qual (defScope st) s.heap.objs.size f cdv)) → (A.deeper (envOfC qual (defScope st) s.heap.objs.size f cdv)).guards = some [] → sp as H Q E →
      ∃ t, PSs (cxOf CX0 P w K mg base N qual (defScope st) f cdv A outer s H E).nox (defBody st) t ∧ t { nx := fun _ H' => Q .non H', rt := Q } (start N as) H) : GnOk P w K mg base (k + 1) f fd ps sp := by
  obtain ⟨oc, od, kV, doc, pm, an, cdv, ct, osl, rfl, lk, hcd⟩ := F.ex
  refine ⟨len, fun A outer s H args us as Q E hr hgd e0 hb r hsp => ?_⟩
  have old : ∀ b o, base.get? b = some o → s.heap.get? b = some o := fun b o z => (e0.bs b o z).1
  have kin : K.In s.heap := e0.mod.kin.keeps old
  refine codeAny_call_function hr.depth (kin _ _ lk) rfl S.co S.gen rfl (PySem.W.codeRec_of kin hcd) (hb _ _ _ _ (wpAny_newFunctionEnv_cells S.kind (fun y hy => ?_) fun env he s1 x => ?_))
  · have hm := (List.of_mem_zip (show (y.1, y.2) ∈ ps.zip us from hy)).1
    exact (S.par y.1 hm).imp (fun z => z) fun z => ⟨z, PySem.W.cellsFrom_some _ _ _ (.inl z)⟩
  · cases he
    refine ⟨(e0.mod.nolimit.keeps old).keeps x.toInCall.keep, codeAny_func ?_⟩
    obtain ⟨t, ht, hq⟩ := body cdv A outer s H as Q E (hr.deeper _) hgd hsp
    have J := inv_start (CX := CX0) (E := E) S hr.hd e0 (len _ _ _ _ hsp) r x
    refine wpAny_mono (ht.nox.run [] s1 (start N as) H _ J hq) (fun fl s' hs => ?_) fun e s' hs => hs
    match fl, hs with
    | .ret u, ⟨v, _, H', J', rv, q⟩ => exact ⟨v, H', J'.os, J'.bare, J'.base, J'.hok, rv, q⟩
    | .next, ⟨_, H', J', q⟩ => exact ⟨V.non, H', J'.os, J'.bare, J'.base, J'.hok, rfl, q⟩
    | .brk, ⟨_, _, _, q⟩ => exact (show False from q).elim
    | .cont, ⟨_, _, _, q⟩ => exact (show False from q).elim
end Ns

/-! NsH: the end of a law over a guarded def; xs[i] op= e. -/
namespace Ns
open PySem PySem.Spec PyProof.Rows L2

/-- what a law's def promises: of a list of ints, True -/
def spTop (K : PySem.W.Frag) : Sp := fun as H Q _ => ∃ (a : Addr) (ns : List Int), as = [.ref a] ∧ SqL K H a (ns.map V.int) ∧ ns.length ≤ 63 ∧ ∀ H', Q (.bl true) H'

/-- the abstract heap at the entry: the script at a alone, unless it is a written object -/
theorem entry_core {P : Program} {w : World} {K : PySem.W.Frag} {mg mb : Str → Option Value} {k : Nat} {fa a : Addr} {fd : FuncData} {s : Shared} {vs : List Value} {ns : List Int} (kin : K.In s.heap) (gl : s.heap.Ns mainGlobals mg)
    (bl : s.heap.Ns builtinsNs mb) (bb : ∀ x : Str, x ≠ "__name__" → mb x = bootBuiltins x) (nl : s.heap.NoLimit) (ge : s.gens = #[]) (sc : s.heap.get? a = some { cls := .type "list", data := .seq vs.toArray }) (l63 : ns.length ≤ 63)
    (hr : Room k callerA) (F : ∀ base : Heap, K.In base → base.Ns mainGlobals mg → GnOk P w K mg base k fa fd ["script"] (spTop K)) (bd : ∀ (z : Shared) (u : Value), BindsTo z fd ⟨[u], []⟩ [("script", u)])
    (H : Hp) (only : ∀ b o, H b = some o → b = a ∧ ∃ ob xs, o = .frz ob (.lst xs)) (free : H a ≠ none → K.lookup a = none) (hok : HOk P w H s.heap) (sq : SqL K H a (ns.map V.int)) :
    codeAny (model P w) callerA (.call (.ref fa) ⟨[.ref a], []⟩) (fun r s' => r = .ok (.ret (.bool true)) ∧ OldK s.heap s'.heap ∧ s'.os = s.os ∧ AllBare s'.gens) s := by
  have noD : ∀ {b : Addr} {o : Obj} {es : Array DictEntry} {n : Nat}, s.heap.get? b = some o → o.data = .dict es n → H b = none := by
    intro b o es n e d
    cases q : H b with
    | none => rfl
    | some u =>
      obtain ⟨rfl, _⟩ := only b u q
      rw [sc] at e
      cases e
      cases d
  have ns' : ∀ {b : Addr} {m : Str → Option Value}, s.heap.Ns b m → (hidT s.heap H).Ns b m := by
    rintro b m ⟨o, es, n, e, d, r⟩
    exact ⟨o, es, n, hidT_get e (noD e d), d, r⟩
  have kin' : K.In (hidT s.heap H) := by
    intro b o e
    refine hidT_get (kin b o e) ?_
    cases q : H b with
    | none => rfl
    | some u =>
      obtain ⟨rfl, _⟩ := only b u q
      rw [free (by rw [q]; exact fun z => nomatch z)] at e
      cases e
  have md : Mod K mg (hidT s.heap H) := by
    obtain ⟨mc, n1, n2⟩ := nl
    exact { kin := kin', glob := ns' gl, blt := ⟨mb, ns' bl, bb⟩, nolimit := ⟨mc, ns' n1, n2⟩ }
  have e0 : Env0 P w K mg (hidT s.heap H) callerA [] s H :=
    { frames := rfl, mod := md, bs := fun b o e => of_hidT e, bsz := Nat.le_of_eq (hidT_size _ _), funs := trivial, frf := fun b hb => (List.not_mem_nil hb).elim, hok := hok, bare := .of_eq ge }
  have run := (F _ kin' (ns' gl)).grun callerA [] s H ⟨[.ref a], []⟩ [.ref a] [.ref a] (fun v _ => v = .bl true) E0 hr rfl e0 (bd s (.ref a)) (.cons rfl .nil) ⟨a, ns, rfl, sq, l63, fun _ => rfl⟩
  refine codeAny_mono run fun r s' h => ?_
  match r, h with
  | .error _, h => exact (show False from h).elim
  | .ok .next, h => exact (show False from h).elim
  | .ok .brk, h => exact (show False from h).elim
  | .ok .cont, h => exact (show False from h).elim
  | .ok (.ret u), ⟨v, H', o', bare, un, hok', rv, q⟩ =>
    have q' : v = .bl true := q
    rw [q'] at rv
    have eu : u = Value.bool true := rv
    rw [eu]
    refine ⟨rfl, OldK.of_keep fun b o e => ?_, o', bare⟩
    cases z : H b with
    | none => exact un.keep b o e z (fun y => List.not_mem_nil y) List.not_mem_nil
    | some u' =>
      obtain ⟨_, ob, xs, rfl⟩ := only b u' z
      have h1 : s.heap.get? b = some ob := (hok b _ z).1
      have h2 : s'.heap.get? b = some ob := (hok' b _ (un.frzs b ob _ z)).1
      rw [e] at h1
      cases h1
      exact h2

theorem walk_ofG {l : PySem.W.OpenLaw} {k : Nat} {q : Program} {loose : List Str} {XP : (Str → Option Value) → Heap → Prop} {YP : World → Heap → Prop} {d : DefRec} {K : Params → PySem.W.Frag} (hn : l.most = some 63) (hdf : d.params.defaults = []) (hr : Room k callerA)
    (hY : ∀ (w : World) (h : Heap), YP w h → (K w.params).In h)
    (F : ∀ (w : World) (mg : Str → Option Value) (fa : Addr) (h : Heap), (K w.params).In h → h.Ns mainGlobals mg → mg d.name = some (.ref fa) →
      ∃ fd : FuncData, (∀ (z : Shared) (u : Value), BindsTo z fd ⟨[u], []⟩ [("script", u)]) ∧ ∀ base : Heap, (K w.params).In base → base.Ns mainGlobals mg → GnOk l.prog w (K w.params) mg base k fa fd ["script"] (spTop (K w.params))) :
    PySem.W.WalkO q loose XP YP l.row.toRowW d [] (fun f vs => PySem.call f vs) := by
  refine Att.attach_call hn hdf ?_
  intro w s0 s mg mb fa o pm cd doc a vs ns G Y ho hd hcd hmg hobj hints hlen hg
  obtain ⟨fd, bd, hF⟩ := F w mg fa _ (hY w _ Y) G.T.g hmg
  have rv := vals_ints hints
  have hz : (ns.map V.int).length ≤ sizeLine := by
    rw [List.length_map]
    exact Nat.le_trans hlen (by decide)
  have go := entry_core (P := l.prog) (w := w) (a := a) (ns := ns) (hY w _ Y) G.T.g G.T.b G.T.builtins G.T.nolimit hg hobj hlen hr hF bd
  cases hk : (K w.params).lookup a with
  | some ok =>
    have e := hY w _ Y a ok hk
    rw [hobj] at e
    cases e
    refine go (fun _ => none) (fun b o z => nomatch z) (fun z => absurd rfl z) (fun b u z => nomatch z) (.inr ⟨_, vs.toArray, _, hk, rfl, rfl, rfl, ?_, by simpa using rv⟩)
    rw [List.size_toArray, ← rv.length]
    exact hz
  | none =>
    have at_a : (fun b => if b = a then some (HO.frz { cls := .type "list", data := .seq vs.toArray } (.lst (ns.map V.int))) else none) a = some (HO.frz { cls := .type "list", data := .seq vs.toArray } (.lst (ns.map V.int))) := if_pos rfl
    have un_a : ∀ (b : Addr) (u : HO), (if b = a then some (HO.frz { cls := .type "list", data := .seq vs.toArray } (.lst (ns.map V.int))) else none) = some u → b = a ∧ u = HO.frz { cls := .type "list", data := .seq vs.toArray } (.lst (ns.map V.int)) := by
      intro b u z
      by_cases hb : b = a
      · rw [if_pos hb] at z
        exact ⟨hb, (Option.some.inj z).symm⟩
      · rw [if_neg hb] at z
        cases z
    refine go (fun b => if b = a then some (HO.frz { cls := .type "list", data := .seq vs.toArray } (.lst (ns.map V.int))) else none) (fun b u z => ?_) (fun _ => hk) (fun b u z => ?_) (.inl (.inr ⟨_, at_a⟩))
    · obtain ⟨e1, e2⟩ := un_a b u z
      exact ⟨e1, _, _, e2⟩
    · obtain ⟨e1, e2⟩ := un_a b u z
      subst e1
      subst e2
      exact ⟨hobj, hz, vs, _, rv, hobj⟩

/-- o[i] of a list, by values -/
theorem get_list {X : Cx} : PGet X (rIxL X.K) := by
  intro pins s σ H o i ov iv Q I ro ri h
  obtain ⟨p, xs, j, v, rfl, rfl, hS, hat, q⟩ := h
  cases (show ov = Value.ref p from ro)
  obtain ⟨t, rfl⟩ := (show ∃ t, iv = Value.int j t from ri)
  obtain ⟨its, rv, pl, hz⟩ := I.list hS
  obtain ⟨n, h1, h2, h3, h4, h5⟩ := atI_get hat
  obtain ⟨u, eu, ru⟩ := rv.get h2
  have ln := rv.length
  have l63 := line63
  have done : EP X pins σ Q u s := ⟨v, H, I, ru, q⟩
  rcases Int.lt_or_le j 0 with c | c
  · refine wpAny_getItem_list_neg pl.isList (by omega) (by rw [List.size_toArray]; omega) (by omega) ?_ done
    have e : (j + (its.toArray.size : Int)).toNat = n := by
      rw [seqIndex_neg (by omega) h4] at h1
      rw [List.size_toArray, ← ln]
      exact Option.some.inj h1
    rw [e]
    simpa using eu
  · refine wpAny_getItem_list pl.isList c (by omega) ?_ done
    have e : j.toNat = n := by
      rw [seqIndex_of c h5] at h1
      exact Option.some.inj h1
    rw [e]
    simpa using eu
end Ns

/-! the tops of the text -/
namespace Y
open PySem PySem.Spec PyProof.Rows L2 Ns
def top (i : Nat) : Stmt := PySem.Challenge.pw_nightstairs_k78_whole_nights_of_great_ro.main.body.getD i (.Pass ⟨0, 0, 0, 0⟩)
abbrev sPutRun : Stmt := top 1
abbrev sReachIn : Stmt := top 3
abbrev sStepIn : Stmt := top 4
abbrev sWholeOf : Stmt := top 5
abbrev sHoursOf : Stmt := top 6
abbrev sTaken : Stmt := top 7
abbrev sBehind : Stmt := top 8
abbrev sFirstTaken : Stmt := top 9
abbrev sCouldIn : Stmt := top 10
abbrev sTold : Stmt := top 12
abbrev sAtEnd : Stmt := top 13
abbrev sPBy : Stmt := top 14
abbrev sBag : Stmt := top 16
abbrev sTake : Stmt := top 17
abbrev sSome : Stmt := top 18
abbrev sMixed : Stmt := top 19
abbrev sAlike : Stmt := top 20
abbrev sRowReach : Stmt := top 21
abbrev sCouldBy : Stmt := top 22
abbrev sNearSupply : Stmt := top 23
abbrev sCouldOf : Stmt := top 24
abbrev sGreatRow : Stmt := top 25
abbrev sLaw : Stmt := top 26
end Y

/-! the bag over the heap -/
namespace Y
open PySem PySem.Spec PyProof.Rows L2 Ns
/-- the heap but for b -/
def wo (H : Hp) (b : Addr) : Hp := fun c => if c = b then none else H c
theorem wo_ne {H : Hp} {b c : Addr} (h : c ≠ b) : wo H b c = H c := if_neg h
theorem wo_at {H : Hp} {b : Addr} : wo H b b = none := if_pos rfl
theorem wo_of {H : Hp} {b c : Addr} {o : HO} (h : wo H b c = some o) : c ≠ b ∧ H c = some o := by
  by_cases e : c = b
  · rw [e, wo_at] at h
    cases h
  · exact ⟨e, (wo_ne e).symm.trans h⟩
theorem wo_sub (H : Hp) (b : Addr) : Same (wo H b) H := fun _ _ h => (wo_of h).2
/-- all but b stands; b keeps its row of numbers -/
def Sb (b : Addr) (H H' : Hp) : Prop := Same (wo H b) (wo H' b) ∧ ∀ (n0 n1 n2 : Int) (l : Addr), H b = some (.lst [.int n0, .int n1, .int n2, .ref l]) → ∃ m0 m1 m2 : Int, H' b = some (.lst [.int m0, .int m1, .int m2, .ref l])
theorem Sb.refl (b : Addr) (H : Hp) : Sb b H H := ⟨Same.refl _, fun n0 n1 n2 _ h => ⟨n0, n1, n2, h⟩⟩
theorem Sb.trans {b : Addr} {H H1 H2 : Hp} (h : Sb b H H1) (g : Sb b H1 H2) : Sb b H H2 := ⟨Same.trans h.1 g.1, fun n0 n1 n2 l e => by
  obtain ⟨m0, m1, m2, e1⟩ := h.2 n0 n1 n2 l e
  exact g.2 _ _ _ _ e1⟩
theorem Sb.get {b c : Addr} {H H' : Hp} {o : HO} (h : Sb b H H') (e : H c = some o) (n : c ≠ b) : H' c = some o := (wo_of (h.1 c o ((wo_ne n).trans e))).2
theorem Sb.new {b p : Addr} {H H' : Hp} {o : HO} (h : Sb b H H') (n : H' p = none) : Sb b H (upd H' p o) := ⟨fun c u e => by
  have q := h.1 c u e
  obtain ⟨q1, q2⟩ := wo_of q
  rw [wo_ne q1, upd_ne (ne_of_none q2 n)]
  exact q2, fun n0 n1 n2 l e => by
  obtain ⟨m0, m1, m2, e1⟩ := h.2 n0 n1 n2 l e
  exact ⟨m0, m1, m2, by rw [upd_ne (ne_of_none e1 n)]; exact e1⟩⟩
theorem Sb.put {b l : Addr} {H H' : Hp} {n0 n1 n2 m0 m1 m2 : Int} (h : Sb b H H') (e0 : H' b = some (.lst [.int n0, .int n1, .int n2, .ref l])) : Sb b H (upd H' b (.lst [.int m0, .int m1, .int m2, .ref l])) := ⟨fun c u e => by
  obtain ⟨q1, q2⟩ := wo_of (h.1 c u e)
  rw [wo_ne q1, upd_ne q1]
  exact q2, fun k0 k1 k2 l' e => by
  obtain ⟨j0, j1, j2, e1⟩ := h.2 _ _ _ _ e
  rw [e0] at e1
  cases e1
  exact ⟨m0, m1, m2, upd_same⟩⟩
theorem Sb.same {b : Addr} {H H' H2 : Hp} (h : Sb b H H') (m : Same H' H2) : Sb b H H2 := ⟨fun c u e => by
  obtain ⟨q1, q2⟩ := wo_of (h.1 c u e)
  rw [wo_ne q1]
  exact m _ _ q2, fun n0 n1 n2 l e => by
  obtain ⟨m0, m1, m2, e1⟩ := h.2 n0 n1 n2 l e
  exact ⟨m0, m1, m2, m _ _ e1⟩⟩
/-- the bag at b -/
def Bag (H : Hp) (b : Addr) : Prop := ∃ (n0 n1 n2 : Int) (l : Addr) (ns : List Int), H b = some (.lst [.int n0, .int n1, .int n2, .ref l]) ∧ H l = some (.lst (ns.map V.int)) ∧ l ≠ b ∧ 0 ≤ n0 ∧ 0 ≤ n1 ∧ n1 < 2147483647 ∧ 0 ≤ n2 ∧ (∀ n ∈ ns, 0 ≤ n) ∧ ns.length ≤ 63
theorem Bag.new {H : Hp} {b p : Addr} {o : HO} (h : Bag H b) (n : H p = none) : Bag (upd H p o) b := by
  obtain ⟨n0, n1, n2, l, ns, h1, h2, r⟩ := h
  exact ⟨n0, n1, n2, l, ns, by rw [upd_ne (ne_of_none h1 n)]; exact h1, by rw [upd_ne (ne_of_none h2 n)]; exact h2, r⟩
theorem Bag.keep {H H' : Hp} {b : Addr} (h : Bag H b) (m : Same H H') : Bag H' b := by
  obtain ⟨n0, n1, n2, l, ns, h1, h2, r⟩ := h
  exact ⟨n0, n1, n2, l, ns, m _ _ h1, m _ _ h2, r⟩
theorem Bag.ne {H : Hp} {b p : Addr} (h : Bag H b) (n : H p = none) : p ≠ b := fun e => by
  obtain ⟨_, _, _, _, _, h1, _⟩ := h
  rw [e, h1] at n
  cases n
/-- a place that was free at first is written: the bag stands -/
theorem Bag.wr {H H' : Hp} {b p : Addr} {o : HO} (h : Bag H b) (n : H p = none) (s : Sb b H H') (g : Bag H' b) : Bag (upd H' p o) b := by
  obtain ⟨n0, n1, n2, l, ns, h1, h2, h3, _⟩ := id h
  obtain ⟨k0, k1, k2, l', ns', g1, g2, r⟩ := g
  obtain ⟨m0, m1, m2, e⟩ := s.2 _ _ _ _ h1
  rw [g1] at e
  cases e
  exact ⟨_, _, _, _, ns', by rw [upd_ne (h.ne n).symm]; exact g1, by rw [upd_ne (ne_of_none h2 n)]; exact g2, r⟩
theorem Sb.wr {b p : Addr} {H H' : Hp} {o : HO} (s : Sb b H H') (n : H p = none) : Sb b H (upd H' p o) := ⟨fun c u e => by
  obtain ⟨q1, q2⟩ := wo_of (s.1 c u e)
  rw [wo_ne q1, upd_ne (ne_of_none (wo_of e).2 n)]
  exact q2, fun n0 n1 n2 l e => by
  obtain ⟨m0, m1, m2, e1⟩ := s.2 n0 n1 n2 l e
  exact ⟨m0, m1, m2, by rw [upd_ne (ne_of_none e n)]; exact e1⟩⟩
theorem Sb.free {b p : Addr} {H H' : Hp} (h : Sb b H H') (hp : H' p = none) (n : p ≠ b) : H p = none := by
  cases e : H p with
  | none => rfl
  | some o => rw [h.get e n] at hp; cases hp
/-- what stood but for the bag: lists, tuples -/
theorem Sb.sl {K : PySem.W.Frag} {b a : Addr} {H H' : Hp} {xs : List V} (s : Sb b H H') (h : SqL K (wo H b) a xs) : SqL K (wo H' b) a xs := Same.seq s.1 h
theorem wo_same {H H' : Hp} {b : Addr} (m : Same H H') : Same (wo H b) (wo H' b) := fun c o e => by
  obtain ⟨q1, q2⟩ := wo_of e
  rw [wo_ne q1]
  exact m _ _ q2
theorem ints_at {ns : List Int} {i : Nat} {v : V} (h : (ns.map V.int)[i]? = some v) : ∃ z, ns[i]? = some z ∧ v = .int z := by
  rw [List.getElem?_map] at h
  obtain ⟨z, e, q⟩ := Option.map_eq_some_iff.mp h
  exact ⟨z, e, q.symm⟩
theorem cut_ints (ns : List Int) (lo hi : Option Int) : ∃ ms : List Int, cutV (ns.map V.int) lo hi = ms.map V.int ∧ (∀ n ∈ ms, n ∈ ns) ∧ ms.length ≤ ns.length := by
  refine ⟨(ns.drop (HT.sIx (ns.map V.int).length 0 lo)).take (HT.sIx (ns.map V.int).length (ns.map V.int).length hi - HT.sIx (ns.map V.int).length 0 lo), ?_, fun n h => List.mem_of_mem_drop (List.mem_of_mem_take h), ?_⟩
  · unfold cutV
    rw [List.map_take, List.map_drop]
  · rw [List.length_take, List.length_drop]
    omega
theorem same_new {H H' : Hp} {p : Addr} {o : HO} (h : Same H H') (n : H' p = none) : Same H (upd H' p o) := fun c u e => by
  rw [upd_ne (ne_of_none (h c u e) n)]
  exact h c u e
theorem same_put {H H' : Hp} {p : Addr} {o : HO} (h : Same H H') (n : H p = none) : Same H (upd H' p o) := fun c u e => by
  rw [upd_ne (ne_of_none e n)]
  exact h c u e
/-- a thing put amid is among -/
theorem put_perm {α : Type} {xs ys : List α} {x : α} {i j : Nat} (h : ys.Perm (xs.take i)) (hx : xs[i]? = some x) : (ys.take j ++ [x] ++ ys.drop j).Perm (xs.take (i + 1)) := by
  have e : xs.take (i + 1) = xs.take i ++ [x] := by rw [List.take_succ, hx]; rfl
  rw [e]
  have p1 : (ys.take j ++ [x] ++ ys.drop j).Perm (x :: ys) := by
    rw [List.append_assoc, List.singleton_append]
    refine List.perm_middle.trans ?_
    rw [List.take_append_drop]
  exact p1.trans ((h.cons x).trans (List.perm_append_singleton x (xs.take i)).symm)
/-- what the top has left of the built-in names -/
structure Nat0 (mg : Str → Option Value) : Prop where
  abs : mg "abs" = none
  int : mg "int" = none
  len : mg "len" = none
  repr : mg "repr" = none
  isi : mg "isinstance" = none
  range : mg "range" = none
  sorted : mg "sorted" = none
  tuple : mg "tuple" = none
  list_ : mg "list" = none
  dict : mg "dict" = none
  set_ : mg "set" = none
  sum : mg "sum" = none
  max : mg "max" = none
  min : mg "min" = none
  str : mg "str" = none
  all : mg "all" = none
  any : mg "any" = none
  zip : mg "zip" = none
end Y

namespace Y
open PySem PySem.Spec PyProof.Rows L2 Ns
open C8 (pss_cut)
def spBag (K : PySem.W.Frag) : Sp := fun as H Q _ => ∃ (a : Addr) (ns : List Int), as = [.ref a] ∧ SqL K H a (ns.map V.int) ∧ ns.length ≤ 63 ∧ ∀ (b : Addr) (H' : Hp), Bag H' b → H b = none → Same H H' → Q (.ref b) H'
def spTake : Sp := fun as H Q _ => ∃ (b : Addr) (m : Int), as = [.ref b, .int m] ∧ Bag H b ∧ 0 < m ∧ m.natAbs < 2 ^ 200 ∧ ∀ (v : Int) (H' : Hp), 0 ≤ v → v < m → Bag H' b → Sb b H H' → Q (.int v) H'
section
variable {P : Program} {w : World} {K : PySem.W.Frag} {mg : Str → Option Value} {base : Heap}
theorem scB : FnScope ["script", "cell"] ["script"] (defScope sBag) := ⟨rfl, rfl, rfl, by decide +kernel, rfl, by decide +kernel, by decide +kernel⟩
theorem ok_bag {f : Addr} {fd : FuncData} (F : Fun K "_law_bag" "_law_bag" sBag f fd) (T : Nat0 mg) : FnOk P w K mg base CX0 1 f fd ["script"] (spBag K) := by
  refine F.ok scB (fun as H Q E h => ?_) (fun cdv A outer s H as Q E hr h => ?_)
  · obtain ⟨a, ns, rfl, _⟩ := h
    rfl
  · obtain ⟨a, ns, rfl, hS, hl, k⟩ := h
    refine ⟨_, pss_one (ps_ret (pe_lst (pa_cons pe_int (pa_cons pe_int (pa_cons pe_int (pa_cons
      (pe_lc (own := [("cell", 1)]) (g := gName 1) (tt := tYes) rfl scB.nd (pi_list (pe_slice sl_list (pv 0) po_none (po_some pe_int))) (blkOk_by (N := ["script", "cell"]) (sc := defScope sBag) (by decide +kernel)) (fun _ _ _ _ _ => pg_name (i := 1) scB.nd rfl (Or.inl rfl)) (fun _ _ _ _ _ => pts_nil)
        (fun _ _ _ _ _ => pe_callB call_abs (by rfl) T.abs (by decide +kernel) (pa_cons (pv 1) pa_nil))) pa_nil)))))), ?_⟩
    obtain ⟨ms, ec, hin, hlm⟩ := cut_ints ns none (some 63)
    refine ⟨_, rfl, _, rfl, a, _, rfl, hS, fun p hp => ?_⟩
    rw [ec]
    have lm : ms.length ≤ 63 := Nat.le_trans hlm hl
    refine ⟨p, rfl, ⟨_, .inl (.inl upd_same)⟩, fun D hD => ?_⟩
    refine lc_list (K := K) (a := p) (xs := ms.map V.int) (fun i H' => ∃ ks : List Int, H' D = some (.lst (ks.map V.int)) ∧ ks.length = i ∧ (∀ n ∈ ks, 0 ≤ n) ∧ H' p = some (.lst (ms.map V.int)) ∧ Same H H') ?_ ?_ ?_ ?_
    · have npd : p ≠ D := fun e => by rw [← e, upd_same] at hD; cases hD
      refine ⟨[], upd_same, rfl, (fun _ z => nomatch z), by rw [upd_ne npd, upd_same], fun c o e => ?_⟩
      have hD' : H D = none := by rw [upd_ne npd.symm] at hD; exact hD
      rw [upd_ne (ne_of_none e hD'), upd_ne (ne_of_none e hp)]
      exact e
    · rintro i H' hi ⟨ks, _, _, _, h, _⟩
      exact .inl (.inl h)
    · rintro i x H' hx ⟨ks, h1, h2, h3, h4, h5⟩
      obtain ⟨z, hz, rfl⟩ := ints_at hx
      have hi : i < ms.length := (List.getElem?_eq_some_iff.mp hz).1
      refine ⟨rfl, _, rfl, z, rfl, ks.map V.int, h1, by rw [List.length_map, h2]; exact small1000 (by omega), ks ++ [if z < 0 then -z else z], ?_, ?_, ?_, ?_, ?_⟩
      · rw [upd_same, List.map_append]
        rfl
      · rw [List.length_append, h2]
        rfl
      · intro n hn
        rcases List.mem_append.mp hn with q | q
        · exact h3 n q
        · rw [List.mem_singleton] at q
          subst q
          split <;> omega
      · have npd : p ≠ D := fun e => by rw [← e, upd_same] at hD; cases hD
        rw [upd_ne npd]
        exact h4
      · intro c o e
        have hD' : H D = none := by
          have npd : p ≠ D := fun e => by rw [← e, upd_same] at hD; cases hD
          rw [upd_ne npd.symm] at hD
          exact hD
        rw [upd_ne (ne_of_none e hD')]
        exact h5 c o e
    · rintro H' ⟨ks, h1, h2, h3, h4, h5⟩
      rw [List.length_map] at h2
      refine ⟨by show 4 ≤ sizeLine; decide, fun b hb => ?_⟩
      refine k b _ ⟨0, 1234567891, 0, D, ks, upd_same, by rw [upd_ne (ne_of_none h1 hb)]; exact h1, ne_of_none h1 hb, by decide, by decide, by decide, by decide, h3, by omega⟩ (h5.free hb) fun c o e => ?_
      rw [upd_ne (ne_of_none (h5 c o e) hb)]
      exact h5 c o e
end
section
variable {P : Program} {w : World} {K : PySem.W.Frag} {mg : Str → Option Value} {base : Heap}
theorem scT : FnScope ["bag", "many", "cell", "stirred", "value", "begin", "second"] ["bag", "many"] (defScope sTake) := ⟨rfl, rfl, rfl, by decide +kernel, rfl, by decide +kernel, by decide +kernel⟩
theorem at0 {α : Type} {x : α} {xs : List α} : atI (x :: xs) (0 : Int) = some x := atI_nat (j := 0) rfl
theorem at1 {α : Type} {x y : α} {xs : List α} : atI (x :: y :: xs) (1 : Int) = some y := atI_nat (j := 1) rfl
theorem at2 {α : Type} {x y z : α} {xs : List α} : atI (x :: y :: z :: xs) (2 : Int) = some z := atI_nat (j := 2) rfl
theorem at3 {α : Type} {x y z u : α} {xs : List α} : atI (x :: y :: z :: u :: xs) (3 : Int) = some u := atI_nat (j := 3) rfl
theorem fm {x m : Int} (h : 0 < m) : 0 ≤ x.fmod m ∧ x.fmod m < m := by
  rw [Int.fmod_eq_emod_of_nonneg x (by omega)]
  exact ⟨Int.emod_nonneg _ (by omega), Int.emod_lt_of_pos _ h⟩
theorem head_int {ms : List Int} (h : ∀ n ∈ ms, 0 ≤ n) : ∃ z : Int, 0 ≤ z ∧ atI (ms.map V.int ++ [V.int 0]) (0 : Int) = some (.int z) := by
  cases ms with
  | nil => exact ⟨0, by decide, at0⟩
  | cons n ms => exact ⟨n, h n List.mem_cons_self, at0⟩
theorem ok_take {f : Addr} {fd : FuncData} (F : Fun K "_law_take" "_law_take" sTake f fd) (T : Nat0 mg) : FnOk P w K mg base CX0 1 f fd ["bag", "many"] spTake := by
  refine F.ok scT (fun as H Q E h => ?_) (fun cdv A outer s H as Q E hr h => ?_)
  · obtain ⟨b, m, rfl, _⟩ := h
    rfl
  · obtain ⟨b, m, rfl, hB, hm, hmz, k⟩ := h
    refine ⟨_, pss_cut (ps_if (pt_cmpR op_eq (pe_ix ix_list (pv 0) pe_int (fun _ _ => rfl)) pe_int (nomark _))
        (pss_cons (ps_set (i := 2) scT.nd rfl (.inl rfl) (pe_ix ix_list (pe_op op_cat (pe_slice sl_list (pe_ix ix_list (pv 0) pe_int (fun _ _ => rfl)) (po_some (pe_ix ix_list (pv 0) pe_int (fun _ _ => rfl))) po_none) (pe_lst (pa_cons pe_int pa_nil))) pe_int (fun _ _ => rfl)))
        (pss_cons (ps_augS (pv 0) pe_int get_list pe_int ip_add set_list)
        (pss_cut (ps_if (pt_cmpR op_ge (pv 2) (pe_op op_pow pe_int pe_int) (nomark _)) (pss_one (ps_asg (pv 2) (pg_sub (pv 0) pe_int set_list))) pss_nil)
        (pss_cons (ps_set (i := 3) scT.nd rfl (.inl rfl) (pe_op op_add (pe_op op_add (pe_op op_mul (pe_ix ix_list (pv 0) pe_int (fun _ _ => rfl)) pe_int)
            (pe_op op_modN (pe_callTy call_int1 (by rfl) T.int (by decide +kernel) (pa_cons (pv 2) pa_nil)) pe_int)) (pe_op op_mul pe_int (pe_ix ix_list (pv 0) pe_int (fun _ _ => rfl)))))
        (pss_one (ps_asg (pe_op op_modN (pe_callTy call_int1 (by rfl) T.int (by decide +kernel) (pa_cons (pv 3) pa_nil)) pe_int) (pg_sub (pv 0) pe_int set_list))))))) pss_nil)
      (pss_cons (ps_if (pt_cmpR op_gt (pe_ix ix_list (pv 0) pe_int (fun _ _ => rfl)) pe_int (nomark _))
        (pss_cons (ps_set (i := 4) scT.nd rfl (.inl rfl) (pe_op op_modN (pe_callTy call_int1 (by rfl) T.int (by decide +kernel) (pa_cons (pe_ix ix_list (pv 0) pe_int (fun _ _ => rfl)) pa_nil)) (pv 1)))
        (pss_cons (ps_asg (pe_op op_fdivW (pe_callTy call_int1 (by rfl) T.int (by decide +kernel) (pa_cons (pe_ix ix_list (pv 0) pe_int (fun _ _ => rfl)) pa_nil)) (pv 1)) (pg_sub (pv 0) pe_int set_list))
        (pss_one (ps_ret (pv 4))))) pss_nil)
      (pss_cons (ps_set (i := 5) scT.nd rfl (.inl rfl) (pe_op op_modN (pe_callTy call_int1 (by rfl) T.int (by decide +kernel) (pa_cons (pe_op op_mul (pe_op op_add (pe_ix ix_list (pv 0) pe_int (fun _ _ => rfl)) pe_int) pe_int) pa_nil)) pe_int))
      (pss_cons (ps_set (i := 6) scT.nd rfl (.inl rfl) (pe_op op_modN (pe_callTy call_int1 (by rfl) T.int (by decide +kernel) (pa_cons (pe_op op_mul (pe_op op_modN (pe_callTy call_int1 (by rfl) T.int (by decide +kernel) (pa_cons (pe_op op_mul (pv 5) (pv 5)) pa_nil)) pe_int) pe_int) pa_nil)) pe_int))
      (pss_one (ps_ret (pe_op op_modN (pe_callTy call_int1 (by rfl) T.int (by decide +kernel) (pa_cons (pe_op op_fdivN (pv 6) pe_int) pa_nil)) (pv 1))))))), ?_⟩
    refine ⟨fun σ' H' => ∃ c s : Option V, σ' = [some (.ref b), some (.int m), c, s, none, none, none] ∧ Bag H' b ∧ Sb b H H', ?_, ?_⟩
    · obtain ⟨n0, n1, n2, l, ns, h1, h2, hlb, z0, z1, z1', z2, hn, hlen⟩ := id hB
      refine ⟨_, rfl, b, _, _, _, rfl, rfl, SqL.of h1, at0, rfl, _, rfl, ?_⟩
      refine ite2 (fun c => ?_) (fun c => ⟨none, none, rfl, hB, Sb.refl _ _⟩)
      obtain ⟨ms, ec, hin, hlm⟩ := cut_ints ns (some n2) none
      refine ⟨_, rfl, b, _, _, _, rfl, rfl, SqL.of h1, at3, _, rfl, b, _, _, _, rfl, rfl, SqL.of h1, at2, n2, rfl, l, _, rfl, SqL.of h2, fun p hp => ?_⟩
      rw [ec]
      refine ⟨by show 1 ≤ sizeLine; decide, fun q hq => ?_⟩
      have npq : p ≠ q := fun e => by rw [← e, upd_same] at hq; cases hq
      have lmz : (ms.map V.int).length + [V.int 0].length ≤ sizeLine := by
        rw [List.length_map]
        exact Nat.le_of_lt (small1000 (show ms.length + 1 ≤ 1000 by omega))
      refine ⟨p, q, _, _, rfl, rfl, by rw [upd_ne npq, upd_same], upd_same, lmz, fun r hr => ?_⟩
      obtain ⟨z, hz, hat⟩ := head_int (ms := ms) fun n h => hn n (hin n h)
      refine ⟨r, _, _, _, rfl, rfl, SqL.of upd_same, hat, ?_⟩
      have hb3 : upd (upd (upd H p (.lst (ms.map V.int))) q (.lst [V.int 0])) r (.lst (ms.map V.int ++ [V.int 0])) b = some (.lst [.int n0, .int n1, .int n2, .ref l]) := by
        have e1 : upd H p (.lst (ms.map V.int)) b = some (.lst [.int n0, .int n1, .int n2, .ref l]) := by rw [upd_ne (ne_of_none h1 hp)]; exact h1
        have e2 : upd (upd H p (.lst (ms.map V.int))) q (.lst [V.int 0]) b = some (.lst [.int n0, .int n1, .int n2, .ref l]) := by rw [upd_ne (ne_of_none e1 hq)]; exact e1
        rw [upd_ne (ne_of_none e2 hr)]
        exact e2
      have hl3 : upd (upd (upd H p (.lst (ms.map V.int))) q (.lst [V.int 0])) r (.lst (ms.map V.int ++ [V.int 0])) l = some (.lst (ns.map V.int)) := by
        have e1 : upd H p (.lst (ms.map V.int)) l = some (.lst (ns.map V.int)) := by rw [upd_ne (ne_of_none h2 hp)]; exact h2
        have e2 : upd (upd H p (.lst (ms.map V.int))) q (.lst [V.int 0]) l = some (.lst (ns.map V.int)) := by rw [upd_ne (ne_of_none e1 hq)]; exact e1
        rw [upd_ne (ne_of_none e2 hr)]
        exact e2
      have sb3 : Sb b H (upd (upd (upd H p (.lst (ms.map V.int))) q (.lst [V.int 0])) r (.lst (ms.map V.int ++ [V.int 0]))) := (((Sb.refl b H).new hp).new hq).new hr
      generalize upd (upd (upd H p (.lst (ms.map V.int))) q (.lst [V.int 0])) r (.lst (ms.map V.int ++ [V.int 0])) = H3 at hb3 hl3 sb3 ⊢
      refine ⟨_, rfl, b, _, _, _, rfl, rfl, SqL.of hb3, at2, n2, 1, rfl, rfl, b, _, _, 2, rfl, rfl, hb3, rfl, ?_⟩
      refine ⟨fun σ' H' => ∃ n0' : Int, σ' = [some (.ref b), some (.int m), some (.int z), none, none, none, none] ∧ H' b = some (.lst [.int n0', .int n1, .int (n2 + 1), .ref l]) ∧ H' l = some (.lst (ns.map V.int)) ∧ 0 ≤ n0' ∧ Sb b H H', ?_, ?_⟩
      · have hb4 : upd H3 b (.lst (([.int n0, .int n1, .int n2, .ref l] : List V).set 2 (.int (n2 + 1)))) b = some (.lst [.int n0, .int n1, .int (n2 + 1), .ref l]) := upd_same
        have hl4 : upd H3 b (.lst (([.int n0, .int n1, .int n2, .ref l] : List V).set 2 (.int (n2 + 1)))) l = some (.lst (ns.map V.int)) := by rw [upd_ne hlb]; exact hl3
        have sb4 : Sb b H (upd H3 b (.lst (([.int n0, .int n1, .int n2, .ref l] : List V).set 2 (.int (n2 + 1))))) := sb3.put hb3
        generalize upd H3 b (.lst (([.int n0, .int n1, .int n2, .ref l] : List V).set 2 (.int (n2 + 1)))) = H4 at hb4 hl4 sb4 ⊢
        refine ⟨_, rfl, 10, 18, rfl, rfl, ⟨by decide, by decide, by decide⟩, z, _, rfl, rfl, _, rfl, ?_⟩
        refine ite2 (fun _ => ?_) (fun _ => ⟨n0, rfl, hb4, hl4, z0, sb4⟩)
        exact ⟨_, rfl, _, rfl, b, _, _, 0, rfl, rfl, hb4, rfl, z, rfl, upd_same, by rw [upd_ne hlb]; exact hl4, hz, sb4.put hb4⟩
      · rintro σ' H' ⟨n0', rfl, hb5, hl5, z0', sb5⟩
        refine ⟨_, rfl, b, _, _, _, rfl, rfl, SqL.of hb5, at1, n1, _, rfl, rfl, .inl ⟨by omega, by omega⟩, _, rfl, .inl ⟨z, rfl, z, _, rfl, rfl, (show (2147483647 : Int) ≠ 0 by decide), _, _, rfl, rfl, _, rfl, b, _, _, _, rfl, rfl, SqL.of hb5, at2, 7919, _, rfl, rfl, .inl ⟨by decide, by decide⟩, _, _, rfl, rfl, ?_⟩⟩
        refine ⟨_, rfl, .inl ⟨_, rfl, _, _, rfl, rfl, (show (2147483647 : Int) ≠ 0 by decide), _, rfl, b, _, _, 1, rfl, rfl, hb5, rfl, ?_⟩⟩
        exact ⟨_, _, rfl, ⟨n0', _, n2 + 1, l, ns, upd_same, by rw [upd_ne hlb]; exact hl5, hlb, z0', (fm (by decide)).1, (fm (by decide)).2, by omega, hn, hlen⟩, sb5.put hb5⟩
    · rintro σ' H' ⟨c, s', rfl, hB', sb⟩
      obtain ⟨n0, n1, n2, l, ns, h1, h2, hlb, z0, z1, z1', z2, hn, hlen⟩ := id hB'
      refine ⟨_, rfl, b, _, _, _, rfl, rfl, SqL.of h1, at0, _, _, rfl, rfl, _, rfl, ?_⟩
      refine ite2 (fun _ => ?_) (fun _ => ?_)
      · refine ⟨_, rfl, b, _, _, _, rfl, rfl, SqL.of h1, at0, .inl ⟨n0, rfl, _, rfl, n0, m, rfl, rfl, by omega, ?_⟩⟩
        refine ⟨_, rfl, b, _, _, _, rfl, rfl, SqL.of h1, at0, .inl ⟨n0, rfl, _, rfl, n0, m, rfl, rfl, wide_div hm hmz (by decide) (by decide), _, rfl, b, _, _, 0, rfl, rfl, h1, rfl, ?_⟩⟩
        refine ⟨_, rfl, k _ _ (fm hm).1 (fm hm).2 ⟨n0 / m, n1, n2, l, ns, upd_same, by rw [upd_ne hlb]; exact h2, hlb, Int.ediv_nonneg z0 (by omega), z1, z1', z2, hn, hlen⟩ (sb.put h1)⟩
      · have b1 := fm (x := (n1 + 1) * 39373) (m := 1000000007) (by decide)
        refine ⟨_, rfl, b, _, _, _, rfl, rfl, SqL.of h1, at1, n1, 1, rfl, rfl, n1 + 1, _, rfl, rfl, .inl ⟨by omega, by omega⟩, .inl ⟨_, rfl, _, _, rfl, rfl, (show (1000000007 : Int) ≠ 0 by decide), ?_⟩⟩
        have b2 := fm (x := ((n1 + 1) * 39373).fmod 1000000007 * ((n1 + 1) * 39373).fmod 1000000007) (m := 998244353) (by decide)
        refine ⟨_, rfl, _, rfl, _, _, rfl, rfl, .inl ⟨by omega, by omega⟩, .inl ⟨_, rfl, _, _, rfl, rfl, (show (998244353 : Int) ≠ 0 by decide), _, _, rfl, rfl, .inl ⟨by omega, by omega⟩, .inl ⟨_, rfl, _, _, rfl, rfl, (show (998244353 : Int) ≠ 0 by decide), ?_⟩⟩⟩
        exact ⟨_, rfl, _, _, rfl, rfl, ⟨by decide, by decide⟩, .inl ⟨_, rfl, _, rfl, _, m, rfl, rfl, by omega, k _ _ (fm hm).1 (fm hm).2 hB' sb⟩⟩
end
end Y

namespace Y
open PySem PySem.Spec PyProof.Rows L2 Ns
open C8 (pss_cut)
def spSome (K : PySem.W.Frag) : Sp := fun as H Q _ => ∃ (b a : Addr) (xs : List V), as = [.ref b, .ref a] ∧ Bag H b ∧ SqL K (wo H b) a xs ∧ xs ≠ [] ∧ xs.length ≤ 1000000 ∧ ∀ (x : V) (H' : Hp), x ∈ xs → Bag H' b → Sb b H H' → Q x H'
section
variable {P : Program} {w : World} {K : PySem.W.Frag} {mg : Str → Option Value} {base : Heap}
theorem scS : FnScope ["bag", "things"] ["bag", "things"] (defScope sSome) := ⟨rfl, rfl, rfl, by decide +kernel, rfl, by decide +kernel, by decide +kernel⟩
theorem ok_some {f fT : Addr} {fd fdT : FuncData} (F : Fun K "_law_some" "_law_some" sSome f fd) (T : Nat0 mg) (FT : Fun K "_law_take" "_law_take" sTake fT fdT) (mT : mg "_law_take" = some (.ref fT)) (bT : Binds K fdT ["bag", "many"] []) :
    FnOk P w K mg base CX0 2 f fd ["bag", "things"] (spSome K) := by
  have GT : FnOk P w K mg base CX0 1 fT fdT ["bag", "many"] spTake := ok_take FT T
  refine F.ok scS (fun as H Q E h => ?_) (fun cdv A outer s H as Q E hr h => ?_)
  · obtain ⟨b, a, xs, rfl, _⟩ := h
    rfl
  · obtain ⟨b, a, xs, rfl, hB, hS, hne, hl, k⟩ := h
    have pos : 0 < xs.length := List.length_pos_iff.mpr hne
    refine ⟨_, pss_one (ps_ret (pe_ix ix_list (pv 1) (pe_call GT hr rfl mT FT.kp bT .nil pass0 (pa_cons (pv 0) (pa_cons (pe_callB call_len_seq (by rfl) T.len PySem.boot_len (pa_cons (pv 1) pa_nil)) pa_nil))) (fun _ _ => rfl))), ?_⟩
    refine ⟨_, rfl, _, rfl, _, rfl, a, _, rfl, .inl ((wo_sub H b).seq hS), b, _, rfl, hB, by omega, ?_, fun v H' h0 h1 hB' sb => ?_⟩
    · exact Nat.lt_of_le_of_lt (show ((xs.length : Int)).natAbs ≤ 1000000 by omega) (by decide)
    · have hi : v.toNat < xs.length := by omega
      have e : v = ((v.toNat : Nat) : Int) := by omega
      have hx : xs[v.toNat]? = some xs[v.toNat] := List.getElem?_eq_getElem hi
      obtain ⟨x, ex⟩ : ∃ x, xs[v.toNat]? = some x := ⟨_, hx⟩
      exact ⟨a, xs, v, x, rfl, rfl, (wo_sub H' b).seq (sb.sl hS), by rw [e]; exact atI_nat ex, k _ _ (List.mem_of_getElem? ex) hB' sb⟩
end
end Y

/-! NsD: how long the text of data is. -/
namespace Ns
open PySem PySem.Spec PyProof.Rows L2
/-- shown in at most m signs, nested at most k deep -/
def Fit (m k : Nat) (d : PyData) : Prop := d.showable = true ∧ d.shown.length ≤ m ∧ d.depth ≤ k
theorem Fit.mono {m m' k k' : Nat} {d : PyData} (h : Fit m k d) (hm : m ≤ m') (hk : k ≤ k') : Fit m' k' d := ⟨h.1, Nat.le_trans h.2.1 hm, Nat.le_trans h.2.2 hk⟩
theorem sum_le {m : Nat} : ∀ {l : List Nat}, (∀ n ∈ l, n ≤ m) → l.sum ≤ l.length * m
  | [], _ => Nat.zero_le _
  | n :: l, h => by
    have h1 := h n List.mem_cons_self
    have h2 := sum_le (l := l) fun k hk => h k (List.mem_cons_of_mem _ hk)
    rw [List.sum_cons, List.length_cons, Nat.succ_mul]
    omega
theorem depthAll_le {k : Nat} : ∀ {ds : List PyData}, (∀ d ∈ ds, d.depth ≤ k) → PyData.depthAll ds ≤ k
  | [], _ => by simp [PyData.depthAll]
  | d :: ds, h => by
    simp only [PyData.depthAll]
    exact Nat.max_le.mpr ⟨h d List.mem_cons_self, depthAll_le fun e he => h e (List.mem_cons_of_mem _ he)⟩
theorem mem_shown : ∀ {ds : List PyData} {t : Str}, t ∈ PyData.shownAll ds → ∃ d ∈ ds, t = d.shown
  | [], t, h => by rw [PyData.shownAll_nil] at h; exact nomatch h
  | d :: ds, t, h => by
    rw [PyData.shownAll_cons] at h
    rcases List.mem_cons.mp h with e | e
    · exact ⟨d, List.mem_cons_self, e⟩
    · obtain ⟨d', h1, h2⟩ := mem_shown e
      exact ⟨d', List.mem_cons_of_mem _ h1, h2⟩
theorem lens_le {m k : Nat} {ds : List PyData} (h : ∀ d ∈ ds, Fit m k d) : ((PyData.shownAll ds).map (·.length)).sum ≤ ds.length * m := by
  have e : ((PyData.shownAll ds).map (·.length)).length = ds.length := by rw [List.length_map, PyData.shownAll_length]
  have z := sum_le (l := (PyData.shownAll ds).map (·.length)) (m := m) fun n hn => by
    obtain ⟨t, ht, rfl⟩ := List.mem_map.mp hn
    obtain ⟨d, hd, rfl⟩ := mem_shown ht
    exact (h d hd).2.1
  rw [e] at z
  exact z
theorem fit_list {m k : Nat} {ds : List PyData} (h : ∀ d ∈ ds, Fit m k d) : Fit (ds.length * (m + 2) + 3) (k + 1) (.list ds) := by
  refine ⟨?_, ?_, ?_⟩
  · simp only [PyData.showable]
    exact showableAll_of fun d hd => (h d hd).1
  · simp only [PyData.shown]
    have z1 := listText_len_le (PyData.shownAll ds)
    have z2 := lens_le h
    rw [PyData.shownAll_length] at z1
    rw [Nat.mul_add]
    omega
  · have e : (PyData.list ds).depth = PyData.depthAll ds + 1 := by simp only [PyData.depth] <;> omega
    rw [e]
    exact Nat.succ_le_succ (depthAll_le fun d hd => (h d hd).2.2)
theorem fit_tuple {m k : Nat} {ds : List PyData} (h : ∀ d ∈ ds, Fit m k d) : Fit (ds.length * (m + 2) + 3) (k + 1) (.tuple ds) := by
  refine ⟨?_, ?_, ?_⟩
  · simp only [PyData.showable]
    exact showableAll_of fun d hd => (h d hd).1
  · simp only [PyData.shown]
    have z1 := tupleText_len_le (PyData.shownAll ds)
    have z2 := lens_le h
    rw [PyData.shownAll_length] at z1
    rw [Nat.mul_add]
    omega
  · have e : (PyData.tuple ds).depth = PyData.depthAll ds + 1 := by simp only [PyData.depth] <;> omega
    rw [e]
    exact Nat.succ_le_succ (depthAll_le fun d hd => (h d hd).2.2)
theorem kvs_le {m k : Nat} : ∀ {kvs : List (PyData × PyData)}, (∀ p ∈ kvs, Fit m k p.1 ∧ Fit m k p.2) → ((PyData.shownKv kvs).map (·.length)).sum ≤ kvs.length * (2 * m + 2) ∧ PyData.depthKv kvs ≤ k
  | [], _ => by simp [PyData.shownKv, PyData.depthKv]
  | (a, b) :: r, h => by
    obtain ⟨h1, h2⟩ := h (a, b) List.mem_cons_self
    obtain ⟨z1, z2⟩ := kvs_le (kvs := r) fun p hp => h p (List.mem_cons_of_mem _ hp)
    have e : (a.shown ++ ": " ++ b.shown).length = a.shown.length + 2 + b.shown.length := by
      rw [strLen_append, strLen_append]
      rfl
    have y1 := h1.2.1
    have y2 := h2.2.1
    refine ⟨?_, ?_⟩
    · rw [PyData.shownKv_cons, List.map_cons, List.sum_cons, List.length_cons, Nat.succ_mul, e]
      have y1' : a.shown.length ≤ m := y1
      have y2' : b.shown.length ≤ m := y2
      omega
    · have y3 : a.depth ≤ k := h1.2.2
      have y4 : b.depth ≤ k := h2.2.2
      simp only [PyData.depthKv]
      omega
theorem fit_dict {m k : Nat} {kvs : List (PyData × PyData)} (h : ∀ p ∈ kvs, Fit m k p.1 ∧ Fit m k p.2) : Fit (kvs.length * (2 * m + 4) + 3) (k + 1) (.dict kvs) := by
  obtain ⟨z1, z2⟩ := kvs_le h
  refine ⟨?_, ?_, ?_⟩
  · simp only [PyData.showable]
    exact showableKv_of fun p hp => ⟨(h p hp).1.1, (h p hp).2.1⟩
  · simp only [PyData.shown]
    have y := dictText_len_le (PyData.shownKv kvs)
    rw [PyData.shownKv_length] at y
    have e : kvs.length * (2 * m + 4) = kvs.length * (2 * m + 2) + 2 * kvs.length := by
      rw [Nat.mul_add, Nat.mul_add]
      omega
    omega
  · have e : (PyData.dict kvs).depth = PyData.depthKv kvs + 1 := by simp only [PyData.depth] <;> omega
    omega
theorem fit_int {i : Int} {n : Nat} (h0 : 0 < n) (h : i.natAbs < 10 ^ n) (hn : n ≤ 500) : Fit (n + 1) 0 (.int i) := by
  have z : (10 : Nat) ^ n < 2 ^ 1920 := Nat.lt_of_le_of_lt (Nat.pow_le_pow_right (by decide) hn) (by decide +kernel)
  refine ⟨decide_eq_true (log2_small (Nat.lt_trans h z)), ?_, by simp [PyData.depth]⟩
  rw [PyData.shown_int, PySem.ofString_length]
  exact int_text_length_le10 h0 h
/-- a datum is equal to itself -/
theorem eqv_self {K : PySem.W.Frag} {H : Hp} {x : V} {d : PyData} (D : DatV K H x d) (n : Nat) : EqV K H (n + 1) x x := by
  cases D with
  | non => exact .inl ⟨rfl, rfl⟩
  | bl b => exact .inl ⟨rfl, rfl⟩
  | int i => exact .inl ⟨rfl, rfl⟩
  | str y => exact .inl ⟨rfl, rfl⟩
  | lst _ _ => exact .inr (.inl ⟨_, rfl, rfl⟩)
  | tup _ _ => exact .inr (.inl ⟨_, rfl, rfl⟩)
  | dic _ _ => exact .inr (.inl ⟨_, rfl, rfl⟩)
theorem paired_rep {α β : Type} {F : α → β → Prop} {a : α} {b : β} (h : F a b) : ∀ n : Nat, Paired F (List.replicate n a) (List.replicate n b)
  | 0 => .nil
  | n + 1 => .cons h (paired_rep h n)
theorem datA_rep {K : PySem.W.Frag} {H : Hp} {x : V} {d : PyData} (D : DatV K H x d) : ∀ n : Nat, DatA K H (List.replicate n x) (List.replicate n d)
  | 0 => .nil
  | n + 1 => .cons D (datA_rep D n)
end Ns

/-! NsE: == of equal nested lists, tuples and dicts. -/
namespace Ns
open PySem PySem.Spec PyProof.Rows L2
/-- two tuples of equal items -/
def EqU (K : PySem.W.Frag) (H : Hp) (E : V → V → Prop) (x y : V) : Prop := ∃ a b xs ys, x = .ref a ∧ y = .ref b ∧ SqT K H a xs ∧ SqT K H b ys ∧ Paired E xs ys
/-- equal, of nesting below n, tuples too -/
def EqT (K : PySem.W.Frag) (H : Hp) : Nat → V → V → Prop
  | 0 => fun _ _ => False
  | n + 1 => fun x y => (x = y ∧ flatB x = true) ∨ (∃ a, x = .ref a ∧ y = .ref a) ∨ EqR K H (EqT K H n) x y ∨ EqU K H (EqT K H n) x y
section
variable {X : Cx} {pins : List (Addr × Obj)} {σ : L2.St} {H : Hp} {s : Shared}
theorem eqU_run (I : Inv X pins σ H s) {A : Around} {F : V → V → Prop} (hu : A.units < cLine) (ih : ∀ x y v u, F x y → RelV x v → RelV y u → SeqAt.EqP X.prog X.w A.in1 s v u true) {x y : V} {v u : Value} (h : EqU X.K H F x y) (rx : RelV x v) (ry : RelV y u)
    (E Q : Value → Shared → Prop) (q : Q (.bool true) s) : wpAny (model X.prog X.w) A (richCompare .Eq v u) Q E s := by
  obtain ⟨a, b, xs, ys, rfl, rfl, ha, hb, hp⟩ := h
  cases (show v = Value.ref a from rx)
  cases (show u = Value.ref b from ry)
  obtain ⟨us, r1, ⟨o1, h1, h2, n1, h3⟩, _⟩ := I.tuple ha
  obtain ⟨ws, r2, ⟨o2, g1, g2, n2, g3⟩, _⟩ := I.tuple hb
  have hsz : us.toArray.size = ws.toArray.size := by
    rw [List.size_toArray, List.size_toArray, ← r1.length, ← r2.length]
    exact Paired.length hp
  refine SeqAt.rcIn_tuples (e := fun _ => true) ⟨o1, h1, h2, n1, h3⟩ ⟨o2, g1, g2, n2, g3⟩ hu (fun j h1 h2 => ?_) ?_
  · have k := items_run ih hp r1 r2 j (by simpa using h1) (by simpa using h2)
    simp only [List.getElem_toArray]
    exact fun E Q q => k E Q q
  · rw [hsz, show ((List.range (min ws.toArray.size ws.toArray.size)).all fun _ => true) = true from List.all_eq_true.mpr fun _ _ => rfl]
    simpa using q
theorem eqT_run (I : Inv X pins σ H s) : ∀ (n : Nat) (A : Around), A.units + n < cLine → ∀ (x y : V) (v u : Value), EqT X.K H n x y → RelV x v → RelV y u → SeqAt.EqP X.prog X.w A s v u true
  | 0, _, _, _, _, _, _, h, _, _ => (show False from h).elim
  | n + 1, A, hu, x, y, v, u, h, rx, ry => by
    have ih := eqT_run I n A.in1 (by show A.units + 1 + n < cLine; omega)
    rcases h with ⟨rfl, f⟩ | ⟨a, rfl, rfl⟩ | h | h
    · exact (eqAt_same rx ry f).eqP
    · cases (show v = Value.ref a from rx)
      cases (show u = Value.ref a from ry)
      exact (SeqAt.EqAt.same _).eqP
    · have step := eqR_run I (A := A) (by omega) ih h rx ry
      obtain ⟨a, b, rfl, rfl⟩ : ∃ a b, x = .ref a ∧ y = .ref b := by
        rcases h with ⟨a, b, _, _, e1, e2, _⟩ | ⟨a, b, _, _, e1, e2, _⟩
        · exact ⟨a, b, e1, e2⟩
        · exact ⟨a, b, e1, e2⟩
      cases (show v = Value.ref a from rx)
      cases (show u = Value.ref b from ry)
      by_cases e : a = b
      · subst e
        exact (SeqAt.EqAt.same _).eqP
      · exact SeqAt.eqP_refs e step
    · have step := eqU_run I (A := A) (by omega) ih h rx ry
      obtain ⟨a, b, _, _, rfl, rfl, _⟩ := h
      cases (show v = Value.ref a from rx)
      cases (show u = Value.ref b from ry)
      by_cases e : a = b
      · subst e
        exact (SeqAt.EqAt.same _).eqP
      · exact SeqAt.eqP_refs e step
end
/-- flat, or a list, a tuple, a dict, the two of them equal -/
def EqS (K : PySem.W.Frag) (H : Hp) (n : Nat) (x y : V) : Prop := EqR K H (EqT K H n) x y ∨ EqU K H (EqT K H n) x y
section
variable {X : Cx}
/-- a == b, equal: flat ones, or lists, tuples, dicts -/
def rEqT (K : PySem.W.Frag) : R2 := fun x y H Q => ((x = y ∧ ((∃ i, x = .int i) ∨ (∃ z, x = .str z) ∨ x = .non ∨ ∃ b, x = .bl b)) ∨ ∃ n, n ≤ 60 ∧ EqS K H n x y) ∧ Q (.bl true) H
theorem op_eqT (hu : X.A.units + 64 < cLine) : OpR X (compareOp .Eq) (rEqT X.K) := by
  intro pins s σ H x y v u Q I rx ry h
  obtain ⟨h, q⟩ := h
  have qq : EP X pins σ Q (Value.bool true) s := ⟨.bl true, H, I, rfl, q⟩
  rcases h with ⟨rfl, ⟨i, rfl⟩ | ⟨z, rfl⟩ | rfl | ⟨b, rfl⟩⟩ | ⟨n, hn, h | h⟩
  · obtain ⟨t, rfl⟩ := (show ∃ t, v = Value.int i t from rx)
    obtain ⟨t', rfl⟩ := (show ∃ t, u = Value.int i t from ry)
    exact SeqAt.RcAt.int_int i t i t' _ _ _ _ (by rw [beq_self_eq_true]; exact qq)
  · obtain ⟨t, rfl⟩ := (show ∃ t, v = Value.str z t from rx)
    obtain ⟨t', rfl⟩ := (show ∃ t, u = Value.str z t from ry)
    exact SeqAt.RcAt.str_str z t z t' _ _ _ _ (by rw [beq_self_eq_true]; exact qq)
  · cases (show v = Value.none from rx)
    cases (show u = Value.none from ry)
    exact SeqAt.RcAt.none_none _ _ _ _ qq
  · cases (show v = Value.bool b from rx)
    cases (show u = Value.bool b from ry)
    exact SeqAt.RcAt.bool_bool b b _ _ _ _ (by rw [beq_self_eq_true]; exact qq)
  · exact eqR_run I (A := X.A) (by omega) (eqT_run I n X.A.in1 (by show X.A.units + 1 + n < cLine; omega)) h rx ry _ _ qq
  · exact eqU_run I (A := X.A) (by omega) (eqT_run I n X.A.in1 (by show X.A.units + 1 + n < cLine; omega)) h rx ry _ _ qq
end
end Ns

namespace Y
open PySem PySem.Spec PyProof.Rows L2 Ns
/-- equal data: True -/
def spAlike (K : PySem.W.Frag) : Sp := fun as H Q _ => ∃ (x y : V) (d : PyData), as = [x, y] ∧ ((x = y ∧ ((∃ i, x = .int i) ∨ (∃ z, x = .str z) ∨ x = .non ∨ ∃ b, x = .bl b)) ∨ ∃ n, n ≤ 60 ∧ EqS K H n x y) ∧ DatV K H x d ∧ DatV K H y d ∧ d.showable = true ∧ d.shown.length ≤ sizeLine ∧ d.depth ≤ 60 ∧ Q (.bl true) H
section
variable {P : Program} {w : World} {K : PySem.W.Frag} {mg : Str → Option Value} {base : Heap}
theorem scA : FnScope ["found", "due"] ["found", "due"] (defScope sAlike) := ⟨rfl, rfl, rfl, by decide +kernel, rfl, by decide +kernel, by decide +kernel⟩
theorem ok_alike {f : Addr} {fd : FuncData} (F : Fun K "_law_alike" "_law_alike" sAlike f fd) (T : Nat0 mg) : GnOk P w K mg base 1 f fd ["found", "due"] (spAlike K) := by
  refine Fun.okG F scA (fun as H Q E h => ?_) (fun cdv A outer s H as Q E hr hgd h => ?_)
  · obtain ⟨x, y, d, rfl, _⟩ := h
    rfl
  · obtain ⟨x, y, d, rfl, he, dx, dy, hs, hz, hd, k⟩ := h
    have hu : (A.deeper (envOfC "_law_alike" (defScope sAlike) s.heap.objs.size f cdv)).units + 64 < cLine := hr.units
    refine ⟨_, pss_one (ps_ret (pe_and (pe_cmpR (op_eqT hu) (pv 0) (pv 1) (nomark _)) (pe_one (pe_cmpR op_eq
      (pe_callB (call_reprD hgd hu) (by rfl) T.repr (by decide +kernel) (pa_cons (pv 0) pa_nil)) (pe_callB (call_reprD hgd hu) (by rfl) T.repr (by decide +kernel) (pa_cons (pv 1) pa_nil)) (nomark _))))), ?_⟩
    refine ⟨_, rfl, _, rfl, he, true, rfl, ?_⟩
    refine iteT ?_
    refine ⟨_, rfl, x, d, rfl, dx, hs, hz, hd, _, rfl, y, d, rfl, dy, hs, hz, hd, rfl, ?_⟩
    rw [decide_eq_true rfl]
    exact k
end
end Y

/-! NsS: sorted(xs) of data that are alike; sorted(d), d with pairs of texts as keys. -/
namespace Ns
open PySem PySem.Spec PyProof.Rows L2
open PySem.W (dataLe AllAlike Sortable EachIs)
section
variable {X : Cx}
theorem each_vals {bs : List (V × PyData)} : ∀ {out : List Value}, EachIs (fun v (b : V × PyData) => RelV b.1 v) out bs → Vals (bs.map (·.1)) out
  | _, .nil => .nil
  | _, .cons h t => .cons h (each_vals t)
theorem vals_each {bs : List (V × PyData)} : ∀ {us : List Value}, Vals (bs.map (·.1)) us → EachIs (fun v (b : V × PyData) => RelV b.1 v) us bs := by
  induction bs with
  | nil => intro us r; cases r; exact .nil
  | cons b bs ih => intro us r; cases r with
    | cons h t => exact .cons h (ih t)
theorem each_and {α β : Type} {R S : α → β → Prop} : ∀ {as : List α} {bs : List β}, EachIs R as bs → (∀ b ∈ bs, ∀ a, R a b → S a b) → EachIs S as bs
  | _, _, .nil, _ => .nil
  | _, _, .cons h t, k => .cons (k _ List.mem_cons_self _ h) (each_and t fun b hb => k b (List.mem_cons_of_mem _ hb))
/-- sorted(xs): alike data in Python's order -/
def rSortG (K : PySem.W.Frag) : List V → Hp → VK → Prop := fun vs H Q => ∃ (a : Addr) (bs : List (V × PyData)), vs = [V.ref a] ∧ SqL K H a (bs.map (·.1)) ∧ (∀ p ∈ bs, DatV K H p.1 p.2 ∧ p.2.depth ≤ 60) ∧ AllAlike (bs.map (·.2)) ∧ Sortable (bs.map (·.2)) ∧ bs.length ≤ sizeLine ∧
  ∀ p, H p = none → Q (.ref p) (upd H p (.lst ((bs.mergeSort (dataLe false (·.2))).map (·.1))))
theorem cr_sortG (hu : X.A.units + 64 < cLine) : CallR X (.builtin "sorted") (rSortG X.K) := by
  intro pins s σ H vs us Q I r h
  obtain ⟨a, bs, rfl, hs, hD, ha, hk, hz, q⟩ := h
  obtain ⟨its, rv, hl, _⟩ := I.list hs
  rw [Vals.ref1 r]
  have e := vals_each rv
  refine PySem.W.sorted_data (enc := fun b : V × PyData => b.2) hl.isList e (each_and e fun b hb v rb => reads_of I (hD b hb).1 rb) ha hk hz (fun b hb => by have := (hD b hb).2; omega) fun out hlo ho => ?_
  obtain ⟨ep, he'⟩ := PyProof.Rows.sortedAll_at s.heap its out.toArray
  have hlen : ((bs.mergeSort (dataLe false (·.2))).map (·.1)).length ≤ sizeLine := by rw [List.length_map, List.length_mergeSort]; exact hz
  exact ⟨.ref _, upd H (s.heap.objs.size + 1) (.lst ((bs.mergeSort (dataLe false (·.2))).map (·.1))), I.laid (t' := s.toks) (fun _ _ => PyProof.Rows.sortedAll_old) (Nat.le_succ _) ⟨hlen, out, ep, each_vals ho, by simpa using he'⟩, rfl, q _ (I.hok.fresh (Nat.le_succ _))⟩
/-- two rows of one length that agree at each place -/
theorem rows_same {α β : Type} {f : α → β} : ∀ {xs : List β} {ks : List α}, xs.length = ks.length → (∀ (j : Nat) (v : β) (b : α), xs[j]? = some v → ks[j]? = some b → v = f b) → xs = ks.map f
  | [], [], _, _ => rfl
  | v :: xs, b :: ks, hl, h => by
    rw [List.map_cons, h 0 v b rfl rfl, rows_same (Nat.succ.inj hl) fun j u c h1 h2 => h (j + 1) u c h1 h2]
/-- a pair of texts as data -/
def pD (k : Str × Str) : PyData := .tuple [.str k.1, .str k.2]
def pK (k : Str × Str) : List Key := [.inr k.1, .inr k.2]
/-- sorted(d), d with pairs of texts as keys: the keys' own tuples -/
def rSortDT : List V → Hp → VK → Prop := fun vs H Q => ∃ (a : Addr) (kvs : List (List Key × V)) (ks : List (Str × Str)), vs = [V.ref a] ∧ Rd H a (.dT kvs) ∧ kvs.map (·.1) = ks.map pK ∧ ks.length ≤ 1000 ∧
  ∀ (p : Addr) (qs : List Addr), H p = none → Paired (fun (q : Addr) (k : Str × Str) => H q = some (.tup [.str k.1, .str k.2])) qs (ks.mergeSort (dataLe false pD)) → Q (.ref p) (upd H p (.lst (qs.map V.ref)))
theorem isKeys_pairs {H : Hp} : ∀ {kvs : List (List Key × V)} {bs : List Addr} {ks : List (Str × Str)}, IsKeys H kvs bs → kvs.map (·.1) = ks.map pK → Paired (fun (q : Addr) (k : Str × Str) => H q = some (.tup [.str k.1, .str k.2])) bs ks
  | [], _, [], .nil, _ => .nil
  | [], _, _ :: _, _, e => by cases e
  | _ :: _, _, [], _, e => by cases e
  | kv :: kvs, _, k :: ks, .cons h t, e => by
    injection e with e1 e2
    refine .cons ?_ (isKeys_pairs t e2)
    rw [show kv.1 = pK k from e1] at h
    exact h
theorem pair_each {R : Addr → Str × Str → Prop} : ∀ {qs : List Addr} {ks : List (Str × Str)}, Paired R qs ks → EachIs (fun v k => ∃ q, v = Value.ref q ∧ R q k) (qs.map Value.ref) ks
  | _, _, .nil => .nil
  | _, _, .cons h t => .cons ⟨_, rfl, h⟩ (pair_each t)
theorem each_pair {R : Addr → Str × Str → Prop} : ∀ {out : List Value} {ks : List (Str × Str)}, EachIs (fun v k => ∃ q, v = Value.ref q ∧ R q k) out ks → ∃ qs : List Addr, out = qs.map Value.ref ∧ Paired R qs ks
  | _, _, .nil => ⟨[], rfl, .nil⟩
  | _, _, .cons ⟨q, e, h⟩ t => by
    obtain ⟨qs, e2, p⟩ := each_pair t
    exact ⟨q :: qs, by rw [e, e2]; rfl, .cons h p⟩
theorem alike_pD (ks : List (Str × Str)) : AllAlike (ks.map pD) := AllAlike.of fun _ _ => by simp [PySem.W.alike, PySem.W.alikeAll, pD]
theorem sortable_pD (ks : List (Str × Str)) : Sortable (ks.map pD) := Sortable.tuples fun _ => ⟨_, _, rfl⟩
theorem cr_sortDT (hc : X.calm = true) (hu : X.A.units + 64 < cLine) : CallR X (.builtin "sorted") rSortDT := by
  intro pins s σ H xs us Q I r h
  obtain ⟨d, kvs, kk, rfl, hd, hkk, h1000, q⟩ := h
  obtain ⟨u, rfl, rx⟩ := r.one
  cases rx
  obtain ⟨z, hs, ks, pr, o, es, ep, ho, hx, hdt, he, hn⟩ := (show ObjOk X.prog X.w H s.heap d (.dT kvs) from hd.ok I.hok)
  have l1 : es.size = ks.length := size_of_entries he
  have l2 : kvs.length = ks.length := Paired.length pr
  have l3 : kvs.length = kk.length := by
    have := congrArg List.length hkk
    rw [List.length_map, List.length_map] at this
    exact this
  have z16 : sizeLine = 16777216 := sizeLine_eq
  refine Calls.call_function_entry PyProof.Rows.kind_sorted PyProof.Rows.plain_sorted PyProof.Rows.entry_sorted (PyProof.Rows.args_sorted1 _) ?_
  unfold Builtin.«sorted»
  refine wpAny_bind (m := checkCount "sorted" 1 1 _) (wpAny_pure ?_)
  refine wpAny_bind (PySem.W.kdu_collect (A := X.A.in1) (kdl_raw hs hx hdt) (I.ok.hd hc) ho (by omega) fun h' tk acc hk it => ?_)
  have hsz : acc.toList.length = ks.length := (Array.length_toList).trans (it.1.trans l1)
  have ea : acc.toList = ks.map fun x => Value.ref x.2.1 := by
    refine rows_same hsz fun j v b hv hb => ?_
    obtain ⟨en, hen, rfl⟩ := it.2 j v ((Array.getElem?_toList).symm.trans hv)
    have q := (entry_at he j).symm.trans hen
    rw [hb] at q
    cases q
    rfl
  have eb : acc.toList = (ks.map fun x => x.2.1).map Value.ref := by rw [ea, List.map_map]; all_goals rfl
  have hP := isKeys_pairs (isKeys_of pr) hkk
  have hal : acc.toList.length = kk.length := by rw [Array.length_toList, it.1, l1, ← l2, l3]
  have I1 : Inv X pins σ H { s with heap := h', toks := tk } := I.kept hk
  refine wpAny_bind (wpAny_newList ?_ (by rw [hal]; omega))
  have hoL : (h'.push (seqObj "list" acc.toList.toArray 0)).get? h'.objs.size = some (seqObj "list" acc.toList.toArray 0) := Heap.get?_push_size _ rfl
  show wpAny _ _ _ _ _ { s with heap := h'.push (seqObj "list" acc.toList.toArray 0), toks := tk }
  have e0 : EachIs (fun v (k : Str × Str) => ∃ q, v = Value.ref q ∧ H q = some (.tup [.str k.1, .str k.2])) acc.toList kk := by
    rw [eb]
    exact pair_each hP
  refine wpAny_bind (wpAny_holding (PySem.W.list_sort_data (enc := pD) (s := { s with heap := h'.push (seqObj "list" acc.toList.toArray 0), toks := tk }) hoL e0 (each_and e0 fun k _ v rv => ?_) (alike_pD kk) (sortable_pD kk) (by omega) (fun k _ => ?_) fun out hlo hO => ?_))
  · obtain ⟨q, rfl, hq⟩ := rv
    obtain ⟨_, its, rv2, ot, hot, hct, nt, hdtt⟩ := (show ObjOk X.prog X.w H h' q (.tup [.str k.1, .str k.2]) from I1.hok q _ hq)
    obtain ⟨u1, u2, rfl, r1, r2⟩ := rv2.two
    obtain ⟨t1, rfl⟩ := r1
    obtain ⟨t2, rfl⟩ := r2
    refine ⟨[], Reads.tuple (Heap.get?_push_of_some _ hot) hct hdtt ?_, fun z => nomatch z⟩
    exact ReadsAll.cons (as := []) (bs := []) (.str _ _) (ReadsAll.cons (as := []) (bs := []) (.str _ _) .nil)
  · have : (pD k).depth = 1 := by simp [pD, PyData.depth, PyData.depthAll]
    show X.A.units + 1 + 1 + _ < _
    omega
  · obtain ⟨qs, eo, pq⟩ := each_pair hO
    obtain ⟨e', he'⟩ := PyProof.Rows.sortedHeap_at (vs := acc.toList) (out := out.toArray) hoL
    have hlen : (qs.map V.ref).length ≤ sizeLine := by
      have : out.length = qs.length := by rw [eo, List.length_map]
      rw [List.length_map]
      omega
    refine wpAny_pure ⟨_, rfl, .ref h'.objs.size, upd H h'.objs.size (.lst (qs.map V.ref)), I1.laid (t' := tk) (fun b u e => ?_) (Nat.le_refl _)
      (show ObjOk X.prog X.w _ _ _ (.lst (qs.map V.ref)) from ⟨hlen, out, e', by rw [eo]; exact vals_refs qs, by simpa using he'⟩), rfl, q _ qs (I1.hok.fresh (Nat.le_refl _)) pq⟩
    have hb : b < h'.objs.size := Heap.lt_size e
    rw [PyProof.Rows.sortedHeap_old (Nat.ne_of_lt hb) (by rw [size_push']; exact Nat.lt_succ_of_lt hb)]
    exact Heap.get?_push_of_some _ e
end
end Ns

/-! NsU: d.update(e), two dicts; the values and the items of a dict. -/
namespace Ns
open PySem PySem.Spec PyProof.Rows L2
open L2.DX (itemsO itemsO_ok takeT)
theorem mergeK_len : ∀ (more kvs : List (Key × V)), (mergeK kvs more).length ≤ kvs.length + more.length
  | [], kvs => Nat.le_refl _
  | p :: more, kvs => by
    have h1 := mergeK_len more (putK kvs p.1 p.2)
    have h2 := length_putK kvs p.1 p.2
    show (mergeK (putK kvs p.1 p.2) more).length ≤ _
    rw [List.length_cons]
    omega
section
variable {X : Cx}
def rDUpd : V → List V → Hp → VK → Prop := fun x xs H Q => ∃ (a b : Addr) (kvs more : List (Key × V)), x = .ref a ∧ xs = [.ref b] ∧ a ≠ b ∧ H a = some (.dK kvs) ∧ H b = some (.dK more) ∧ kvs.length + more.length ≤ sizeLine ∧ Q .non (upd H a (.dK (mergeK kvs more)))
theorem mt_dupd : MtR X "dict.update" rDUpd := by
  intro pins s σ H x xs v us Q I rx rxs h
  obtain ⟨a, b, kvs, more, rfl, rfl, hab, ha, hb, hz, q⟩ := h
  cases rx
  obtain ⟨u, rfl, ru⟩ := vals1 rxs
  cases ru
  obtain ⟨_, da, va, ka, oa⟩ := dk_of I.hok ha
  obtain ⟨_, db, vb, kb, ob⟩ := dk_of I.hok hb
  have lens : va.length + vb.length ≤ sizeLine := by rw [← ka.length, ← kb.length]; exact hz
  refine call_meetsIn PySem.F.slot_dict_update oa.typeIs PySem.F.entry_dict_update (PySem.F.args_dict_update_2 _ _) (meets_dict_update (mixKind X.prog X.w) a b hab db) ⟨va, vb, oa, ob, lens, fun h' m1 _ sb => ?_⟩
  have there : ∃ q, h'.get? a = some q := by
    obtain ⟨q, _, _, hq, _⟩ := m1
    exact ⟨q, hq⟩
  exact ⟨.non, _, d_write (t' := s.toks) I (by rw [ha]; trivial) sb there (dk_new (Nat.le_trans (mergeK_len more kvs) hz) da (KV.merge kb ka) m1), rfl, q⟩
/-- the view d.values() at p -/
def valsO (p d : Addr) : HO := .ext fun h => h.IsValuesView p d
theorem valsO_ok {P : Program} {w : World} {H : Hp} {h : Heap} {p d : Addr} (e : h.get? p = some { cls := .type "dict_values", data := .fields #[.ref d] }) : ObjOk P w H h p (valsO p d) :=
  ⟨⟨_, e, rfl, rfl⟩, ⟨_, e⟩, fun h1 h2 x k => by
    obtain ⟨o, ho, r⟩ := x
    exact ⟨o, k o ho, r⟩⟩
def rItemsK : V → List V → Hp → VK → Prop := fun x xs H Q => ∃ (a : Addr) (kvs : List (Key × V)), x = .ref a ∧ xs = [] ∧ H a = some (.dK kvs) ∧ ∀ p, H p = none → Q (.ref p) (upd H p (itemsO p a))
def rValsK : V → List V → Hp → VK → Prop := fun x xs H Q => ∃ (a : Addr) (kvs : List (Key × V)), x = .ref a ∧ xs = [] ∧ H a = some (.dK kvs) ∧ ∀ p, H p = none → Q (.ref p) (upd H p (valsO p a))
theorem mt_itemsK : MtR X "dict.items" rItemsK := by
  intro pins s σ H x xs v us Q I rx rxs h
  obtain ⟨a, kvs, rfl, rfl, ha, q⟩ := h
  cases rx
  cases rxs
  obtain ⟨_, da, va, ka, oa⟩ := dk_of I.hok ha
  refine call_meetsIn PySem.F.slot_dict_items oa.typeIs PySem.F.entry_dict_items (PySem.F.args_dict_items_1 _) (meets_dict_items (mixKind X.prog X.w) a da) ⟨⟨va, oa⟩, ?_⟩
  exact ⟨.ref s.heap.objs.size, upd H s.heap.objs.size (itemsO s.heap.objs.size a), I.laid (t' := s.toks) (fun b u e => Heap.get?_push_of_some _ e) (Nat.le_refl _) (itemsO_ok (Heap.get?_push_size _ rfl)), rfl, q _ (I.hok.fresh (Nat.le_refl _))⟩
theorem mt_valsK : MtR X "dict.values" rValsK := by
  intro pins s σ H x xs v us Q I rx rxs h
  obtain ⟨a, kvs, rfl, rfl, ha, q⟩ := h
  cases rx
  cases rxs
  obtain ⟨_, da, va, ka, oa⟩ := dk_of I.hok ha
  refine call_meetsIn PySem.F.slot_dict_values oa.typeIs PySem.F.entry_dict_values (PySem.F.args_dict_values_1 _) (meets_dict_values (mixKind X.prog X.w) a da) ⟨⟨va, oa⟩, ?_⟩
  exact ⟨.ref s.heap.objs.size, upd H s.heap.objs.size (valsO s.heap.objs.size a), I.laid (t' := s.toks) (fun b u e => Heap.get?_push_of_some _ e) (Nat.le_refl _) (valsO_ok (Heap.get?_push_size _ rfl)), rfl, q _ (I.hok.fresh (Nat.le_refl _))⟩
/-- sum(d.values()), whole numbers -/
def rSumVals : List V → Hp → VK → Prop := fun xs H Q => ∃ (p a : Addr) (kvs : List (Key × V)) (ns : List Int), xs = [.ref p] ∧ H p = some (valsO p a) ∧ H a = some (.dK kvs) ∧ kvs.map (·.2) = ns.map V.int ∧ Q (.int ns.sum) H
theorem preSum_eq : ∀ ns : List Int, preSum (fun i => ns.getD i 0) ns.length = ns.sum
  | [] => rfl
  | n :: ns => by
    rw [List.length_cons, PySem.W.kdu_shift]
    have ih := preSum_eq ns
    show n + preSum (fun i => ns.getD i 0) ns.length = _
    rw [ih, List.sum_cons]
theorem vals_num {ns : List Int} : ∀ {us : List Value}, Vals (ns.map V.int) us → ∀ (j : Nat) (u : Value), us[j]? = some u → ∃ t, u = .int (ns.getD j 0) t := by
  induction ns with
  | nil => intro us r j u h; cases r; cases h
  | cons n ns ih =>
    intro us r j u h
    cases r with
    | cons a b =>
      cases j with
      | zero =>
        cases h
        exact a
      | succ j => exact ih b j u h
theorem call_sumVals (hc : X.calm = true) : CallR X (.builtin "sum") rSumVals := by
  intro pins s σ H xs us Q I r h
  obtain ⟨p, a, kvs, ns, rfl, hp, ha, hn, q⟩ := h
  obtain rfl := Vals.ref1 r
  have view : s.heap.IsValuesView p a := (show ObjOk X.prog X.w H s.heap p (valsO p a) from I.hok p _ hp).1
  obtain ⟨_, da, va, ka, oa⟩ := dk_of I.hok ha
  obtain ⟨ep, hat⟩ := oa.dictAt
  have src := PySem.W.kdl_values (prog := X.prog) (w := X.w) (knd := mixKind X.prog X.w) (kvs := va) (ep := ep) (r := p) (d := a)
  have ok : s.heap.IsValuesView p a ∧ s.heap.DictAt (mixKind X.prog X.w) a va ep := ⟨view, hat⟩
  have nums := kv_vals ka
  rw [hn] at nums
  have ln : va.length = ns.length := by
    have := nums.length
    rw [List.length_map, List.length_map] at this
    exact this.symm
  refine call_sum_walkAnyS ?_
  obtain ⟨ob, St, step, W, st⟩ := src.iter X.A.in1 s (I.ok.hd hc) ok
  refine step _ _ ⟨s.heap.objs.size, _, _, _, va.length, _, _, fun i => ns.getD i 0, rfl, W.toS, st, fun b hb => ?_, fun i v hv => ?_, fun s' t' hm => ?_⟩
  · have there := src.there _ ok
    have up : s.heap.objs.size < (s.heap.push ob).objs.size := by rw [size_push']; omega
    rcases List.mem_cons.mp hb with e | e
    · rw [e]; exact up
    · rw [List.mem_singleton.mp e]
      exact Nat.lt_trans there.2 up
  · obtain ⟨k, hk⟩ := hv
    exact vals_num nums i v (by rw [List.getElem?_map, hk]; rfl)
  · have kept : ∀ b o, s.heap.get? b = some o → s'.heap.get? b = some o := fun b o e => by
      refine hm.heap b o (fun z => ?_) (Heap.get?_push_of_some _ e)
      have := Heap.lt_size e
      rw [List.mem_singleton.mp z] at this
      exact Nat.lt_irrefl _ this
    rw [Moved.eq_with hm, ln, preSum_eq]
    exact ⟨.int ns.sum, H, I.kept kept, ⟨_, rfl⟩, q⟩
/-- list(d.items()): new pairs -/
def rListItems : List V → Hp → VK → Prop := fun xs H Q => ∃ (p a : Addr) (kvs : List (Key × V)), xs = [.ref p] ∧ H p = some (itemsO p a) ∧ H a = some (.dK kvs) ∧
  ∀ (l : Addr) (ts : List Addr) (H' : Hp), H l = none → Same H H' → H' l = some (.lst (ts.map V.ref)) → Paired (fun (t : Addr) (kv : Key × V) => H' t = some (.tup [kV kv.1, kv.2]) ∧ H t = none) ts kvs → Q (.ref l) H'
theorem key_rel {P : Program} {w : World} {k : Key} {u : Value} (h : (mixKind P w).is k u = true) : RelV (kV k) u := by
  rcases keyIs_shape (show keyIs k u = true from h) with ⟨i, t, rfl, rfl⟩ | ⟨x, t, rfl, rfl⟩
  · exact ⟨t, rfl⟩
  · exact ⟨t, rfl⟩
theorem kv_at : ∀ {ks : List (Key × V)} {vs : List (Key × Value)}, KV ks vs → ∀ {j : Nat} {k : Key} {x : Value}, vs[j]? = some (k, x) → ∃ v, ks[j]? = some (k, v) ∧ RelV v x
  | _, _, .cons (a := a) h t, 0, k, x, e => by
    cases e
    obtain ⟨h1, h2⟩ := h
    have h1' : a.1 = k := h1
    exact ⟨a.2, by rw [← h1']; rfl, h2⟩
  | _, _, .cons h t, j + 1, k, x, e => kv_at t e
theorem pair_rows {R : Addr → Key × V → Prop} : ∀ {ts : List Addr} {kvs : List (Key × V)}, ts.length = kvs.length → (∀ (j : Nat) (t : Addr) (kv : Key × V), ts[j]? = some t → kvs[j]? = some kv → R t kv) → Paired R ts kvs
  | [], [], _, _ => .nil
  | t :: ts, kv :: kvs, hl, h => .cons (h 0 t kv rfl rfl) (pair_rows (Nat.succ.inj hl) fun j a b h1 h2 => h (j + 1) a b h1 h2)
theorem call_listItems (hc : X.calm = true) : CallR X (.type "list") rListItems := by
  intro pins s σ H xs us Q I r h
  obtain ⟨p, a, kvs, rfl, hp, ha, q⟩ := h
  obtain rfl := Vals.ref1 r
  have view : s.heap.IsItemsView p a := (show ObjOk X.prog X.w H s.heap p (itemsO p a) from I.hok p _ hp).1
  obtain ⟨hz, da, va, ka, oa⟩ := dk_of I.hok ha
  obtain ⟨ep, hat⟩ := oa.dictAt
  have lv : kvs.length = va.length := ka.length
  refine PySem.W.kdx_call (I.ok.hd hc) view hat (by rw [← lv]; exact hz) fun h' tk acc c ts kept hS hl hG hacc => ?_
  have nd : ts.Nodup := List.Pairwise.imp (fun h => Nat.ne_of_lt h) hG.rise
  have fr : H s.heap.objs.size = none := I.hok.fresh (Nat.le_refl _)
  have lz : (ts.map V.ref).length ≤ sizeLine := by rw [List.length_map, hl, ← lv]; exact hz
  have I1 : Inv X pins σ (upd H s.heap.objs.size (.lst (ts.map V.ref))) { s with heap := h', toks := tk } :=
    I.laid (t' := tk) kept (Nat.le_refl _) ⟨lz, acc.toList, c, by rw [hacc]; exact vals_refs ts, by rw [Array.toArray_toList]; exact hS⟩
  have made : ∀ (j : Nat) (t : Addr), ts[j]? = some t → ∃ (k : Key) (v : V), kvs[j]? = some (k, v) ∧ ∀ H2, ObjOk X.prog X.w H2 h' t (.tup [kV k, v]) := fun j t ht => by
    obtain ⟨key, k, x, e1, e2, e3⟩ := hG.pairs j t ht
    obtain ⟨v, e4, rv⟩ := kv_at ka e1
    exact ⟨k, v, e4, fun H2 => ⟨(by rw [sizeLine_eq]; show 2 ≤ 16777216; omega), [key, x], .cons (key_rel e2) (.cons rv .nil), ⟨_, e3, rfl, 0, rfl⟩⟩⟩
  obtain ⟨H2, I3, g, qt⟩ := takeT (P := fun t vs => ∃ (j : Nat) (k : Key) (v : V), ts[j]? = some t ∧ kvs[j]? = some (k, v) ∧ vs = [kV k, v]) I ts _ I1 nd fun t ht => by
    obtain ⟨j, hj⟩ := List.mem_iff_getElem?.mp ht
    obtain ⟨k, v, e1, e2⟩ := made j t hj
    have above := hG.above t ht
    exact ⟨Nat.le_of_lt above, by rw [upd_ne (Nat.ne_of_gt above)]; exact I.hok.fresh (Nat.le_of_lt above), [kV k, v], ⟨j, k, v, hj, e1, rfl⟩, e2⟩
  refine ⟨.ref s.heap.objs.size, H2, I3, rfl, q _ ts H2 fr (fun b o e => g b o (by rw [upd_ne (ne_of_none e fr)]; exact e)) (g _ _ upd_same) (pair_rows (by rw [hl, lv]) fun j t kv h1 h2 => ?_)⟩
  obtain ⟨vs, ⟨i, k, v, e1, e2, rfl⟩, e3⟩ := qt t (List.mem_of_getElem? h1)
  have ij : i = j := (List.getElem?_inj (List.getElem?_eq_some_iff.mp e1).1 nd).mp (e1.trans h1.symm)
  rw [ij, h2] at e2
  cases e2
  exact ⟨e3, I.hok.fresh (Nat.le_of_lt (hG.above t (List.mem_of_getElem? h1)))⟩
end
end Ns

/-! NsI: set(xs) of whole numbers, xs a list. -/
namespace Ns
open PySem PySem.Spec PyProof.Rows L2
/-- a set as it is made -/
abbrev setN (w : World) : Obj := { cls := .type "set", dict := none, data := .set #[] 0 (.fresh 0 0 (!w.params.followText "set-order")) }
section
variable {P : Program} {w : World} {A : Around} {E : Value → Shared → Prop} {s : Shared}
set_option maxHeartbeats 3200000 in
theorem set_ofI {l : Addr} {items : Array Value} (ns : List Int) {Q : Value → Shared → Prop} (hh : A.handled = none) (hl : s.heap.IsList l items) (rel : IntsAre items.toList ns) (room : ns.length + 1 < scanBound)
    (q : ∀ (h' : Heap) (tk c : Nat), (∀ b o, s.heap.get? b = some o → h'.get? b = some o) → SetR w h' s.heap.objs.size (fun j => decide (j ∈ ns)) c → c ≤ ns.length → Q (.ref s.heap.objs.size) { s with heap := h', toks := tk }) :
    wpAny (model P w) A (call (.type "set") [.ref l]) Q E s := by
  have sz : items.size = ns.length := by
    have e := IntsAre.length rel
    rw [Array.length_toList] at e
    exact e
  obtain ⟨c, tl, hmro⟩ := F.called_set.mro
  have f1 := F.called_set.made
  have f2 := F.called_set.sub
  have f3 := F.called_set.notType
  have f4 := F.called_set.canCreate
  have f5 := F.typeCall_set_1 (.ref l)
  refine wpAny_call (codeAny_of_tree ?_)
  show wpAny _ _ (callAny (.type "set") _) _ _ _
  refine wpAny_pure ⟨Code.quiet_builtin _ (by decide +kernel), codeAny_builtin F.entry_type_call ?_⟩
  rw [Around.under_plain (weight_type_call_type "set" [.ref l] []) rfl]
  repeat (any_goals (first | assumption | wp_step))
  refine codeAny_mono (code_set_led1 (.ref l) (E := E) (Q₁ := fun obj s₁ => obj = .ref s.heap.objs.size ∧ s₁ = { s with heap := s.heap.push (setN w) }) ⟨rfl, rfl⟩) fun r s₁ hr => ?_
  rcases r with e | fl
  · exact hr
  cases fl with
  | ret obj =>
    obtain ⟨rfl, rfl⟩ := hr
    have at0 : (s.heap.push (setN w)).get? s.heap.objs.size = some (setN w) := Heap.get?_push_size _ rfl
    have ty0 : Shared.TypeIs { s with heap := s.heap.push (setN w) } (.ref s.heap.objs.size) "set" := ⟨_, at0, rfl⟩
    have f6 := F.called_set.init.lookup
    have f7 := F.called_set.init.bind (.ref s.heap.objs.size)
    repeat (any_goals (first | assumption | wp_step))
    refine codeAny_mono (codeAny_call_builtin (R := wants (fun r s₂ => r = .none ∧ ∃ h' tk c, s₂ = { s with heap := h', toks := tk } ∧ (∀ c o, s.heap.get? c = some o → h'.get? c = some o) ∧ SetR w h' s.heap.objs.size (fun j => decide (j ∈ ns)) c ∧ c ≤ ns.length) E)
      F.called_set.init.plain F.entry_set_init (check_set_init_1 ty0 ?_)) fun r₂ s₂ hr₂ => ?_
    · obtain ⟨⟨ocls, odict, odata, oslots⟩, hol, hcl, nl, hdl⟩ := hl
      simp only at hcl hdl
      subst hcl; subst hdl
      have lS : l < s.heap.objs.size := Heap.lt_size hol
      have hol' : (s.heap.push (setN w)).get? l = some { cls := .type "list", dict := odict, data := .seq items nl, slots := oslots } := Heap.get?_push_of_some _ hol
      have g1 := F.sub_list_set
      have g2 := F.sub_list_frozenset
      have g3 : (Value.type "list" == Value.type "dict") = false := by decide
      have isl : (s.heap.push (setN w)).IsList l items := ⟨_, hol', rfl, nl, rfl⟩
      unfold Builtin.«set.__init__» noKeywords Builtin.Frozenset.updateFrom
      generalize keep : pyIter = PI
      wp_walk
      subst keep
      refine wpAny_pyIter_list isl (wpAny_bind (wpAny_runValue ?_))
      have up : (s.heap.push (setN w)).objs.size = s.heap.objs.size + 1 := size_push' _ _
      have nI : l ≠ (s.heap.push (setN w)).objs.size := by rw [up]; exact Nat.ne_of_lt (Nat.lt_succ_of_lt lS)
      have nS : s.heap.objs.size ∉ [(s.heap.push (setN w)).objs.size, l] := fun z => by
        rw [up] at z
        rcases List.mem_cons.mp z with e | e
        · exact Nat.ne_of_lt (Nat.lt_succ_self _) e
        · exact Nat.ne_of_gt lS (List.mem_singleton.mp e)
      have hval : ∀ (i : Nat) (v : Value), items[i]? = some v → ∃ k t, ns[i]? = some k ∧ v = .int k t := fun i v hv => by
        have hi : i < ns.length := by rw [← sz]; exact (Array.getElem?_eq_some_iff.mp hv).1
        obtain ⟨t, e⟩ := IntsAre.int_at rel i v (by rw [Array.getElem?_toList]; exact hv)
        refine ⟨ns[i], t, List.getElem?_eq_getElem hi, ?_⟩
        rw [e, List.getD_eq_getElem?_getD, List.getElem?_eq_getElem hi]
        all_goals rfl
      refine set_update_ints ((Walks.list (by simp [hh]) _ l nI items).toS) s.heap.objs.size nS ns sz room hval items.size 0 _ (Nat.sub_zero _) (Nat.zero_le _) ⟨⟨_, Heap.get?_push_size _ rfl, rfl, rfl⟩, isl.push _⟩
        ⟨0, Nat.le_refl 0, setR_new_at (Heap.get?_push_of_some _ at0)⟩ fun s' c' hm hc hS => ?_
      obtain ⟨h', g', d', tk', os'⟩ := s'
      have e1 : g' = s.gens := hm.gens
      have e2 : d' = s.drawn := hm.drawn
      have e3 : os' = s.os := hm.os
      subst e1
      subst e2
      subst e3
      refine wpAny_pure (wpAny_pure ⟨rfl, h', tk', c', rfl, fun b o e => ?_, hS, by rw [← sz]; exact hc⟩)
      have cl : b < s.heap.objs.size := Heap.lt_size e
      refine hm.heap b o (fun z => ?_) (Heap.get?_push_of_some _ (Heap.get?_push_of_some _ e))
      rcases List.mem_cons.mp z with e | e
      · exact Nat.ne_of_lt cl e
      · rw [List.mem_singleton, up] at e
        exact Nat.ne_of_lt (Nat.lt_succ_of_lt cl) e
    · rcases r₂ with e | fl₂
      · exact hr₂
      cases fl₂ with
      | ret r =>
        obtain ⟨rfl, h', tk, c', rfl, kp, X, m⟩ := hr₂
        repeat (any_goals (first | assumption | wp_step))
        exact q h' tk c' kp X m
      | _ => exact hr₂.elim
  | _ => exact hr.elim
end
section
variable {X : Cx}
/-- set(xs): whole numbers -/
def rSetI (K : PySem.W.Frag) (w : World) : List V → Hp → VK → Prop := fun xs H Q => ∃ (a : Addr) (ns : List Int), xs = [.ref a] ∧ SqL K H a (ns.map V.int) ∧ ns.length ≤ 1000 ∧ ∀ (p : Addr) (c : Nat), c ≤ ns.length → H p = none → Q (.ref p) (upd H p (SetO w p (fun j => decide (j ∈ ns)) c))
theorem vals_ints {ns : List Int} : ∀ {us : List Value}, Vals (ns.map V.int) us → IntsAre us ns := by
  induction ns with
  | nil => intro us r; cases r; exact .nil
  | cons n ns ih => intro us r; cases r with
    | cons h t =>
      obtain ⟨tk, rfl⟩ := h
      exact .cons n tk (ih t)
theorem call_setI (hc : X.calm = true) : CallR X (.type "set") (rSetI X.K X.w) := by
  intro pins s σ H xs us Q I r h
  obtain ⟨a, ns, rfl, hs, hz, q⟩ := h
  obtain ⟨its, rv, hl, _⟩ := I.list hs
  rw [Vals.ref1 r]
  refine set_ofI ns (I.ok.hd hc) hl.isList (by simpa using vals_ints rv) (Nat.lt_of_le_of_lt (show ns.length + 1 ≤ 1001 by omega) (by decide)) fun h' tk c kp R hcl => ?_
  exact ⟨.ref s.heap.objs.size, upd H s.heap.objs.size (SetO X.w s.heap.objs.size (fun j => decide (j ∈ ns)) c), I.laid (t' := tk) kp (Nat.le_refl _) (setO_new R), rfl, q _ c hcl (I.hok.fresh (Nat.le_refl _))⟩
end
end Ns

/-! rows of runs: the numbers alone -/
namespace Y
abbrev Run := Int × Int
/-- the lesser one, as Python's min tells it -/
def mn (i j : Int) : Int := if j < i then j else i
theorem mn_le {i j : Int} (h : i ≤ j) : mn i j = i := by unfold mn; split <;> omega
theorem mn_ge {i j : Int} (h : j ≤ i) : mn i j = j := by unfold mn; split <;> omega
/-- the greater one of 0 and a number -/
def pz (j : Int) : Int := if j > 0 then j else 0
theorem pz_pos {j : Int} (h : 0 ≤ j) : pz j = j := by unfold pz; split <;> omega
theorem pz_neg {j : Int} (h : j ≤ 0) : pz j = 0 := by unfold pz; split <;> omega
/-- the reach, as the program adds it up -/
def rch : List Run → Int → Int
  | [], _ => 0
  | r :: R, h => r.1 * mn r.2 h + rch R (h - mn r.2 h)
/-- the reach, as the law adds it up -/
def lrch : List Run → Int → Int
  | [], _ => 0
  | r :: R, h => r.1 * mn r.2 (pz h) + lrch R (h - r.2)
def stp : List Run → Int → Int
  | [], _ => 0
  | r :: R, h => if h ≤ r.2 then r.1 else stp R (h - r.2)
theorem rch_zero : ∀ {R : List Run}, (∀ r ∈ R, 0 ≤ r.2) → rch R 0 = 0
  | [], _ => rfl
  | r :: R, h => by
    have e : mn r.2 0 = 0 := mn_ge (h r List.mem_cons_self)
    show r.1 * mn r.2 0 + rch R (0 - mn r.2 0) = 0
    rw [e, Int.mul_zero, Int.sub_zero, rch_zero fun q hq => h q (List.mem_cons_of_mem _ hq)]
    rfl
theorem lrch_neg : ∀ {R : List Run} {h : Int}, (∀ r ∈ R, 0 ≤ r.2) → h ≤ 0 → lrch R h = 0
  | [], _, _, _ => rfl
  | r :: R, h, hr, h0 => by
    have h1 := hr r List.mem_cons_self
    show r.1 * mn r.2 (pz h) + lrch R (h - r.2) = 0
    rw [pz_neg h0, mn_ge h1, Int.mul_zero, lrch_neg (fun q hq => hr q (List.mem_cons_of_mem _ hq)) (by omega)]
    rfl
theorem rch_eq : ∀ {R : List Run} {h : Int}, (∀ r ∈ R, 0 ≤ r.2) → 0 ≤ h → lrch R h = rch R h
  | [], _, _, _ => rfl
  | r :: R, h, hr, h0 => by
    have h1 := hr r List.mem_cons_self
    have tl : ∀ q ∈ R, 0 ≤ q.2 := fun q hq => hr q (List.mem_cons_of_mem _ hq)
    show r.1 * mn r.2 (pz h) + lrch R (h - r.2) = r.1 * mn r.2 h + rch R (h - mn r.2 h)
    rw [pz_pos h0]
    by_cases c : h ≤ r.2
    · rw [mn_ge c, Int.sub_self, rch_zero tl, lrch_neg tl (by omega)]
    · rw [mn_le (by omega), rch_eq tl (by omega)]
theorem stp_eq : ∀ {R : List Run} {h : Int}, (∀ r ∈ R, 0 ≤ r.2) → 0 ≤ h → lrch R (h + 1) - lrch R h = stp R (h + 1)
  | [], _, _, _ => rfl
  | r :: R, h, hr, h0 => by
    have h1 := hr r List.mem_cons_self
    have tl : ∀ q ∈ R, 0 ≤ q.2 := fun q hq => hr q (List.mem_cons_of_mem _ hq)
    show r.1 * mn r.2 (pz (h + 1)) + lrch R (h + 1 - r.2) - (r.1 * mn r.2 (pz h) + lrch R (h - r.2)) = if h + 1 ≤ r.2 then r.1 else stp R (h + 1 - r.2)
    rw [pz_pos h0, pz_pos (show 0 ≤ h + 1 by omega)]
    by_cases c : h + 1 ≤ r.2
    · rw [if_pos c, mn_ge c, mn_ge (show h ≤ r.2 by omega), lrch_neg tl (show h + 1 - r.2 ≤ 0 by omega), lrch_neg tl (show h - r.2 ≤ 0 by omega), Int.mul_add, Int.mul_one]
      omega
    · rw [if_neg c, mn_le (show r.2 ≤ h + 1 by omega), mn_le (show r.2 ≤ h by omega)]
      have ih := stp_eq (h := h - r.2) tl (by omega)
      have e1 : h - r.2 + 1 = h + 1 - r.2 := by omega
      rw [e1] at ih
      omega
/-- the whole, the hours, the ends -/
def whl (R : List Run) : Int := (R.map fun r => r.1 * r.2).sum
def hrs (R : List Run) : Int := (R.map (·.2)).sum
def ends : List Run → Int → List Int
  | [], _ => []
  | r :: R, a => (a + r.2) :: ends R (a + r.2)
theorem ends_len : ∀ (R : List Run) (a : Int), (ends R a).length = R.length
  | [], _ => rfl
  | r :: R, a => by
    show (ends R (a + r.2)).length + 1 = R.length + 1
    rw [ends_len]
/-- where the runs so far end -/
theorem hrs_take {R : List Run} {i : Nat} {r : Run} (h : R[i]? = some r) : hrs (R.take (i + 1)) = hrs (R.take i) + r.2 := by
  unfold hrs
  rw [List.take_succ, h]
  simp
theorem ends_take : ∀ {R : List Run} {i : Nat} {r : Run} {a : Int}, R[i]? = some r → ends (R.take (i + 1)) a = ends (R.take i) a ++ [a + hrs (R.take (i + 1))]
  | [], _, _, _, h => by cases h
  | q :: R, 0, r, a, h => by
    show (a + q.2) :: ends (R.take 0) (a + q.2) = [] ++ [a + hrs (q :: R.take 0)]
    rw [List.take_zero]
    simp [ends, hrs]
  | q :: R, i + 1, r, a, h => by
    show (a + q.2) :: ends (R.take (i + 1)) (a + q.2) = ((a + q.2) :: ends (R.take i) (a + q.2)) ++ [a + hrs (q :: R.take (i + 1))]
    rw [ends_take (a := a + q.2) (show R[i]? = some r from h), List.cons_append]
    have e : a + q.2 + hrs (R.take (i + 1)) = a + hrs (q :: R.take (i + 1)) := by
      unfold hrs
      rw [List.map_cons, List.sum_cons]
      omega
    rw [e]
theorem ends_last {R : List Run} {a : Int} (h : R ≠ []) : (ends R a).getLast? = some (a + hrs R) := by
  have pos : 0 < R.length := List.length_pos_iff.mpr h
  obtain ⟨i, hi⟩ : ∃ i, R.length = i + 1 := ⟨R.length - 1, by omega⟩
  obtain ⟨r, hr⟩ : ∃ r, R[i]? = some r := ⟨_, List.getElem?_eq_getElem (by omega)⟩
  have e := ends_take (a := a) hr
  rw [← hi, List.take_length] at e
  rw [e, List.getLast?_append]
  simp
/-- the sums' bounds -/
def Runs (R : List Run) : Prop := R.length ≤ 8 ∧ ∀ r ∈ R, 1 ≤ r.1 ∧ r.1 ≤ 10 ^ 12 ∧ 1 ≤ r.2 ∧ r.2 ≤ 10 ^ 14
theorem Runs.nn {R : List Run} (h : Runs R) : ∀ r ∈ R, 0 ≤ r.2 := fun r hr => by have := (h.2 r hr).2.2.1; omega
theorem Runs.take {R : List Run} (h : Runs R) (i : Nat) : Runs (R.take i) := ⟨by rw [List.length_take]; have := h.1; omega, fun r hr => h.2 r (List.mem_of_mem_take hr)⟩
theorem sum_le {m : Int} (hm : 0 ≤ m) : ∀ {l : List Int}, (∀ i ∈ l, 0 ≤ i ∧ i ≤ m) → 0 ≤ l.sum ∧ l.sum ≤ l.length * m
  | [], _ => by simp
  | i :: l, h => by
    obtain ⟨h1, h2⟩ := sum_le hm (l := l) fun j hj => h j (List.mem_cons_of_mem _ hj)
    obtain ⟨h3, h4⟩ := h i List.mem_cons_self
    rw [List.sum_cons, List.length_cons]
    refine ⟨by omega, ?_⟩
    have e : ((l.length + 1 : Nat) : Int) * m = l.length * m + m := by
      rw [show ((l.length + 1 : Nat) : Int) = (l.length : Int) + 1 by omega, Int.add_mul, Int.one_mul]
    rw [e]
    omega
theorem hrs_bd {R : List Run} (h : Runs R) : 0 ≤ hrs R ∧ hrs R ≤ 8 * 10 ^ 14 := by
  obtain ⟨h1, h2⟩ := sum_le (m := 10 ^ 14) (by decide) (l := R.map (·.2)) fun i hi => by
    obtain ⟨r, hr, rfl⟩ := List.mem_map.mp hi
    obtain ⟨_, _, h3, h4⟩ := h.2 r hr
    omega
  refine ⟨h1, Int.le_trans h2 (Int.mul_le_mul_of_nonneg_right ?_ (by decide))⟩
  rw [List.length_map]
  have := h.1
  omega
theorem mul_bd {a b m n : Int} (h1 : 0 ≤ a) (h2 : a ≤ m) (h3 : 0 ≤ b) (h4 : b ≤ n) (hn : 0 ≤ m) : 0 ≤ a * b ∧ a * b ≤ m * n :=
  ⟨Int.mul_nonneg h1 h3, Int.mul_le_mul h2 h4 h3 hn⟩
theorem whl_bd {R : List Run} (h : Runs R) : 0 ≤ whl R ∧ whl R ≤ 8 * 10 ^ 26 := by
  obtain ⟨h1, h2⟩ := sum_le (m := 10 ^ 26) (by decide) (l := R.map fun r => r.1 * r.2) fun i hi => by
    obtain ⟨r, hr, rfl⟩ := List.mem_map.mp hi
    obtain ⟨h5, h6, h3, h4⟩ := h.2 r hr
    have := mul_bd (m := 10 ^ 12) (n := 10 ^ 14) (show 0 ≤ r.1 by omega) h6 (show 0 ≤ r.2 by omega) h4 (by decide)
    exact ⟨this.1, Int.le_trans this.2 (by decide)⟩
  refine ⟨h1, Int.le_trans h2 (Int.mul_le_mul_of_nonneg_right ?_ (by decide))⟩
  rw [List.length_map]
  have := h.1
  omega
theorem rch_bd : ∀ {R : List Run} {h : Int}, (∀ r ∈ R, 1 ≤ r.1 ∧ r.1 ≤ 10 ^ 12 ∧ 1 ≤ r.2 ∧ r.2 ≤ 10 ^ 14) → 0 ≤ h → 0 ≤ rch R h ∧ rch R h ≤ R.length * 10 ^ 26
  | [], _, _, _ => by simp [rch]
  | r :: R, h, hr, h0 => by
    obtain ⟨h5, h6, h3, h4⟩ := hr r List.mem_cons_self
    have m1 : 0 ≤ mn r.2 h ∧ mn r.2 h ≤ 10 ^ 14 ∧ mn r.2 h ≤ h := by unfold mn; split <;> omega
    have b := mul_bd (m := 10 ^ 12) (n := 10 ^ 14) (show 0 ≤ r.1 by omega) h6 m1.1 m1.2.1 (by decide)
    obtain ⟨i1, i2⟩ := rch_bd (R := R) (h := h - mn r.2 h) (fun q hq => hr q (List.mem_cons_of_mem _ hq)) (by omega)
    show 0 ≤ r.1 * mn r.2 h + rch R (h - mn r.2 h) ∧ r.1 * mn r.2 h + rch R (h - mn r.2 h) ≤ _
    rw [List.length_cons]
    have e : ((R.length + 1 : Nat) : Int) * 10 ^ 26 = R.length * 10 ^ 26 + 10 ^ 26 := by omega
    omega
theorem stp_bd : ∀ {R : List Run} {h : Int}, (∀ r ∈ R, 1 ≤ r.1 ∧ r.1 ≤ 10 ^ 12 ∧ 1 ≤ r.2 ∧ r.2 ≤ 10 ^ 14) → 0 ≤ stp R h ∧ stp R h ≤ 10 ^ 12
  | [], _, _ => by simp [stp]
  | r :: R, h, hr => by
    have := hr r List.mem_cons_self
    have ih := stp_bd (R := R) (h := h - r.2) fun q hq => hr q (List.mem_cons_of_mem _ hq)
    unfold stp
    split <;> omega
/-- the steps laid out -/
def lay (R : List Run) : List Int := R.flatMap fun r => List.replicate r.2.toNat r.1
theorem lay_len {R : List Run} (h : ∀ r ∈ R, 0 ≤ r.2) : ((lay R).length : Int) = hrs R := by
  induction R with
  | nil => rfl
  | cons r R ih =>
    have h1 := h r List.mem_cons_self
    have := ih fun q hq => h q (List.mem_cons_of_mem _ hq)
    unfold lay hrs at this ⊢
    rw [List.flatMap_cons, List.length_append, List.length_replicate, List.map_cons, List.sum_cons]
    omega
theorem lay_sum : ∀ {R : List Run} {n : Nat}, (∀ r ∈ R, 0 ≤ r.2) → ((lay R).take n).sum = rch R n
  | [], n, _ => by simp [lay, rch]
  | r :: R, n, h => by
    have h1 := h r List.mem_cons_self
    have tl : ∀ q ∈ R, 0 ≤ q.2 := fun q hq => h q (List.mem_cons_of_mem _ hq)
    have e : lay (r :: R) = List.replicate r.2.toNat r.1 ++ lay R := by unfold lay; rw [List.flatMap_cons]
    show _ = r.1 * mn r.2 n + rch R (n - mn r.2 n)
    rw [e, List.take_append, List.sum_append, List.take_replicate, List.length_replicate, lay_sum (n := n - r.2.toNat) tl]
    have sr : ∀ (k : Nat) (x : Int), (List.replicate k x).sum = x * k := fun k x => by
      induction k with
      | zero => simp
      | succ k ih =>
        rw [List.replicate_succ, List.sum_cons, ih, show ((k + 1 : Nat) : Int) = (k : Int) + 1 by omega, Int.mul_add, Int.mul_one]
        omega
    rw [sr]
    by_cases c : (n : Int) ≤ r.2
    · rw [mn_ge c, Int.sub_self, rch_zero tl]
      have e1 : n - r.2.toNat = 0 := by omega
      have e2 : min n r.2.toNat = n := by omega
      rw [e1, e2]
      rw [show ((0 : Nat) : Int) = 0 from rfl, rch_zero tl]
    · rw [mn_le (by omega)]
      have e2 : min n r.2.toNat = r.2.toNat := by omega
      rw [e2, show ((n - r.2.toNat : Nat) : Int) = (n : Int) - r.2 by omega, show ((r.2.toNat : Nat) : Int) = r.2 by omega]
theorem lay_at : ∀ {R : List Run} {n : Nat}, (∀ r ∈ R, 0 ≤ r.2) → ((lay R)[n]?).getD 0 = stp R ((n : Int) + 1)
  | [], n, _ => by simp [lay, stp]
  | r :: R, n, h => by
    have h1 := h r List.mem_cons_self
    have tl : ∀ q ∈ R, 0 ≤ q.2 := fun q hq => h q (List.mem_cons_of_mem _ hq)
    have e : lay (r :: R) = List.replicate r.2.toNat r.1 ++ lay R := by unfold lay; rw [List.flatMap_cons]
    show _ = if (n : Int) + 1 ≤ r.2 then r.1 else stp R ((n : Int) + 1 - r.2)
    rw [e]
    by_cases c : (n : Int) + 1 ≤ r.2
    · rw [if_pos c, List.getElem?_append_left (by rw [List.length_replicate]; omega), List.getElem?_replicate, if_pos (by omega)]
      rfl
    · rw [if_neg c, List.getElem?_append_right (by rw [List.length_replicate]; omega), List.length_replicate, lay_at (n := n - r.2.toNat) tl]
      have e2 : ((n - r.2.toNat : Nat) : Int) + 1 = (n : Int) + 1 - r.2 := by omega
      rw [e2]
/-- the law's own laying out -/
def laid (R : List Run) : List Int := R.flatMap fun r => List.replicate (mn r.2 200).toNat r.1
theorem laid_eq {R : List Run} (h : ∀ r ∈ R, 0 ≤ r.2) (hs : hrs R ≤ 200) : laid R = lay R := by
  induction R with
  | nil => rfl
  | cons r R ih =>
    have h1 := h r List.mem_cons_self
    have tl : ∀ q ∈ R, 0 ≤ q.2 := fun q hq => h q (List.mem_cons_of_mem _ hq)
    have p : 0 ≤ hrs R := by rw [← lay_len tl]; omega
    have e : hrs (r :: R) = r.2 + hrs R := by unfold hrs; rw [List.map_cons, List.sum_cons]
    have := ih tl (by omega)
    unfold laid lay at this ⊢
    rw [List.flatMap_cons, List.flatMap_cons, this, mn_le (show r.2 ≤ 200 by omega)]
theorem laid_len {R : List Run} (h : R.length ≤ 4) : (laid R).length ≤ 800 := by
  have : ∀ R : List Run, (laid R).length ≤ R.length * 200 := fun R => by
    induction R with
    | nil => simp [laid]
    | cons r R ih =>
      unfold laid at ih ⊢
      rw [List.flatMap_cons, List.length_append, List.length_replicate, List.length_cons]
      have : (mn r.2 200).toNat ≤ 200 := by unfold mn; split <;> omega
      omega
  have := this R
  omega
end Y

/-! rows of runs as values; what the program and the law read of them -/
namespace Y
open PySem PySem.Spec PyProof.Rows L2 Ns
open C8 (pss_cut)
theorem s3u {H : Hp} {a q : Addr} {o u : HO} (hq : H q = none) (h : H a = some u) : upd H q o a = some u := by rw [upd_ne (ne_of_none h hq)]; exact h
theorem sqt_more {K : PySem.W.Frag} {H H' : Hp} (m : Same H H') {a : Addr} {xs : List V} (h : SqT K H a xs) : SqT K H' a xs := h.elim (fun z => .inl (z.elim (fun z => .inl (m _ _ z)) fun ⟨o, z⟩ => .inr ⟨o, m _ _ z⟩)) .inr
theorem paired_imp {α β : Type} {R S : α → β → Prop} (k : ∀ a b, R a b → S a b) : ∀ {as : List α} {bs : List β}, Paired R as bs → Paired S as bs
  | _, _, .nil => .nil
  | _, _, .cons h t => .cons (k _ _ h) (paired_imp k t)
theorem paired_snoc {α β : Type} {R : α → β → Prop} {a : α} {b : β} (h : R a b) : ∀ {as : List α} {bs : List β}, Paired R as bs → Paired R (as ++ [a]) (bs ++ [b])
  | _, _, .nil => .cons h .nil
  | _, _, .cons x t => .cons x (paired_snoc h t)
theorem paired_len {α β : Type} {R : α → β → Prop} : ∀ {as : List α} {bs : List β}, Paired R as bs → as.length = bs.length
  | _, _, .nil => rfl
  | _, _, .cons _ t => congrArg (· + 1) (paired_len t)
theorem paired_at {α β : Type} {R : α → β → Prop} : ∀ {as : List α} {bs : List β}, Paired R as bs → ∀ {i : Nat} {a : α}, as[i]? = some a → ∃ b, bs[i]? = some b ∧ R a b
  | _, _, .cons h _, 0, _, e => by cases e; exact ⟨_, rfl, h⟩
  | _, _, .cons _ t, i + 1, _, e => paired_at t e
/-- a tuple of two whole numbers -/
def RunV (K : PySem.W.Frag) (H : Hp) (x : V) (r : Run) : Prop := ∃ a, x = .ref a ∧ SqT K H a [.int r.1, .int r.2]
/-- a tuple of such -/
def RowV (K : PySem.W.Frag) (H : Hp) (v : V) (R : List Run) : Prop := ∃ t xs, v = .ref t ∧ SqT K H t xs ∧ Paired (RunV K H) xs R
theorem RowV.more {K : PySem.W.Frag} {H H' : Hp} {v : V} {R : List Run} (h : RowV K H v R) (m : Same H H') : RowV K H' v R := by
  obtain ⟨t, xs, e, h1, h2⟩ := h
  exact ⟨t, xs, e, sqt_more m h1, paired_imp (fun x r ⟨a, e1, q⟩ => ⟨a, e1, sqt_more m q⟩) h2⟩
theorem int_row {l : List Int} {x : Int} : (l.map V.int ++ [V.int x]) = (l ++ [x]).map V.int := by rw [List.map_append]; rfl
theorem cut_upto (xs : List V) (k : Nat) : cutV xs none (some (k : Int)) = xs.take k := by
  unfold cutV
  rw [HT.sIx_nat, HT.sIx_none, List.drop_zero, Nat.sub_zero]
  rw [List.take_eq_take_iff]
  omega
/-- a list of whole numbers of a sort -/
def IntL (K : PySem.W.Frag) (H : Hp) (v : V) (p : Int → Prop) : Prop := ∃ a ns, v = .ref a ∧ SqL K H a (ns.map V.int) ∧ ns ≠ [] ∧ ns.length ≤ 1000 ∧ ∀ n ∈ ns, p n
theorem IntL.more {K : PySem.W.Frag} {H H' : Hp} {v : V} {p : Int → Prop} (h : IntL K H v p) (m : Same H H') : IntL K H' v p := by
  obtain ⟨a, ns, e, h1, r⟩ := h
  exact ⟨a, ns, e, m.seq h1, r⟩
theorem rg_ints (a b : Int) : rgV a b = ((List.range (b - a).toNat).map fun i => a + ((i : Nat) : Int)).map V.int := by
  unfold rgV
  rw [List.map_map]
  rfl
theorem drop_at {α : Type} {l : List α} {i : Nat} {x : α} (h : l[i]? = some x) : l.drop i = x :: l.drop (i + 1) := by
  obtain ⟨hi, e⟩ := List.getElem?_eq_some_iff.mp h
  rw [List.drop_eq_getElem_cons hi, e]
/-- a number of a row and a number -/
def spRI (K : PySem.W.Frag) (f : List Run → Int → Int) : Sp := fun as H Q _ => ∃ (y : V) (h : Int) (R : List Run), as = [y, .int h] ∧ RowV K H y R ∧ (∀ r ∈ R, -(2 ^ 64) < r.1 ∧ r.1 < 2 ^ 64) ∧ Q (.int (f R h)) H
/-- a number of a row -/
def spR1 (K : PySem.W.Frag) (f : List Run → Int) : Sp := fun as H Q _ => ∃ (y : V) (R : List Run), as = [y] ∧ RowV K H y R ∧ (∀ r ∈ R, -(2 ^ 64) < r.1 ∧ r.1 < 2 ^ 64) ∧ R.length ≤ 1000 ∧ ∀ H', Same H H' → Q (.int (f R)) H'
/-- the ends: a new tuple -/
def spEnds (K : PySem.W.Frag) : Sp := fun as H Q _ => ∃ (y : V) (R : List Run), as = [y] ∧ RowV K H y R ∧ R.length ≤ 1000 ∧ ∀ (p : Addr) (H' : Hp), H' p = some (.tup ((ends R 0).map V.int)) → H p = none → Same H H' → Q (.ref p) H'
/-- the steps laid out: a new list -/
def spLaid (K : PySem.W.Frag) : Sp := fun as H Q _ => ∃ (y : V) (R : List Run), as = [y] ∧ RowV K H y R ∧ Runs R ∧ ∀ (p : Addr) (H' : Hp), H' p = some (.lst (((laid R).take 200).map V.int)) → H p = none → Same H H' → Q (.ref p) H'
section
variable {P : Program} {w : World} {K : PySem.W.Frag} {mg : Str → Option Value} {base : Heap}
theorem scRI : FnScope ["stairs", "h", "total", "step", "times", "hours"] ["stairs", "h"] (defScope sReachIn) := ⟨rfl, rfl, rfl, by decide +kernel, rfl, by decide +kernel, by decide +kernel⟩
theorem ok_reachIn {f : Addr} {fd : FuncData} (F : Fun K "reach_in" "reach_in" sReachIn f fd) (T : Nat0 mg) : FnOk P w K mg base CX0 1 f fd ["stairs", "h"] (spRI K rch) := by
  refine F.ok scRI (fun as H Q E h => ?_) (fun cdv A outer s H as Q E hr h => ?_)
  · obtain ⟨y, h, R, rfl, _⟩ := h
    rfl
  · obtain ⟨y, h, R, rfl, hV, hb, k⟩ := h
    refine ⟨_, pss_cons (ps_set (i := 2) scRI.nd rfl (.inl rfl) pe_int)
      (pss_cons (ps_for PassesOwn.never rfl (pi_tup (pv 0)) (pg_tup rfl (pgs_cons (pg_name (i := 3) scRI.nd rfl (.inl rfl)) (pgs_cons (pg_name (i := 4) scRI.nd rfl (.inl rfl)) pgs_nil)))
        (pss_cons (ps_set (i := 5) scRI.nd rfl (.inl rfl) (pe_callB (call_min2 rfl) (by rfl) T.min (by decide +kernel) (pa_cons (pv 4) (pa_cons (pv 1) pa_nil))))
        (pss_cons (ps_aug (i := 2) scRI.nd rfl (.inl rfl) (pe_op op_mul (pv 3) (pv 5)) ip_add)
        (pss_one (ps_aug (i := 1) scRI.nd rfl (.inl rfl) (pv 5) ip_sub)))))
      (pss_one (ps_ret (pv 2)))), ?_⟩
    obtain ⟨t, xs, rfl, h1, h2⟩ := hV
    have lx := paired_len h2
    refine ⟨_, rfl, t, rfl, ⟨_, h1⟩, ?_⟩
    refine for_tup (K := K) (a := t) (xs := xs) (fun i σ H' => ∃ (h' a : Int) (v3 v4 v5 : Option V), σ = [some (.ref t), some (.int h'), some (.int a), v3, v4, v5] ∧ H' = H ∧ a + rch (R.drop i) h' = rch R h) ?_ ?_ ?_ ?_
    · exact ⟨h, 0, none, none, none, rfl, rfl, by rw [List.drop_zero]; omega⟩
    · rintro i σ H' _ ⟨_, _, _, _, _, _, rfl, _⟩
      exact h1
    · rintro i z σ H' hz ⟨h', a, v3, v4, v5, rfl, rfl, e⟩
      obtain ⟨r, hr, q, rfl, hq⟩ := paired_at h2 hz
      refine ⟨q, _, rfl, hq, rfl, _, _, rfl, _, _, rfl, rfl, ?_⟩
      refine ⟨_, rfl, _, rfl, r.2, h', rfl, _, rfl, _, rfl, _, rfl, r.1, mn r.2 h', rfl, rfl, .inl (hb r (List.mem_of_getElem? hr)), a, _, rfl, rfl, ?_⟩
      refine ⟨_, rfl, _, rfl, h', mn r.2 h', rfl, rfl, _, _, _, _, _, rfl, rfl, ?_⟩
      rw [drop_at hr] at e
      have e' : a + (r.1 * mn r.2 h' + rch (R.drop (i + 1)) (h' - mn r.2 h')) = rch R h := e
      show a + r.1 * mn r.2 h' + rch (R.drop (i + 1)) (h' - mn r.2 h') = rch R h
      omega
    · rintro σ H' ⟨h', a, v3, v4, v5, rfl, rfl, e⟩
      rw [lx, List.drop_length] at e
      have e' : a + 0 = rch R h := e
      refine ⟨_, rfl, ?_⟩
      rw [show a = rch R h by omega]
      exact k
theorem scLR : FnScope ["row", "hours", "total", "step", "many"] ["row", "hours"] (defScope sRowReach) := ⟨rfl, rfl, rfl, by decide +kernel, rfl, by decide +kernel, by decide +kernel⟩
theorem ok_rowReach {f : Addr} {fd : FuncData} (F : Fun K "_law_row_reach" "_law_row_reach" sRowReach f fd) (T : Nat0 mg) : FnOk P w K mg base CX0 1 f fd ["row", "hours"] (spRI K lrch) := by
  refine F.ok scLR (fun as H Q E h => ?_) (fun cdv A outer s H as Q E hr h => ?_)
  · obtain ⟨y, h, R, rfl, _⟩ := h
    rfl
  · obtain ⟨y, h, R, rfl, hV, hb, k⟩ := h
    refine ⟨_, pss_cons (ps_set (i := 2) scLR.nd rfl (.inl rfl) pe_int)
      (pss_cons (ps_for PassesOwn.never rfl (pi_tup (pv 0)) (pg_tup rfl (pgs_cons (pg_name (i := 3) scLR.nd rfl (.inl rfl)) (pgs_cons (pg_name (i := 4) scLR.nd rfl (.inl rfl)) pgs_nil)))
        (pss_cons (ps_aug (i := 2) scLR.nd rfl (.inl rfl) (pe_op op_mul (pv 3) (pe_callB (call_min2 rfl) (by rfl) T.min (by decide +kernel) (pa_cons (pv 4) (pa_cons (pe_callB (call_max2 rfl) (by rfl) T.max (by decide +kernel) (pa_cons pe_int (pa_cons (pv 1) pa_nil))) pa_nil)))) ip_add)
        (pss_one (ps_aug (i := 1) scLR.nd rfl (.inl rfl) (pv 4) ip_sub))))
      (pss_one (ps_ret (pv 2)))), ?_⟩
    obtain ⟨t, xs, rfl, h1, h2⟩ := hV
    have lx := paired_len h2
    refine ⟨_, rfl, t, rfl, ⟨_, h1⟩, ?_⟩
    refine for_tup (K := K) (a := t) (xs := xs) (fun i σ H' => ∃ (h' a : Int) (v3 v4 : Option V), σ = [some (.ref t), some (.int h'), some (.int a), v3, v4] ∧ H' = H ∧ a + lrch (R.drop i) h' = lrch R h) ?_ ?_ ?_ ?_
    · exact ⟨h, 0, none, none, rfl, rfl, by rw [List.drop_zero]; omega⟩
    · rintro i σ H' _ ⟨_, _, _, _, _, rfl, _⟩
      exact h1
    · rintro i z σ H' hz ⟨h', a, v3, v4, rfl, rfl, e⟩
      obtain ⟨r, hr, q, rfl, hq⟩ := paired_at h2 hz
      refine ⟨q, _, rfl, hq, rfl, _, _, rfl, _, _, rfl, rfl, ?_⟩
      refine ⟨_, rfl, _, rfl, _, rfl, _, rfl, 0, h', rfl, r.2, pz h', rfl, r.1, mn r.2 (pz h'), rfl, rfl, .inl (hb r (List.mem_of_getElem? hr)), a, _, rfl, rfl, ?_⟩
      refine ⟨_, rfl, _, rfl, h', r.2, rfl, rfl, _, _, _, _, rfl, rfl, ?_⟩
      rw [drop_at hr] at e
      have e' : a + (r.1 * mn r.2 (pz h') + lrch (R.drop (i + 1)) (h' - r.2)) = lrch R h := e
      show a + r.1 * mn r.2 (pz h') + lrch (R.drop (i + 1)) (h' - r.2) = lrch R h
      omega
    · rintro σ H' ⟨h', a, v3, v4, rfl, rfl, e⟩
      rw [lx, List.drop_length] at e
      have e' : a + 0 = lrch R h := e
      refine ⟨_, rfl, ?_⟩
      rw [show a = lrch R h by omega]
      exact k
theorem scSI : FnScope ["stairs", "h", "step", "times"] ["stairs", "h"] (defScope sStepIn) := ⟨rfl, rfl, rfl, by decide +kernel, rfl, by decide +kernel, by decide +kernel⟩
theorem ok_stepIn {f : Addr} {fd : FuncData} (F : Fun K "step_in" "step_in" sStepIn f fd) : FnOk P w K mg base CX0 1 f fd ["stairs", "h"] (spRI K stp) := by
  refine F.ok scSI (fun as H Q E h => ?_) (fun cdv A outer s H as Q E hr h => ?_)
  · obtain ⟨y, h, R, rfl, _⟩ := h
    rfl
  · obtain ⟨y, h, R, rfl, hV, hb, k⟩ := h
    refine ⟨_, pss_cons (ps_for PassesOwn.never rfl (pi_tup (pv 0)) (pg_tup rfl (pgs_cons (pg_name (i := 2) scSI.nd rfl (.inl rfl)) (pgs_cons (pg_name (i := 3) scSI.nd rfl (.inl rfl)) pgs_nil)))
        (pss_cons (ps_if (pt_cmpR op_le (pv 1) (pv 3) (nomark _)) (pss_one (ps_ret (pv 2))) pss_nil)
        (pss_one (ps_aug (i := 1) scSI.nd rfl (.inl rfl) (pv 3) ip_sub))))
      (pss_one (ps_ret pe_int)), ?_⟩
    obtain ⟨t, xs, rfl, h1, h2⟩ := hV
    have lx := paired_len h2
    refine ⟨_, rfl, t, rfl, ⟨_, h1⟩, ?_⟩
    refine for_tup (K := K) (a := t) (xs := xs) (fun i σ H' => ∃ (h' : Int) (v2 v3 : Option V), σ = [some (.ref t), some (.int h'), v2, v3] ∧ H' = H ∧ stp (R.drop i) h' = stp R h) ?_ ?_ ?_ ?_
    · exact ⟨h, none, none, rfl, rfl, by rw [List.drop_zero]⟩
    · rintro i σ H' _ ⟨_, _, _, _, rfl, _⟩
      exact h1
    · rintro i z σ H' hz ⟨h', v2, v3, rfl, rfl, e⟩
      obtain ⟨r, hr, q, rfl, hq⟩ := paired_at h2 hz
      refine ⟨q, _, rfl, hq, rfl, _, _, rfl, _, _, rfl, rfl, ?_⟩
      rw [drop_at hr] at e
      have e' : (if h' ≤ r.2 then r.1 else stp (R.drop (i + 1)) (h' - r.2)) = stp R h := e
      refine ⟨_, rfl, _, rfl, _, _, rfl, rfl, _, rfl, ?_⟩
      refine ite2 (fun c => ?_) (fun c => ?_)
      · have c' : h' ≤ r.2 := by simpa using c
        rw [if_pos c'] at e'
        refine ⟨_, rfl, ?_⟩
        rw [e']
        exact k
      · have c' : ¬ h' ≤ r.2 := by simpa using c
        rw [if_neg c'] at e'
        exact ⟨_, rfl, _, rfl, h', r.2, rfl, rfl, _, _, _, rfl, rfl, e'⟩
    · rintro σ H' ⟨h', v2, v3, rfl, rfl, e⟩
      rw [lx, List.drop_length] at e
      have e' : 0 = stp R h := e
      rw [← e'] at k
      exact k
theorem scWO : FnScope ["stairs", "step", "times"] ["stairs"] (defScope sWholeOf) := ⟨rfl, rfl, rfl, by decide +kernel, rfl, by decide +kernel, by decide +kernel⟩
theorem ok_wholeOf {f : Addr} {fd : FuncData} (F : Fun K "whole_of" "whole_of" sWholeOf f fd) (T : Nat0 mg) : FnOk P w K mg base CX0 1 f fd ["stairs"] (spR1 K whl) := by
  refine F.ok scWO (fun as H Q E h => ?_) (fun cdv A outer s H as Q E hr h => ?_)
  · obtain ⟨y, R, rfl, _⟩ := h
    rfl
  · obtain ⟨y, R, rfl, hV, hb, hl, k⟩ := h
    refine ⟨_, pss_one (ps_ret (pe_callB (cr_sum rfl) (by rfl) T.sum (by decide +kernel) (pa_cons (pe_lc (own := [("step", 1), ("times", 2)]) (g := gTup K 2 (gCons (gName 1) (gCons (gName 2) gNil))) (tt := tYes) rfl scWO.nd (pi_tup (pv 0))
      (blkOk_by (N := ["stairs", "step", "times"]) (sc := defScope sWholeOf) (by decide +kernel)) (fun _ _ _ _ _ => pg_tup rfl (pgs_cons (pg_name (i := 1) scWO.nd rfl (Or.inl rfl)) (pgs_cons (pg_name (i := 2) scWO.nd rfl (Or.inl rfl)) pgs_nil)))
      (fun _ _ _ _ _ => pts_nil) (fun _ _ _ _ _ => pe_op op_mul (pv 1) (pv 2))) pa_nil))), ?_⟩
    obtain ⟨t, xs, rfl, h1, h2⟩ := hV
    have lx := paired_len h2
    refine ⟨_, rfl, t, rfl, ⟨_, h1⟩, fun D hD => ?_⟩
    refine lc_tup (K := K) (a := t) (xs := xs) (fun i H' => H' D = some (.lst (((R.take i).map fun r => r.1 * r.2).map V.int)) ∧ Same H H') ?_ ?_ ?_ ?_
    · exact ⟨by rw [List.take_zero, upd_same]; rfl, fun c u e => by rw [upd_ne (ne_of_none e hD)]; exact e⟩
    · rintro i H' _ ⟨_, m⟩
      exact sqt_more m h1
    · rintro i z H' hz ⟨q1, q2⟩
      obtain ⟨r, hr, q, rfl, hq⟩ := paired_at h2 hz
      refine ⟨q, _, rfl, sqt_more q2 hq, rfl, _, _, rfl, _, _, rfl, rfl, ?_⟩
      refine ⟨rfl, _, rfl, _, rfl, r.1, r.2, rfl, rfl, .inl (hb r (List.mem_of_getElem? hr)), _, q1, ?_, ?_, same_put q2 hD⟩
      · rw [List.length_map, List.length_map, List.length_take]
        exact small1000 (by omega)
      · rw [upd_same, List.take_succ, hr]
        simp
    · rintro H' ⟨q1, q2⟩
      rw [lx, List.take_length] at q1
      exact ⟨D, _, rfl, SqL.of q1, k H' q2⟩
theorem scHO : FnScope ["stairs", "step", "times"] ["stairs"] (defScope sHoursOf) := ⟨rfl, rfl, rfl, by decide +kernel, rfl, by decide +kernel, by decide +kernel⟩
theorem ok_hoursOf {f : Addr} {fd : FuncData} (F : Fun K "hours_of" "hours_of" sHoursOf f fd) (T : Nat0 mg) : FnOk P w K mg base CX0 1 f fd ["stairs"] (spR1 K hrs) := by
  refine F.ok scHO (fun as H Q E h => ?_) (fun cdv A outer s H as Q E hr h => ?_)
  · obtain ⟨y, R, rfl, _⟩ := h
    rfl
  · obtain ⟨y, R, rfl, hV, hb, hl, k⟩ := h
    refine ⟨_, pss_one (ps_ret (pe_callB (cr_sum rfl) (by rfl) T.sum (by decide +kernel) (pa_cons (pe_lc (own := [("step", 1), ("times", 2)]) (g := gTup K 2 (gCons (gName 1) (gCons (gName 2) gNil))) (tt := tYes) rfl scHO.nd (pi_tup (pv 0))
      (blkOk_by (N := ["stairs", "step", "times"]) (sc := defScope sHoursOf) (by decide +kernel)) (fun _ _ _ _ _ => pg_tup rfl (pgs_cons (pg_name (i := 1) scHO.nd rfl (Or.inl rfl)) (pgs_cons (pg_name (i := 2) scHO.nd rfl (Or.inl rfl)) pgs_nil)))
      (fun _ _ _ _ _ => pts_nil) (fun _ _ _ _ _ => pv 2)) pa_nil))), ?_⟩
    obtain ⟨t, xs, rfl, h1, h2⟩ := hV
    have lx := paired_len h2
    refine ⟨_, rfl, t, rfl, ⟨_, h1⟩, fun D hD => ?_⟩
    refine lc_tup (K := K) (a := t) (xs := xs) (fun i H' => H' D = some (.lst (((R.take i).map (·.2)).map V.int)) ∧ Same H H') ?_ ?_ ?_ ?_
    · exact ⟨by rw [List.take_zero, upd_same]; rfl, fun c u e => by rw [upd_ne (ne_of_none e hD)]; exact e⟩
    · rintro i H' _ ⟨_, m⟩
      exact sqt_more m h1
    · rintro i z H' hz ⟨q1, q2⟩
      obtain ⟨r, hr, q, rfl, hq⟩ := paired_at h2 hz
      refine ⟨q, _, rfl, sqt_more q2 hq, rfl, _, _, rfl, _, _, rfl, rfl, ?_⟩
      refine ⟨rfl, _, rfl, _, q1, ?_, ?_, same_put q2 hD⟩
      · rw [List.length_map, List.length_map, List.length_take]
        exact small1000 (by omega)
      · rw [upd_same, List.take_succ, hr]
        simp
    · rintro H' ⟨q1, q2⟩
      rw [lx, List.take_length] at q1
      exact ⟨D, _, rfl, SqL.of q1, k H' q2⟩
theorem laid_take {R : List Run} {i : Nat} {r : Run} (h : R[i]? = some r) : laid (R.take (i + 1)) = laid (R.take i) ++ List.replicate (mn r.2 200).toNat r.1 := by
  unfold laid
  rw [List.take_succ, h, List.flatMap_append]
  simp
theorem rep_one (x : V) : ∀ n : Nat, (List.replicate n [x]).flatten = List.replicate n x
  | 0 => rfl
  | n + 1 => by rw [List.replicate_succ, List.replicate_succ, List.flatten_cons, rep_one x n]; rfl
end
end Y

namespace Y
open PySem PySem.Spec PyProof.Rows L2 Ns
open C8 (pss_cut)
theorem paired_ref {β : Type} {R : V → β → Prop} {S : Addr → β → Prop} (k : ∀ t r, S t r → R (.ref t) r) : ∀ {ts : List Addr} {bs : List β}, Paired S ts bs → Paired R (ts.map V.ref) bs
  | _, _, .nil => .nil
  | _, _, .cons h t => .cons (k _ _ h) (paired_ref k t)
/-- a row, drawn -/
def spRow (K : PySem.W.Frag) : Sp := fun as H Q _ => ∃ b : Addr, as = [.ref b] ∧ Bag H b ∧ ∀ (t : Addr) (R : List Run) (H' : Hp), Runs R → R.Pairwise (fun x y => y.1 < x.1) → RowV K (wo H' b) (.ref t) R → Bag H' b → Sb b H H' → Q (.ref t) H'
section
variable {P : Program} {w : World} {K : PySem.W.Frag} {mg : Str → Option Value} {base : Heap}
end
end Y

/-! NsJ: sorted(t) of a tuple of ints. -/
namespace Ns
open PySem PySem.Spec PyProof.Rows L2
section
variable {prog : Program} {w : World} {A : Around} {E : Value → Shared → Prop} {s : Shared}
/-- the heap behind the gathering of a tuple's items -/
abbrev gath (h : Heap) (vs : List Value) : Heap := (h.push (seqObj "list" #[] 0)).update h.objs.size (Obj.mapSeq (· ++ vs.toArray))
theorem gather_tup {l : Addr} {vs : List Value} {Q : List Value → Shared → Prop} (hl : IsTup s.heap l vs.toArray) (hz : vs.length ≤ sizeLine) (h : Q vs { s with heap := gath s.heap vs }) : wpAny (model prog w) A (collect (.ref l)) Q E s := by
  obtain ⟨o, e, cl, n, d⟩ := hl
  have e1 : (s.heap.push (seqObj "list" #[] 0)).get? l = some o := Heap.get?_push_of_some _ e
  have e2 : (s.heap.push (seqObj "list" #[] 0)).get? s.heap.objs.size = some (seqObj "list" #[] 0) := Heap.get?_push_size _ rfl
  have t0 : (Value.type "tuple" == Value.type "tuple") = true := rfl
  unfold collect
  refine wpAny_bind (wpAny_runValue (codeAny_builtin entry_proto_collect' ?_)); show wpAny _ _ (do again (.builtin "list.__iadd__" ⟨[← newList [], .ref l], []⟩)) _ _ s
  refine wpAny_bind (wpAny_newList (wpAny_pure ⟨Code.quiet_builtin _ (by decide +kernel), codeAny_builtin entry_list_iadd' ?_⟩)); show wpAny _ _ (Builtin.List.listExtendWith (.ref s.heap.objs.size) (.ref l) (.ref s.heap.objs.size)) _ _ { s with heap := s.heap.push (seqObj "list" #[] 0) }
  unfold Builtin.List.listExtendWith
  refine wpAny_bind (wpAny_typeOf (T := "tuple") ⟨o, e1, cl⟩ ?_)
  rw [if_pos (by rw [t0, Bool.or_true])]
  refine wpAny_bind (listItems_at e1 d (wpAny_bind (listItems_at (xs := #[]) (n := 0) e2 rfl ?_)))
  rw [if_neg (by simp)]
  refine wpAny_bind (listUpdate_at (xs := #[]) (n := 0) e2 rfl (wpAny_pure ?_) (Nat.zero_le _) (by rw [Array.empty_append, List.size_toArray]; omega))
  show wpAny (model prog w) A (do let q ← load s.heap.objs.size; match q.data with | .seq xs _ => pure xs.toList | _ => unsupported "internal:collect") Q E { s with heap := gath s.heap vs }
  refine wpAny_bind (wpAny_load (get?_update_seq e2 _) ?_)
  show wpAny _ _ (pure ((#[] : Array Value) ++ vs.toArray).toList) Q E _
  have ev : ((#[] : Array Value) ++ vs.toArray).toList = vs := by simp
  rw [ev]
  exact wpAny_pure h
theorem sorted_tupI {l : Addr} {vs : List Value} {ns : List Int} {Q : Value → Shared → Prop} (hl : IsTup s.heap l vs.toArray) (hi : IntsAre vs ns) (hz : vs.length ≤ sizeLine)
    (h : ∀ out : List Value, SrtO.Srtd SrtO.ltIv out → SrtO.Stb SrtO.ltIv out vs → Q (.ref (s.heap.objs.size + 1)) { s with heap := PyProof.Rows.sortedAll s.heap vs out.toArray }) : wpAny (model prog w) A (call (.builtin "sorted") [.ref l]) Q E s := by
  have sz : (gath s.heap vs).objs.size = s.heap.objs.size + 1 := by rw [Heap.size_update, size_push']
  have at1 : ((gath s.heap vs).push (seqObj "list" vs.toArray 0)).get? (s.heap.objs.size + 1) = some (seqObj "list" vs.toArray 0) := by rw [← sz]; exact Heap.get?_push_size _ rfl
  refine Calls.call_function_entry kind_sorted plain_sorted entry_sorted (args_sorted1 _) ?_; unfold Builtin.«sorted»
  refine wpAny_bind (m := checkCount "sorted" 1 1 _) (wpAny_pure (wpAny_bind (gather_tup hl hz (wpAny_bind (wpAny_newList ?_ hz)))))
  show wpAny _ _ _ _ _ { s with heap := (gath s.heap vs).push (seqObj "list" vs.toArray 0) }
  rw [sz]
  have srt := @SrtO.list_sort_ord prog w
  refine wpAny_bind (wpAny_holding (wpAny_call_entry slot_list_sort ⟨_, at1, rfl⟩ entry_list_sort (srt (s := { s with heap := (gath s.heap vs).push (seqObj "list" vs.toArray 0) }) SrtO.swo_int at1 hz (fun two => SrtO.ints_sortable hi two) fun o a b => ⟨_, rfl, ?_⟩) (args_list_sort _)))
  exact wpAny_pure ⟨_, rfl, h o a b⟩
end
/-- sorted(t), a tuple of ints -/
def rSortedTI (K : PySem.W.Frag) : List V → Hp → VK → Prop := fun vs H Q => ∃ (a : Addr) (ns : List Int), vs = [.ref a] ∧ SqT K H a (ns.map V.int) ∧ ∀ (ms : List Int) (p : Addr), ms.Perm ns → ms.Pairwise (· ≤ ·) → H p = none → Q (.ref p) (upd H p (.lst (ms.map V.int)))
theorem cr_sortedTI {X : Cx} : CallR X (.builtin "sorted") (rSortedTI X.K) := by
  intro pins s σ H vs us Q I r h
  obtain ⟨a, ns, rfl, hs, q⟩ := h
  obtain ⟨its, rv, hl, hz⟩ := I.tuple hs
  have hi := rv.ints
  rw [Vals.ref1 r]
  refine sorted_tupI hl hi (by rw [← rv.length]; exact hz) fun out h1 h2 => ?_
  obtain ⟨k1, k2, k3⟩ := SrtO.ints_out hi h1 h2
  obtain ⟨ep, he⟩ := PyProof.Rows.sortedAll_at s.heap its out.toArray
  have len : ((out.map SrtO.iv).map V.int).length ≤ sizeLine := by
    rw [List.length_map, k2.length_eq, ← List.length_map (f := V.int)]
    exact hz
  refine ⟨.ref _, upd H (s.heap.objs.size + 1) (.lst ((out.map SrtO.iv).map V.int)), I.laid (t' := s.toks) (fun _ _ => PyProof.Rows.sortedAll_old) (Nat.le_succ _) ⟨len, out, ep, vals_of_ints k1, he⟩, rfl, ?_⟩
  exact q _ _ k2 k3 (I.hok.fresh (Nat.le_succ _))
end Ns

/-! LamP: a lambda with one parameter. -/
namespace LamP
open PySem PySem.Spec PyProof.Rows L2 LamX
/-- the parameter x; all other names are captured or global -/
structure LamS1 (sc scope : Scope) (x : Str) : Prop where
  kind : scope.kind = .function
  co : scope.isCoroutine = false
  gen : scope.isGenerator = false
  par : scope.names.lookup x = some .local
  noCell : ∀ y ∈ scope.names, y.2 ≠ .cell
  only : ∀ y, scope.names.lookup y = some .local → y = x
  up : ∀ y ∈ scope.names, y.2 = .free → sc.names.lookup y.1 = some .cell ∨ sc.names.lookup y.1 = some .free
/-- the context of such a body -/
def cx1 (X : Cx) (x : Str) (A : Around) (outer : List Env) (s : Shared) (H : Hp) (E : XK) (scope : Scope) (f c' : Addr) : Cx := { lamCx X A outer s H E scope f c' with N := X.N ++ [x] }
section
variable {X : Cx} {pins : List (Addr × Obj)} {σ : L2.St} {H HZ : Hp} {s s1 : Shared} {x : Str} {scope : Scope}
theorem LamS1.has (L : LamS1 X.env.scope scope x) (ok : X.Ok) (y : Str × NameKind) (hy : y ∈ scope.names) (e : y.2 = .free) : ∃ c, X.env.cells.lookup y.1 = some c :=
  (L.up y hy e).elim (fun k => ok.has _ (.inl k)) (fun k => ok.has _ (.inr k))
/-- what is captured is the maker's cell -/
theorem LamS1.cell (L : LamS1 X.env.scope scope x) (ok : X.Ok) {y : Str} {c : Addr} (e : (cloFrom X.env.cells scope.names []).lookup y = some c) : X.env.cells.lookup y = some c := by
  rcases cloFrom_mem (PySem.mem_of_lookup e) with hm | ⟨h1, h2⟩
  · cases hm
  · obtain ⟨d, hd⟩ := L.has ok _ h1 rfl
    have hd : X.env.cells.lookup y = some d := hd
    rw [hd, h2, hd]
    rfl
theorem LamS1.look (L : LamS1 X.env.scope scope x) (ok : X.Ok) {y : Str} (hl : scope.names.lookup y = some .free) : ∃ c, (cloFrom X.env.cells scope.names []).lookup y = some c ∧ X.env.cells.lookup y = some c := by
  obtain ⟨c, hc⟩ := mem_lookup (cloFrom_has (cells := X.env.cells) (acc := []) (PySem.mem_of_lookup hl))
  exact ⟨c, hc, L.cell ok hc⟩
theorem start1 {A : Around} {outer : List Env} {E : XK} {f c' : Addr} {h₁ : Heap} {tk : Nat} {v : V} {u : Value} (I : Inv X pins σ H s) (L : LamS1 X.env.scope scope x) (hx : x ∉ X.N) (rv : L2.RelV v u)
    (e0 : Env0 X.prog X.w X.K X.mg X.base A outer s1 HZ) (hd : A.handled = none) (un : Un (frs X.stack) [] H HZ s.heap s1.heap)
    (hns : h₁.Ns s1.heap.objs.size fun y => ([(x, u)] : List (Str × Value)).reverse.lookup y) (kp : ∀ b o, s1.heap.get? b = some o → h₁.get? b = some o) :
    Inv (cx1 X x A outer s1 HZ E scope f c') [] (σ ++ [some v]) HZ { s1 with heap := h₁, toks := tk } := by
  have keepC : ∀ {c : Addr} {z : Option Value}, H c = none → s.heap.IsCell c z → h₁.IsCell c z := fun {c z} n ⟨o, ho, hd⟩ => by
    obtain ⟨sl, q⟩ := un.any ho n (by simp)
    exact ⟨_, kp _ _ q, hd⟩
  have okC : (cx1 X x A outer s1 HZ E scope f c').Ok := {
    mod := e0.mod, kind := L.kind, glob := rfl, blt := rfl, above := Nat.le_refl _
    inj := fun y z c e1 e2 => I.ok.inj y z c (L.cell I.ok e1) (L.cell I.ok e2)
    has := fun y hy => by
      have hy : scope.names.lookup y = some .cell ∨ scope.names.lookup y = some .free := hy
      rcases hy with k | k
      · exact absurd rfl (L.noCell _ (PySem.mem_of_lookup k))
      · obtain ⟨c, hc, _⟩ := L.look I.ok k
        exact ⟨c, hc⟩
    cab := fun y c z _ => nomatch (show false = true from z)
    hd := fun _ => hd, frames := Around.frames_deeper e0.frames, stk := .inr ⟨rfl, rfl⟩
    exf := fun b z => nomatch (show b ∈ ([] : List Addr) from z)
    bs := e0.bs, bsz := e0.bsz
    noex := fun b _ _ z => nomatch (show b ∈ ([] : List Addr) from z)
    exfs := fun b z => nomatch (show b ∈ ([] : List Addr) from z)
    funs := e0.funs, frf := e0.frf }
  refine { ok := okC, os := rfl, bare := e0.bare, base := Un.kept kp, loc := ⟨_, hns, fun i y w e1 e2 e3 => ?_⟩, cell := fun y c e => ?_, free := e0.hok.fresh (Nat.le_refl _), freeC := fun y c e => ?_, pin := fun q hq => (nomatch (show q ∈ ([] : List (Addr × Obj)) ++ [] from hq)), hok := e0.hok.kept kp, len := ?_ }
  · have e1 : (X.N ++ [x])[i]? = some y := e1
    have e3 : Vis scope y := e3
    by_cases hi : i < X.N.length
    · rw [List.getElem?_append_left hi] at e1
      rw [List.getElem?_append_left (by rw [I.len]; exact hi)] at e2
      have nx : y ≠ x := fun z => hx (by rw [← z]; exact List.mem_of_getElem? e1)
      have k : scope.names.lookup y = some .free := by
        rcases e3 with k | k | k
        · exact absurd (L.only y k) nx
        · exact absurd rfl (L.noCell _ (PySem.mem_of_lookup k))
        · exact k
      obtain ⟨m, _, hl⟩ := I.loc
      have vis : Vis X.env.scope y := .inr (L.up _ (PySem.mem_of_lookup k) rfl)
      obtain ⟨w', r, q⟩ := hl i y w e1 e2 vis
      obtain ⟨c, hc, hm⟩ := L.look I.ok k
      refine ⟨w', r, .inr ⟨.inr k, c, hc, ?_⟩⟩
      rcases q with ⟨k', _⟩ | ⟨_, c3, e', z⟩
      · have k' : X.env.scope.names.lookup y = some .local := k'
        rcases L.up _ (PySem.mem_of_lookup k) rfl with k2 | k2 <;> rw [show X.env.scope.names.lookup y = _ from k2] at k' <;> cases k'
      · rw [hm] at e'
        cases e'
        exact keepC (I.freeC y _ hm) z
    · have hi2 : i = X.N.length := by
        have := (List.getElem?_eq_some_iff.mp e1).1
        rw [List.length_append] at this
        have : i < X.N.length + 1 := this
        omega
      subst hi2
      rw [List.getElem?_append_right (Nat.le_refl _), Nat.sub_self] at e1
      have ey : x = y := Option.some.inj e1
      subst ey
      rw [← I.len, List.getElem?_append_right (Nat.le_refl _), Nat.sub_self] at e2
      have ew : v = w := Option.some.inj (Option.some.inj e2)
      subst ew
      refine ⟨u, rv, .inl ⟨L.par, ?_⟩⟩
      show List.lookup x [(x, u)] = some u
      simp [List.lookup]
  · obtain ⟨w', z⟩ := I.cell y c (L.cell I.ok e)
    exact ⟨w', keepC (I.freeC y c (L.cell I.ok e)) z⟩
  · obtain ⟨w', o, ho, hd⟩ := I.cell y c (L.cell I.ok e)
    exact un.free c o ho (I.freeC y c (L.cell I.ok e)) (by simp)
  · show (σ ++ [some v]).length = (X.N ++ [x]).length
    rw [List.length_append, List.length_append, I.len]
    rfl
end
end LamP

/-! LamP2: a lambda with one parameter is called; it is handed to a def with one more argument. -/
namespace LamP
open PySem PySem.Spec PyProof.Rows L2 LamX
/-- the def's context that got the lambda -/
abbrev gcx (X : Cx) (Ng : List Str) (qg : Str) (sg : Scope) (g : Addr) (cdg : Value) (s : Shared) (H : Hp) : Cx := (cxOf C8.CX0 X.prog X.w X.K X.mg X.base Ng qg sg g cdg X.A X.stack s H C8.E0).nox
section
variable {X : Cx} {pins : List (Addr × Obj)} {σ : L2.St} {H : Hp} {s : Shared} {x : Str} {scope : Scope}
/-- r(e) -/
theorem pe_act1 {Ng : List Str} {qg : Str} {sg : Scope} {g f c' : Addr} {cdg pm ctv : Value} {params : Arguments} {body e : Expr} {k i : Nat} {a : Str} {tb : TE} {ta : TA} {p1 p2 : Pos} (I : Inv X pins σ H s) (L : LamS1 X.env.scope scope x) (hx : x ∉ X.N)
    (hf : s.heap.get? f = some (PySem.W.kla_obj "<lambda>" (X.env.qual ++ "<lambda>") params body scope (cloFrom X.env.cells scope.names []) pm c' ctv)) (hfn : H f = none) (hfr : f ∉ frs X.stack)
    (hbind : ∀ u : Value, bindArgs (PySem.W.kla_fn "<lambda>" (X.env.qual ++ "<lambda>") params body scope (cloFrom X.env.cells scope.names []) pm (.ref c') ctv) ⟨[u], []⟩ = pure [(x, u)])
    (hr : Room (k + 1) (X.A.deeper (envOfC qg sg s.heap.objs.size g cdg)))
    (hbody : ∀ (A : Around) (outer : List Env) (s : Shared) (H : Hp), Room k (A.deeper (lamEnv X scope s.heap.objs.size f c')) → PE (cx1 X x A outer s H C8.E0 scope f c').nox body tb)
    (hN : Ng[i]? = some a) (hv : Vis sg a) (ha : PA (gcx X Ng qg sg g cdg s H) [e] ta) (hst : ∀ env : Env, starEach [e] env = (false, eval e env) :: starEach [] env)
    (hd : (a == ("__debug__" : Str)) = false) (hcd : (a == ("__classdict__" : Str)) = false) :
    PE (gcx X Ng qg sg g cdg s H) (.Call (.Name a p1) [e] [] p2)
      (fun σZ HZ Q => σZ[i]? = some (some (.ref f)) ∧ ta σZ HZ fun vs H1 => ∃ v, vs = [v] ∧ H1 c' = some (CodeO c' (X.env.qual ++ "<lambda>")) ∧ tb (σ ++ [some v]) H1 Q) := by
  refine ⟨fun pinsZ sZ σZ HZ Q IZ h => ?_⟩
  obtain ⟨hs, h⟩ := h
  refine wpAny_Call_Name_kw (thn ((pe_var (pos := p1) (i := i) hN hv hd hcd).run pinsZ sZ σZ HZ (fun v H1 => v = .ref f ∧ H1 = HZ) IZ ⟨.ref f, hs, rfl, rfl⟩) fun u0 s1 ⟨v0, H1, I1, r1, q1⟩ => ?_)
  obtain ⟨ev, eH⟩ := q1
  subst ev eH
  obtain rfl : u0 = Value.ref f := r1
  have at_ : ∀ {s2 : Shared} {H2 : Hp} {ps : List (Addr × Obj)} {σ2 : L2.St}, Inv (gcx X Ng qg sg g cdg s H) ps σ2 H2 s2 → s2.heap.get? f = some (PySem.W.kla_obj "<lambda>" (X.env.qual ++ "<lambda>") params body scope (cloFrom X.env.cells scope.names []) pm c' ctv) :=
    fun J => J.base.keep f _ hf hfn hfr (fun z => nomatch (show f ∈ ([] : List Addr) from z))
  refine PySem.W.callWith_F ⟨_, _, _, _, at_ I1⟩ (thn (ha.run p2 pinsZ s1 σZ H1 _ I1 h) fun us s2 ⟨as, H2, I2, r, q⟩ => ⟨⟨_, _, _, _, at_ I2⟩, ?_⟩) (hst _) (by rfl)
  obtain ⟨v, rfl, hc, ht⟩ := q
  obtain ⟨u, rfl, rv⟩ : ∃ u, us = [u] ∧ L2.RelV v u := by
    cases r with
    | cons h t =>
      cases t with
      | nil => exact ⟨_, rfl, h⟩
  have of2 := at_ I2
  obtain ⟨⟨oc, fs, tk, hoc, hdc, hvc⟩, _, _⟩ := I2.hok c' _ hc
  have rc : codeAny (model X.prog X.w) (X.A.deeper (envOfC qg sg s.heap.objs.size g cdg)) (.call (.ref f) ⟨[u], []⟩) (CR C8.CX0 (envOfC qg sg s.heap.objs.size g cdg :: X.stack) X.prog X.w H2 s2 Q C8.E0) s2 := by
    refine PySem.W.kla_callFunE hr.depth of2 rfl L.co L.gen rfl ⟨c', oc, fs, tk, rfl, hoc, hdc, hvc⟩ ?_
    rw [hbind]
    refine wpAny_pure (wpAny_newFunctionEnv L.noCell (fun y hy => ?_) (fun h₁ hns hsb => ⟨I2.nolimit.fresh _ hsb, ?_⟩) L.kind)
    · rw [List.mem_singleton.mp hy]
      exact L.par
    · have kp : ∀ b o, s2.heap.get? b = some o → h₁.get? b = some o := fun b o z => hsb.extBut b o (Nat.ne_of_lt (Heap.lt_size z)) (Heap.get?_push_of_some _ z)
      have J : Inv (cx1 X x (X.A.deeper (envOfC qg sg s.heap.objs.size g cdg)) (envOfC qg sg s.heap.objs.size g cdg :: X.stack) s2 H2 C8.E0 scope f c') [] (σ ++ [some v]) H2 { s2 with heap := h₁, toks := s2.toks + ([(x, u)] : List (Str × Value)).length } :=
        start1 I L hx rv I2.env0 hr.hd I2.base hns kp
      refine PySem.W.kla_codeExpr (wpAny_mono ((hbody _ _ s2 H2 (hr.deeper _)).run [] _ _ H2 Q (J.wish _) ht) (fun u' s' hq => ?_) fun e s' hq => False.elim hq)
      obtain ⟨w', H', J', rv', q'⟩ := hq
      exact ⟨w', H', J'.os, J'.bare, J'.base, J'.hok, rv', q'⟩
  refine wpAny_call (codeAny_mono rc fun r s' hq => ?_)
  match r, hq with
  | .error _, hq => exact False.elim hq
  | .ok (.ret u), hq => exact I2.after hq
  | .ok .next, hq => exact False.elim hq
  | .ok .brk, hq => exact False.elim hq
  | .ok .cont, hq => exact False.elim hq
end
end LamP

namespace LamP
open PySem PySem.Spec PyProof.Rows L2 LamX
/-- the def that calls what it got first: TT, what it makes of the lambda's reading and of its other argument -/
def Gives1 (X : Cx) (Ng : List Str) (qg : Str) (sg : Scope) (g : Addr) (cdg : Value) (bg : List Stmt) (a : Str) (i : Nat) (q : Str) (TT : V → (V → Hp → VK → Prop) → Hp → VK → Prop) : Prop :=
  ∀ (f c' : Addr) (s : Shared) (H : Hp) (Q : VK) (v2 : V) (tl : V → Hp → VK → Prop),
    (∀ (e : Expr) (ta : TA) (p1 p2 : Pos), PA (gcx X Ng qg sg g cdg s H) [e] ta → (∀ env : Env, starEach [e] env = (false, eval e env) :: starEach [] env) →
      PE (gcx X Ng qg sg g cdg s H) (.Call (.Name a p1) [e] [] p2) (fun σZ HZ Q => σZ[i]? = some (some (.ref f)) ∧ ta σZ HZ fun vs H1 => ∃ v, vs = [v] ∧ H1 c' = some (CodeO c' q) ∧ tl v H1 Q)) →
    H c' = some (CodeO c' q) → TT v2 tl H Q →
    ∃ t, PSs (gcx X Ng qg sg g cdg s H) bg t ∧ t { nx := fun _ H' => Q .non H', rt := Q } (L2.start Ng [.ref f, v2]) H
def tLam1 (T : List (Addr × Str)) (q : Str) (ta : TA) (TT : V → (V → Hp → VK → Prop) → Hp → VK → Prop) (t : TE) : TE := fun σ H Q => Tabs T H ∧ ∀ (H1 : Hp) (c' : Addr), ExtN H H1 → Tabs T H1 → H1 c' = some (CodeO c' q) →
  ta σ H1 fun vs H2 => ∃ v2, vs = [v2] ∧ H2 c' = some (CodeO c' q) ∧ TT v2 (fun v H' Q' => t (σ ++ [some v]) H' Q') H2 Q
section
variable {X : Cx} {x : Str} {scope : Scope}
/-- g(lambda x: body, e) -/
theorem pe_lamcall1 {T : List (Addr × Str)} {TT : V → (V → Hp → VK → Prop) → Hp → VK → Prop} {y a b2 : Str} {g c P : Addr} {k i : Nat} {pg : Arguments} {bg : List Stmt} {sg : Scope} {dV kV doc pm cdv ct oc : Value} {an od : Option Addr} {osl : Array (Option Value)} {Ng : List Str}
    {params : Arguments} {body e : Expr} {t : TE} {ta : TA} {p lpos pos : Pos} (hg : Gl X y) (hm : X.mg y = some (.ref g)) (hk : PySem.W.keepIn X.K (.ref g) = true)
    (lk : X.K.lookup g = some ⟨oc, od, .func (PySem.W.fnOf y y pg bg sg dV kV doc pm an cdv ct), osl⟩) (hcg : PySem.W.codeIn X.K cdv y = true) (hb : L2.Binds X.K (PySem.W.fnOf y y pg bg sg dV kV doc pm an cdv ct) [a, b2] []) (Sg : FnScope Ng [a, b2] sg) (hNg : Ng[i]? = some a) (hva : Vis sg a)
    (hG : Gives1 X Ng y sg g cdv bg a i (X.env.qual ++ "<lambda>") TT)
    (TB : TabB X.base X.mg c P) (hcode : X.env.code = .ref c) (hmT : (P, X.env.qual ++ "<lambda>") ∈ T) (hu : ∀ p ∈ T, p.1 = P → p.2 = X.env.qual ++ "<lambda>") (hr : Room (k + 2) X.A) (L : LamS1 X.env.scope scope x) (hx : x ∉ X.N) (hdef : defaultsOf params X.env = ([], []))
    (hbind : ∀ (q : Str) (cl : List (Str × Addr)) (pm cv ctv u : Value), bindArgs (PySem.W.kla_fn "<lambda>" q params body scope cl pm cv ctv) ⟨[u], []⟩ = pure [(x, u)])
    (hbody : ∀ (A : Around) (outer : List Env) (s : Shared) (H : Hp) (f c' : Addr), Room k (A.deeper (lamEnv X scope s.heap.objs.size f c')) → PE (cx1 X x A outer s H C8.E0 scope f c').nox body t)
    (ha : PA X [e] ta) (hst : ∀ env : Env, starEach [.Lambda params body scope lpos, e] env = (false, eval (.Lambda params body scope lpos) env) :: starEach [e] env := by intro env; rfl) (hpl : (backTo pos (starEach [e] X.env)).any (·.1) = false := by rfl)
    (hdb : (y == ("__debug__" : Str)) = false := by decide) (hd : (a == ("__debug__" : Str)) = false := by decide) (hcd : (a == ("__classdict__" : Str)) = false := by decide) :
    PE X (.Call (.Name y p) [.Lambda params body scope lpos, e] [] pos) (tLam1 T (X.env.qual ++ "<lambda>") ta TT t) := by
  refine ⟨fun pins s σ H Q I h => ?_⟩
  obtain ⟨hT, h⟩ := h
  refine wpAny_Call_Name_kw (ld_glob I hg hm ?_ hdb)
  refine PySem.W.callWith_K (h₀ := X.base) I.ok.mod.kin hk ?_ (hst _) hpl
  rw [hst]
  show wpAny _ _ (spliced ((false, eval (.Lambda params body scope lpos) X.env) :: backTo pos (starEach [e] X.env))) _ _ s
  refine Calls.spliced_cons (lam_make2 I TB hcode hmT hu hT hdef (fun z hz hzf => L.has I.ok z hz hzf) fun f c' pm' ctv H1 s' I1 eN T1 hf hfn hfr hco => ?_)
  have nloc : f ≠ X.env.locals := fun z => by
    obtain ⟨m, ⟨o, es, ep, eo, ed, _⟩, _⟩ := I1.loc
    rw [← z, hf] at eo
    cases eo
    cases ed
  have nfs : f ∉ X.fs := fun z => by
    refine hfr ?_
    rcases I1.ok.stk with w | ⟨w, w2⟩
    · rw [w]; exact z
    · rw [w]
      unfold frs
      rw [List.filterMap_cons]
      split
      · exact z
      · exact List.mem_cons_of_mem _ z
  let ob : Obj := PySem.W.kla_obj "<lambda>" (X.env.qual ++ "<lambda>") params body scope (cloFrom X.env.cells scope.names []) pm' c' ctv
  have I1' : Inv X ((f, ob) :: pins) σ H1 s' := ⟨I1.ok, I1.os, I1.bare, I1.base, I1.loc, I1.cell, I1.free, I1.freeC, fun q hq => by
    rcases List.mem_append.mp hq with z | z
    · exact I1.pin q (List.mem_append_left _ z)
    · rcases List.mem_cons.mp z with z | z
      · rw [z]
        exact ⟨hf, hfn, nloc, nfs, fun v w => nomatch w⟩
      · exact I1.pin q (List.mem_append_right _ z), I1.hok, I1.len⟩
  refine thn (ha.run pos ((f, ob) :: pins) s' σ H1 _ I1' (h H1 c' eN T1 hco)) fun us s2 ⟨as, H2, I2, r, q⟩ => ?_
  obtain ⟨v2, rfl, hco2, ht⟩ := q
  obtain ⟨u2, rfl, rv⟩ : ∃ u, us = [u] ∧ L2.RelV v2 u := by
    cases r with
    | cons h t =>
      cases t with
      | nil => exact ⟨_, rfl, h⟩
  refine ⟨I2.kIn, ?_⟩
  have pf := I2.pin (f, ob) (List.mem_append_right _ List.mem_cons_self)
  have rc : codeAny (model X.prog X.w) X.A (.call (.ref g) ⟨[.ref f, u2], []⟩) (CR C8.CX0 X.stack X.prog X.w H2 s2 Q C8.E0) s2 := by
    refine run_ofS (N := Ng) (ps := [a, b2]) (us := [.ref f, u2]) (vs := [.ref f, v2]) lk hcg Sg hr I2.env0 (hb s2 [.ref f, u2] I2.kIn rfl) (.cons rfl (.cons rv .nil)) rfl fun hr' => ?_
    obtain ⟨t', ht', hq'⟩ := hG f c' s2 H2 Q v2 (fun v H' Q' => t (σ ++ [some v]) H' Q') (fun e' ta' p1 p2 ha' hst' => pe_act1 I2 L hx pf.1 pf.2.1 hfr (fun u => hbind _ _ _ _ _ u) hr' (fun A outer s H hr2 => hbody A outer s H f c' hr2) hNg hva ha' hst' hd hcd) hco2 ht
    exact ⟨t', ht'.nox, hq'⟩
  refine wpAny_call (codeAny_mono rc fun r s' hq => ?_)
  have I3 : Inv X pins σ H2 s2 := ⟨I2.ok, I2.os, I2.bare, I2.base, I2.loc, I2.cell, I2.free, I2.freeC, fun q hq => I2.pin q (by
    rcases List.mem_append.mp hq with z | z
    · exact List.mem_append_left _ z
    · exact List.mem_append_right _ (List.mem_cons_of_mem _ z)), I2.hok, I2.len⟩
  match r, hq with
  | .error _, hq => exact False.elim hq
  | .ok (.ret u), hq => exact I3.after hq
  | .ok .next, hq => exact False.elim hq
  | .ok .brk, hq => exact False.elim hq
  | .ok .cont, hq => exact False.elim hq
end
end LamP

/-! stairs as lists of runs: their reach; rows with the same reach are one -/
namespace RM
abbrev Run := Int × Int
/-- what the first h steps are together -/
def rch : List Run → Int → Int
  | [], _ => 0
  | q :: r, h => q.1 * min q.2 h + rch r (h - min q.2 h)
/-- falling steps from 1 on, below m, each at least once -/
def Vd : Int → List Run → Prop
  | _, [] => True
  | m, q :: r => 1 ≤ q.1 ∧ q.1 < m ∧ 1 ≤ q.2 ∧ Vd q.1 r
theorem Vd.mono : ∀ {r : List Run} {m n : Int}, Vd m r → m ≤ n → Vd n r
  | [], _, _, _, _ => trivial
  | q :: r, m, n, h, e => ⟨h.1, by have := h.2.1; omega, h.2.2.1, h.2.2.2⟩
theorem rch_zero : ∀ {r : List Run} {m : Int}, Vd m r → rch r 0 = 0
  | [], _, _ => rfl
  | q :: r, m, h => by
    show q.1 * min q.2 0 + rch r (0 - min q.2 0) = 0
    have : min q.2 0 = 0 := by have := h.2.2.1; omega
    rw [this, Int.mul_zero, Int.zero_add, show (0 : Int) - 0 = 0 from rfl]
    exact rch_zero h.2.2.2
theorem rch_lo {q : Run} {r : List Run} {m h : Int} (v : Vd m (q :: r)) (h0 : 0 ≤ h) (h1 : h ≤ q.2) : rch (q :: r) h = q.1 * h := by
  show q.1 * min q.2 h + rch r (h - min q.2 h) = _
  have : min q.2 h = h := by omega
  rw [this, Int.sub_self, rch_zero v.2.2.2, Int.add_zero]
theorem rch_hi {q : Run} {r : List Run} {h : Int} (h1 : q.2 ≤ h) : rch (q :: r) h = q.1 * q.2 + rch r (h - q.2) := by
  show q.1 * min q.2 h + rch r (h - min q.2 h) = _
  have : min q.2 h = q.2 := by omega
  rw [this]
/-- the first step, 0 if there is none -/
def top (r : List Run) : Int := match r with | [] => 0 | q :: _ => q.1
theorem rch_one {r : List Run} {m : Int} (v : Vd m r) : rch r 1 = top r := by
  cases r with
  | nil => rfl
  | cons q r =>
    rw [rch_lo v (by decide) v.2.2.1, Int.mul_one]
    rfl
theorem top_lt {r : List Run} {m : Int} (v : Vd m r) (hm : 1 ≤ m) : 0 ≤ top r ∧ top r < m := by
  cases r with
  | nil => exact ⟨Int.le_refl _, by show (0 : Int) < m; omega⟩
  | cons q r => exact ⟨by show 0 ≤ q.1; have := v.1; omega, v.2.1⟩
/-- one hour more: between nothing and the first step -/
theorem rch_step : ∀ {r : List Run} {m h : Int}, Vd m r → 0 ≤ h → rch r h ≤ rch r (h + 1) ∧ rch r (h + 1) ≤ rch r h + top r
  | [], _, _, _, _ => ⟨Int.le_refl _, by show (0 : Int) ≤ 0 + 0; decide⟩
  | q :: r, m, h, v, h0 => by
    have k1 := v.1
    have k2 := v.2.2.1
    by_cases e : h + 1 ≤ q.2
    · rw [rch_lo v (by omega) e, rch_lo v h0 (by omega), Int.mul_add, Int.mul_one]
      exact ⟨by omega, Int.le_refl _⟩
    · rw [rch_hi (q := q) (r := r) (h := h + 1) (by omega), rch_hi (q := q) (r := r) (h := h) (by omega)]
      obtain ⟨a, b⟩ := rch_step (h := h - q.2) v.2.2.2 (by omega)
      rw [show h + 1 - q.2 = h - q.2 + 1 by omega]
      have c := (top_lt v.2.2.2 k1).2
      exact ⟨by omega, by show _ ≤ _ + q.1; omega⟩
/-- rows with the same reach are one -/
theorem rch_inj : ∀ {r r' : List Run} {m m' : Int}, Vd m r → Vd m' r' → (∀ h, 0 ≤ h → rch r h = rch r' h) → r = r'
  | [], [], _, _, _, _, _ => rfl
  | [], q :: r', _, _, _, v', e => by
    have := e 1 (by decide)
    rw [rch_one v'] at this
    have k : (0 : Int) = q.1 := this
    have := v'.1
    omega
  | q :: r, [], _, _, v, _, e => by
    have := e 1 (by decide)
    rw [rch_one v] at this
    have k : q.1 = (0 : Int) := this
    have := v.1
    omega
  | q :: r, q' :: r', m, m', v, v', e => by
    have e1 := e 1 (by decide)
    rw [rch_one v, rch_one v'] at e1
    have e1 : q.1 = q'.1 := e1
    have k1 := v.1
    have k2 := v.2.2.1
    have k2' := v'.2.2.1
    have no : ∀ {a b : Run} {s t : List Run} {n n' : Int}, Vd n (a :: s) → Vd n' (b :: t) → a.1 = b.1 → a.2 < b.2 → rch (a :: s) (a.2 + 1) ≠ rch (b :: t) (a.2 + 1) := fun {a b s t n n'} w w' ea lt z => by
      have j1 := w.1
      have j2 := w.2.2.1
      rw [rch_hi (q := a) (r := s) (by omega), rch_lo w' (by omega) (by omega), show a.2 + 1 - a.2 = 1 by omega, rch_one w.2.2.2, ← ea, Int.mul_add, Int.mul_one] at z
      have := (top_lt w.2.2.2 j1).2
      omega
    have e2 : q.2 = q'.2 := by
      rcases Int.lt_trichotomy q.2 q'.2 with z | z | z
      · exact absurd (e _ (by omega)) (no v v' e1 z)
      · exact z
      · exact absurd (e _ (by omega)).symm (no v' v e1.symm z)
    have e3 : r = r' := rch_inj v.2.2.2 v'.2.2.2 fun h h0 => by
      have := e (q.2 + h) (by omega)
      rw [rch_hi (q := q) (r := r) (by omega), rch_hi (q := q') (r := r') (by omega), ← e1, ← e2, show q.2 + h - q.2 = h by omega] at this
      omega
    rw [e3, show q = q' from Prod.ext e1 e2]
end RM

/-! what a full hour takes of a row: its row behind -/
namespace RM
/-- a run, none if it has no step -/
def one (s t : Int) : List Run := if t = 0 then [] else [(s, t)]
/-- the row behind a sum x, from 1 to the first step -/
def tkc (x : Int) : List Run → List Run
  | [] => []
  | [q] => one q.1 (q.2 - 1) ++ (if q.1 = x then [] else [(q.1 - x, 1)])
  | q :: p :: B => if x ≤ p.1 then q :: tkc x (p :: B) else one q.1 (q.2 - 1) ++ (if q.1 = x then p :: B else (q.1 + p.1 - x, 1) :: (one p.1 (p.2 - 1) ++ B))
theorem vd_one {s t m : Int} {C : List Run} (h1 : 1 ≤ s) (h2 : s < m) (h3 : 0 ≤ t) (v : Vd s C) : Vd m (one s t ++ C) := by
  unfold one
  split
  · exact v.mono (by omega)
  · exact ⟨h1, h2, by show 1 ≤ t; omega, v⟩
theorem rch_oneC {s t m h : Int} {C : List Run} (h0 : 0 ≤ h) (h3 : 0 ≤ t) (v : Vd m C) : rch (one s t ++ C) h = if h ≤ t then s * h else s * t + rch C (h - t) := by
  unfold one
  by_cases e : t = 0
  · rw [if_pos e, List.nil_append]
    by_cases e2 : h ≤ t
    · rw [if_pos e2, show h = 0 by omega, Int.mul_zero, rch_zero v]
    · rw [if_neg e2, e, Int.mul_zero, Int.zero_add, Int.sub_zero]
  · rw [if_neg e]
    show rch ((s, t) :: C) h = _
    by_cases e2 : h ≤ t
    · rw [if_pos e2]
      show s * min t h + rch C (h - min t h) = _
      rw [show min t h = h by omega, Int.sub_self, rch_zero v, Int.add_zero]
    · rw [if_neg e2, rch_hi (q := (s, t)) (by show t ≤ h; omega)]
/-- the two of them that are put together -/
def joint (q p : Run) (B : List Run) (x : Int) : List Run := if q.1 = x then p :: B else (q.1 + p.1 - x, 1) :: (one p.1 (p.2 - 1) ++ B)
theorem vd_joint {q p : Run} {B : List Run} {x : Int} (v : Vd q.1 (p :: B)) (h1 : p.1 < x) (h2 : x ≤ q.1) : Vd q.1 (joint q p B x) := by
  unfold joint
  have k1 := v.1
  have k2 := v.2.2.1
  split
  · exact v
  · exact ⟨by show 1 ≤ q.1 + p.1 - x; omega, by show q.1 + p.1 - x < q.1; omega, Int.le_refl 1, vd_one k1 (by show p.1 < q.1 + p.1 - x; omega) (by omega) v.2.2.2⟩
theorem rch_less {p : Run} {B : List Run} {m k : Int} (v : Vd m (p :: B)) (hk : 1 ≤ k) : rch (p :: B) k = p.1 + rch (one p.1 (p.2 - 1) ++ B) (k - 1) := by
  have k2 := v.2.2.1
  rw [rch_oneC (by omega) (by omega) v.2.2.2]
  by_cases e : k ≤ p.2
  · rw [rch_lo v (by omega) e, if_pos (by omega), Int.mul_sub, Int.mul_one]
    omega
  · rw [rch_hi (q := p) (by omega), if_neg (by omega), Int.mul_sub, Int.mul_one, show k - 1 - (p.2 - 1) = k - p.2 by omega]
    omega
theorem rch_joint {q p : Run} {B : List Run} {x k : Int} (v : Vd q.1 (p :: B)) (h1 : p.1 < x) (h2 : x ≤ q.1) (hk : 1 ≤ k) : rch (joint q p B x) k = q.1 - x + rch (p :: B) k := by
  unfold joint
  split
  · next e => omega
  · rw [rch_less v hk, rch_hi (q := (q.1 + p.1 - x, 1)) (by show 1 ≤ k; exact hk)]
    show (q.1 + p.1 - x) * 1 + rch _ (k - 1) = _
    rw [Int.mul_one]
    omega
theorem tkc_vd : ∀ {r : List Run} {m x : Int}, Vd m r → 1 ≤ x → x ≤ top r → Vd m (tkc x r)
  | [], _, _, v, _, _ => v
  | [q], m, x, v, h1, h2 => by
    have h2 : x ≤ q.1 := h2
    have k1 := v.1
    have k2 := v.2.2.1
    refine vd_one k1 v.2.1 (by omega) ?_
    split
    · trivial
    · exact ⟨by show 1 ≤ q.1 - x; omega, by show q.1 - x < q.1; omega, Int.le_refl 1, trivial⟩
  | q :: p :: B, m, x, v, h1, h2 => by
    have h2 : x ≤ q.1 := h2
    have k1 := v.1
    have k2 := v.2.2.1
    unfold tkc
    split
    · next e => exact ⟨v.1, v.2.1, v.2.2.1, tkc_vd v.2.2.2 h1 e⟩
    · next e => exact vd_one k1 v.2.1 (by omega) (vd_joint v.2.2.2 (by omega) h2)
/-- the reach behind: what is least of waiting and of one hour more -/
theorem tkc_rch : ∀ {r : List Run} {m x h : Int}, Vd m r → 1 ≤ x → x ≤ top r → 0 ≤ h → rch (tkc x r) h = min (rch r h) (rch r (h + 1) - x)
  | [], _, _, _, _, h1, h2, _ => by
    have : _ ≤ (0 : Int) := h2
    omega
  | [q], m, x, h, v, h1, h2, h0 => by
    have h2 : x ≤ q.1 := h2
    have k1 := v.1
    have k2 := v.2.2.1
    have vE : Vd q.1 (if q.1 = x then [] else [(q.1 - x, 1)]) := by
      split
      · trivial
      · exact ⟨by show 1 ≤ q.1 - x; omega, by show q.1 - x < q.1; omega, Int.le_refl 1, trivial⟩
    have eE : ∀ k, 1 ≤ k → rch (if q.1 = x then [] else [(q.1 - x, 1)]) k = q.1 - x := fun k hk => by
      split
      · next e =>
        show (0 : Int) = _
        omega
      · rw [rch_hi (q := (q.1 - x, 1)) (by show 1 ≤ k; exact hk)]
        show (q.1 - x) * 1 + 0 = _
        omega
    show rch (one q.1 (q.2 - 1) ++ (if q.1 = x then [] else [(q.1 - x, 1)])) h = _
    rw [rch_oneC h0 (by omega) vE]
    by_cases e : h ≤ q.2 - 1
    · rw [if_pos e, rch_lo v h0 (by omega), rch_lo v (by omega) (by omega), Int.mul_add, Int.mul_one]
      omega
    · rw [if_neg e, eE _ (by omega), rch_hi (q := q) (r := []) (h := h) (by omega), rch_hi (q := q) (r := []) (h := h + 1) (by omega), Int.mul_sub, Int.mul_one]
      show _ = min (q.1 * q.2 + 0) (q.1 * q.2 + 0 - x)
      omega
  | q :: p :: B, m, x, h, v, h1, h2, h0 => by
    have h2 : x ≤ q.1 := h2
    have k1 := v.1
    have k2 := v.2.2.1
    unfold tkc
    by_cases e : x ≤ p.1
    · rw [if_pos e]
      have vT := tkc_vd v.2.2.2 h1 e
      by_cases e2 : h ≤ q.2
      · rw [rch_lo (q := q) (r := tkc x (p :: B)) ⟨v.1, v.2.1, v.2.2.1, vT⟩ h0 e2, rch_lo v h0 e2]
        by_cases e3 : h + 1 ≤ q.2
        · rw [rch_lo v (by omega) e3, Int.mul_add, Int.mul_one]
          omega
        · rw [rch_hi (q := q) (r := p :: B) (h := h + 1) (by omega), show h = q.2 by omega, show q.2 + 1 - q.2 = 1 by omega, rch_one v.2.2.2]
          show _ = min _ (q.1 * q.2 + p.1 - x)
          omega
      · rw [rch_hi (q := q) (r := tkc x (p :: B)) (by omega), rch_hi (q := q) (r := p :: B) (h := h) (by omega), rch_hi (q := q) (r := p :: B) (h := h + 1) (by omega), tkc_rch v.2.2.2 h1 e (by omega), show h + 1 - q.2 = h - q.2 + 1 by omega]
        omega
    · rw [if_neg e]
      show rch (one q.1 (q.2 - 1) ++ joint q p B x) h = _
      rw [rch_oneC h0 (by omega) (vd_joint v.2.2.2 (by omega) h2)]
      by_cases e2 : h ≤ q.2 - 1
      · rw [if_pos e2, rch_lo v h0 (by omega), rch_lo v (by omega) (by omega), Int.mul_add, Int.mul_one]
        omega
      · rw [if_neg e2, rch_joint v.2.2.2 (by omega) h2 (by omega), rch_hi (q := q) (r := p :: B) (h := h) (by omega), rch_hi (q := q) (r := p :: B) (h := h + 1) (by omega), Int.mul_sub, Int.mul_one, show h - (q.2 - 1) = h - q.2 + 1 by omega, show h + 1 - q.2 = h - q.2 + 1 by omega]
        obtain ⟨a, b⟩ := rch_step (h := h - q.2) v.2.2.2 (by omega)
        have b : rch (p :: B) (h - q.2 + 1) ≤ rch (p :: B) (h - q.2) + p.1 := b
        omega
/-- the whole -/
def whole (r : List Run) : Int := (r.map fun q => q.1 * q.2).sum
theorem tkc_whole : ∀ {r : List Run} {m x : Int}, Vd m r → 1 ≤ x → x ≤ top r → whole (tkc x r) + x = whole r
  | [], _, _, _, h1, h2 => by
    have : _ ≤ (0 : Int) := h2
    omega
  | [q], m, x, v, h1, h2 => by
    have k2 := v.2.2.1
    unfold tkc one whole
    by_cases e : q.2 - 1 = 0 <;> by_cases e2 : q.1 = x <;> simp [e, e2, Int.mul_sub] <;> try omega
    all_goals (have e3 : q.2 = 1 := by omega); simp [e3] <;> omega
  | q :: p :: B, m, x, v, h1, h2 => by
    have k2 := v.2.2.1
    have k3 := v.2.2.2.2.2.1
    unfold tkc
    by_cases e : x ≤ p.1
    · rw [if_pos e]
      have := tkc_whole v.2.2.2 h1 e
      have a : whole (q :: tkc x (p :: B)) = q.1 * q.2 + whole (tkc x (p :: B)) := by unfold whole; rw [List.map_cons, List.sum_cons]
      have b : whole (q :: p :: B) = q.1 * q.2 + whole (p :: B) := by unfold whole; rw [List.map_cons, List.sum_cons]
      omega
    · rw [if_neg e]
      have w1 : ∀ s t C, whole (one s t ++ C) = s * t + whole C := fun s t C => by
        unfold one whole
        split
        · next z => rw [z, Int.mul_zero, List.nil_append]; omega
        · rfl
      have b : whole (q :: p :: B) = q.1 * q.2 + (p.1 * p.2 + whole B) := by unfold whole; rw [List.map_cons, List.sum_cons, List.map_cons, List.sum_cons]
      rw [w1, b, Int.mul_sub, Int.mul_one]
      split
      · next z =>
        have c : whole (p :: B) = p.1 * p.2 + whole B := by unfold whole; rw [List.map_cons, List.sum_cons]
        omega
      · have c : whole ((q.1 + p.1 - x, 1) :: (one p.1 (p.2 - 1) ++ B)) = (q.1 + p.1 - x) * 1 + whole (one p.1 (p.2 - 1) ++ B) := by unfold whole; rw [List.map_cons, List.sum_cons]
        rw [c, w1, Int.mul_sub, Int.mul_one, Int.mul_one]
        omega
end RM

/-! nights: the order of hours is nothing, COULD by its formula -/
namespace RM
/-- the row behind an hour -/
def bh (r : List Run) (s : Int) : List Run := if min s (top r) = 0 then r else tkc (min s (top r)) r
theorem bh_vd {r : List Run} {m s : Int} (v : Vd m r) (hm : 1 ≤ m) (hs : 0 ≤ s) : Vd m (bh r s) := by
  have := top_lt v hm
  unfold bh
  split
  · exact v
  · exact tkc_vd v (by omega) (by omega)
theorem bh_rch {r : List Run} {m s h : Int} (v : Vd m r) (hm : 1 ≤ m) (hs : 0 ≤ s) (h0 : 0 ≤ h) : min s (top r) + rch (bh r s) h = min (rch r h + s) (rch r (h + 1)) := by
  have k := top_lt v hm
  obtain ⟨a, b⟩ := rch_step v h0
  unfold bh
  split
  · omega
  · rw [tkc_rch v (by omega) (by omega) h0]
    omega
theorem bh_whole {r : List Run} {m s : Int} (v : Vd m r) (hm : 1 ≤ m) (hs : 0 ≤ s) : whole (bh r s) + min s (top r) = whole r := by
  have k := top_lt v hm
  unfold bh
  split
  · omega
  · exact tkc_whole v (by omega) (by omega)
/-- the row behind a night, and the sum of it -/
def bhN (r : List Run) (n : List Int) : List Run := n.foldl bh r
def tot : List Run → List Int → Int
  | _, [] => 0
  | r, s :: n => min s (top r) + tot (bh r s) n
/-- an hour upon a reach -/
def T (s : Int) (G : Nat → Int) : Nat → Int := fun h => min (G h + s) (G (h + 1))
def Tn (n : List Int) (G : Nat → Int) : Nat → Int := n.foldl (fun G s => T s G) G
theorem T_comm (s t : Int) (G : Nat → Int) : T s (T t G) = T t (T s G) := by
  funext h
  unfold T
  omega
theorem Tn_perm {n n' : List Int} (p : n.Perm n') : ∀ G, Tn n G = Tn n' G := by
  induction p with
  | nil => exact fun _ => rfl
  | cons x _ ih => exact fun G => ih (T x G)
  | swap x y l =>
    intro G
    show Tn l (T x (T y G)) = Tn l (T y (T x G))
    rw [T_comm]
  | trans _ _ h1 h2 => exact fun G => (h1 G).trans (h2 G)
theorem T_add (s c : Int) (G : Nat → Int) : T s (fun h => c + G h) = fun h => c + T s G h := by
  funext h
  show min (c + G h + s) (c + G (h + 1)) = c + min (G h + s) (G (h + 1))
  omega
theorem Tn_add (c : Int) : ∀ (n : List Int) (G : Nat → Int), Tn n (fun h => c + G h) = fun h => c + Tn n G h
  | [], _ => rfl
  | s :: n, G => by
    show Tn n (T s (fun h => c + G h)) = _
    rw [T_add, Tn_add c n]
    rfl
def rN (r : List Run) : Nat → Int := fun h => rch r (h : Int)
theorem bhN_vd : ∀ {n : List Int} {r : List Run} {m : Int}, Vd m r → 1 ≤ m → (∀ s ∈ n, 0 ≤ s) → Vd m (bhN r n)
  | [], _, _, v, _, _ => v
  | s :: n, r, m, v, hm, h => by
    show Vd m (bhN (bh r s) n)
    exact bhN_vd (bh_vd v hm (h s List.mem_cons_self)) hm fun t ht => h t (List.mem_cons_of_mem _ ht)
theorem tot_Tn : ∀ {n : List Int} {r : List Run} {m : Int}, Vd m r → 1 ≤ m → (∀ s ∈ n, 0 ≤ s) → (fun h => tot r n + rN (bhN r n) h) = Tn n (rN r)
  | [], r, _, _, _, _ => by
    funext h
    show 0 + rN r h = rN r h
    omega
  | s :: n, r, m, v, hm, h => by
    have hs := h s List.mem_cons_self
    have e : T s (rN r) = fun k => min s (top r) + rN (bh r s) k := by
      funext k
      have := bh_rch (h := (k : Int)) v hm hs (by omega)
      unfold T rN
      rw [this]
      rfl
    show _ = Tn n (T s (rN r))
    rw [e, Tn_add, ← tot_Tn (bh_vd v hm hs) hm fun t ht => h t (List.mem_cons_of_mem _ ht)]
    funext k
    show min s (top r) + tot (bh r s) n + rN (bhN (bh r s) n) k = min s (top r) + (tot (bh r s) n + rN (bhN (bh r s) n) k)
    omega
theorem rN_zero {r : List Run} {m : Int} (v : Vd m r) : rN r 0 = 0 := rch_zero v
theorem tot_is {n : List Int} {r : List Run} {m : Int} (v : Vd m r) (hm : 1 ≤ m) (hn : ∀ s ∈ n, 0 ≤ s) : tot r n = Tn n (rN r) 0 := by
  have := congrFun (tot_Tn v hm hn) 0
  have e := rN_zero (bhN_vd v hm hn)
  have this : tot r n + rN (bhN r n) 0 = Tn n (rN r) 0 := this
  omega
/-- hours in another order -/
theorem night_perm {n n' : List Int} {r : List Run} {m : Int} (v : Vd m r) (hm : 1 ≤ m) (hn : ∀ s ∈ n, 0 ≤ s) (p : n'.Perm n) : bhN r n' = bhN r n ∧ tot r n' = tot r n := by
  have hn' : ∀ s ∈ n', 0 ≤ s := fun s hs => hn s (p.mem_iff.mp hs)
  have e1 : tot r n' = tot r n := by rw [tot_is v hm hn, tot_is v hm hn', Tn_perm p]
  refine ⟨rch_inj (bhN_vd v hm hn') (bhN_vd v hm hn) fun h h0 => ?_, e1⟩
  have a := congrFun (tot_Tn v hm hn) h.toNat
  have b := congrFun (tot_Tn v hm hn') h.toNat
  rw [Tn_perm p, ← a] at b
  have b : tot r n' + rch (bhN r n') (h.toNat : Int) = tot r n + rch (bhN r n) (h.toNat : Int) := b
  rw [show (h.toNat : Int) = h by omega] at b
  omega
theorem tot_whole : ∀ {n : List Int} {r : List Run} {m : Int}, Vd m r → 1 ≤ m → (∀ s ∈ n, 0 ≤ s) → tot r n + whole (bhN r n) = whole r
  | [], r, _, _, _, _ => by
    show 0 + whole r = whole r
    omega
  | s :: n, r, m, v, hm, h => by
    have hs := h s List.mem_cons_self
    have a := bh_whole v hm hs
    have b := tot_whole (bh_vd v hm hs) hm fun t ht => h t (List.mem_cons_of_mem _ ht)
    show min s (top r) + tot (bh r s) n + whole (bhN (bh r s) n) = _
    omega
theorem bhN_app (r : List Run) (a b : List Int) : bhN r (a ++ b) = bhN (bhN r a) b := List.foldl_append
theorem tot_app : ∀ (a : List Int) (r : List Run) (b : List Int), tot r (a ++ b) = tot r a + tot (bhN r a) b
  | [], r, b => by
    show tot r b = 0 + tot r b
    omega
  | s :: a, r, b => by
    show min s (top r) + tot (bh r s) (a ++ b) = min s (top r) + tot (bh r s) a + tot (bhN (bh r s) a) b
    rw [tot_app]
    omega
/-- the least of some -/
def LeastOf (v : Int) (m : Nat) (f : Nat → Int) : Prop := (∃ h, h ≤ m ∧ v = f h) ∧ ∀ h, h ≤ m → v ≤ f h
/-- COULD by its formula, the hours ascending -/
theorem Tn_least (G : Nat → Int) : ∀ (k : Nat) (n : List Int), n.length = k → n.Pairwise (· ≤ ·) → ∀ j, LeastOf (Tn n G j) k fun h => G (j + h) + (n.take (k - h)).sum
  | 0, n, e, _, j => by
    have : n = [] := List.length_eq_zero_iff.mp e
    subst this
    refine ⟨⟨0, Nat.le_refl _, ?_⟩, fun h hh => ?_⟩
    · show G j = G (j + 0) + 0
      simp
    · have : h = 0 := Nat.le_zero.mp hh
      subst this
      show G j ≤ G (j + 0) + 0
      simp
  | k + 1, n, e, p, j => by
    obtain ⟨l, s, rfl⟩ : ∃ l s, n = l ++ [s] := ⟨n.dropLast, n.getLast (fun z => by rw [z] at e; cases e), (List.dropLast_concat_getLast _).symm⟩
    have el : l.length = k := by
      rw [List.length_append] at e
      exact Nat.succ.inj e
    obtain ⟨p1, _, p2⟩ := List.pairwise_append.mp p
    have ih := Tn_least G k l el p1
    have eT : Tn (l ++ [s]) G j = min (Tn l G j + s) (Tn l G (j + 1)) := by
      unfold Tn
      rw [List.foldl_append]
      rfl
    rw [eT]
    have tk : ∀ h, h ≤ k → (l ++ [s]).take (k + 1 - (h + 1)) = l.take (k - h) := fun h hh => by
      rw [show k + 1 - (h + 1) = k - h by omega, List.take_append_of_le_length (by omega)]
    have full : ((l ++ [s]).take (k + 1 - 0)).sum = l.sum + s := by
      rw [Nat.sub_zero, List.take_of_length_le (by rw [List.length_append, el]; exact Nat.le_refl _), List.sum_append]
      simp
    obtain ⟨⟨h1, b1, e1⟩, f1⟩ := ih j
    obtain ⟨⟨h2, b2, e2⟩, f2⟩ := ih (j + 1)
    have more : ∀ h, 1 ≤ h → h ≤ k → (l.take (k + 1 - h)).sum ≤ (l.take (k - h)).sum + s := fun h q1 q2 => by
      have q3 : k - h < l.length := by omega
      rw [show k + 1 - h = k - h + 1 by omega, List.take_succ, List.getElem?_eq_getElem q3, List.sum_append]
      have := p2 _ (List.getElem_mem q3) s List.mem_cons_self
      simp
      omega
    have z0 : Tn l G j ≤ G j + l.sum := by
      have := f1 0 (Nat.zero_le _)
      have this : Tn l G j ≤ G (j + 0) + (l.take (k - 0)).sum := this
      rw [Nat.sub_zero, List.take_of_length_le (by omega)] at this
      exact this
    have lower : ∀ h, h ≤ k + 1 → min (Tn l G j + s) (Tn l G (j + 1)) ≤ G (j + h) + ((l ++ [s]).take (k + 1 - h)).sum := fun h hh => by
      cases h with
      | zero =>
        rw [full]
        show _ ≤ G j + (l.sum + s)
        omega
      | succ h =>
        rw [tk h (by omega)]
        have := f2 h (by omega)
        have this : Tn l G (j + 1) ≤ G (j + 1 + h) + (l.take (k - h)).sum := this
        rw [show j + (h + 1) = j + 1 + h by omega]
        omega
    refine ⟨?_, lower⟩
    by_cases c : Tn l G (j + 1) ≤ Tn l G j + s
    · refine ⟨h2 + 1, by omega, ?_⟩
      show _ = G (j + (h2 + 1)) + ((l ++ [s]).take (k + 1 - (h2 + 1))).sum
      rw [tk h2 b2, show j + (h2 + 1) = j + 1 + h2 by omega]
      have e2 : Tn l G (j + 1) = G (j + 1 + h2) + (l.take (k - h2)).sum := e2
      omega
    · cases h1 with
      | zero =>
        refine ⟨0, by omega, ?_⟩
        show _ = G (j + 0) + ((l ++ [s]).take (k + 1 - 0)).sum
        rw [full]
        have e1 : Tn l G j = G (j + 0) + (l.take (k - 0)).sum := e1
        rw [Nat.sub_zero, List.take_of_length_le (by omega)] at e1
        show _ = G j + (l.sum + s)
        have e1 : Tn l G j = G j + l.sum := e1
        omega
      | succ h1 =>
        refine ⟨h1 + 1, by omega, ?_⟩
        have lo := lower (h1 + 1) (by omega)
        show _ = G (j + (h1 + 1)) + ((l ++ [s]).take (k + 1 - (h1 + 1))).sum
        have e1 : Tn l G j = G (j + (h1 + 1)) + (l.take (k - (h1 + 1))).sum := e1
        have m1 := more (h1 + 1) (by omega) b1
        have t1 := tk h1 (by omega)
        rw [show k + 1 - (h1 + 1) = k - h1 by omega] at m1 lo t1 ⊢
        rw [t1] at lo ⊢
        omega
end RM

/-! more never charges less, hours of plenty, and runs put one by one -/
namespace RM
theorem T_mono {s t : Int} {G F : Nat → Int} (e : s ≤ t) (h : ∀ k, G k ≤ F k) : ∀ k, T s G k ≤ T t F k := fun k => by
  have a := h k
  have b := h (k + 1)
  unfold T
  omega
/-- hour by hour at least as much -/
def LeN : List Int → List Int → Prop
  | [], [] => True
  | s :: n, t :: m => s ≤ t ∧ LeN n m
  | _, _ => False
theorem LeN.refl : ∀ n : List Int, LeN n n
  | [] => trivial
  | _ :: n => ⟨Int.le_refl _, LeN.refl n⟩
theorem LeN.app : ∀ {a b c d : List Int}, LeN a b → LeN c d → LeN (a ++ c) (b ++ d)
  | [], [], _, _, _, h => h
  | _ :: _, _ :: _, _, _, g, h => ⟨g.1, LeN.app g.2 h⟩
  | [], _ :: _, _, _, g, _ => g.elim
  | _ :: _, [], _, _, g, _ => g.elim
theorem LeN.take : ∀ {a b : List Int}, LeN a b → ∀ k, LeN (a.take k) (b.take k)
  | [], [], _, k => by rw [List.take_nil]; trivial
  | _ :: _, _ :: _, _, 0 => trivial
  | _ :: _, _ :: _, g, k + 1 => ⟨g.1, LeN.take g.2 k⟩
  | [], _ :: _, g, _ => g.elim
  | _ :: _, [], g, _ => g.elim
theorem Tn_mono : ∀ {n m : List Int} {G F : Nat → Int}, LeN n m → (∀ k, G k ≤ F k) → ∀ k, Tn n G k ≤ Tn m F k
  | [], [], _, _, _, h, k => h k
  | _ :: n, _ :: m, _, _, g, h, k => by
    show Tn n _ k ≤ Tn m _ k
    exact Tn_mono (n := n) (m := m) g.2 (T_mono g.1 h) k
  | [], _ :: _, _, _, g, _, _ => g.elim
  | _ :: _, [], _, _, g, _, _ => g.elim
theorem tot_mono {n n' : List Int} {r : List Run} {m : Int} (v : Vd m r) (hm : 1 ≤ m) (hn : ∀ s ∈ n, 0 ≤ s) (hn' : ∀ s ∈ n', 0 ≤ s) (g : LeN n n') : tot r n ≤ tot r n' := by
  rw [tot_is v hm hn, tot_is v hm hn']
  exact Tn_mono g (fun _ => Int.le_refl _) 0
/-- hours of plenty -/
theorem Tn_plenty {s : Int} : ∀ (k : Nat) {G : Nat → Int}, (∀ h, G (h + 1) ≤ G h + s) → ∀ j, Tn (List.replicate k s) G j = G (j + k)
  | 0, _, _, _ => rfl
  | k + 1, G, g, j => by
    show Tn (List.replicate k s) (T s G) j = _
    have e : T s G = fun h => G (h + 1) := by
      funext h
      have := g h
      unfold T
      omega
    rw [e, Tn_plenty k (G := fun h => G (h + 1)) (fun h => g (h + 1)) j]
    show G (j + k + 1) = G (j + (k + 1))
    rw [Nat.add_assoc]
theorem Vd.top {r : List Run} {m : Int} (v : Vd m r) : Vd (top r + 1) r := by
  cases r with
  | nil => trivial
  | cons q r => exact ⟨v.1, by show q.1 < q.1 + 1; omega, v.2.2⟩
theorem tot_plenty {r : List Run} {m s : Int} (v : Vd m r) (hm : 1 ≤ m) (hs : top r ≤ s) (k : Nat) : tot r (List.replicate k s) = rch r (k : Int) := by
  have t0 := (top_lt v hm).1
  rw [tot_is v hm (fun z hz => by rw [List.eq_of_mem_replicate hz]; omega), Tn_plenty k (fun h => ?_) 0, Nat.zero_add]
  · rfl
  · have := (rch_step (h := (h : Int)) v (by omega)).2
    show rch r ((h + 1 : Nat) : Int) ≤ rch r (h : Int) + s
    rw [show ((h + 1 : Nat) : Int) = (h : Int) + 1 by omega]
    omega
theorem top_bhN {r : List Run} {m : Int} {n : List Int} (v : Vd m r) (hm : 1 ≤ m) (hn : ∀ s ∈ n, 0 ≤ s) : top (bhN r n) ≤ top r := by
  have t0 := (top_lt v hm).1
  have := (top_lt (bhN_vd v.top (by omega) hn) (by omega)).2
  omega
/-- a run put behind the others -/
def put (r : List Run) (s t : Int) : List Run := if s = 0 ∨ t = 0 then r else match r.getLast? with
  | some q => if q.1 = s then r.dropLast ++ [(s, t + q.2)] else r ++ [(s, t)]
  | none => r ++ [(s, t)]
theorem put_cons {q : Run} {A : List Run} {s t : Int} (h : q.1 ≠ s) : put (q :: A) s t = q :: put A s t := by
  unfold put
  by_cases e : s = 0 ∨ t = 0
  · rw [if_pos e, if_pos e]
  · rw [if_neg e, if_neg e]
    cases A with
    | nil =>
      show (if q.1 = s then _ else _) = _
      rw [if_neg h]
      rfl
    | cons a A =>
      rw [List.getLast?_cons_cons]
      cases e2 : (a :: A).getLast? with
      | none => rw [List.getLast?_eq_none_iff] at e2; cases e2
      | some z =>
        show (if z.1 = s then _ else _) = _ :: (if z.1 = s then _ else _)
        split
        · rfl
        · rfl
theorem put_nil {s t : Int} (h : s ≠ 0) : put [] s t = one s t := by
  unfold put one
  by_cases e : t = 0
  · rw [if_pos (.inr e), if_pos e]
  · rw [if_neg (fun z => z.elim h e), if_neg e]
    rfl
/-- so many runs are at least x -/
def cnt (x : Int) (r : List Run) : Nat := (r.filter fun q => decide (x ≤ q.1)).length
theorem cnt_zero : ∀ {r : List Run} {m x : Int}, Vd m r → m ≤ x → cnt x r = 0
  | [], _, _, _, _ => rfl
  | q :: r, m, x, v, h => by
    have k := v.2.1
    unfold cnt
    rw [List.filter_cons_of_neg (by simp; omega)]
    exact cnt_zero v.2.2.2 (by omega)
theorem cnt_cons {q : Run} {r : List Run} {x : Int} (h : x ≤ q.1) : cnt x (q :: r) = cnt x r + 1 := by
  unfold cnt
  rw [List.filter_cons_of_pos (by simpa using h)]
  rfl
/-- the row behind a sum, run by run -/
def tkp (x : Int) (r : List Run) : List Run :=
  let n := cnt x r
  let q := (r[n - 1]?).getD (0, 0)
  let p := (r[n]?).getD (0, 1)
  put (put (put (r.take (n - 1)) q.1 (q.2 - 1)) (q.1 + p.1 - x) 1) p.1 (p.2 - 1) ++ r.drop (n + 1)
theorem tkp_is : ∀ {r : List Run} {m x : Int}, Vd m r → 1 ≤ x → x ≤ top r → tkp x r = tkc x r
  | [], _, _, _, h1, h2 => by
    have : _ ≤ (0 : Int) := h2
    omega
  | [q], m, x, v, h1, h2 => by
    have h2 : x ≤ q.1 := h2
    have k1 := v.1
    have c : cnt x [q] = 1 := cnt_cons h2
    unfold tkp tkc
    rw [c]
    show put (put (put [] q.1 (q.2 - 1)) (q.1 + 0 - x) 1) 0 (1 - 1) ++ [] = _
    rw [put_nil (by omega), List.append_nil, show q.1 + 0 - x = q.1 - x by omega]
    have z : ∀ r, put r 0 (1 - 1) = r := fun r => if_pos (.inl rfl)
    rw [z]
    by_cases e : q.1 = x
    · rw [if_pos e, List.append_nil]
      exact if_pos (.inl (by omega))
    · rw [if_neg e]
      unfold one
      by_cases e2 : q.2 - 1 = 0
      · rw [if_pos e2]
        show put [] (q.1 - x) 1 = [(q.1 - x, 1)]
        rw [put_nil (by omega)]
        rfl
      · rw [if_neg e2]
        show put [(q.1, q.2 - 1)] (q.1 - x) 1 = [(q.1, q.2 - 1), (q.1 - x, 1)]
        rw [put_cons (by show q.1 ≠ q.1 - x; omega), put_nil (by omega)]
        rfl
  | q :: p :: B, m, x, v, h1, h2 => by
    have h2 : x ≤ q.1 := h2
    have k1 := v.1
    have k2 := v.2.2.1
    have k3 := v.2.2.2.1
    have k4 := v.2.2.2.2.1
    have k5 := v.2.2.2.2.2.1
    by_cases e : x ≤ p.1
    · have ih := tkp_is v.2.2.2 h1 e
      have c1 : cnt x (q :: p :: B) = cnt x (p :: B) + 1 := cnt_cons h2
      have c2 : cnt x (p :: B) = cnt x B + 1 := cnt_cons e
      unfold tkc
      rw [if_pos e, ← ih]
      unfold tkp
      rw [c1, c2]
      show put (put (put (q :: (p :: B).take (cnt x B)) _ _) _ 1) _ _ ++ _ = _
      -- the runs that are looked up
      have y1 : (q :: p :: B)[cnt x B + 1 + 1 - 1]? = (p :: B)[cnt x B]? := rfl
      have y2 : (q :: p :: B)[cnt x B + 1 + 1]? = (p :: B)[cnt x B + 1]? := rfl
      have y3 : (p :: B)[cnt x B + 1 - 1]? = (p :: B)[cnt x B]? := rfl
      rw [y1, y2]
      show _ = q :: (put (put (put ((p :: B).take (cnt x B)) (((p :: B)[cnt x B]?).getD (0, 0)).1 _) _ 1) _ _ ++ _)
      -- all of them are below q
      have low : ∀ {r : List Run} {m' : Int}, Vd m' r → ∀ a ∈ r, a.1 < m' := fun {r} => by
        induction r with
        | nil => intro _ _ a ha; cases ha
        | cons b r ih =>
          intro m' w a ha
          rcases List.mem_cons.mp ha with rfl | ha
          · exact w.2.1
          · have := ih w.2.2.2 a ha
            have := w.2.1
            omega
      have lowx : ∀ {r : List Run} {m' : Int} {i : Nat}, Vd m' r → cnt x r = i → ∀ a, r[i]? = some a → a.1 < x := fun {r} => by
        induction r with
        | nil => intro _ _ _ _ a ha; cases ha
        | cons b r ih =>
          intro m' i w hi a ha
          by_cases g : x ≤ b.1
          · rw [cnt_cons g] at hi
            subst hi
            exact ih w.2.2.2 rfl a ha
          · have : cnt x (b :: r) = 0 := by
              unfold cnt
              rw [List.filter_cons_of_neg (by simpa using g)]
              exact cnt_zero w.2.2.2 (by omega)
            rw [this] at hi
            subst hi
            cases ha
            omega
      have geA : ∀ {r : List Run} {m' : Int} {i : Nat}, Vd m' r → cnt x r = i + 1 → ∃ a, r[i]? = some a ∧ x ≤ a.1 := fun {r} => by
        induction r with
        | nil => intro _ _ _ hi; cases hi
        | cons b r ih =>
          intro m' i w hi
          by_cases g : x ≤ b.1
          · rw [cnt_cons g] at hi
            cases i with
            | zero => exact ⟨b, rfl, g⟩
            | succ i =>
              obtain ⟨a, ha, hx⟩ := ih (i := i) w.2.2.2 (by omega)
              exact ⟨a, ha, hx⟩
          · have : cnt x (b :: r) = 0 := by
              unfold cnt
              rw [List.filter_cons_of_neg (by simpa using g)]
              exact cnt_zero w.2.2.2 (by omega)
            rw [this] at hi
            cases hi
      obtain ⟨a, ha, hxa⟩ := geA v.2.2.2 c2
      have ha' : (p :: B)[cnt x B + 1 - 1]? = some a := ha
      rw [ha, ha']
      have la := low v.2.2.2 a (List.mem_of_getElem? ha)
      cases hb : (p :: B)[cnt x B + 1]? with
      | none =>
        show put (put (put (q :: (p :: B).take (cnt x B)) a.1 (a.2 - 1)) (a.1 + 0 - x) 1) 0 (1 - 1) ++ _ = q :: (put (put (put ((p :: B).take (cnt x B)) a.1 (a.2 - 1)) (a.1 + 0 - x) 1) 0 (1 - 1) ++ _)
        rw [put_cons (by omega), put_cons (by omega), put_cons (by omega)]
        rfl
      | some b =>
        have lb := lowx v.2.2.2 c2 b hb
        have lb2 := low v.2.2.2 b (List.mem_of_getElem? hb)
        show put (put (put (q :: (p :: B).take (cnt x B)) a.1 (a.2 - 1)) (a.1 + b.1 - x) 1) b.1 (b.2 - 1) ++ _ = q :: (put (put (put ((p :: B).take (cnt x B)) a.1 (a.2 - 1)) (a.1 + b.1 - x) 1) b.1 (b.2 - 1) ++ _)
        rw [put_cons (by omega), put_cons (by omega), put_cons (by omega)]
        rfl
    · have c : cnt x (q :: p :: B) = 1 := by
        rw [cnt_cons h2]
        have : cnt x (p :: B) = 0 := by
          unfold cnt
          rw [List.filter_cons_of_neg (by simpa using e)]
          exact cnt_zero v.2.2.2.2.2.2 (by omega)
        rw [this]
      unfold tkp tkc
      rw [c, if_neg e]
      show put (put (put [] q.1 (q.2 - 1)) (q.1 + p.1 - x) 1) p.1 (p.2 - 1) ++ B = _
      rw [put_nil (by omega)]
      have mid : put (one q.1 (q.2 - 1)) (q.1 + p.1 - x) 1 = one q.1 (q.2 - 1) ++ [(q.1 + p.1 - x, 1)] := by
        unfold one
        split
        · rw [put_nil (by omega)]
          rfl
        · rw [put_cons (by show q.1 ≠ q.1 + p.1 - x; omega), put_nil (by omega)]
          rfl
      have pc : ∀ (z : Run) (s t : Int), put (one q.1 (q.2 - 1) ++ [z]) s t = one q.1 (q.2 - 1) ++ put [z] s t ∨ q.1 = s := fun z s t => by
        unfold one
        split
        · exact .inl rfl
        · by_cases g : q.1 = s
          · exact .inr g
          · exact .inl (put_cons g)
      rw [mid]
      rcases pc (q.1 + p.1 - x, 1) p.1 (p.2 - 1) with g | g
      · rw [g, List.append_assoc]
        congr 1
        by_cases e2 : q.1 = x
        · rw [if_pos e2]
          by_cases e3 : p.2 - 1 = 0
          · rw [show put [(q.1 + p.1 - x, 1)] p.1 (p.2 - 1) = [(q.1 + p.1 - x, 1)] from if_pos (.inr e3)]
            show (q.1 + p.1 - x, (1 : Int)) :: B = p :: B
            rw [show q.1 + p.1 - x = p.1 by omega, show (1 : Int) = p.2 by omega]
          · unfold put
            rw [if_neg (by omega)]
            show (if q.1 + p.1 - x = p.1 then [] ++ [(p.1, p.2 - 1 + 1)] else _) ++ B = _
            rw [if_pos (by omega), show p.2 - 1 + 1 = p.2 by omega]
            rfl
        · rw [if_neg e2, put_cons (by show q.1 + p.1 - x ≠ p.1; omega), put_nil (by omega)]
          rfl
      · omega
end RM

/-! COULD by a rule of hours -/
namespace Y
open PySem PySem.Spec PyProof.Rows L2 Ns
section
variable {X : Cx}
/-- t[lo:hi]: a tuple with these items -/
def rSlU (K : PySem.W.Frag) : V → Option Int → Option Int → Hp → VK → Prop := fun x lo hi H Q => ∃ a xs, x = .ref a ∧ SqT K H a xs ∧ ∀ (p : Addr) (H' : Hp), Same H H' → SqT K H' p (cutV xs lo hi) → Q (.ref p) H'
theorem sl_tupU : SlR X (rSlU X.K) := by
  intro pins s σ H x v vl vu lo hi sl Q I rx hs pl pu h
  obtain ⟨a, xs, rfl, hx, q⟩ := h
  refine sl_tupA pins s σ H _ v vl vu lo hi sl Q I rx hs pl pu ⟨a, xs, rfl, hx, fun hw => ?_, fun _ p hp => q p _ (fun b o e => by rw [upd_ne (ne_of_none e hp)]; exact e) (SqT.of upd_same)⟩
  refine q a H (Same.refl H) ?_
  have e : cutV xs lo hi = xs := by
    unfold cutV
    rw [hw.1, hw.2, List.drop_zero, Nat.sub_zero, List.take_length]
  rw [e]
  exact hx
end
/-- the least so far -/
def bst (f : Nat → Int) : Nat → Int
  | 0 => f 0
  | k + 1 => mn (bst f k) (f (k + 1))
theorem bst_least (f : Nat → Int) : ∀ m, RM.LeastOf (bst f m) m f
  | 0 => ⟨⟨0, Nat.le_refl _, rfl⟩, fun h hh => by rw [Nat.le_zero.mp hh]; exact Int.le_refl _⟩
  | m + 1 => by
    obtain ⟨⟨h, h1, h2⟩, h3⟩ := bst_least f m
    show RM.LeastOf (mn (bst f m) (f (m + 1))) (m + 1) f
    unfold mn
    split
    · refine ⟨⟨m + 1, Nat.le_refl _, rfl⟩, fun k hk => ?_⟩
      rcases Nat.lt_or_ge k (m + 1) with z | z
      · have := h3 k (by omega)
        omega
      · rw [show k = m + 1 by omega]
        exact Int.le_refl _
    · refine ⟨⟨h, by omega, h2⟩, fun k hk => ?_⟩
      rcases Nat.lt_or_ge k (m + 1) with z | z
      · exact h3 k (by omega)
      · rw [show k = m + 1 by omega]
        omega
theorem least_one {a b : Int} {m : Nat} {f : Nat → Int} (h : RM.LeastOf a m f) (g : RM.LeastOf b m f) : a = b := by
  obtain ⟨⟨i, i1, i2⟩, i3⟩ := h
  obtain ⟨⟨j, j1, j2⟩, j3⟩ := g
  have := i3 j j1
  have := j3 i i1
  omega
/-- COULD of a rule and the first m hours -/
def cdv (fR : Nat → Int) (ns : List Int) (m : Nat) : Int := RM.Tn (ns.take m) fR 0
theorem cdv_is {fR : Nat → Int} {ns ms : List Int} {m : Nat} (hm : m ≤ ns.length) (p : ms.Perm (ns.take m)) (s : ms.Pairwise (· ≤ ·)) : bst (fun h => fR h + (ms.take (m - h)).sum) m = cdv fR ns m := by
  have l : ms.length = m := by rw [p.length_eq, List.length_take]; omega
  have t := RM.Tn_least fR m ms l s 0
  have e : (fun h => fR (0 + h) + (ms.take (m - h)).sum) = fun h => fR h + (ms.take (m - h)).sum := by
    funext h
    rw [Nat.zero_add]
  rw [e] at t
  unfold cdv
  rw [← RM.Tn_perm p]
  exact least_one (bst_least _ m) t
def cds (fR : Nat → Int) (ns : List Int) : List Int := (List.range (ns.length + 1)).map (cdv fR ns)
section
variable {X : Cx}
theorem scCB : FnScope ["rule", "night", "found", "m", "rows", "best", "h", "total"] ["rule", "night"] (defScope sCouldBy) := ⟨rfl, rfl, rfl, by decide +kernel, rfl, by decide +kernel, by decide +kernel⟩
/-- what the def makes of a rule -/
def TCB (K : PySem.W.Frag) : V → (V → Hp → VK → Prop) → Hp → VK → Prop := fun v2 tl H Q => ∃ (nt : Addr) (ns : List Int) (fR : Nat → Int), v2 = .ref nt ∧ SqT K H nt (ns.map V.int) ∧ ns.length ≤ 100 ∧ (∀ (h : Nat) (H' : Hp) (Q' : VK), Same H H' → Q' (.int (fR h)) H' → tl (.int h) H' Q') ∧
  ∀ (p : Addr) (H' : Hp), H' p = some (.lst ((cds fR ns).map V.int)) → H p = none → Same H H' → Q (.ref p) H'
theorem gives_couldBy {g : Addr} {cdg : Value} {q : Str} (T : Nat0 X.mg) : LamP.Gives1 X ["rule", "night", "found", "m", "rows", "best", "h", "total"] "_law_could_by" (defScope sCouldBy) g cdg (defBody sCouldBy) "rule" 0 q (TCB X.K) := by
  intro f c' s H Q v2 tl act hc h
  obtain ⟨prog, w, K, mg, base, A, N0, s0, H0, env, outer, stack, ex, fn, calm, pn, xe⟩ := X
  have T : Nat0 mg := T
  obtain ⟨nt, ns, fR, rfl, hN, l100, rule, k⟩ := h
  refine ⟨_, (pss_cons (ps_set (i := 2) scCB.nd rfl (.inl rfl) (pe_lst pa_nil))
      (pss_cons (ps_for PassesOwn.never rfl (pi_range1 (by rfl) T.range (pa_cons (pe_op op_add (pe_callB call_len_seq (by rfl) T.len PySem.boot_len (pa_cons (pv 1) pa_nil)) pe_int) pa_nil)) (pg_name (i := 3) scCB.nd rfl (.inl rfl))
      (pss_cons (ps_par (i := 4) (j := 5) rfl scCB.nd rfl rfl (by decide) rfl rfl (pa_cons (pe_callB cr_sortedTI (by rfl) T.sorted (by decide +kernel) (pa_cons (pe_slice sl_tupU (pv 1) po_none (po_some (pv 3))) pa_nil)) (pa_cons pe_non pa_nil)) (by rfl))
      (pss_cons (ps_for PassesOwn.never rfl (pi_range1 (by rfl) T.range (pa_cons (pe_op op_add (pv 3) pe_int) pa_nil)) (pg_name (i := 6) scCB.nd rfl (.inl rfl))
      (pss_cons (ps_set (i := 7) scCB.nd rfl (.inl rfl) (pe_op op_add (act _ _ _ _ (pa_cons (pv 6) pa_nil) (fun _ => rfl)) (pe_callB (cr_sum rfl) (by rfl) T.sum (by decide +kernel) (pa_cons (pe_slice sl_list (pv 4) po_none (po_some (pe_op op_sub (pv 3) (pv 6)))) pa_nil))))
      (pss_one (ps_set (i := 5) scCB.nd rfl (.inl rfl) (pe_ifExp (pt_cmpR op_isN (pv 5) pe_non (nomark _)) (pv 7) (pe_callB (call_min2 rfl) (by rfl) T.min (by decide +kernel) (pa_cons (pv 5) (pa_cons (pv 7) pa_nil))))))))
      (pss_one (ps_expr (pe_bm PySem.F.plainAttrs_list PySem.F.slot_list_append PySem.F.type_list_append mt_append (pv 2) (pa_cons (pv 5) pa_nil)))))))
      (pss_one (ps_ret (pv 2))))), ?_⟩
  have ln : (ns.map V.int).length = ns.length := List.length_map _
  refine ⟨by show 0 ≤ sizeLine; decide, fun p hp => ?_⟩
  have m0 := same_new (o := .lst []) (Same.refl H) hp
  have e0 : upd H p (.lst []) p = some (.lst []) := upd_same
  generalize upd H p (.lst []) = H0' at m0 e0 ⊢
  refine ⟨_, rfl, nt, _, rfl, .inr (sqt_more m0 hN), _, _, rfl, rfl, ?_⟩
  refine ⟨_, rfl, by omega, by omega, for_range (n := (((ns.map V.int).length : Int) + 1).toNat) (fun i σ H' => ∃ v3 v4 v5 v6 v7 : Option V, σ = [some (.ref f), some (.ref nt), some (.ref p), v3, v4, v5, v6, v7] ∧ H' p = some (.lst (((List.range i).map (cdv fR ns)).map V.int)) ∧ Same H H') ?_ ?_ ?_⟩
  · exact ⟨none, none, none, none, none, rfl, e0, m0⟩
  · rintro i σ H' hi ⟨v3, v4, v5, v6, v7, rfl, q1, q2⟩
    have hi' : i ≤ ns.length := by omega
    rw [Int.zero_add]
    have ecut : cutV (ns.map V.int) none (some (i : Int)) = (ns.take i).map V.int := by rw [cut_upto, List.map_take]
    refine ⟨_, rfl, _, rfl, _, rfl, nt, _, rfl, sqt_more q2 hN, fun t H1 mt ht => ⟨t, ns.take i, rfl, by rw [← ecut]; exact ht, fun ms r pm srt hr => ⟨_, _, rfl, ?_⟩⟩⟩
    have M := same_new (o := .lst (ms.map V.int)) (q2.trans mt) hr
    have p1 : upd H1 r (.lst (ms.map V.int)) p = some (.lst (((List.range i).map (cdv fR ns)).map V.int)) := by rw [upd_ne (ne_of_none (mt _ _ q1) hr)]; exact mt _ _ q1
    have r1 : upd H1 r (.lst (ms.map V.int)) r = some (.lst (ms.map V.int)) := upd_same
    generalize upd H1 r (.lst (ms.map V.int)) = H2 at M p1 r1 ⊢
    have lm : ms.length = i := by rw [pm.length_eq, List.length_take]; omega
    have lm2 : (ms.map V.int).length = i := by rw [List.length_map, lm]
    have fin := cdv_is (fR := fR) hi' pm srt
    refine ⟨_, rfl, _, _, rfl, rfl, ?_⟩
    refine ⟨_, rfl, by omega, by omega, for_range (n := ((i : Int) + 1).toNat) (fun j σ H' => ∃ (w5 w6 w7 : Option V), σ = [some (.ref f), some (.ref nt), some (.ref p), some (.int i), some (.ref r), w5, w6, w7] ∧ Same H2 H' ∧ w5 = (match j with | 0 => some V.non | j + 1 => some (.int (bst (fun h => fR h + (ms.take (i - h)).sum) j)))) ?_ ?_ ?_⟩
    · exact ⟨_, _, _, rfl, Same.refl H2, rfl⟩
    · rintro j σ H' hj ⟨w5, w6, w7, rfl, mm, e5⟩
      have hj' : j ≤ i := by omega
      rw [Int.zero_add]
      refine ⟨rfl, _, rfl, _, rfl, mm _ _ (M _ _ hc), rule j _ _ (M.trans mm) ?_⟩
      have ec : cutV (ms.map V.int) none (some ((i : Int) - (j : Int))) = (ms.take (i - j)).map V.int := by rw [show (i : Int) - (j : Int) = ((i - j : Nat) : Int) by omega, cut_upto, List.map_take]
      refine ⟨_, rfl, _, rfl, _, rfl, _, _, rfl, rfl, _, rfl, r, _, rfl, SqL.of (mm _ _ r1), fun q hq => ?_⟩
      rw [ec]
      have M3 := same_new (o := .lst ((ms.take (i - j)).map V.int)) mm hq
      refine ⟨q, ms.take (i - j), rfl, SqL.of upd_same, _, _, rfl, rfl, ?_⟩
      cases j with
      | zero =>
        subst e5
        refine ⟨_, rfl, rfl, _, rfl, ?_⟩
        refine ite2 (fun _ => ?_) (fun z => absurd rfl z)
        refine ⟨_, rfl, _, _, _, rfl, M3, rfl⟩
      | succ j =>
        subst e5
        refine ⟨_, rfl, rfl, _, rfl, ?_⟩
        refine ite2 (fun z => by cases (of_decide_eq_true z)) (fun _ => ?_)
        refine ⟨_, rfl, _, rfl, _, _, rfl, _, _, _, rfl, M3, ?_⟩
        rfl
    rintro σ H' ⟨w5, w6, w7, rfl, mm, e5⟩
    rw [show ((i : Int) + 1).toNat = i + 1 by omega] at e5
    have e5 : w5 = some (.int (bst (fun h => fR h + (ms.take (i - h)).sum) i)) := e5
    subst e5
    rw [fin]
    refine ⟨_, rfl, .inl ⟨rfl, _, SqL.of (mm _ _ p1)⟩, _, rfl, p, _, _, rfl, rfl, mm _ _ p1, ?_, _, _, _, _, _, rfl, ?_, same_put (M.trans mm) hp⟩
    · rw [List.length_map, List.length_map, List.length_range]
      exact small1000 (by omega)
    · have e : (List.range (i + 1)).map (cdv fR ns) = (List.range i).map (cdv fR ns) ++ [cdv fR ns i] := by
        rw [List.range_succ, List.map_append]
        rfl
      rw [upd_same, int_row, e]
  rintro σ H' ⟨v3, v4, v5, v6, v7, rfl, q1, q2⟩
  rw [show (((ns.map V.int).length : Int) + 1).toNat = ns.length + 1 by omega] at q1
  exact ⟨_, rfl, k p H' q1 hp q2⟩
end
end Y

/-! NsL: the end of a law over a guarded def, some of whose helpers make lambdas. -/
namespace Ns
open PySem PySem.Spec PyProof.Rows L2 LamX
/-- what such a law promises: the helpers' tables are empty at its entry -/
def spTopT (K : PySem.W.Frag) (cs : List (Addr × Addr)) : Sp := fun as H Q _ => ∃ (a : Addr) (ns : List Int), as = [.ref a] ∧ SqL K H a (ns.map V.int) ∧ ns.length ≤ 63 ∧ (∀ p ∈ cs, H p.2 = some (.tbl #[])) ∧ ∀ H', Q (.bl true) H'
/-- the code objects of helpers, their tables outside of what is read -/
structure Makers (K : PySem.W.Frag) (h : Heap) (cs : List (Addr × Addr)) : Prop where
  hd : ∀ p ∈ cs, PySem.W.codeHdIn K p.1 p.2 = true
  out : ∀ p ∈ cs, K.lookup p.2 = none
  mt : ∀ p ∈ cs, h.get? p.2 = some { cls := .none, data := .fields #[] }
theorem entry_tabs {P : Program} {w : World} {K : PySem.W.Frag} {mg mb : Str → Option Value} {k : Nat} {fa a : Addr} {fd : FuncData} {s : Shared} {vs : List Value} {ns : List Int} {cs : List (Addr × Addr)} (M : Makers K s.heap cs) (kin : K.In s.heap) (gl : s.heap.Ns mainGlobals mg)
    (bl : s.heap.Ns builtinsNs mb) (bb : ∀ x : Str, x ≠ "__name__" → mb x = bootBuiltins x) (nl : s.heap.NoLimit) (ge : s.gens = #[]) (sc : s.heap.get? a = some { cls := .type "list", data := .seq vs.toArray }) (l63 : ns.length ≤ 63)
    (bm : ∃ (m : Addr) (ob : Obj), mg "__builtins__" = some (.ref m) ∧ m ≠ builtinsNs ∧ s.heap.get? m = some ob ∧ ob.cls = .type "module" ∧ ob.dict = some builtinsNs ∧ ob.data = .plain)
    (hr : Room k callerA) (F : ∀ base : Heap, K.In base → base.Ns mainGlobals mg → (∀ p ∈ cs, TabB base mg p.1 p.2) → GnOk P w K mg base k fa fd ["script"] (spTopT K cs)) (bd : ∀ (z : Shared) (u : Value), BindsTo z fd ⟨[u], []⟩ [("script", u)])
    (H : Hp) (only : ∀ b o, H b = some o → (b = a ∧ ∃ ob xs, o = .frz ob (.lst xs)) ∨ (b ∈ cs.map (·.2) ∧ o = .tbl #[])) (tabs : ∀ p ∈ cs, H p.2 = some (.tbl #[])) (free : H a ≠ none → K.lookup a = none) (hok : HOk P w H s.heap) (sq : SqL K H a (ns.map V.int)) :
    codeAny (model P w) callerA (.call (.ref fa) ⟨[.ref a], []⟩) (fun r s' => r = .ok (.ret (.bool true)) ∧ OldK s.heap s'.heap ∧ s'.os = s.os ∧ AllBare s'.gens) s := by
  have tabAt : ∀ {b : Addr}, b ∈ cs.map (·.2) → ∃ p ∈ cs, p.2 = b ∧ s.heap.get? b = some { cls := .none, data := .fields #[] } := by
    intro b hb
    obtain ⟨p, hp, rfl⟩ := List.mem_map.mp hb
    exact ⟨p, hp, rfl, M.mt p hp⟩
  -- an object that is neither the script nor a table is not told of
  have un0 : ∀ {b : Addr} {o : Obj}, s.heap.get? b = some o → (∀ us n, o.data ≠ .seq us n) → o.data ≠ .fields #[] → H b = none := by
    intro b o e n1 n2
    cases q : H b with
    | none => rfl
    | some u =>
      rcases only b u q with ⟨rfl, _⟩ | ⟨hb, _⟩
      · rw [sc] at e
        cases e
        exact absurd rfl (n1 _ _)
      · obtain ⟨_, _, _, e2⟩ := tabAt hb
        rw [e2] at e
        cases e
        exact absurd rfl n2
  have ns' : ∀ {b : Addr} {m : Str → Option Value}, s.heap.Ns b m → (hidT s.heap H).Ns b m := by
    rintro b m ⟨o, es, n, e, d, r⟩
    exact ⟨o, es, n, hidT_get e (un0 e (fun us n z => by rw [d] at z; cases z) (fun z => by rw [d] at z; cases z)), d, r⟩
  have kin' : K.In (hidT s.heap H) := by
    intro b o e
    refine hidT_get (kin b o e) ?_
    cases q : H b with
    | none => rfl
    | some u =>
      rcases only b u q with ⟨rfl, _⟩ | ⟨hb, _⟩
      · rw [free (by rw [q]; exact fun z => nomatch z)] at e
        cases e
      · obtain ⟨p, hp, rfl, _⟩ := tabAt hb
        rw [M.out p hp] at e
        cases e
  have md : Mod K mg (hidT s.heap H) := by
    obtain ⟨mc, n1, n2⟩ := nl
    exact { kin := kin', glob := ns' gl, blt := ⟨mb, ns' bl, bb⟩, nolimit := ⟨mc, ns' n1, n2⟩ }
  have tb : ∀ p ∈ cs, TabB (hidT s.heap H) mg p.1 p.2 := fun p hp => by
    obtain ⟨m, ob, b1, b2, b3, b4, b5, b6⟩ := bm
    obtain ⟨og, es, n, eg, dg, _⟩ := gl
    have pt := M.mt p hp
    have q1 : m ≠ mainGlobals := fun z => by
      rw [z, eg] at b3
      cases b3
      rw [dg] at b6
      cases b6
    have q2 : m ≠ p.2 := fun z => by
      rw [z, pt] at b3
      cases b3
      cases b6
    have q3 : mainGlobals ≠ p.2 := fun z => by
      rw [z, pt] at eg
      cases eg
      cases dg
    exact { code := PySem.W.codeHd_of_K kin' (M.hd p hp), gP := q3
            bm := ⟨m, ob, b1, b2, q1, q2, hidT_get b3 (un0 b3 (fun us n z => by rw [b6] at z; cases z) (fun z => by rw [b6] at z; cases z)), b4, b5, b6⟩ }
  have e0 : Env0 P w K mg (hidT s.heap H) callerA [] s H :=
    { frames := rfl, mod := md, bs := fun b o e => of_hidT e, bsz := Nat.le_of_eq (hidT_size _ _), funs := trivial, frf := fun b hb => (List.not_mem_nil hb).elim, hok := hok, bare := .of_eq ge }
  have run := (F _ kin' (ns' gl) tb).grun callerA [] s H ⟨[.ref a], []⟩ [.ref a] [.ref a] (fun v _ => v = .bl true) E0 hr rfl e0 (bd s (.ref a)) (.cons rfl .nil) ⟨a, ns, rfl, sq, l63, tabs, fun _ => rfl⟩
  refine codeAny_mono run fun r s' h => ?_
  match r, h with
  | .error _, h => exact (show False from h).elim
  | .ok .next, h => exact (show False from h).elim
  | .ok .brk, h => exact (show False from h).elim
  | .ok .cont, h => exact (show False from h).elim
  | .ok (.ret u), ⟨v, H', o', bare, un, hok', rv, q⟩ =>
    have q' : v = .bl true := q
    rw [q'] at rv
    have eu : u = Value.bool true := rv
    rw [eu]
    have stays : ∀ b o, s.heap.get? b = some o → s'.heap.get? b = some o ∨ ∃ p ∈ cs, p.2 = b ∧ o = { cls := .none, data := .fields #[] } ∧ ∃ more : Array Value, s'.heap.get? b = some { cls := .none, data := .fields more } := by
      intro b o e
      cases z : H b with
      | none => exact .inl (un.keep b o e z (fun y => List.not_mem_nil y) List.not_mem_nil)
      | some u' =>
        rcases only b u' z with ⟨_, ob, xs, rfl⟩ | ⟨hb, rfl⟩
        · refine .inl ?_
          have h1 : s.heap.get? b = some ob := (hok b _ z).1
          have h2 : s'.heap.get? b = some ob := (hok' b _ (un.frzs b ob _ z)).1
          rw [e] at h1
          cases h1
          exact h2
        · obtain ⟨p, hp, ep, e2⟩ := tabAt hb
          rw [e] at e2
          cases e2
          obtain ⟨more, g⟩ := un.tbls b #[] z
          exact .inr ⟨p, hp, ep, rfl, _, hok' b _ g⟩
    refine ⟨rfl, ⟨fun b o e => ?_, fun b o e => ?_⟩, o', bare⟩
    · rcases stays b o e with g | ⟨p, hp, rfl, rfl, more, g⟩
      · exact .inl g
      · have ct := (PySem.W.codeHd_of_K kin (M.hd p hp)).tab (M.mt p hp)
        exact .inr (.inl ⟨ct.isCodeTable, rfl, #[], more, rfl, by rw [Array.empty_append]; exact g⟩)
    · rcases stays b o e with g | ⟨_, _, _, _, more, g⟩
      · exact ⟨_, g⟩
      · exact ⟨_, g⟩
end Ns

namespace Ns
open PySem PySem.Spec PyProof.Rows L2 LamX
/-- the helper's code and table, by its name -/
def MakerOf (q : Program) (K : PySem.W.Frag) (p : Addr × Addr) : Prop := ∃ (x : Str) (d : DefRec), (recsOf q).find? (fun e => e.name == x) = some d ∧ PySem.W.tabIn K x = some p ∧ PySem.W.codeHdIn K p.1 p.2 = true ∧ K.lookup p.2 = none
theorem walk_ofGT {l : PySem.W.OpenLaw} {k : Nat} {q : Program} {loose : List Str} {XP : (Str → Option Value) → Heap → Prop} {YP : World → Heap → Prop} {d : DefRec} {K : Params → PySem.W.Frag} (hn : l.most = some 63) (hdf : d.params.defaults = []) (hr : Room k callerA)
    (hY : ∀ (w : World) (h : Heap), YP w h → (K w.params).In h)
    (F : ∀ (w : World) (mg : Str → Option Value) (fa : Addr) (h : Heap), (K w.params).In h → h.Ns mainGlobals mg → mg d.name = some (.ref fa) →
      ∃ (fd : FuncData) (cs : List (Addr × Addr)), (∀ p ∈ cs, MakerOf q (K w.params) p) ∧ (∀ (z : Shared) (u : Value), BindsTo z fd ⟨[u], []⟩ [("script", u)]) ∧
        ∀ base : Heap, (K w.params).In base → base.Ns mainGlobals mg → (∀ p ∈ cs, TabB base mg p.1 p.2) → GnOk l.prog w (K w.params) mg base k fa fd ["script"] (spTopT (K w.params) cs)) :
    PySem.W.WalkO q loose XP YP l.row.toRowW d [] (fun f vs => PySem.call f vs) := by
  refine Att.attach_call hn hdf ?_
  intro w s0 s mg mb fa o pm cd doc a vs ns G Y ho hd hcd hmg hobj hints hlen hg
  have KX := hY w _ Y
  obtain ⟨fd, cs, mk, bd, hF⟩ := F w mg fa _ KX G.T.g hmg
  have M : Makers (K w.params) s.heap cs := {
    hd := fun p hp => by obtain ⟨_, _, _, _, h, _⟩ := mk p hp; exact h
    out := fun p hp => by obtain ⟨_, _, _, _, _, h⟩ := mk p hp; exact h
    mt := fun p hp => by obtain ⟨x, d', h1, h2, _, _⟩ := mk p hp; exact (PySem.W.tab_of G.T KX h1 h2).2 }
  have rv := L2.vals_ints hints
  have hz : (ns.map V.int).length ≤ sizeLine := by
    rw [List.length_map]
    exact Nat.le_trans hlen (by decide)
  have mem : ∀ p ∈ cs, p.2 ∈ cs.map (·.2) := fun p hp => List.mem_map.mpr ⟨p, hp, rfl⟩
  have isT : ∀ b ∈ cs.map (·.2), s.heap.get? b = some { cls := .none, data := .fields #[] } := fun b hb => by
    obtain ⟨p, hp, rfl⟩ := List.mem_map.mp hb
    exact M.mt p hp
  have go := entry_tabs (P := l.prog) (w := w) (a := a) (ns := ns) (cs := cs) M KX G.T.g G.T.b G.T.builtins G.T.nolimit hg hobj hlen G.T.bmain hr hF bd
  cases hk : (K w.params).lookup a with
  | some ok =>
    have e := KX a ok hk
    rw [hobj] at e
    cases e
    refine go (fun b => if b ∈ cs.map (·.2) then some (.tbl #[]) else none) (fun b u z => ?_) (fun p hp => if_pos (mem p hp)) (fun z => ?_) (fun b u z => ?_) (.inr ⟨_, vs.toArray, _, hk, rfl, rfl, rfl, ?_, by simpa using rv⟩)
    · by_cases hb : b ∈ cs.map (·.2)
      · exact .inr ⟨hb, (Option.some.inj ((if_pos hb).symm.trans z)).symm⟩
      · cases (if_neg hb).symm.trans z
    · refine absurd ?_ z
      refine if_neg fun hb => ?_
      have e := isT a hb
      rw [hobj] at e
      cases e
    · by_cases hb : b ∈ cs.map (·.2)
      · cases (if_pos hb).symm.trans z
        exact isT b hb
      · cases (if_neg hb).symm.trans z
    · rw [List.size_toArray, ← rv.length]
      exact hz
  | none =>
    have na : a ∉ cs.map (·.2) := fun hb => by
      have e := isT a hb
      rw [hobj] at e
      cases e
    have key : ∀ (b : Addr) (u : HO), (if b ∈ cs.map (·.2) then some (HO.tbl #[]) else if b = a then some (HO.frz { cls := .type "list", data := .seq vs.toArray } (.lst (ns.map V.int))) else none) = some u → (b = a ∧ u = HO.frz { cls := .type "list", data := .seq vs.toArray } (.lst (ns.map V.int))) ∨ (b ∈ cs.map (·.2) ∧ u = .tbl #[]) := fun b u z => by
      by_cases hb : b ∈ cs.map (·.2)
      · rw [if_pos hb] at z
        exact .inr ⟨hb, (Option.some.inj z).symm⟩
      · rw [if_neg hb] at z
        by_cases hb2 : b = a
        · rw [if_pos hb2] at z
          exact .inl ⟨hb2, (Option.some.inj z).symm⟩
        · rw [if_neg hb2] at z
          cases z
    refine go (fun b => if b ∈ cs.map (·.2) then some (HO.tbl #[]) else if b = a then some (HO.frz { cls := .type "list", data := .seq vs.toArray } (.lst (ns.map V.int))) else none) (fun b u z => ?_) (fun p hp => if_pos (mem p hp)) (fun _ => hk) (fun b u z => ?_) (.inl (.inr ⟨({ cls := .type "list", data := .seq vs.toArray } : Obj), ?_⟩))
    · rcases key b u z with ⟨h1, h2⟩ | h
      · exact .inl ⟨h1, _, _, h2⟩
      · exact .inr h
    · rcases key b u z with ⟨rfl, rfl⟩ | ⟨hb, rfl⟩
      · exact ⟨hobj, hz, vs, _, rv, hobj⟩
      · exact isT b hb
    · show (if a ∈ cs.map (·.2) then _ else if a = a then _ else none) = _
      rw [if_neg na, if_pos rfl]
end Ns

/-! NsL3: a guarded def whose code object is known. -/
namespace Ns
open PySem PySem.Spec PyProof.Rows L2
theorem Fun.okL {P : Program} {w : World} {K : PySem.W.Frag} {mg : Str → Option Value} {base : Heap} {x qual : Str} {st : Stmt} {f c : Addr} {fd : FuncData} {N ps : List Str} {k : Nat} {sp : Sp} (F : Fun K x qual st f fd) (S : FnScope N ps (defScope st))
    (hc : ∀ (oc : Value) (od : Option Addr) (gd : FuncData) (osl : Array (Option Value)), K.lookup f = some ⟨oc, od, .func gd, osl⟩ → gd.code = .ref c) (len : ∀ as H Q E, sp as H Q E → as.length = ps.length)
    (body : ∀ (A : Around) (outer : List Env) (s : Shared) (H : Hp) (as : List V) (Q : VK) (E : XK), Room k (A.deeper (envOfC qual (defScope st) s.heap.objs.size f (.ref c))) → (A.deeper (envOfC qual (defScope st) s.heap.objs.size f (.ref c))).guards = some [] → sp as H Q E →
      ∃ t, PSs (cxOf CX0 P w K mg base N qual (defScope st) f (.ref c) A outer s H E).nox (defBody st) t ∧ t { nx := fun _ H' => Q .non H', rt := Q } (start N as) H) : GnOk P w K mg base (k + 1) f fd ps sp := by
  obtain ⟨oc, od, kV, doc, pm, an, cdv, ct, osl, rfl, lk, hcd⟩ := F.ex
  have ecd : cdv = .ref c := hc _ _ _ _ lk
  subst ecd
  refine ⟨len, fun A outer s H args us as Q E hr hgd e0 hb r hsp => ?_⟩
  have old : ∀ b o, base.get? b = some o → s.heap.get? b = some o := fun b o z => (e0.bs b o z).1
  have kin : K.In s.heap := e0.mod.kin.keeps old
  refine codeAny_call_function hr.depth (kin _ _ lk) rfl S.co S.gen rfl (PySem.W.codeRec_of kin hcd) (hb _ _ _ _ (wpAny_newFunctionEnv_cells S.kind (fun y hy => ?_) fun env he s1 x => ?_))
  · have hm := (List.of_mem_zip (show (y.1, y.2) ∈ ps.zip us from hy)).1
    exact (S.par y.1 hm).imp (fun z => z) fun z => ⟨z, PySem.W.cellsFrom_some _ _ _ (.inl z)⟩
  · cases he
    refine ⟨(e0.mod.nolimit.keeps old).keeps x.toInCall.keep, codeAny_func ?_⟩
    obtain ⟨t, ht, hq⟩ := body A outer s H as Q E (hr.deeper _) hgd hsp
    have J := inv_start (CX := CX0) (E := E) S hr.hd e0 (len _ _ _ _ hsp) r x
    refine wpAny_mono (ht.nox.run [] s1 (start N as) H _ J hq) (fun fl s' hs => ?_) fun e s' hs => hs
    match fl, hs with
    | .ret u, ⟨v, _, H', J', rv, q⟩ => exact ⟨v, H', J'.os, J'.bare, J'.base, J'.hok, rv, q⟩
    | .next, ⟨_, H', J', q⟩ => exact ⟨V.non, H', J'.os, J'.bare, J'.base, J'.hok, rfl, q⟩
    | .brk, ⟨_, _, _, q⟩ => exact (show False from q).elim
    | .cont, ⟨_, _, _, q⟩ => exact (show False from q).elim
end Ns

namespace Ns
open PySem PySem.Spec PyProof.Rows L2
/-- the code object of a def whose table is known -/
theorem code_of {K : PySem.W.Frag} {x : Str} {f c P : Addr} (ad : PySem.W.nsIn K mainGlobals x = some (some (.ref f))) (ht : PySem.W.tabIn K x = some (c, P)) : ∀ (oc : Value) (od : Option Addr) (gd : FuncData) (osl : Array (Option Value)), K.lookup f = some ⟨oc, od, .func gd, osl⟩ → gd.code = .ref c := by
  intro oc od gd osl lk
  unfold PySem.W.tabIn at ht
  rw [ad] at ht
  simp only [lk] at ht
  split at ht
  · next d hd =>
    split at ht
    · split at ht
      · cases ht
        exact hd
      · cases ht
    · cases ht
  · cases ht
end Ns

namespace Ns
open PySem PySem.Spec PyProof.Rows L2 LamX
theorem walk_ofGM {l : PySem.W.OpenLaw} {k : Nat} {q : Program} {loose : List Str} {XP : (Str → Option Value) → Heap → Prop} {YP : World → Heap → Prop} {d : DefRec} {K : Params → PySem.W.Frag} (hn : l.most = some 63) (hdf : d.params.defaults = []) (hr : Room k callerA)
    (hY : ∀ (w : World) (h : Heap), YP w h → (K w.params).In h)
    (F : ∀ (w : World) (mg : Str → Option Value) (fa : Addr) (h : Heap), YP w h → (K w.params).In h → h.Ns mainGlobals mg → mg d.name = some (.ref fa) →
      ∃ (fd : FuncData) (cs : List (Addr × Addr)), Makers (K w.params) h cs ∧ (∀ (z : Shared) (u : Value), BindsTo z fd ⟨[u], []⟩ [("script", u)]) ∧
        ∀ base : Heap, (K w.params).In base → base.Ns mainGlobals mg → (∀ p ∈ cs, TabB base mg p.1 p.2) → GnOk l.prog w (K w.params) mg base k fa fd ["script"] (spTopT (K w.params) cs)) :
    PySem.W.WalkO q loose XP YP l.row.toRowW d [] (fun f vs => PySem.call f vs) := by
  refine Att.attach_call hn hdf ?_
  intro w s0 s mg mb fa o pm cd doc a vs ns G Y ho hd hcd hmg hobj hints hlen hg
  have KX := hY w _ Y
  obtain ⟨fd, cs, M, bd, hF⟩ := F w mg fa _ Y KX G.T.g hmg
  have rv := L2.vals_ints hints
  have hz : (ns.map V.int).length ≤ sizeLine := by
    rw [List.length_map]
    exact Nat.le_trans hlen (by decide)
  have mem : ∀ p ∈ cs, p.2 ∈ cs.map (·.2) := fun p hp => List.mem_map.mpr ⟨p, hp, rfl⟩
  have isT : ∀ b ∈ cs.map (·.2), s.heap.get? b = some { cls := .none, data := .fields #[] } := fun b hb => by
    obtain ⟨p, hp, rfl⟩ := List.mem_map.mp hb
    exact M.mt p hp
  have go := entry_tabs (P := l.prog) (w := w) (a := a) (ns := ns) (cs := cs) M KX G.T.g G.T.b G.T.builtins G.T.nolimit hg hobj hlen G.T.bmain hr hF bd
  cases hk : (K w.params).lookup a with
  | some ok =>
    have e := KX a ok hk
    rw [hobj] at e
    cases e
    refine go (fun b => if b ∈ cs.map (·.2) then some (.tbl #[]) else none) (fun b u z => ?_) (fun p hp => if_pos (mem p hp)) (fun z => ?_) (fun b u z => ?_) (.inr ⟨_, vs.toArray, _, hk, rfl, rfl, rfl, ?_, by simpa using rv⟩)
    · by_cases hb : b ∈ cs.map (·.2)
      · exact .inr ⟨hb, (Option.some.inj ((if_pos hb).symm.trans z)).symm⟩
      · cases (if_neg hb).symm.trans z
    · refine absurd ?_ z
      refine if_neg fun hb => ?_
      have e := isT a hb
      rw [hobj] at e
      cases e
    · by_cases hb : b ∈ cs.map (·.2)
      · cases (if_pos hb).symm.trans z
        exact isT b hb
      · cases (if_neg hb).symm.trans z
    · rw [List.size_toArray, ← rv.length]
      exact hz
  | none =>
    have na : a ∉ cs.map (·.2) := fun hb => by
      have e := isT a hb
      rw [hobj] at e
      cases e
    have key : ∀ (b : Addr) (u : HO), (if b ∈ cs.map (·.2) then some (HO.tbl #[]) else if b = a then some (HO.frz { cls := .type "list", data := .seq vs.toArray } (.lst (ns.map V.int))) else none) = some u → (b = a ∧ u = HO.frz { cls := .type "list", data := .seq vs.toArray } (.lst (ns.map V.int))) ∨ (b ∈ cs.map (·.2) ∧ u = .tbl #[]) := fun b u z => by
      by_cases hb : b ∈ cs.map (·.2)
      · rw [if_pos hb] at z
        exact .inr ⟨hb, (Option.some.inj z).symm⟩
      · rw [if_neg hb] at z
        by_cases hb2 : b = a
        · rw [if_pos hb2] at z
          exact .inl ⟨hb2, (Option.some.inj z).symm⟩
        · rw [if_neg hb2] at z
          cases z
    refine go (fun b => if b ∈ cs.map (·.2) then some (HO.tbl #[]) else if b = a then some (HO.frz { cls := .type "list", data := .seq vs.toArray } (.lst (ns.map V.int))) else none) (fun b u z => ?_) (fun p hp => if_pos (mem p hp)) (fun _ => hk) (fun b u z => ?_) (.inl (.inr ⟨({ cls := .type "list", data := .seq vs.toArray } : Obj), ?_⟩))
    · rcases key b u z with ⟨h1, h2⟩ | h
      · exact .inl ⟨h1, _, _, h2⟩
      · exact .inr h
    · rcases key b u z with ⟨rfl, rfl⟩ | ⟨hb, rfl⟩
      · exact ⟨hobj, hz, vs, _, rv, hobj⟩
      · exact isT b hb
    · show (if a ∈ cs.map (·.2) then _ else if a = a then _ else none) = _
      rw [if_neg na, if_pos rfl]
end Ns

/-! COULD of a row -/
namespace Y
open PySem PySem.Spec PyProof.Rows L2 Ns LamX LamP
def qLam : Str := Str.ofString "_law_could_of.<locals>.<lambda>"
/-- COULD of a row, by the formula -/
def spCouldOf (K : PySem.W.Frag) (P : Addr) : Sp := fun as H Q _ => ∃ (y : V) (nt : Addr) (R : List Run) (ns : List Int), as = [y, .ref nt] ∧ RowV K H y R ∧ (∀ r ∈ R, -(2 ^ 64) < r.1 ∧ r.1 < 2 ^ 64) ∧ SqT K H nt (ns.map V.int) ∧ ns.length ≤ 100 ∧ Tabs [(P, qLam)] H ∧
  ∀ (p : Addr) (H' : Hp), ExtN H H' → Tabs [(P, qLam)] H' → H' p = some (.lst ((cds (fun h => lrch R (h : Int)) ns).map V.int)) → (∀ b o, H b = some o → (∀ ps, o ≠ .tbl ps) → p ≠ b) → Q (.ref p) H'
theorem sqt_ext {K : PySem.W.Frag} {H H' : Hp} (m : ExtN H H') {a : Addr} {xs : List V} (h : SqT K H a xs) : SqT K H' a xs := h.elim (fun z => .inl (z.elim (fun z => .inl (m _ _ z fun _ y => nomatch y)) fun ⟨o, z⟩ => .inr ⟨o, m _ _ z fun _ y => nomatch y⟩)) .inr
theorem RowV.ext {K : PySem.W.Frag} {H H' : Hp} {v : V} {R : List Run} (h : RowV K H v R) (m : ExtN H H') : RowV K H' v R := by
  obtain ⟨t, xs, rfl, h1, h2⟩ := h
  exact ⟨t, xs, rfl, sqt_ext m h1, paired_imp (fun v c ⟨a, e1, q⟩ => ⟨a, e1, sqt_ext m q⟩) h2⟩
theorem lamUp : ∀ y ∈ ([("hours", .local), ("row", .free), ("_law_row_reach", .globalImplicit)] : List (Str × NameKind)), y.2 = .free → (defScope sCouldOf).names.lookup y.1 = some .cell ∨ (defScope sCouldOf).names.lookup y.1 = some .free := by decide +kernel
theorem lamOnly : ∀ y : Str, ([("hours", .local), ("row", .free), ("_law_row_reach", .globalImplicit)] : List (Str × NameKind)).lookup y = some .local → y = "hours" := fun y h => by
  rw [List.lookup_cons] at h
  split at h
  · next e => exact beq_iff_eq.mp e
  · rw [List.lookup_cons] at h
    split at h
    · cases h
    · rw [List.lookup_cons] at h
      split at h
      · cases h
      · cases h
section
variable {Pr : Program} {w : World} {K : PySem.W.Frag} {mg : Str → Option Value} {base : Heap}
theorem scCO : FnScope ["row", "night"] ["row", "night"] (defScope sCouldOf) := ⟨rfl, rfl, rfl, by decide +kernel, rfl, by decide +kernel, by decide +kernel⟩
theorem ok_couldOf {f fB fR c P : Addr} {fd dB dR : FuncData} (F : Fun K "_law_could_of" "_law_could_of" sCouldOf f fd) (T : Nat0 mg) (hc : ∀ (oc : Value) (od : Option Addr) (gd : FuncData) (osl : Array (Option Value)), K.lookup f = some ⟨oc, od, .func gd, osl⟩ → gd.code = .ref c) (TB : TabB base mg c P)
    (FB : Fun K "_law_could_by" "_law_could_by" sCouldBy fB dB) (mB : mg "_law_could_by" = some (.ref fB)) (bB : Binds K dB ["rule", "night"] []) (FR : Fun K "_law_row_reach" "_law_row_reach" sRowReach fR dR) (mR : mg "_law_row_reach" = some (.ref fR)) (bR : Binds K dR ["row", "hours"] []) :
    GnOk Pr w K mg base 4 f fd ["row", "night"] (spCouldOf K P) := by
  have GR : FnOk Pr w K mg base CX0 1 fR dR ["row", "hours"] (spRI K lrch) := ok_rowReach FR T
  obtain ⟨oc, od, kV, doc, pm, an, cdB, ct, osl, eB, lkB, hcB⟩ := FB.ex
  subst eB
  refine Fun.okL (c := c) F scCO hc (fun as H Q E h => ?_) (fun A outer s H as Q E hr hgd h => ?_)
  · obtain ⟨y, nt, R, ns, rfl, _⟩ := h
    rfl
  · obtain ⟨y, nt, R, ns, rfl, hV, hb, hN, l100, hT, k⟩ := h
    refine ⟨_, pss_one (ps_ret (pe_lamcall1 (T := [(P, qLam)]) (x := "hours") (a := "rule") (b2 := "night") (Ng := ["rule", "night", "found", "m", "rows", "best", "h", "total"]) (i := 0) (k := 1) rfl mB FB.kp lkB hcB bB scCB rfl (.inl rfl)
      (gives_couldBy T) TB rfl (List.mem_singleton.mpr rfl) (fun p hp _ => by rw [List.mem_singleton.mp hp]; rfl) hr ⟨rfl, rfl, rfl, rfl, by decide +kernel, lamOnly, lamUp⟩ (show ("hours" : Str) ∉ (["row", "night"] : List Str) by decide +kernel) rfl (fun _ _ _ _ _ _ => rfl)
      (fun A outer s H f c' hr' => pe_call GR hr' rfl mR FR.kp bR .nil pass0 (pa_cons (pv 0) (pa_cons (pv 2) pa_nil))) (pa_cons (pv 1) pa_nil))), ?_⟩
    refine ⟨hT, fun H1 c' eN T1 hco => ⟨_, rfl, .ref nt, rfl, hco, nt, ns, fun h => lrch R (h : Int), rfl, sqt_ext eN hN, l100, fun h H' Q' m hq => ?_, fun p H' e f m => ?_⟩⟩
    · exact ⟨_, rfl, _, rfl, y, (h : Int), R, rfl, (hV.ext eN).more m, hb, hq⟩
    · exact k p H' (eN.trans (ExtN.of m)) (T1.ext m) e fun b o hb' nt' z => by
        have := eN b o hb' nt'
        rw [← z, f] at this
        cases this
end
end Y

/-! runs put one by one -/
namespace Y
open PySem PySem.Spec PyProof.Rows L2 Ns
open C8 (pss_cut)
def runD (r : Run) : PyData := .tuple [.int r.1, .int r.2]
theorem dp_runs {K : PySem.W.Frag} {H : Hp} : ∀ {ys : List V} {fl : List Run}, Paired (RunV K H) ys fl → DpAll K H ys (fl.map runD)
  | _, _, .nil => .nil
  | _, _, .cons ⟨t, e, h⟩ r => by
    subst e
    exact .cons (.tup h (.cons (.int _) (.cons (.int _) .nil))) (dp_runs r)
theorem lay_runs : ∀ fl : List Run, PyData.canLayAll0 (fl.map runD) = true ∧ PyData.depthAll (fl.map runD) ≤ 1
  | [] => ⟨rfl, by simp [PyData.depthAll]⟩
  | r :: fl => by
    obtain ⟨h1, h2⟩ := lay_runs fl
    refine ⟨by simp [runD, PyData.canLayAll0, PyData.canLay0, h1], ?_⟩
    simp only [List.map_cons, PyData.depthAll, runD, PyData.depth]
    omega
theorem shaped_runs (fl : List Run) : SeqAt.shaped (.list (fl.map runD)) = true := by
  obtain ⟨h1, h2⟩ := lay_runs fl
  unfold SeqAt.shaped
  rw [Bool.and_eq_true]
  refine ⟨by simp [PyData.canLay0, h1], decide_eq_true ?_⟩
  simp only [PyData.depth]
  omega
/-- all but the list at l stands -/
def But (l : Addr) (H H' : Hp) : Prop := ∀ b o, b ≠ l → H b = some o → H' b = some o
theorem But.of {l : Addr} {H H' : Hp} (m : Same H H') : But l H H' := fun b o _ e => m b o e
theorem But.trans {l : Addr} {H H1 H2 : Hp} (a : But l H H1) (b : But l H1 H2) : But l H H2 := fun c o n e => b c o n (a c o n e)
theorem But.put {l : Addr} {H H' : Hp} {o : HO} (h : But l H H') : But l H (upd H' l o) := fun c u n e => by rw [upd_ne n]; exact h c u n e
theorem sqt_but {K : PySem.W.Frag} {H H' : Hp} {l a : Addr} {vs xs : List V} (e : H l = some (.lst vs)) (m : But l H H') (h : SqT K H a xs) : SqT K H' a xs := by
  rcases h with (h | ⟨o, h⟩) | h
  · exact .inl (.inl (m _ _ (fun z => by rw [z, e] at h; cases h) h))
  · exact .inl (.inr ⟨o, m _ _ (fun z => by rw [z, e] at h; cases h) h⟩)
  · exact .inr h
theorem runs_but {K : PySem.W.Frag} {H H' : Hp} {l : Addr} {vs : List V} (e : H l = some (.lst vs)) (m : But l H H') {xs : List V} {R : List Run} (h : Paired (RunV K H) xs R) : Paired (RunV K H') xs R := paired_imp (fun v c ⟨a, e1, q⟩ => ⟨a, e1, sqt_but e m q⟩) h
theorem paired_app {α β : Type} {R : α → β → Prop} : ∀ {as : List α} {bs : List β}, Paired R as bs → ∀ {cs : List α} {ds : List β}, Paired R cs ds → Paired R (as ++ cs) (bs ++ ds)
  | _, _, .nil, _, _, h => h
  | _, _, .cons h t, _, _, g => .cons h (paired_app t g)
theorem paired_split {α β : Type} {R : α → β → Prop} {as : List α} {a : α} : ∀ {bs : List β}, Paired R (as ++ [a]) bs → ∃ ds b, bs = ds ++ [b] ∧ Paired R as ds ∧ R a b := by
  induction as with
  | nil =>
    intro bs h
    cases h with
    | cons h t => cases t; exact ⟨[], _, rfl, .nil, h⟩
  | cons x as ih =>
    intro bs h
    cases h with
    | cons h t =>
      obtain ⟨ds, b, rfl, h1, h2⟩ := ih t
      exact ⟨_ :: ds, b, rfl, .cons h h1, h2⟩
/-- a run put behind the others -/
def spPut (K : PySem.W.Frag) : Sp := fun as H Q _ => ∃ (l : Addr) (s t : Int) (vs : List V) (R : List Run), as = [.ref l, .int s, .int t] ∧ H l = some (.lst vs) ∧ Paired (RunV K H) vs R ∧ R.length ≤ 500 ∧
  ∀ (us : List V) (H' : Hp), H' l = some (.lst us) → Paired (RunV K H') us (RM.put R s t) → But l H H' → Q .non H'
section
variable {P : Program} {w : World} {K : PySem.W.Frag} {mg : Str → Option Value} {base : Heap}
theorem scPR : FnScope ["runs", "step", "times"] ["runs", "step", "times"] (defScope sPutRun) := ⟨rfl, rfl, rfl, by decide +kernel, rfl, by decide +kernel, by decide +kernel⟩
theorem ok_putRun {f : Addr} {fd : FuncData} (F : Fun K "put_run" "put_run" sPutRun f fd) (T : Nat0 mg) : FnOk P w K mg base CX0 1 f fd ["runs", "step", "times"] (spPut K) := by
  refine F.ok scPR (fun as H Q E h => ?_) (fun cdv A outer s H as Q E hr h => ?_)
  · obtain ⟨l, st, t, vs, R, rfl, _⟩ := h
    rfl
  · obtain ⟨l, st, t, vs, R, rfl, hL, hR, l5, k⟩ := h
    refine ⟨_, pss_cons (ps_if (PW.pt (pw_or (pt_cmpR op_eq (pv 1) pe_int (nomark _)) (pw_or1 (pt_cmpR op_eq (pv 2) pe_int (nomark _))))) (pss_one ps_retN) pss_nil)
      (pss_cut (ps_if (PW.pt (pw_and (pt_cmpR (op_neD hr.units) (pv 0) (pe_lst pa_nil) (nomark _)) (pw_and1 (pt_cmpR op_eq (pe_ix ix_tup (pe_ix ix_list (pv 0) (pe_un un_neg pe_int) (fun _ _ => rfl)) pe_int (fun _ _ => rfl)) (pv 1) (nomark _)))))
        (pss_one (ps_aug (i := 2) scPR.nd rfl (.inl rfl) (pe_ix ix_tup (pe_bm0 PySem.F.plainAttrs_list PySem.F.slot_list_pop PySem.F.type_list_pop mt_pop (pv 0)) pe_int (fun _ _ => rfl)) ip_add)) pss_nil)
      (pss_one (ps_expr (pe_bm PySem.F.plainAttrs_list PySem.F.slot_list_append PySem.F.type_list_append mt_append (pv 0) (pa_cons (pe_tup (pa_cons (pv 1) (pa_cons (pv 2) pa_nil))) pa_nil))))), ?_⟩
    refine ⟨_, rfl, rfl, _, rfl, ?_⟩
    have none0 : st = 0 ∨ t = 0 → Paired (RunV K H) vs (RM.put R st t) := fun z => by
      unfold RM.put
      rw [if_pos z]
      exact hR
    refine ite2 (fun c0 => ?_) (fun c0 => ?_)
    · refine ite2 (fun _ => ?_) (fun z => absurd rfl z)
      exact k vs H hL (none0 (.inl (V.int.inj (of_decide_eq_true c0)))) (.of (.refl H))
    have s0 : st ≠ 0 := fun z => c0 (decide_eq_true (congrArg V.int z))
    refine ⟨_, rfl, rfl, _, rfl, ?_⟩
    refine ite2 (fun c1 => ?_) (fun c1 => ?_)
    · exact k vs H hL (none0 (.inr (V.int.inj (of_decide_eq_true c1)))) (.of (.refl H))
    have t0 : t ≠ 0 := fun z => c1 (decide_eq_true (congrArg V.int z))
    clear none0 c0 c1
    have lv := paired_len hR
    refine ⟨fun σ H' => ∃ (t' : Int) (us : List V) (R' : List Run), σ = [some (.ref l), some (.int st), some (.int t')] ∧ H' l = some (.lst us) ∧ Paired (RunV K H') us R' ∧ R'.length ≤ 500 ∧ But l H H' ∧ RM.put R st t = R' ++ [(st, t')], ?_, ?_⟩
    · refine ⟨_, rfl, by show 0 ≤ sizeLine; decide, fun q hq => ⟨.list (R.map runD), .list [], .lst (SqL.of (s3u hq hL)) (dp_runs (paired_imp (fun v c ⟨a, e1, z⟩ => ⟨a, e1, sqt_more (same_new (Same.refl H) hq) z⟩) hR)), .lst (SqL.of upd_same) .nil, shaped_runs R, by decide +kernel, _, rfl, ?_⟩⟩
      have B1 := But.of (l := l) (same_new (o := .lst []) (Same.refl H) hq)
      have L1 : upd H q (.lst []) l = some (.lst vs) := s3u hq hL
      have R1 := runs_but hL B1 hR
      generalize upd H q (.lst []) = H1 at B1 L1 R1 ⊢
      have putN : R = [] ∨ (∃ ds b, R = ds ++ [b] ∧ b.1 ≠ st) → RM.put R st t = R ++ [(st, t)] := fun z => by
        unfold RM.put
        rw [if_neg (fun z => z.elim s0 t0)]
        rcases z with rfl | ⟨ds, b, rfl, hb⟩
        · rfl
        · rw [show (ds ++ [b]).getLast? = some b by simp]
          show (if b.1 = st then _ else _) = _
          rw [if_neg hb]
      rcases List.eq_nil_or_concat R with e | ⟨ds, b, e⟩
      · subst e
        refine ite2 (fun c => absurd c (by decide)) (fun _ => ?_)
        refine ite2 (fun z => absurd z Bool.false_ne_true) (fun _ => ?_)
        exact ⟨t, vs, [], rfl, L1, R1, l5, B1, putN (.inl rfl)⟩
      · have e : R = ds ++ [b] := by rw [e, List.concat_eq_append]
        subst e
        refine ite2 (fun _ => ?_) (fun c => absurd (by cases ds <;> rfl) c)
        obtain ⟨ws, v, ev⟩ : ∃ ws v, vs = ws ++ [v] := by
          rcases List.eq_nil_or_concat vs with e | ⟨ws, v, e⟩
          · rw [e, List.length_append] at lv
            simp at lv
          · exact ⟨ws, v, by rw [e, List.concat_eq_append]⟩
        subst ev
        obtain ⟨ds', b', e, hW, hb'⟩ := paired_split R1
        obtain ⟨e1, e2⟩ := List.append_inj' e rfl
        cases e2
        subst e1
        obtain ⟨a, rfl, ha⟩ := hb'
        refine ⟨_, rfl, 1, rfl, l, _, -1, .ref a, rfl, rfl, SqL.of L1, atI_last _ _, a, _, 0, .int b.1, rfl, rfl, ha, at0, _, rfl, rfl, _, rfl, ?_⟩
        refine ite2 (fun c => ?_) (fun c => ?_)
        · have eb : b.1 = st := V.int.inj (of_decide_eq_true c)
          refine ⟨_, rfl, _, rfl, .inl ⟨rfl, _, SqL.of L1⟩, l, _, .ref a, rfl, rfl, L1, by simp, ?_⟩
          rw [List.dropLast_concat]
          have B2 := But.put (o := .lst ws) B1
          have B12 := But.put (o := .lst ws) (But.of (l := l) (Same.refl H1))
          refine ⟨a, _, 1, .int b.2, rfl, rfl, sqt_but L1 B12 ha, at1, t, b.2, rfl, rfl, ?_⟩
          refine ⟨t + b.2, ws, ds, rfl, upd_same, runs_but L1 B12 hW, by rw [List.length_append] at l5; omega, B2, ?_⟩
          unfold RM.put
          rw [if_neg (fun z => z.elim s0 t0), show (ds ++ [b]).getLast? = some b by simp]
          show (if b.1 = st then _ else _) = _
          rw [if_pos eb, List.dropLast_concat]
        · have eb : b.1 ≠ st := fun z => c (decide_eq_true (congrArg V.int z))
          exact ⟨t, _, _, rfl, L1, R1, l5, B1, putN (.inr ⟨ds, b, rfl, eb⟩)⟩
    rintro σ H' ⟨t', us, R', rfl, L2', R2, l6, B2, ep⟩
    have lu := paired_len R2
    refine ⟨_, rfl, .inl ⟨rfl, _, SqL.of L2'⟩, _, rfl, _, rfl, by show 2 ≤ sizeLine; decide, fun q hq => ?_⟩
    have B3 := But.trans B2 (But.of (l := l) (same_new (o := .tup [.int st, .int t']) (Same.refl H') hq))
    refine ⟨l, us, .ref q, rfl, rfl, s3u hq L2', small1000 (by omega), ?_⟩
    have nql : q ≠ l := fun z => by rw [z, L2'] at hq; cases hq
    refine k (us ++ [.ref q]) _ upd_same ?_ B3.put
    rw [ep]
    refine paired_app (paired_imp (fun v c ⟨a, e1, z⟩ => ⟨a, e1, ?_⟩) R2) (.cons ⟨q, rfl, SqT.of (by rw [upd_ne nql, upd_same])⟩ .nil)
    exact sqt_but L2' (But.put (But.of (same_new (o := .tup [.int st, .int t']) (Same.refl H') hq))) z
end
end Y

/-! the row behind a sum -/
namespace Y
open PySem PySem.Spec PyProof.Rows L2 Ns
open C8 (pss_cut)
section
variable {X : Cx}
/-- t + u: a tuple with these items -/
def rCatU (K : PySem.W.Frag) : R2 := fun x y H Q => ∃ a b xs ys, x = .ref a ∧ y = .ref b ∧ SqT K H a xs ∧ SqT K H b ys ∧ xs.length + ys.length ≤ sizeLine ∧ ∀ (p : Addr) (H' : Hp), Same H H' → SqT K H' p (xs ++ ys) → Q (.ref p) H'
theorem op_catU : OpR X (binaryOp .Add) (rCatU X.K) := by
  intro pins s σ H x y v u Q I rx ry h
  obtain ⟨a, b, xs, ys, rfl, rfl, ha, hb, hz, q⟩ := h
  refine op_catA pins s σ H _ _ v u Q I rx ry ⟨a, b, xs, ys, rfl, rfl, ha, hb, hz, fun e => q b H (Same.refl H) (by rw [e]; exact hb), fun _ e => q a H (Same.refl H) (by rw [e, List.append_nil]; exact ha), fun _ _ p hp => q p _ (same_new (Same.refl H) hp) (SqT.of upd_same)⟩
end
theorem cut_from (xs : List V) (k : Nat) : cutV xs (some (k : Int)) none = xs.drop k := by
  unfold cutV
  rw [HT.sIx_none]
  have e : HT.sIx xs.length 0 (some (k : Int)) = min k xs.length := by
    show (if (k : Int) < 0 then ((k : Int) + (xs.length : Int)).toNat else min (k : Int).toNat xs.length) = _
    rw [if_neg (by omega), Int.toNat_natCast]
  rw [e, List.take_of_length_le (by rw [List.length_drop]; omega)]
  by_cases h : k ≤ xs.length
  · rw [Nat.min_eq_left h]
  · rw [Nat.min_eq_right (by omega), List.drop_eq_nil_of_le (Nat.le_refl _), List.drop_eq_nil_of_le (by omega)]
theorem paired_take {α β : Type} {R : α → β → Prop} : ∀ {as : List α} {bs : List β}, Paired R as bs → ∀ n, Paired R (as.take n) (bs.take n)
  | _, _, .nil, n => by rw [List.take_nil, List.take_nil]; exact .nil
  | _, _, .cons h t, 0 => .nil
  | _, _, .cons h t, n + 1 => .cons h (paired_take t n)
theorem paired_drop {α β : Type} {R : α → β → Prop} : ∀ {as : List α} {bs : List β}, Paired R as bs → ∀ n, Paired R (as.drop n) (bs.drop n)
  | _, _, .nil, n => by rw [List.drop_nil, List.drop_nil]; exact .nil
  | _, _, .cons h t, 0 => .cons h t
  | _, _, .cons h t, n + 1 => paired_drop t n
theorem put_len (R : List Run) (s t : Int) : (RM.put R s t).length ≤ R.length + 1 := by
  unfold RM.put
  split
  · omega
  · split
    · split
      · rw [List.length_append, List.length_dropLast]
        show R.length - 1 + 1 ≤ _
        omega
      · rw [List.length_append]
        exact Nat.le_refl _
    · rw [List.length_append]
      exact Nat.le_refl _
theorem cnt_pos {R : List Run} {x : Int} (h0 : 1 ≤ x) (h : x ≤ RM.top R) : 1 ≤ RM.cnt x R ∧ RM.cnt x R ≤ R.length := by
  refine ⟨?_, List.length_filter_le _ _⟩
  cases R with
  | nil =>
    have : x ≤ (0 : Int) := h
    omega
  | cons q r =>
    rw [RM.cnt_cons (show x ≤ q.1 from h)]
    omega
/-- the row behind a sum -/
def tk (x : Int) (R : List Run) : List Run := if x = 0 then R else RM.tkc x R
def spTaken (K : PySem.W.Frag) : Sp := fun as H Q _ => ∃ (y : V) (x m : Int) (R : List Run), as = [y, .int x] ∧ RowV K H y R ∧ RM.Vd m R ∧ 1 ≤ m ∧ 0 ≤ x ∧ x ≤ RM.top R ∧ R.length ≤ 400 ∧ ∀ (y' : V) (H' : Hp), RowV K H' y' (tk x R) → Same H H' → Q y' H'
theorem same_but {l : Addr} {H H1 H2 : Hp} (m : Same H H1) (n : H l = none) (b : But l H1 H2) : Same H H2 := fun c o e => b c o (fun z => by rw [z, n] at e; cases e) (m c o e)
section
variable {P : Program} {w : World} {K : PySem.W.Frag} {mg : Str → Option Value} {base : Heap}
theorem scTk : FnScope ["stairs", "x", "many", "step", "times", "later", "more", "runs"] ["stairs", "x"] (defScope sTaken) := ⟨rfl, rfl, rfl, by decide +kernel, rfl, by decide +kernel, by decide +kernel⟩
theorem ok_taken {f fP : Addr} {fd dP : FuncData} (F : Fun K "taken" "taken" sTaken f fd) (T : Nat0 mg) (FP : Fun K "put_run" "put_run" sPutRun fP dP) (mP : mg "put_run" = some (.ref fP)) (bP : Binds K dP ["runs", "step", "times"] []) : FnOk P w K mg base CX0 2 f fd ["stairs", "x"] (spTaken K) := by
  have GP : FnOk P w K mg base CX0 1 fP dP ["runs", "step", "times"] (spPut K) := ok_putRun FP T
  refine F.ok scTk (fun as H Q E h => ?_) (fun cdv A outer s H as Q E hr h => ?_)
  · obtain ⟨y, x, m, R, rfl, _⟩ := h
    rfl
  · obtain ⟨y, x, m, R, rfl, hV, vd, hm, x0, xt, l4, k⟩ := h
    refine ⟨_, pss_cons (ps_if (pt_cmpR op_eq (pv 1) pe_int (nomark _)) (pss_one (ps_ret (pv 0))) pss_nil)
      (pss_cons (ps_set (i := 2) scTk.nd rfl (.inl rfl) (pe_callB call_len_seq (by rfl) T.len PySem.boot_len (pa_cons (pe_lc (own := [("step", 3), ("times", 4)]) (g := gTup K 2 (gCons (gName 3) (gCons (gName 4) gNil))) (tt := tTest (tOp (rI0 fun i j => .bl (decide (j ≤ i))) (tVar 3) (tVar 1))) rfl scTk.nd (pi_tup (pv 0))
        (blkOk_by (N := ["stairs", "x", "many", "step", "times", "later", "more", "runs"]) (sc := defScope sTaken) (by decide +kernel)) (fun _ _ _ _ _ => pg_tup rfl (pgs_cons (pg_name (i := 3) scTk.nd rfl (Or.inl rfl)) (pgs_cons (pg_name (i := 4) scTk.nd rfl (Or.inl rfl)) pgs_nil)))
        (fun _ _ _ _ _ => by exact pts_one (pt_cmpR op_ge (pv 3) (pv 1) (nomark _))) (fun _ _ _ _ _ => pv 3)) pa_nil)))
      (pss_cons (ps_asg (pe_ix ix_tup (pv 0) (pe_op op_sub (pv 2) pe_int) (fun _ _ => rfl)) (pg_tup rfl (pgs_cons (pg_name (i := 3) scTk.nd rfl (.inl rfl)) (pgs_cons (pg_name (i := 4) scTk.nd rfl (.inl rfl)) pgs_nil))))
      (pss_cut (ps_asg (pe_ifExp (pt_cmpR op_lt (pv 2) (pe_callB call_len_seq (by rfl) T.len PySem.boot_len (pa_cons (pv 0) pa_nil)) (nomark _)) (pe_ix ix_tup (pv 0) (pv 2) (fun _ _ => rfl)) (pe_tup (pa_cons pe_int (pa_cons pe_int pa_nil)))) (pg_tup rfl (pgs_cons (pg_name (i := 5) scTk.nd rfl (.inl rfl)) (pgs_cons (pg_name (i := 6) scTk.nd rfl (.inl rfl)) pgs_nil))))
      (pss_cons (ps_set (i := 7) scTk.nd rfl (.inl rfl) (pe_callTy call_list_of (by rfl) T.list_ (by decide +kernel) (pa_cons (pe_slice sl_tupU (pv 0) po_none (po_some (pe_op op_sub (pv 2) pe_int))) pa_nil)))
      (pss_cons (ps_expr (pe_call GP hr rfl mP FP.kp bP .nil pass0 (pa_cons (pv 7) (pa_cons (pv 3) (pa_cons (pe_op op_sub (pv 4) pe_int) pa_nil)))))
      (pss_cons (ps_expr (pe_call GP hr rfl mP FP.kp bP .nil pass0 (pa_cons (pv 7) (pa_cons (pe_op op_sub (pe_op op_add (pv 3) (pv 5)) (pv 1)) (pa_cons pe_int pa_nil)))))
      (pss_cons (ps_expr (pe_call GP hr rfl mP FP.kp bP .nil pass0 (pa_cons (pv 7) (pa_cons (pv 5) (pa_cons (pe_op op_sub (pv 6) pe_int) pa_nil)))))
      (pss_one (ps_ret (pe_op op_catU (pe_callTy call_tuple_of (by rfl) T.tuple (by decide +kernel) (pa_cons (pv 7) pa_nil)) (pe_slice sl_tupU (pv 0) (po_some (pe_op op_add (pv 2) pe_int)) po_none))))))))))), ?_⟩
    obtain ⟨t, xs, rfl, h1, h2⟩ := id hV
    have lx := paired_len h2
    refine ⟨_, rfl, rfl, _, rfl, ?_⟩
    refine ite2 (fun c => ⟨_, rfl, k _ H (by unfold tk; rw [if_pos (V.int.inj (of_decide_eq_true c))]; exact hV) (.refl H)⟩) (fun c => ?_)
    have x1 : 1 ≤ x := by
      have : x ≠ 0 := fun z => c (decide_eq_true (congrArg V.int z))
      omega
    have etk : tk x R = RM.tkp x R := by
      unfold tk
      rw [if_neg (by omega), RM.tkp_is vd x1 xt]
    rw [etk] at k
    obtain ⟨n1, n2⟩ := cnt_pos x1 xt
    refine ⟨_, rfl, t, rfl, ⟨_, h1⟩, fun D hD => ?_⟩
    refine lc_tup (K := K) (a := t) (xs := xs) (fun i H' => H' D = some (.lst (((R.take i).filter fun r => decide (x ≤ r.1)).map fun r => V.int r.1)) ∧ Same H H') ?_ ?_ ?_ ?_
    · exact ⟨by rw [List.take_zero, upd_same]; rfl, same_new (Same.refl H) hD⟩
    · rintro i H' _ ⟨_, sm⟩
      exact sqt_more sm h1
    · rintro i z H' hz ⟨e1, e2⟩
      obtain ⟨r, hr', q, rfl, hq⟩ := paired_at h2 hz
      have hi' : i < R.length := (List.getElem?_eq_some_iff.mp hr').1
      refine ⟨q, _, rfl, sqt_more e2 hq, rfl, _, _, rfl, _, _, rfl, rfl, ?_⟩
      refine ⟨rfl, _, rfl, _, rfl, _, _, rfl, rfl, _, rfl, ?_⟩
      refine ite2 (fun g => ?_) (fun g => ?_)
      · have ek : x ≤ r.1 := of_decide_eq_true g
        refine ⟨_, rfl, _, e1, ?_, ?_, same_put e2 hD⟩
        · rw [List.length_map]
          have := List.length_filter_le (fun r : Run => decide (x ≤ r.1)) (R.take i)
          rw [List.length_take] at this
          exact small1000 (by omega)
        · rw [upd_same, List.take_succ, hr']
          simp [ek]
      · have ek : ¬ x ≤ r.1 := fun z => g (decide_eq_true z)
        refine ⟨?_, e2⟩
        rw [e1, List.take_succ, hr']
        simp [ek]
    rintro H1 ⟨e1, m1⟩
    rw [lx, List.take_length] at e1
    have lc : (((R.filter fun r => decide (x ≤ r.1)).map fun r => V.int r.1).length : Int) = (RM.cnt x R : Int) := by
      rw [List.length_map]
      rfl
    refine ⟨D, _, rfl, .inl (SqL.of e1), ?_⟩
    rw [lc]
    have hn : RM.cnt x R = RM.cnt x R := rfl
    generalize hcn : RM.cnt x R = n at n1 n2 lc ⊢
    -- the last one that is enough
    obtain ⟨z1, hz1⟩ : ∃ z, xs[n - 1]? = some z := ⟨_, List.getElem?_eq_getElem (by omega)⟩
    obtain ⟨r1, hr1', q1, rfl, hq1⟩ := paired_at h2 hz1
    refine ⟨_, rfl, _, rfl, _, _, rfl, rfl, t, xs, ((n - 1 : Nat) : Int), .ref q1, rfl, by rw [show ((n - 1 : Nat) : Int) = (n : Int) - 1 by omega], sqt_more m1 h1, atI_nat hz1, ?_⟩
    refine ⟨q1, _, rfl, sqt_more m1 hq1, rfl, _, _, rfl, _, _, rfl, rfl, ?_⟩
    obtain ⟨p, hp⟩ : ∃ p : Run, (R[n]?).getD (0, 1) = p := ⟨_, rfl⟩
    refine ⟨fun σ H' => σ = [some (.ref t), some (.int x), some (.int n), some (.int r1.1), some (.int r1.2), some (.int p.1), some (.int p.2), none] ∧ Same H H', ?_, ?_⟩
    · refine ⟨_, rfl, _, rfl, t, _, rfl, .inr (sqt_more m1 h1), _, _, rfl, rfl, _, rfl, ?_⟩
      refine ite2 (fun g => ?_) (fun g => ?_)
      · have g : (n : Int) < (xs.length : Int) := of_decide_eq_true g
        obtain ⟨z2, hz2⟩ : ∃ z, xs[n]? = some z := ⟨_, List.getElem?_eq_getElem (by omega)⟩
        obtain ⟨r2, hr2, q2, rfl, hq2⟩ := paired_at h2 hz2
        rw [hr2] at hp
        cases hp
        refine ⟨_, rfl, _, rfl, t, xs, (n : Int), .ref q2, rfl, rfl, sqt_more m1 h1, atI_nat hz2, ?_⟩
        refine ⟨q2, _, rfl, sqt_more m1 hq2, rfl, _, _, rfl, _, _, rfl, rfl, ?_⟩
        exact ⟨rfl, m1⟩
      · have g : ¬ (n : Int) < (xs.length : Int) := fun z => g (decide_eq_true z)
        rw [List.getElem?_eq_none (by omega)] at hp
        cases hp
        refine ⟨by show 2 ≤ sizeLine; decide, fun q hq => ?_⟩
        refine ⟨q, _, rfl, SqT.of upd_same, rfl, _, _, rfl, _, _, rfl, rfl, ?_⟩
        exact ⟨rfl, same_new m1 hq⟩
    rintro σ H2 ⟨rfl, m2⟩
    have ecut : cutV xs none (some ((n : Int) - 1)) = xs.take (n - 1) := by rw [show (n : Int) - 1 = ((n - 1 : Nat) : Int) by omega, cut_upto]
    refine ⟨_, rfl, _, rfl, _, _, rfl, rfl, _, rfl, t, xs, rfl, sqt_more m2 h1, fun u H3 m3 hu => ⟨u, _, rfl, .inr hu, fun l hl => ?_⟩⟩
    rw [ecut]
    have m4 := same_new (o := .lst (xs.take (n - 1))) (m2.trans m3) hl
    have L4 : upd H3 l (.lst (xs.take (n - 1))) l = some (.lst (xs.take (n - 1))) := upd_same
    have nl : H l = none := (m2.trans m3).free hl
    have R4 : Paired (RunV K (upd H3 l (.lst (xs.take (n - 1))))) (xs.take (n - 1)) (R.take (n - 1)) := paired_take (paired_imp (fun v c ⟨a, e1, q⟩ => ⟨a, e1, sqt_more m4 q⟩) h2) _
    generalize upd H3 l (.lst (xs.take (n - 1))) = H4 at m4 L4 R4 ⊢
    have l4' : (R.take (n - 1)).length ≤ 400 := by rw [List.length_take]; omega
    -- three runs
    refine ⟨_, rfl, _, rfl, _, rfl, _, _, rfl, rfl, l, r1.1, r1.2 - 1, _, _, rfl, L4, R4, by omega, fun us5 H5 L5 R5 B5 => ?_⟩
    have m5 := same_but m4 nl B5
    have l5 := put_len (R.take (n - 1)) r1.1 (r1.2 - 1)
    refine ⟨_, rfl, _, rfl, _, rfl, _, _, rfl, rfl, _, rfl, _, _, rfl, rfl, l, r1.1 + p.1 - x, 1, _, _, rfl, L5, R5, by omega, fun us6 H6 L6 R6 B6 => ?_⟩
    have m6 := same_but m5 nl B6
    have l6 := put_len (RM.put (R.take (n - 1)) r1.1 (r1.2 - 1)) (r1.1 + p.1 - x) 1
    refine ⟨_, rfl, _, rfl, _, rfl, _, _, rfl, rfl, l, p.1, p.2 - 1, _, _, rfl, L6, R6, by omega, fun us7 H7 L7 R7 B7 => ?_⟩
    have m7 := same_but m6 nl B7
    have l7 := put_len (RM.put (RM.put (R.take (n - 1)) r1.1 (r1.2 - 1)) (r1.1 + p.1 - x) 1) p.1 (p.2 - 1)
    have lu := paired_len R7
    refine ⟨_, rfl, l, _, rfl, .inl ⟨SqL.of L7, fun w8 hw8 => ?_⟩⟩
    have m8 := same_new (o := .tup us7) m7 hw8
    have R8 : Paired (RunV K (upd H7 w8 (.tup us7))) us7 _ := paired_imp (fun v c ⟨a, e1, q⟩ => ⟨a, e1, sqt_more (same_new (Same.refl H7) hw8) q⟩) R7
    have W8 : upd H7 w8 (.tup us7) w8 = some (.tup us7) := upd_same
    generalize upd H7 w8 (.tup us7) = H8 at m8 R8 W8 ⊢
    have ecut2 : cutV xs (some ((n : Int) + 1)) none = xs.drop (n + 1) := by rw [show (n : Int) + 1 = ((n + 1 : Nat) : Int) by omega, cut_from]
    refine ⟨_, rfl, _, rfl, _, _, rfl, rfl, _, rfl, t, xs, rfl, sqt_more m8 h1, fun u9 H9 m9 hu9 => ?_⟩
    rw [ecut2] at hu9
    refine ⟨w8, u9, us7, xs.drop (n + 1), rfl, rfl, SqT.of (m9 _ _ W8), hu9, ?_, fun w10 H10 m10 hw10 => ?_⟩
    · rw [List.length_drop]
      exact Nat.le_of_lt (small1000 (by omega))
    have mA := (m8.trans m9).trans m10
    refine k (.ref w10) H10 ⟨w10, _, rfl, hw10, ?_⟩ mA
    have hq : (R[n - 1]?).getD (0, 0) = r1 := by rw [hr1']; rfl
    show Paired (RunV K H10) (us7 ++ xs.drop (n + 1)) (RM.tkp x R)
    unfold RM.tkp
    rw [hcn]
    show Paired (RunV K H10) (us7 ++ xs.drop (n + 1)) (RM.put (RM.put (RM.put (R.take (n - 1)) ((R[n - 1]?).getD (0, 0)).1 (((R[n - 1]?).getD (0, 0)).2 - 1)) (((R[n - 1]?).getD (0, 0)).1 + ((R[n]?).getD (0, 1)).1 - x) 1) ((R[n]?).getD (0, 1)).1 (((R[n]?).getD (0, 1)).2 - 1) ++ R.drop (n + 1))
    rw [hq, hp]
    exact paired_app (paired_imp (fun v c ⟨a, e1, q⟩ => ⟨a, e1, sqt_more (m9.trans m10) q⟩) R8) (paired_drop (paired_imp (fun v c ⟨a, e1, q⟩ => ⟨a, e1, sqt_more mA q⟩) h2) _)
end
end Y

/-! nights over rows -/
namespace Y
open PySem PySem.Spec PyProof.Rows L2 Ns
open C8 (pss_cut)
theorem stp_top {R : List Run} {m : Int} (v : RM.Vd m R) : stp R 1 = RM.top R := by
  cases R with
  | nil => rfl
  | cons r R =>
    have := v.2.2.1
    show (if 1 ≤ r.2 then r.1 else stp R (1 - r.2)) = r.1
    rw [if_pos this]
theorem mn_min (i j : Int) : mn i j = min i j := by
  unfold mn
  split <;> omega
theorem vd_bd : ∀ {R : List Run} {m : Int}, RM.Vd m R → m ≤ 2 ^ 60 → ∀ r ∈ R, -(2 ^ 64) < r.1 ∧ r.1 < 2 ^ 64
  | [], _, _, _, _, h => by cases h
  | q :: R, m, v, hm, r, h => by
    have k1 := v.1
    have k2 := v.2.1
    rcases List.mem_cons.mp h with rfl | h
    · omega
    · exact vd_bd v.2.2.2 (by omega) r h
theorem one_len (s t : Int) : (RM.one s t).length ≤ 1 := by
  unfold RM.one
  split
  · exact Nat.zero_le _
  · exact Nat.le_refl _
theorem tkc_len : ∀ (x : Int) (R : List Run), (RM.tkc x R).length ≤ R.length + 1
  | _, [] => Nat.zero_le _
  | x, [q] => by
    unfold RM.tkc
    have := one_len q.1 (q.2 - 1)
    rw [List.length_append]
    split
    · show _ + 0 ≤ 2
      omega
    · show _ + 1 ≤ 2
      omega
  | x, q :: p :: B => by
    unfold RM.tkc
    have h1 := one_len q.1 (q.2 - 1)
    have h2 := one_len p.1 (p.2 - 1)
    have c1 : (p :: B).length = B.length + 1 := List.length_cons
    have c2 : (q :: p :: B).length = (p :: B).length + 1 := List.length_cons
    split
    · have h3 := tkc_len x (p :: B)
      have c3 : (q :: RM.tkc x (p :: B)).length = (RM.tkc x (p :: B)).length + 1 := List.length_cons
      omega
    · rw [List.length_append]
      split
      · omega
      · rw [List.length_cons, List.length_append]
        omega
theorem bh_tk (R : List Run) (s : Int) : RM.bh R s = tk (min s (RM.top R)) R := rfl
theorem bh_len (R : List Run) (s : Int) : (RM.bh R s).length ≤ R.length + 1 := by
  unfold RM.bh
  split
  · omega
  · exact tkc_len _ _
def spFT (K : PySem.W.Frag) : Sp := fun as H Q _ => ∃ (y : V) (s m : Int) (R : List Run), as = [y, .int s] ∧ RowV K H y R ∧ RM.Vd m R ∧ 1 ≤ m ∧ m ≤ 2 ^ 60 ∧ Q (.int (min s (RM.top R))) H
def spBehind (K : PySem.W.Frag) : Sp := fun as H Q _ => ∃ (y : V) (nt : Addr) (m : Int) (R : List Run) (ns : List Int), as = [y, .ref nt] ∧ RowV K H y R ∧ RM.Vd m R ∧ 1 ≤ m ∧ m ≤ 2 ^ 60 ∧ SqT K H nt (ns.map V.int) ∧ (∀ s ∈ ns, 0 ≤ s) ∧ R.length + ns.length ≤ 400 ∧
  ∀ (y' : V) (H' : Hp), RowV K H' y' (RM.bhN R ns) → Same H H' → Q y' H'
/-- the sums of what is taken -/
def cin (R : List Run) (ns : List Int) : List Int := (List.range (ns.length + 1)).map fun m => RM.tot R (ns.take m)
def spCould (K : PySem.W.Frag) : Sp := fun as H Q _ => ∃ (y : V) (nt : Addr) (m : Int) (R : List Run) (ns : List Int), as = [y, .ref nt] ∧ RowV K H y R ∧ RM.Vd m R ∧ 1 ≤ m ∧ m ≤ 2 ^ 60 ∧ SqT K H nt (ns.map V.int) ∧ (∀ s ∈ ns, 0 ≤ s) ∧ R.length + ns.length ≤ 400 ∧
  ∀ (p : Addr) (H' : Hp), H' p = some (.lst ((cin R ns).map V.int)) → H p = none → Same H H' → Q (.ref p) H'
theorem bhN_take {R : List Run} {ns : List Int} {i : Nat} {s : Int} (h : ns[i]? = some s) : RM.bhN R (ns.take (i + 1)) = RM.bh (RM.bhN R (ns.take i)) s := by
  rw [List.take_succ, h]
  exact RM.bhN_app R (ns.take i) [s]
theorem tot_take {R : List Run} {ns : List Int} {i : Nat} {s : Int} (h : ns[i]? = some s) : RM.tot R (ns.take (i + 1)) = RM.tot R (ns.take i) + min s (RM.top (RM.bhN R (ns.take i))) := by
  rw [List.take_succ, h]
  show RM.tot R (ns.take i ++ [s]) = _
  rw [RM.tot_app]
  show _ + (min s _ + 0) = _
  omega
theorem bhN_len {R : List Run} : ∀ ns : List Int, (RM.bhN R ns).length ≤ R.length + ns.length := fun ns => by
  induction ns generalizing R with
  | nil => exact Nat.le_refl _
  | cons s ns ih =>
    show (RM.bhN (RM.bh R s) ns).length ≤ _
    have := ih (R := RM.bh R s)
    have := bh_len R s
    rw [List.length_cons]
    omega
theorem ints_of {ns : List Int} {i : Nat} {v : V} (h : (ns.map V.int)[i]? = some v) : ∃ z, ns[i]? = some z ∧ v = .int z := by
  rw [List.getElem?_map] at h
  obtain ⟨x, e1, e2⟩ := Option.map_eq_some_iff.mp h
  exact ⟨x, e1, e2.symm⟩
section
variable {P : Program} {w : World} {K : PySem.W.Frag} {mg : Str → Option Value} {base : Heap}
theorem scFT : FnScope ["stairs", "supply"] ["stairs", "supply"] (defScope sFirstTaken) := ⟨rfl, rfl, rfl, by decide +kernel, rfl, by decide +kernel, by decide +kernel⟩
theorem ok_firstTaken {f fS : Addr} {fd dS : FuncData} (F : Fun K "first_taken" "first_taken" sFirstTaken f fd) (T : Nat0 mg) (FS : Fun K "step_in" "step_in" sStepIn fS dS) (mS : mg "step_in" = some (.ref fS)) (bS : Binds K dS ["stairs", "h"] []) : FnOk P w K mg base CX0 2 f fd ["stairs", "supply"] (spFT K) := by
  have GS : FnOk P w K mg base CX0 1 fS dS ["stairs", "h"] (spRI K stp) := ok_stepIn FS
  refine F.ok scFT (fun as H Q E h => ?_) (fun cdv A outer s H as Q E hr h => ?_)
  · obtain ⟨y, s, m, R, rfl, _⟩ := h
    rfl
  · obtain ⟨y, z, m, R, rfl, hV, vd, hm, hm2, k⟩ := h
    refine ⟨_, pss_one (ps_ret (pe_callB (call_min2 rfl) (by rfl) T.min (by decide +kernel) (pa_cons (pv 1) (pa_cons (pe_call GS hr rfl mS FS.kp bS .nil pass0 (pa_cons (pv 0) (pa_cons pe_int pa_nil))) pa_nil)))), ?_⟩
    refine ⟨_, rfl, _, rfl, y, 1, R, rfl, hV, vd_bd vd hm2, z, stp R 1, rfl, ?_⟩
    rw [stp_top vd]
    have e := mn_min z (RM.top R)
    unfold mn at e
    rw [e]
    exact k
theorem scBe : FnScope ["stairs", "night", "supply"] ["stairs", "night"] (defScope sBehind) := ⟨rfl, rfl, rfl, by decide +kernel, rfl, by decide +kernel, by decide +kernel⟩
theorem ok_behind {f fF fT : Addr} {fd dF dT : FuncData} (F : Fun K "behind" "behind" sBehind f fd) (GF : FnOk P w K mg base CX0 2 fF dF ["stairs", "supply"] (spFT K)) (FF : Fun K "first_taken" "first_taken" sFirstTaken fF dF) (mF : mg "first_taken" = some (.ref fF)) (bF : Binds K dF ["stairs", "supply"] [])
    (GT : FnOk P w K mg base CX0 2 fT dT ["stairs", "x"] (spTaken K)) (FT : Fun K "taken" "taken" sTaken fT dT) (mT : mg "taken" = some (.ref fT)) (bT : Binds K dT ["stairs", "x"] []) : FnOk P w K mg base CX0 3 f fd ["stairs", "night"] (spBehind K) := by
  refine F.ok scBe (fun as H Q E h => ?_) (fun cdv A outer s H as Q E hr h => ?_)
  · obtain ⟨y, nt, m, R, ns, rfl, _⟩ := h
    rfl
  · obtain ⟨y, nt, m, R, ns, rfl, hV, vd, hm, hm2, hN, n0, l4, k⟩ := h
    have ln : (ns.map V.int).length = ns.length := List.length_map _
    refine ⟨_, pss_cons (ps_for PassesOwn.never rfl (pi_tup (pv 1)) (pg_name (i := 2) scBe.nd rfl (.inl rfl))
        (pss_one (ps_set (i := 0) scBe.nd rfl (.inl rfl) (pe_call GT hr rfl mT FT.kp bT .nil pass0 (pa_cons (pv 0) (pa_cons (pe_call GF hr rfl mF FF.kp bF .nil pass0 (pa_cons (pv 0) (pa_cons (pv 2) pa_nil))) pa_nil))))))
      (pss_one (ps_ret (pv 0))), ?_⟩
    refine ⟨_, rfl, nt, rfl, ⟨_, hN⟩, ?_⟩
    refine for_tup (K := K) (a := nt) (xs := ns.map V.int) (fun i σ H' => ∃ (y' : V) (v2 : Option V), σ = [some y', some (.ref nt), v2] ∧ RowV K H' y' (RM.bhN R (ns.take i)) ∧ Same H H') ?_ ?_ ?_ ?_
    · exact ⟨y, none, rfl, by rw [List.take_zero]; exact hV, .refl H⟩
    · rintro i σ H' _ ⟨_, _, _, _, m⟩
      exact sqt_more m hN
    · rintro i z σ H' hz ⟨y', v2, rfl, q1, q2⟩
      obtain ⟨s', hs, rfl⟩ := ints_of hz
      have sm := List.mem_of_getElem? hs
      have nI : ∀ a ∈ ns.take i, 0 ≤ a := fun a ha => n0 a (List.mem_of_mem_take ha)
      have vI := RM.bhN_vd vd hm nI
      have lI := bhN_len (R := R) (ns.take i)
      have l2 : (ns.take i).length ≤ ns.length := by rw [List.length_take]; exact Nat.min_le_right _ _
      have tp := RM.top_lt vI hm
      have s0 := n0 s' sm
      refine ⟨_, rfl, _, rfl, _, rfl, y', s', m, _, rfl, q1, vI, hm, hm2, ?_⟩
      refine ⟨y', _, m, _, rfl, q1, vI, hm, by omega, by omega, by omega, fun y2 H2 V2 m2 => ?_⟩
      refine ⟨y2, _, rfl, ?_, q2.trans m2⟩
      rw [bhN_take hs, bh_tk]
      exact V2
    · rintro σ H' ⟨y', v2, rfl, q1, q2⟩
      rw [ln, List.take_length] at q1
      exact ⟨_, rfl, k y' H' q1 q2⟩
theorem scCI : FnScope ["stairs", "night", "sums", "supply", "x"] ["stairs", "night"] (defScope sCouldIn) := ⟨rfl, rfl, rfl, by decide +kernel, rfl, by decide +kernel, by decide +kernel⟩
theorem ok_couldIn {f fF fT : Addr} {fd dF dT : FuncData} (F : Fun K "could_in" "could_in" sCouldIn f fd) (GF : FnOk P w K mg base CX0 2 fF dF ["stairs", "supply"] (spFT K)) (FF : Fun K "first_taken" "first_taken" sFirstTaken fF dF) (mF : mg "first_taken" = some (.ref fF)) (bF : Binds K dF ["stairs", "supply"] [])
    (GT : FnOk P w K mg base CX0 2 fT dT ["stairs", "x"] (spTaken K)) (FT : Fun K "taken" "taken" sTaken fT dT) (mT : mg "taken" = some (.ref fT)) (bT : Binds K dT ["stairs", "x"] []) : FnOk P w K mg base CX0 3 f fd ["stairs", "night"] (spCould K) := by
  refine F.ok scCI (fun as H Q E h => ?_) (fun cdv A outer s H as Q E hr h => ?_)
  · obtain ⟨y, nt, m, R, ns, rfl, _⟩ := h
    rfl
  · obtain ⟨y, nt, m, R, ns, rfl, hV, vd, hm, hm2, hN, n0, l4, k⟩ := h
    have ln : (ns.map V.int).length = ns.length := List.length_map _
    refine ⟨_, pss_cons (ps_set (i := 2) scCI.nd rfl (.inl rfl) (pe_lst (pa_cons pe_int pa_nil)))
      (pss_cons (ps_for PassesOwn.never rfl (pi_tup (pv 1)) (pg_name (i := 3) scCI.nd rfl (.inl rfl))
        (pss_cons (ps_set (i := 4) scCI.nd rfl (.inl rfl) (pe_call GF hr rfl mF FF.kp bF .nil pass0 (pa_cons (pv 0) (pa_cons (pv 3) pa_nil))))
        (pss_cons (ps_expr (pe_bm PySem.F.plainAttrs_list PySem.F.slot_list_append PySem.F.type_list_append mt_append (pv 2) (pa_cons (pe_op op_add (pe_ix ix_list (pv 2) (pe_un un_neg pe_int) (fun _ _ => rfl)) (pv 4)) pa_nil)))
        (pss_one (ps_set (i := 0) scCI.nd rfl (.inl rfl) (pe_call GT hr rfl mT FT.kp bT .nil pass0 (pa_cons (pv 0) (pa_cons (pv 4) pa_nil))))))))
      (pss_one (ps_ret (pv 2)))), ?_⟩
    refine ⟨by show 1 ≤ sizeLine; decide, fun p hp => ?_⟩
    have m0 := same_new (o := .lst [.int 0]) (Same.refl H) hp
    have e0 : upd H p (.lst [.int 0]) p = some (.lst [.int 0]) := upd_same
    generalize upd H p (.lst [.int 0]) = H0 at m0 e0 ⊢
    refine ⟨_, rfl, nt, rfl, ⟨_, sqt_more m0 hN⟩, ?_⟩
    refine for_tup (K := K) (a := nt) (xs := ns.map V.int) (fun i σ H' => ∃ (y' : V) (v3 v4 : Option V), σ = [some y', some (.ref nt), some (.ref p), v3, v4] ∧ RowV K H' y' (RM.bhN R (ns.take i)) ∧ H' p = some (.lst (((List.range (i + 1)).map fun m => RM.tot R (ns.take m)).map V.int)) ∧ Same H H') ?_ ?_ ?_ ?_
    · exact ⟨y, none, none, rfl, by rw [List.take_zero]; exact hV.more m0, e0, m0⟩
    · rintro i σ H' _ ⟨_, _, _, _, _, _, m⟩
      exact sqt_more m hN
    · rintro i z σ H' hz ⟨y', v3, v4, rfl, q1, q3, q2⟩
      obtain ⟨s', hs, rfl⟩ := ints_of hz
      have hi : i < ns.length := (List.getElem?_eq_some_iff.mp hs).1
      have sm := List.mem_of_getElem? hs
      have nI : ∀ a ∈ ns.take i, 0 ≤ a := fun a ha => n0 a (List.mem_of_mem_take ha)
      have vI := RM.bhN_vd vd hm nI
      have lI := bhN_len (R := R) (ns.take i)
      have l2 : (ns.take i).length ≤ ns.length := by rw [List.length_take]; exact Nat.min_le_right _ _
      have tp := RM.top_lt vI hm
      have s0 := n0 s' sm
      refine ⟨_, rfl, _, rfl, y', s', m, _, rfl, q1, vI, hm, hm2, ?_⟩
      have q3' : H' p = some (.lst ((((List.range i).map fun m => RM.tot R (ns.take m)).map V.int) ++ [.int (RM.tot R (ns.take i))])) := by
        rw [q3, List.range_succ, List.map_append, List.map_append]
        rfl
      refine ⟨_, rfl, .inl ⟨rfl, _, SqL.of q3'⟩, _, rfl, 1, rfl, p, _, -1, .int (RM.tot R (ns.take i)), rfl, rfl, SqL.of q3', atI_last _ _, _, rfl, _, _, rfl, rfl, ?_⟩
      refine ⟨p, _, _, rfl, rfl, q3', ?_, ?_⟩
      · rw [List.length_append, List.length_map, List.length_map, List.length_range]
        exact small1000 (show i + 1 ≤ 1000 by omega)
      have B := But.put (o := .lst ((((List.range i).map fun m => RM.tot R (ns.take m)).map V.int) ++ [.int (RM.tot R (ns.take i))] ++ [.int (RM.tot R (ns.take i) + min s' (RM.top (RM.bhN R (ns.take i))))])) (But.of (l := p) (Same.refl H'))
      have V2 : RowV K (upd H' p (.lst ((((List.range i).map fun m => RM.tot R (ns.take m)).map V.int) ++ [.int (RM.tot R (ns.take i))] ++ [.int (RM.tot R (ns.take i) + min s' (RM.top (RM.bhN R (ns.take i))))]))) y' (RM.bhN R (ns.take i)) := by
        obtain ⟨t, xs, rfl, h1, h2⟩ := q1
        exact ⟨t, xs, rfl, sqt_but q3' B h1, runs_but q3' B h2⟩
      refine ⟨_, rfl, _, rfl, y', _, m, _, rfl, V2, vI, hm, by omega, by omega, by omega, fun y2 H2 V3 m2 => ?_⟩
      refine ⟨y2, _, _, rfl, ?_, ?_, (same_but q2 hp B).trans m2⟩
      · rw [bhN_take hs, bh_tk]
        exact V3
      · refine (m2 _ _ upd_same).trans ?_
        have e : (List.range (i + 1 + 1)).map (fun m => RM.tot R (ns.take m)) = (List.range i).map (fun m => RM.tot R (ns.take m)) ++ [RM.tot R (ns.take i)] ++ [RM.tot R (ns.take i) + min s' (RM.top (RM.bhN R (ns.take i)))] := by
          rw [List.range_succ, List.map_append, List.range_succ, List.map_append, ← tot_take hs]
          rfl
        rw [e, List.map_append, List.map_append]
        rfl
    · rintro σ H' ⟨y', v3, v4, rfl, q1, q3, q2⟩
      rw [ln] at q3
      exact ⟨_, rfl, k p H' q3 hp q2⟩
end
end Y

/-! drawn nights -/
namespace Y
open PySem PySem.Spec PyProof.Rows L2 Ns
open C8 (pss_cut)
def st1 (R : List Run) : List Int := R.map fun r => r.1
theorem sql_new {K : PySem.W.Frag} {H : Hp} {b p : Addr} {xs : List V} (e : H p = some (.lst xs)) (n : p ≠ b) : SqL K (wo H b) p xs := SqL.of ((wo_ne n).trans e)
def spSup (K : PySem.W.Frag) : Sp := fun as H Q _ => ∃ (b : Addr) (y : V) (R : List Run), as = [.ref b, y] ∧ Bag H b ∧ RowV K (wo H b) y R ∧ Runs R ∧ ∀ (v : Int) (H' : Hp), 0 ≤ v → v ≤ 10 ^ 12 - 1 → Bag H' b → Sb b H H' → Q (.int v) H'
def spNight (K : PySem.W.Frag) : Sp := fun as H Q _ => ∃ (b : Addr) (y : V) (most : Nat) (R : List Run), as = [.ref b, y, .int most] ∧ Bag H b ∧ RowV K (wo H b) y R ∧ Runs R ∧ most ≤ 20 ∧
  ∀ (t : Addr) (ns : List Int) (H' : Hp), H' t = some (.tup (ns.map V.int)) → t ≠ b → ns.length ≤ most → (∀ s ∈ ns, 0 ≤ s ∧ s ≤ 10 ^ 12 - 1) → Bag H' b → Sb b H H' → Q (.ref t) H'
section
variable {P : Program} {w : World} {K : PySem.W.Frag} {mg : Str → Option Value} {base : Heap}
theorem scNS : FnScope ["bag", "row", "step", "one", "many"] ["bag", "row"] (defScope sNearSupply) := ⟨rfl, rfl, rfl, by decide +kernel, rfl, by decide +kernel, by decide +kernel⟩
theorem ok_nearSupply {f fT fS : Addr} {fd dT dS : FuncData} (F : Fun K "_law_near_supply" "_law_near_supply" sNearSupply f fd) (T : Nat0 mg) (FT : Fun K "_law_take" "_law_take" sTake fT dT) (mT : mg "_law_take" = some (.ref fT)) (bT : Binds K dT ["bag", "many"] [])
    (FS : Fun K "_law_some" "_law_some" sSome fS dS) (mS : mg "_law_some" = some (.ref fS)) (bS : Binds K dS ["bag", "things"] []) : FnOk P w K mg base CX0 3 f fd ["bag", "row"] (spSup K) := by
  have GT : FnOk P w K mg base CX0 1 fT dT ["bag", "many"] spTake := ok_take FT T
  have GS : FnOk P w K mg base CX0 2 fS dS ["bag", "things"] (spSome K) := ok_some FS T FT mT bT
  refine F.ok scNS (fun as H Q E h => ?_) (fun cdv A outer s H as Q E hr h => ?_)
  · obtain ⟨b, y, R, rfl, _⟩ := h
    rfl
  · obtain ⟨b, y, R, rfl, hB, hV, hR, k⟩ := h
    have hr1 : Room 1 _ := hr.mono (by decide)
    refine ⟨_, pss_cons (ps_set (i := 2) scNS.nd rfl (.inl rfl) (pe_call GS hr rfl mS FS.kp bS .nil pass0 (pa_cons (pv 0) (pa_cons (pe_op op_cat (pe_lc (own := [("one", 3), ("many", 4)]) (g := gTup K 2 (gCons (gName 3) (gCons (gName 4) gNil))) (tt := tYes) rfl scNS.nd (pi_tup (pv 1))
        (blkOk_by (N := ["bag", "row", "step", "one", "many"]) (sc := defScope sNearSupply) (by decide +kernel)) (fun _ _ _ _ _ => pg_tup rfl (pgs_cons (pg_name (i := 3) scNS.nd rfl (Or.inl rfl)) (pgs_cons (pg_name (i := 4) scNS.nd rfl (Or.inl rfl)) pgs_nil))) (fun _ _ _ _ _ => pts_nil) (fun _ _ _ _ _ => pv 3))
        (pe_lst (pa_cons pe_int pa_nil))) pa_nil))))
      (pss_one (ps_ret (pe_callB (call_min2 rfl) (by rfl) T.min (by decide +kernel) (pa_cons (pe_op op_sub (pe_op op_pow pe_int pe_int) pe_int) (pa_cons (pe_call GS hr rfl mS FS.kp bS .nil pass0 (pa_cons (pv 0) (pa_cons (pe_lst (pa_cons (pv 2) (pa_cons (pe_op op_add (pv 2) pe_int)
        (pa_cons (pe_callB (call_max2 rfl) (by rfl) T.max (by decide +kernel) (pa_cons pe_int (pa_cons (pe_op op_sub (pv 2) pe_int) pa_nil))) (pa_cons pe_int (pa_cons pe_int (pa_cons (pe_call GT hr1 rfl mT FT.kp bT .nil pass0 (pa_cons (pv 0) (pa_cons (pe_op op_add (pv 2) pe_int) pa_nil))) (pa_cons (pe_op op_sub (pe_op op_pow pe_int pe_int) pe_int) pa_nil)))))))) pa_nil))) pa_nil))))), ?_⟩
    obtain ⟨t, xs, rfl, v1, v2⟩ := hV
    have lx := paired_len v2
    have w1 := sqt_more (wo_sub H b) v1
    have w2 : Paired (RunV K H) xs R := paired_imp (fun v c ⟨a, e1, q⟩ => ⟨a, e1, sqt_more (wo_sub H b) q⟩) v2
    refine ⟨_, rfl, _, rfl, t, rfl, ⟨_, w1⟩, fun D hD => ?_⟩
    refine lc_tup (K := K) (a := t) (xs := xs) (fun i H' => H' D = some (.lst ((st1 (R.take i)).map V.int)) ∧ Same H H') ?_ ?_ ?_ ?_
    · exact ⟨by rw [List.take_zero, upd_same]; rfl, same_new (Same.refl H) hD⟩
    · rintro i H' _ ⟨_, sm⟩
      exact sqt_more sm w1
    · rintro i z H' hz ⟨e1, e2⟩
      obtain ⟨r, hr', q, rfl, hq⟩ := paired_at w2 hz
      have hi' : i < R.length := (List.getElem?_eq_some_iff.mp hr').1
      have l4 := hR.1
      refine ⟨q, _, rfl, sqt_more e2 hq, rfl, _, _, rfl, _, _, rfl, rfl, ?_⟩
      refine ⟨rfl, _, rfl, _, e1, ?_, ?_, same_put e2 hD⟩
      · unfold st1
        rw [List.length_map, List.length_map, List.length_take]
        exact small1000 (by omega)
      · unfold st1
        rw [upd_same, List.take_succ, hr']
        simp
    rintro H1 ⟨e1, m1⟩
    rw [lx, List.take_length] at e1
    refine ⟨by show 1 ≤ sizeLine; decide, fun q hq => ?_⟩
    have l4 := hR.1
    have ls : (st1 R).length = R.length := List.length_map _
    refine ⟨D, q, _, _, rfl, rfl, s3u hq e1, upd_same, by rw [List.length_map, ls]; exact Nat.le_of_lt (small1000 (show R.length + 1 ≤ 1000 by omega)), fun u hu => ?_⟩
    have ea : ((st1 R).map V.int ++ [V.int 0] : List V) = (st1 R ++ [0]).map V.int := by rw [List.map_append]; rfl
    have m2 := same_new (o := .lst ((st1 R).map V.int ++ [.int 0])) (same_new (o := .lst [.int 0]) m1 hq) hu
    have nub : u ≠ b := (hB.keep (same_new (o := .lst [.int 0]) m1 hq)).ne hu
    have u2 : upd (upd H1 q (.lst [.int 0])) u (.lst ((st1 R).map V.int ++ [.int 0])) u = some (.lst ((st1 R ++ [0]).map V.int)) := by rw [upd_same, ea]
    generalize upd (upd H1 q (.lst [.int 0])) u (.lst ((st1 R).map V.int ++ [.int 0])) = H2 at m2 u2 ⊢
    have B2 := hB.keep m2
    have S2 := (Sb.refl b H).same m2
    refine ⟨b, u, _, rfl, B2, sql_new u2 nub, by simp, by rw [List.length_map, List.length_append, ls]; show R.length + 1 ≤ 1000000; omega, fun v H3 hv B3 s3 => ?_⟩
    obtain ⟨st, hst, rfl⟩ := List.mem_map.mp hv
    have st0 : 0 ≤ st ∧ st ≤ 10 ^ 12 := by
      rcases List.mem_append.mp hst with h | h
      · obtain ⟨r, hr', rfl⟩ := List.mem_map.mp h
        have := hR.2 r hr'
        omega
      · rw [List.mem_singleton.mp h]
        decide
    have S3 := S2.trans s3
    refine ⟨10, 12, rfl, rfl, ⟨by decide, by decide, by decide⟩, _, _, rfl, rfl, ?_⟩
    refine ⟨_, rfl, _, rfl, _, rfl, _, _, rfl, rfl, _, rfl, _, _, rfl, rfl, _, _, rfl, ?_⟩
    refine ⟨_, rfl, _, rfl, _, _, rfl, rfl, b, st + 3, rfl, B3, by omega, Nat.lt_of_le_of_lt (show (st + 3).natAbs ≤ 10 ^ 13 by omega) (by decide +kernel), fun tv H4 t0 t1 B4 s4 => ?_⟩
    refine ⟨10, 12, rfl, rfl, ⟨by decide, by decide, by decide⟩, _, _, rfl, rfl, by show 7 ≤ sizeLine; decide, fun p hp => ?_⟩
    have B5 := B4.new (o := .lst [.int st, .int (st + 1), .int (if st - 1 > 0 then st - 1 else 0), .int 0, .int 1, .int tv, .int ((10 : Int) ^ (12 : Int).toNat - 1)]) hp
    have S5 := (S3.trans s4).new (o := .lst [.int st, .int (st + 1), .int (if st - 1 > 0 then st - 1 else 0), .int 0, .int 1, .int tv, .int ((10 : Int) ^ (12 : Int).toNat - 1)]) hp
    refine ⟨b, p, [.int st, .int (st + 1), .int (if st - 1 > 0 then st - 1 else 0), .int 0, .int 1, .int tv, .int ((10 : Int) ^ (12 : Int).toNat - 1)], rfl, B5, sql_new upd_same (B4.ne hp), (fun z => nomatch z), by show 7 ≤ 1000000; decide, fun v5 H6 hv5 B6 s6 => ?_⟩
    obtain ⟨n, rfl, n0⟩ : ∃ n : Int, v5 = .int n ∧ 0 ≤ n := by
      simp only [List.mem_cons, List.not_mem_nil, or_false] at hv5
      rcases hv5 with rfl | rfl | rfl | rfl | rfl | rfl | rfl
      · exact ⟨_, rfl, st0.1⟩
      · exact ⟨_, rfl, by omega⟩
      · exact ⟨_, rfl, by split <;> omega⟩
      · exact ⟨_, rfl, by decide⟩
      · exact ⟨_, rfl, by decide⟩
      · exact ⟨_, rfl, t0⟩
      · exact ⟨_, rfl, by decide⟩
    refine ⟨_, n, rfl, ?_⟩
    have e12 : (10 : Int) ^ (12 : Int).toNat - 1 = 999999999999 := by decide
    refine k _ H6 ?_ ?_ B6 (S5.trans s6)
    · split
      · exact n0
      · rw [e12]
        decide
    · split
      · rw [e12] at *
        omega
      · rw [e12]
        decide
end
end Y

/-! what the law of rows' numbers compares -/
namespace Y
open PySem PySem.Spec PyProof.Rows L2 Ns
theorem dp_ints {K : PySem.W.Frag} {H : Hp} : ∀ l : List Int, DpAll K H (l.map V.int) (l.map PyData.int)
  | [] => .nil
  | i :: l => .cons (.int i) (dp_ints l)
theorem lay_ints : ∀ l : List Int, PyData.canLayAll0 (l.map PyData.int) = true ∧ PyData.depthAll (l.map PyData.int) = 0
  | [] => ⟨rfl, by simp [PyData.depthAll]⟩
  | i :: l => by
    obtain ⟨h1, h2⟩ := lay_ints l
    exact ⟨by simp [PyData.canLayAll0, PyData.canLay0, h1], by simp [PyData.depthAll, PyData.depth, h2]⟩
theorem shaped_ints (l : List Int) : SeqAt.shaped (.list (l.map PyData.int)) = true := by
  obtain ⟨h1, h2⟩ := lay_ints l
  unfold SeqAt.shaped
  rw [Bool.and_eq_true]
  refine ⟨by simp [PyData.canLay0, h1], decide_eq_true ?_⟩
  simp only [PyData.depth, h2]
  decide
theorem big_ok {n : Nat} (h : n ≤ 1000000) : n ≤ sizeLine := by rw [sizeLine_eq]; omega
theorem fit_num {i : Int} (h0 : 0 ≤ i) (h : i ≤ 10 ^ 28) : Fit 300 0 (.int i) :=
  (fit_int (n := 29) (by decide) (by omega) (by decide)).mono (by decide) (Nat.le_refl _)
theorem fit_ints {l : List Int} (hl : l.length ≤ 100) (h : ∀ i ∈ l, 0 ≤ i ∧ i ≤ 10 ^ 28) : Fit 40000 1 (.tuple (l.map PyData.int)) := by
  refine (fit_tuple (m := 300) (k := 0) fun d hd => ?_).mono ?_ (by decide)
  · obtain ⟨x, hx, rfl⟩ := List.mem_map.mp hd
    exact fit_num (h x hx).1 (h x hx).2
  · rw [List.length_map]
    omega
section
variable {K : PySem.W.Frag} {H : Hp}
theorem dat_ints : ∀ ls : List Int, DatA K H (ls.map V.int) (ls.map PyData.int)
  | [] => .nil
  | _ :: ls => .cons (.int _) (dat_ints ls)
theorem same_rows {E : V → V → Prop} : ∀ {xs : List V}, (∀ x ∈ xs, E x x) → Paired E xs xs
  | [], _ => .nil
  | x :: xs, h => .cons (h x List.mem_cons_self) (same_rows fun y hy => h y (List.mem_cons_of_mem _ hy))
theorem eqT_flat {x : V} (n : Nat) (h : flatB x = true) : EqT K H (n + 1) x x := .inl ⟨rfl, h⟩
theorem eqT_tup {a b : Addr} {xs : List V} (n : Nat) (ha : SqT K H a xs) (hb : SqT K H b xs) (h : ∀ x ∈ xs, flatB x = true) : EqT K H (n + 2) (.ref a) (.ref b) :=
  .inr (.inr (.inr ⟨a, b, xs, xs, rfl, rfl, ha, hb, same_rows fun x hx => eqT_flat n (h x hx)⟩))
theorem flat_ints {l : List Int} : ∀ x ∈ l.map V.int, flatB x = true := fun x hx => by
  obtain ⟨t, _, rfl⟩ := List.mem_map.mp hx
  rfl
/-- two lists of the same two numbers -/
theorem eq_two {a b : Addr} {i j : Int} (ha : H a = some (.lst [.int i, .int j])) (hb : H b = some (.lst [.int i, .int j])) : EqS K H 3 (.ref a) (.ref b) :=
  .inl (.inl ⟨a, b, _, _, rfl, rfl, SqL.of ha, SqL.of hb, .cons (eqT_flat 2 rfl) (.cons (eqT_flat 2 rfl) .nil)⟩)
theorem dat_two {a : Addr} {i j : Int} (ha : H a = some (.lst [.int i, .int j])) : DatV K H (.ref a) (.list [.int i, .int j]) := .lst (SqL.of ha) (.cons (.int _) (.cons (.int _) .nil))
theorem fit_two {i j : Int} (h1 : 0 ≤ i) (h2 : i ≤ 10 ^ 28) (h3 : 0 ≤ j) (h4 : j ≤ 10 ^ 28) : Fit 1000 1 (.list [.int i, .int j]) := by
  refine (fit_list (m := 300) (k := 0) fun d hd => ?_).mono (show 2 * (300 + 2) + 3 ≤ 1000 by decide) (by decide)
  simp only [List.mem_cons, List.not_mem_nil, or_false] at hd
  rcases hd with rfl | rfl
  · exact fit_num h1 h2
  · exact fit_num h3 h4
/-- two lists of the same two numbers and the same tuple of numbers -/
theorem eq_three {a b p q : Addr} {i j : Int} {l : List Int} (ha : H a = some (.lst [.int i, .int j, .ref p])) (hb : H b = some (.lst [.int i, .int j, .ref q])) (hp : H p = some (.tup (l.map V.int))) (hq : H q = some (.tup (l.map V.int))) : EqS K H 4 (.ref a) (.ref b) :=
  .inl (.inl ⟨a, b, _, _, rfl, rfl, SqL.of ha, SqL.of hb, .cons (eqT_flat 3 rfl) (.cons (eqT_flat 3 rfl) (.cons (eqT_tup 2 (SqT.of hp) (SqT.of hq) flat_ints) .nil))⟩)
theorem dat_three {a p : Addr} {i j : Int} {l : List Int} (ha : H a = some (.lst [.int i, .int j, .ref p])) (hp : H p = some (.tup (l.map V.int))) : DatV K H (.ref a) (.list [.int i, .int j, .tuple (l.map PyData.int)]) :=
  .lst (SqL.of ha) (.cons (.int _) (.cons (.int _) (.cons (.tup (SqT.of hp) (dat_ints l)) .nil)))
theorem fit_three {i j : Int} {l : List Int} (h1 : 0 ≤ i) (h2 : i ≤ 10 ^ 28) (h3 : 0 ≤ j) (h4 : j ≤ 10 ^ 28) (hl : l.length ≤ 100) (h : ∀ i ∈ l, 0 ≤ i ∧ i ≤ 10 ^ 28) : Fit 200000 2 (.list [.int i, .int j, .tuple (l.map PyData.int)]) := by
  refine (fit_list (m := 40000) (k := 1) fun d hd => ?_).mono (show 3 * (40000 + 2) + 3 ≤ 200000 by decide) (by decide)
  simp only [List.mem_cons, List.not_mem_nil, or_false] at hd
  rcases hd with rfl | rfl | rfl
  · exact (fit_num h1 h2).mono (by decide) (by decide)
  · exact (fit_num h3 h4).mono (by decide) (by decide)
  · exact fit_ints hl h
end
/-- the ends lie between -/
theorem ends_bd {R : List Run} (h : Runs R) : ∀ e ∈ ends R 0, 0 ≤ e ∧ e ≤ 8 * 10 ^ 14 := by
  have : ∀ (R : List Run) (a : Int), 0 ≤ a → (∀ r ∈ R, 0 ≤ r.2) → ∀ e ∈ ends R a, 0 ≤ e ∧ e ≤ a + hrs R := by
    intro R
    induction R with
    | nil => intro a _ _ e he; cases he
    | cons r R ih =>
      intro a ha hr e he
      have h1 := hr r List.mem_cons_self
      have tl : ∀ q ∈ R, 0 ≤ q.2 := fun q hq => hr q (List.mem_cons_of_mem _ hq)
      have p : 0 ≤ hrs R := by rw [← lay_len tl]; omega
      have e1 : hrs (r :: R) = r.2 + hrs R := by unfold hrs; rw [List.map_cons, List.sum_cons]
      rcases List.mem_cons.mp he with z | z
      · omega
      · have := ih (a + r.2) (by omega) tl e z
        omega
  intro e he
  have := this R 0 (Int.le_refl _) h.nn e he
  have := (hrs_bd h).2
  omega
theorem laid_at {R : List Run} {hour : Int} (nn : ∀ r ∈ R, 0 ≤ r.2) (hs : hrs R ≤ 200) (h0 : 0 ≤ hour) : (lay R ++ List.replicate 300 0)[(mn hour 250).toNat]? = some (stp R (hour + 1)) := by
  have ll := lay_len nn
  have e1 : ((hour.toNat : Nat) : Int) = hour := by omega
  have e2 := lay_at (n := hour.toNat) nn
  rw [e1] at e2
  rw [← e2]
  by_cases c : hour ≤ 250
  · rw [mn_le c]
    by_cases d : hour.toNat < (lay R).length
    · rw [List.getElem?_append_left d, List.getElem?_eq_getElem d]
      rfl
    · rw [List.getElem?_append_right (by omega), List.getElem?_replicate, if_pos (by omega), List.getElem?_eq_none (by omega)]
      rfl
  · rw [mn_ge (show (250 : Int) ≤ hour by omega), List.getElem?_append_right (by omega), List.getElem?_replicate, if_pos (by omega), List.getElem?_eq_none (by omega)]
    rfl
end Y

/-! rows behind nights: an hour less, the number of steps -/
namespace RM
theorem tot_row {r r' : List Run} {m m' : Int} {n : List Int} (v : Vd m r) (hm : 1 ≤ m) (v' : Vd m' r') (hm' : 1 ≤ m') (hn : ∀ s ∈ n, 0 ≤ s) (h : ∀ k : Nat, rch r' (k : Int) ≤ rch r (k : Int)) : tot r' n ≤ tot r n := by
  rw [tot_is v hm hn, tot_is v' hm' hn]
  exact Tn_mono (LeN.refl n) h 0
theorem bh_le {r : List Run} {m s h : Int} (v : Vd m r) (hm : 1 ≤ m) (hs : 0 ≤ s) (h0 : 0 ≤ h) : rch (bh r s) h ≤ rch r h := by
  have e := bh_rch v hm hs h0
  have st := rch_step v h0
  have t0 := (top_lt v hm).1
  omega
/-- a night without an hour -/
theorem tot_skip {r : List Run} {m s : Int} {a b : List Int} (v : Vd m r) (hm : 1 ≤ m) (hn : ∀ t ∈ a ++ s :: b, 0 ≤ t) : tot r (a ++ b) ≤ tot r (a ++ s :: b) ∧ tot r (a ++ s :: b) ≤ tot r (a ++ b) + min s (top r) := by
  have hs : 0 ≤ s := hn s (by simp)
  have hab : ∀ t ∈ a ++ b, 0 ≤ t := fun t ht => hn t (by
    rcases List.mem_append.mp ht with h | h
    · exact List.mem_append.mpr (.inl h)
    · exact List.mem_append.mpr (.inr (List.mem_cons_of_mem _ h)))
  have p1 : (a ++ s :: b).Perm (s :: (a ++ b)) := List.perm_middle
  have p2 : ((a ++ b) ++ [s]).Perm (a ++ s :: b) := (List.perm_append_comm (l₁ := a ++ b) (l₂ := [s])).trans p1.symm
  constructor
  · rw [← (night_perm v hm hn p2).2, tot_app (a ++ b) r [s]]
    have tb := top_lt (bhN_vd v hm hab) hm
    show _ ≤ _ + (min s (top (bhN r (a ++ b))) + 0)
    omega
  · have e := (night_perm v hm hn p1.symm).2
    rw [← e]
    have k := tot_row v hm (bh_vd v hm hs) hm hab fun k => bh_le v hm hs (show (0 : Int) ≤ (k : Int) by omega)
    show min s (top r) + tot (bh r s) (a ++ b) ≤ _
    omega
/-- the number of steps -/
def hoursN (r : List Run) : Int := (r.map fun q => q.2).sum
theorem hoursN_cons (q : Run) (r : List Run) : hoursN (q :: r) = q.2 + hoursN r := by unfold hoursN; rw [List.map_cons, List.sum_cons]
theorem hoursN_app (a b : List Run) : hoursN (a ++ b) = hoursN a + hoursN b := by unfold hoursN; rw [List.map_append, List.sum_append]
theorem hoursN_nil : hoursN [] = 0 := rfl
theorem hoursN_one (s t : Int) : hoursN (one s t) = t := by
  unfold one
  split
  · next h => rw [h]; rfl
  · show t + 0 = t
    omega
theorem tkc_hours : ∀ (x : Int) (r : List Run), hoursN (tkc x r) ≤ hoursN r
  | _, [] => Int.le_refl _
  | x, [q] => by
    unfold tkc
    rw [hoursN_app, hoursN_one, hoursN_cons, hoursN_nil]
    split
    · rw [hoursN_nil]
      omega
    · rw [hoursN_cons, hoursN_nil]
      show q.2 - 1 + (1 + 0) ≤ _
      omega
  | x, q :: p :: B => by
    unfold tkc
    split
    · have := tkc_hours x (p :: B)
      rw [hoursN_cons, hoursN_cons]
      omega
    · rw [hoursN_app, hoursN_one, hoursN_cons, hoursN_cons]
      split
      · rw [hoursN_cons]
        omega
      · rw [hoursN_cons, hoursN_app, hoursN_one]
        show q.2 - 1 + (1 + (p.2 - 1 + hoursN B)) ≤ _
        omega
theorem bh_hours (r : List Run) (s : Int) : hoursN (bh r s) ≤ hoursN r := by
  unfold bh
  split
  · exact Int.le_refl _
  · exact tkc_hours _ _
theorem bhN_hours : ∀ (n : List Int) (r : List Run), hoursN (bhN r n) ≤ hoursN r
  | [], r => Int.le_refl _
  | s :: n, r => by
    show hoursN (bhN (bh r s) n) ≤ _
    have := bhN_hours n (bh r s)
    have := bh_hours r s
    omega
end RM

/-! COULD by the program, of STAIRS -/
namespace Y
open PySem PySem.Spec PyProof.Rows L2 Ns
theorem rch_rm : ∀ (R : List Run) (h : Int), rch R h = RM.rch R h
  | [], _ => rfl
  | r :: R, h => by
    show r.1 * mn r.2 h + rch R (h - mn r.2 h) = r.1 * min r.2 h + RM.rch R (h - min r.2 h)
    rw [rch_rm R, mn_min]
/-- sums of the first ones -/
def pres (ms : List Int) (i : Nat) : List Int := (List.range (i + 1)).map fun k => (ms.take k).sum
theorem pres_succ {ms : List Int} {i : Nat} {s : Int} (h : ms[i]? = some s) : pres ms (i + 1) = pres ms i ++ [(ms.take i).sum + s] := by
  unfold pres
  rw [List.range_succ, List.map_append, List.map_singleton, List.take_succ, h]
  simp
theorem pres_len (ms : List Int) (i : Nat) : (pres ms i).length = i + 1 := by
  unfold pres
  rw [List.length_map, List.length_range]
theorem pres_at {ms : List Int} {i k : Nat} (h : k ≤ i) : (pres ms i)[k]? = some (ms.take k).sum := by
  unfold pres
  rw [List.getElem?_map, List.getElem?_range (by omega)]
  rfl
def spTold (K : PySem.W.Frag) : Sp := fun as H Q _ => ∃ (y : V) (nt : Addr) (R : List Run) (ns : List Int), as = [y, .ref nt] ∧ RowV K H y R ∧ (∀ r ∈ R, -(2 ^ 64) < r.1 ∧ r.1 < 2 ^ 64) ∧ SqT K H nt (ns.map V.int) ∧ ns.length ≤ 100 ∧
  ∀ (ms : List Int) (p : Addr) (H' : Hp), ms.Perm ns → ms.Pairwise (· ≤ ·) → H' p = some (.lst (((List.range (ns.length + 1)).map fun h : Nat => rch R (h : Int) + (ms.take (ns.length - h)).sum).map V.int)) → H p = none → Same H H' → Q (.ref p) H'
def spAtEnd (K : PySem.W.Frag) : Sp := fun as H Q _ => ∃ (y : V) (nt : Addr) (m : Int) (R : List Run) (ns : List Int), as = [y, .ref nt] ∧ RowV K H y R ∧ RM.Vd m R ∧ 1 ≤ m ∧ m ≤ 2 ^ 60 ∧ SqT K H nt (ns.map V.int) ∧ (∀ s ∈ ns, 0 ≤ s) ∧ ns.length ≤ 100 ∧
  ∀ (H' : Hp), Same H H' → Q (.int (RM.tot R ns)) H'
def spPB (K : PySem.W.Frag) : Sp := fun as H Q _ => ∃ (y : V) (nt : Addr) (m : Int) (R : List Run) (ns : List Int), as = [y, .ref nt] ∧ RowV K H y R ∧ RM.Vd m R ∧ 1 ≤ m ∧ m ≤ 2 ^ 60 ∧ SqT K H nt (ns.map V.int) ∧ (∀ s ∈ ns, 0 ≤ s) ∧ ns.length ≤ 100 ∧
  ∀ (p : Addr) (H' : Hp), H' p = some (.tup ((cin R ns).map V.int)) → H p = none → Same H H' → Q (.ref p) H'
section
variable {P : Program} {w : World} {K : PySem.W.Frag} {mg : Str → Option Value} {base : Heap}
theorem scTF : FnScope ["steps", "supplies", "least", "supply", "many", "h"] ["steps", "supplies"] (defScope sTold) := ⟨rfl, rfl, rfl, by decide +kernel, rfl, by decide +kernel, by decide +kernel⟩
theorem ok_told {f fR : Addr} {fd dR : FuncData} (F : Fun K "told_for" "told_for" sTold f fd) (T : Nat0 mg) (FR : Fun K "reach_in" "reach_in" sReachIn fR dR) (mR : mg "reach_in" = some (.ref fR)) (bR : Binds K dR ["stairs", "h"] []) : FnOk P w K mg base CX0 2 f fd ["steps", "supplies"] (spTold K) := by
  have GR : FnOk P w K mg base CX0 1 fR dR ["stairs", "h"] (spRI K rch) := ok_reachIn FR T
  refine F.ok scTF (fun as H Q E h => ?_) (fun cdv A outer s H as Q E hr h => ?_)
  · obtain ⟨y, nt, R, ns, rfl, _⟩ := h
    rfl
  · obtain ⟨y, nt, R, ns, rfl, hV, hb, hN, l100, k⟩ := h
    refine ⟨_, pss_cons (ps_set (i := 2) scTF.nd rfl (.inr rfl) (pe_lst (pa_cons pe_int pa_nil)))
      (pss_cons (ps_for PassesOwn.never rfl (pi_list (pe_callB cr_sortedTI (by rfl) T.sorted (by decide +kernel) (pa_cons (pv 1) pa_nil))) (pg_name (i := 3) scTF.nd rfl (.inl rfl))
        (pss_one (ps_expr (pe_bm PySem.F.plainAttrs_list PySem.F.slot_list_append PySem.F.type_list_append mt_append (pv 2) (pa_cons (pe_op op_add (pe_ix ix_list (pv 2) (pe_un un_neg pe_int) (fun _ _ => rfl)) (pv 3)) pa_nil)))))
      (pss_cons (ps_set (i := 4) scTF.nd rfl (.inr rfl) (pe_callB call_len_seq (by rfl) T.len PySem.boot_len (pa_cons (pv 1) pa_nil)))
      (pss_one (ps_ret (pe_lc (own := [("h", 5)]) (g := gName 5) (tt := tYes) (te := tOp (rI0 fun i j => V.int (i + j)) _ (tOp (rIxL K) (tVar 2) (tOp (rI0 fun i j => V.int (i - j)) (tVar 4) (tVar 5)))) rfl scTF.nd (pi_range1 (by rfl) T.range (pa_cons (pe_op op_add (pv 4) pe_int) pa_nil)) (blkOk_by (N := ["steps", "supplies", "least", "supply", "many", "h"]) (sc := defScope sTold) (by decide +kernel)) (fun _ _ _ _ _ => pg_name (i := 5) scTF.nd rfl (Or.inl rfl)) (fun _ _ _ _ _ => pts_nil)
        (fun _ _ _ _ _ => by exact pe_op op_add (pe_call GR hr rfl mR FR.kp bR .nil pass0 (pa_cons (pv 0) (pa_cons (pv 5) pa_nil))) (pe_ix ix_list (pv 2) (pe_op op_sub (pv 4) (pv 5)) (fun _ _ => rfl)))))))), ?_⟩
    have ln : (ns.map V.int).length = ns.length := List.length_map _
    refine ⟨by show 1 ≤ sizeLine; decide, fun p hp => ?_⟩
    have m0 := same_new (o := .lst [.int 0]) (Same.refl H) hp
    have e0 : upd H p (.lst [.int 0]) p = some (.lst [.int 0]) := upd_same
    generalize upd H p (.lst [.int 0]) = H0 at m0 e0 ⊢
    refine ⟨_, rfl, nt, ns, rfl, sqt_more m0 hN, fun ms q pm srt hq => ⟨q, rfl, ⟨_, SqL.of upd_same⟩, ?_⟩⟩
    have lm : ms.length = ns.length := pm.length_eq
    have mq := same_new (o := .lst (ms.map V.int)) m0 hq
    have e1 : upd H0 q (.lst (ms.map V.int)) p = some (.lst [.int 0]) := s3u hq e0
    have q1 : upd H0 q (.lst (ms.map V.int)) q = some (.lst (ms.map V.int)) := upd_same
    have npq : q ≠ p := fun z => by rw [z, e0] at hq; cases hq
    generalize upd H0 q (.lst (ms.map V.int)) = H1 at mq e1 q1 ⊢
    refine for_list (K := K) (a := q) (xs := ms.map V.int) (fun i σ H' => ∃ v3 v4 v5 : Option V, σ = [some y, some (.ref nt), some (.ref p), v3, v4, v5] ∧ H' p = some (.lst ((pres ms i).map V.int)) ∧ H' q = some (.lst (ms.map V.int)) ∧ Same H H') ?_ ?_ ?_ ?_
    · exact ⟨_, _, _, rfl, e1, q1, mq⟩
    · rintro i σ H' _ ⟨_, _, _, _, _, z, _⟩
      exact SqL.of z
    · rintro i z σ H' hz ⟨v3, v4, v5, rfl, a1, a2, a3⟩
      obtain ⟨s', hs, rfl⟩ := ints_of hz
      have hi : i < ms.length := (List.getElem?_eq_some_iff.mp hs).1
      have a1' : H' p = some (.lst ((((List.range i).map fun k => (ms.take k).sum).map V.int) ++ [.int (ms.take i).sum])) := by
        rw [a1]
        unfold pres
        rw [List.range_succ, List.map_append, List.map_append]
        rfl
      refine ⟨_, rfl, .inl ⟨rfl, _, SqL.of a1⟩, _, rfl, 1, rfl, p, _, -1, .int (ms.take i).sum, rfl, rfl, SqL.of a1', atI_last _ _, _, rfl, _, _, rfl, rfl, ?_⟩
      refine ⟨p, _, _, rfl, rfl, a1, ?_, _, _, _, rfl, ?_, ?_, same_put a3 hp⟩
      · rw [List.length_map, pres_len]
        exact small1000 (show i + 1 ≤ 1000 by omega)
      · rw [upd_same, int_row, pres_succ hs]
      · rw [upd_ne npq]
        exact a2
    rintro σ H2 ⟨v3, v4, v5, rfl, a1, a2, a3⟩
    rw [List.length_map, lm] at a1
    refine ⟨_, rfl, nt, _, rfl, .inr (sqt_more a3 hN), ?_⟩
    rw [ln]
    refine ⟨_, rfl, _, _, rfl, rfl, _, rfl, by omega, by omega, fun D hD => ?_⟩
    refine lc_range (lo := 0) (n := ((ns.length : Int) + 1).toNat) (fun i H' => H' D = some (.lst (((List.range i).map fun h : Nat => rch R (h : Int) + (ms.take (ns.length - h)).sum).map V.int)) ∧ Same H2 H') ?_ ?_ ?_
    · exact ⟨upd_same, same_new (Same.refl H2) hD⟩
    · rintro i H' hi ⟨b1, b2⟩
      rw [Int.zero_add]
      have hi' : i ≤ ns.length := by omega
      refine ⟨rfl, _, rfl, _, rfl, y, (i : Int), R, rfl, (hV.more a3).more b2, hb, ?_⟩
      have at' : ((pres ms ns.length).map V.int)[(ns.length - i : Nat)]? = some (.int (ms.take (ns.length - i)).sum) := by rw [List.getElem?_map, pres_at (by omega)]; rfl
      refine ⟨_, rfl, _, rfl, _, rfl, _, _, rfl, rfl, p, _, (ns.length : Int) - (i : Int), .int (ms.take (ns.length - i)).sum, rfl, rfl, SqL.of (b2 _ _ a1), by rw [show (ns.length : Int) - (i : Int) = ((ns.length - i : Nat) : Int) by omega]; exact atI_nat at', _, _, rfl, rfl, _, b1, ?_, ?_, same_put b2 hD⟩
      · rw [List.length_map, List.length_map, List.length_range]
        exact small1000 (by omega)
      · rw [upd_same, List.range_succ]
        simp
    rintro H3 ⟨b1, b2⟩
    rw [show ((ns.length : Int) + 1).toNat = ns.length + 1 by omega] at b1
    exact k ms D H3 pm srt b1 (by
      cases e : H D with
      | none => rfl
      | some o => exact absurd (a3 _ _ e) (by rw [hD]; exact fun z => nomatch z)) (a3.trans b2)
theorem tot_told {R : List Run} {ns ms : List Int} {m x : Int} (v : RM.Vd m R) (hm : 1 ≤ m) (n0 : ∀ s ∈ ns, 0 ≤ s) (pm : ms.Perm ns) (srt : ms.Pairwise (· ≤ ·)) (hx : x ∈ (List.range (ns.length + 1)).map fun h : Nat => rch R (h : Int) + (ms.take (ns.length - h)).sum) (hl : ∀ n ∈ (List.range (ns.length + 1)).map fun h : Nat => rch R (h : Int) + (ms.take (ns.length - h)).sum, x ≤ n) : x = RM.tot R ns := by
  have t := RM.Tn_least (RM.rN R) ns.length ms pm.length_eq srt 0
  rw [RM.tot_is v hm n0, ← RM.Tn_perm pm]
  refine least_one (m := ns.length) (f := fun h => RM.rN R (0 + h) + (ms.take (ns.length - h)).sum) ⟨?_, fun h hh => ?_⟩ t
  · obtain ⟨h, hh, rfl⟩ := List.mem_map.mp hx
    have := List.mem_range.mp hh
    refine ⟨h, by omega, ?_⟩
    show _ = RM.rN R (0 + h) + (ms.take (ns.length - h)).sum
    rw [Nat.zero_add, rch_rm]
    rfl
  · have := hl _ (List.mem_map.mpr ⟨h, List.mem_range.mpr (by omega), rfl⟩)
    rw [rch_rm] at this
    show _ ≤ RM.rN R (0 + h) + (ms.take (ns.length - h)).sum
    rw [Nat.zero_add]
    exact this
theorem scAE : FnScope ["steps", "night"] ["steps", "night"] (defScope sAtEnd) := ⟨rfl, rfl, rfl, by decide +kernel, rfl, by decide +kernel, by decide +kernel⟩
theorem ok_atEnd {f fT : Addr} {fd dT : FuncData} (F : Fun K "could_at_end" "could_at_end" sAtEnd f fd) (T : Nat0 mg) (GT : FnOk P w K mg base CX0 2 fT dT ["steps", "supplies"] (spTold K)) (FT : Fun K "told_for" "told_for" sTold fT dT) (mT : mg "told_for" = some (.ref fT)) (bT : Binds K dT ["steps", "supplies"] []) : FnOk P w K mg base CX0 3 f fd ["steps", "night"] (spAtEnd K) := by
  refine F.ok scAE (fun as H Q E h => ?_) (fun cdv A outer s H as Q E hr h => ?_)
  · obtain ⟨y, nt, m, R, ns, rfl, _⟩ := h
    rfl
  · obtain ⟨y, nt, m, R, ns, rfl, hV, vd, hm, hm2, hN, n0, l100, k⟩ := h
    refine ⟨_, pss_one (ps_ret (pe_callB (cr_min rfl) (by rfl) T.min (by decide +kernel) (pa_cons (pe_call GT hr rfl mT FT.kp bT .nil pass0 (pa_cons (pv 0) (pa_cons (pv 1) pa_nil))) pa_nil))), ?_⟩
    refine ⟨_, rfl, _, rfl, y, nt, R, ns, rfl, hV, vd_bd vd hm2, hN, l100, fun ms p H' pm srt e fr sm => ?_⟩
    refine ⟨p, _, rfl, SqL.of e, ?_, fun x hx hl => ?_⟩
    · rw [List.length_map, List.length_range]
      omega
    rw [tot_told vd hm n0 pm srt hx hl]
    exact k H' sm
theorem scPB : FnScope ["steps", "night", "m"] ["steps", "night"] (defScope sPBy) := ⟨rfl, rfl, rfl, by decide +kernel, rfl, by decide +kernel, by decide +kernel⟩
theorem ok_pBy {f fT : Addr} {fd dT : FuncData} (F : Fun K "could_by" "could_by" sPBy f fd) (T : Nat0 mg) (GT : FnOk P w K mg base CX0 3 fT dT ["steps", "night"] (spAtEnd K)) (FT : Fun K "could_at_end" "could_at_end" sAtEnd fT dT) (mT : mg "could_at_end" = some (.ref fT)) (bT : Binds K dT ["steps", "night"] []) : FnOk P w K mg base CX0 4 f fd ["steps", "night"] (spPB K) := by
  refine F.ok scPB (fun as H Q E h => ?_) (fun cdv A outer s H as Q E hr h => ?_)
  · obtain ⟨y, nt, m, R, ns, rfl, _⟩ := h
    rfl
  · obtain ⟨y, nt, m, R, ns, rfl, hV, vd, hm, hm2, hN, n0, l100, k⟩ := h
    refine ⟨_, pss_one (ps_ret (pe_callTy call_tuple_of (by rfl) T.tuple (by decide +kernel) (pa_cons (pe_lc (own := [("m", 2)]) (g := gName 2) (tt := tYes) (te := tCall (spAtEnd K) _ _ (tCons (tVar 0) (tCons (tSl (rSlU K) (tVar 1) tNoPart (tPart (tVar 2))) tNil))) rfl scPB.nd (pi_range1 (by rfl) T.range (pa_cons (pe_op op_add (pe_callB call_len_seq (by rfl) T.len PySem.boot_len (pa_cons (pv 1) pa_nil)) pe_int) pa_nil))
      (blkOk_by (N := ["steps", "night", "m"]) (sc := defScope sPBy) (by decide +kernel)) (fun _ _ _ _ _ => pg_name (i := 2) scPB.nd rfl (Or.inl rfl)) (fun _ _ _ _ _ => pts_nil) (fun _ _ _ _ _ => by exact pe_call GT hr rfl mT FT.kp bT .nil pass0 (pa_cons (pv 0) (pa_cons (pe_slice sl_tupU (pv 1) po_none (po_some (pv 2))) pa_nil)))) pa_nil))), ?_⟩
    have ln : (ns.map V.int).length = ns.length := List.length_map _
    refine ⟨_, rfl, nt, _, rfl, .inr hN, ?_⟩
    rw [ln]
    refine ⟨_, _, rfl, rfl, _, rfl, by omega, by omega, fun D hD => ?_⟩
    refine lc_range (lo := 0) (n := ((ns.length : Int) + 1).toNat) (fun i H' => H' D = some (.lst (((List.range i).map fun m => RM.tot R (ns.take m)).map V.int)) ∧ Same H H') ?_ ?_ ?_
    · exact ⟨upd_same, same_new (Same.refl H) hD⟩
    · rintro i H' hi ⟨b1, b2⟩
      rw [Int.zero_add]
      have hi' : i ≤ ns.length := by omega
      refine ⟨rfl, _, rfl, _, rfl, _, rfl, _, rfl, nt, _, rfl, sqt_more b2 hN, fun p1 H1 m1 h1 => ?_⟩
      rw [cut_upto, ← List.map_take] at h1
      refine ⟨y, p1, m, R, ns.take i, rfl, (hV.more b2).more m1, vd, hm, hm2, h1, fun s hs => n0 s (List.mem_of_mem_take hs), by rw [List.length_take]; omega, fun H2 m2 => ?_⟩
      have m3 := m1.trans m2
      refine ⟨_, m3 _ _ b1, ?_, ?_, same_put (b2.trans m3) hD⟩
      · rw [List.length_map, List.length_map, List.length_range]
        exact small1000 (by omega)
      · rw [upd_same, List.range_succ]
        simp
    rintro H3 ⟨b1, b2⟩
    rw [show ((ns.length : Int) + 1).toNat = ns.length + 1 by omega] at b1
    refine ⟨D, _, rfl, .inl ⟨SqL.of b1, fun q hq => ?_⟩⟩
    exact k q _ upd_same (by
      cases e : H q with
      | none => rfl
      | some o => exact absurd (b2 _ _ e) (by rw [hq]; exact fun z => nomatch z)) (same_new b2 hq)
end
end Y

/-! great rows, drawn -/
namespace Y
open PySem PySem.Spec PyProof.Rows L2 Ns
section
variable {P : Program} {w : World} {K : PySem.W.Frag} {mg : Str → Option Value} {base : Heap}
theorem scGR : FnScope ["bag", "chosen", "turn", "step"] ["bag"] (defScope sGreatRow) := ⟨rfl, rfl, rfl, by decide +kernel, rfl, by decide +kernel, by decide +kernel⟩
theorem ok_greatRow {f fT fS : Addr} {fd dT dS : FuncData} (F : Fun K "_law_great_row" "_law_great_row" sGreatRow f fd) (T : Nat0 mg) (FT : Fun K "_law_take" "_law_take" sTake fT dT) (mT : mg "_law_take" = some (.ref fT)) (bT : Binds K dT ["bag", "many"] [])
    (FS : Fun K "_law_some" "_law_some" sSome fS dS) (mS : mg "_law_some" = some (.ref fS)) (bS : Binds K dS ["bag", "things"] []) : FnOk P w K mg base CX0 3 f fd ["bag"] (spRow K) := by
  have GT : FnOk P w K mg base CX0 1 fT dT ["bag", "many"] spTake := ok_take FT T
  have GS : FnOk P w K mg base CX0 2 fS dS ["bag", "things"] (spSome K) := ok_some FS T FT mT bT
  refine F.ok scGR (fun as H Q E h => ?_) (fun cdv A outer s H as Q E hr h => ?_)
  · obtain ⟨b, rfl, _⟩ := h
    rfl
  · obtain ⟨b, rfl, hB, k⟩ := h
    have hr1 : Room 1 _ := hr.mono (by decide)
    refine ⟨_, (pss_cons (ps_set (i := 1) scGR.nd rfl (.inl rfl) (pe_callB (cr_sortedSet rfl) (by rfl) T.sorted (by decide +kernel) (pa_cons (pe_callTy (call_setI rfl) (by rfl) T.set_ (by decide +kernel)
        (pa_cons (pe_lc (own := [("turn", 2)]) (g := gName 2) (tt := tYes) rfl scGR.nd (pi_range1 (by rfl) T.range (pa_cons (pe_call GT hr1 rfl mT FT.kp bT .nil pass0 (pa_cons (pv 0) (pa_cons pe_int pa_nil))) pa_nil))
          (blkOk_by (N := ["bag", "chosen", "turn", "step"]) (sc := defScope sGreatRow) (by decide +kernel)) (fun _ _ _ _ _ => pg_name (i := 2) scGR.nd rfl (Or.inl rfl)) (fun _ _ _ _ _ => pts_nil)
          (fun _ _ _ _ _ => pe_op op_add pe_int (pe_call GT hr1 rfl mT FT.kp bT .nil pass0 (pa_cons (pv 0) (pa_cons (pe_call GS hr rfl mS FS.kp bS .nil pass0 (pa_cons (pv 0) (pa_cons (pe_lst (pa_cons pe_int (pa_cons pe_int (pa_cons (pe_op op_sub (pe_op op_pow pe_int pe_int) pe_int) pa_nil)))) pa_nil))) pa_nil))))) pa_nil)) pa_nil)))
      (pss_one (ps_ret (pe_callTy call_tuple_of (by rfl) T.tuple (by decide +kernel) (pa_cons (pe_lc (own := [("step", 3)]) (g := gName 3) (tt := tYes) rfl scGR.nd (pi_list (pe_revL (pv 1)))
          (blkOk_by (N := ["bag", "chosen", "turn", "step"]) (sc := defScope sGreatRow) (by decide +kernel)) (fun _ _ _ _ _ => pg_name (i := 3) scGR.nd rfl (Or.inl rfl)) (fun _ _ _ _ _ => pts_nil)
          (fun _ _ _ _ _ => pe_tup (pa_cons (pv 3) (pa_cons (pe_call GS hr rfl mS FS.kp bS .nil pass0 (pa_cons (pv 0) (pa_cons (pe_lst (pa_cons pe_int (pa_cons pe_int (pa_cons pe_int (pa_cons pe_int (pa_cons (pe_op op_pow pe_int pe_int) (pa_cons (pe_op op_pow pe_int pe_int) pa_nil))))))) pa_nil))) pa_nil)))) pa_nil))))), ?_⟩
    -- chosen
    refine ⟨_, rfl, b, 9, rfl, hB, by decide, by decide, fun v H7 v0 v1 c11 s11 => ⟨v, rfl, by omega, by omega, fun D hD => ?_⟩⟩
    have nD := c11.ne hD
    refine lc_range (lo := 0) (n := v.toNat) (fun i H' => ∃ ns : List Int, H' D = some (.lst (ns.map V.int)) ∧ ns.length = i ∧ (∀ n ∈ ns, 1 ≤ n ∧ n ≤ 10 ^ 12) ∧ Bag H' b ∧ Sb b H7 H') ?_ ?_ ?_
    · exact ⟨[], upd_same, rfl, (fun _ z => nomatch z), c11.new hD, (Sb.refl b H7).new hD⟩
    · rintro i H' hi ⟨ns, q1, q2, q3, q4, q5⟩
      refine ⟨rfl, _, rfl, _, rfl, 10, 12, rfl, rfl, ⟨by decide, by decide, by decide⟩, _, _, rfl, rfl, by show 3 ≤ sizeLine; decide, fun p hp => ?_⟩
      have np := q4.ne hp
      refine ⟨b, p, [.int 12, .int 300, .int ((10 : Int) ^ (12 : Int).toNat - 1)], rfl, q4.new hp, sql_new upd_same np, (fun z => nomatch z), by show 3 ≤ 1000000; decide, fun x H'' hx c12 s12 => ?_⟩
      obtain ⟨z, rfl, z0, z1⟩ : ∃ z : Int, x = .int z ∧ 1 ≤ z ∧ z ≤ 10 ^ 12 - 1 := by
        simp only [List.mem_cons, List.not_mem_nil, or_false] at hx
        rcases hx with rfl | rfl | rfl
        · exact ⟨_, rfl, by decide, by decide⟩
        · exact ⟨_, rfl, by decide, by decide⟩
        · exact ⟨_, rfl, by decide, by decide⟩
      refine ⟨b, z, rfl, c12, z0, Nat.lt_of_le_of_lt (show z.natAbs ≤ 10 ^ 13 by omega) (by decide +kernel), fun u H3 u0 u1 c13 s13 => ?_⟩
      have s2 := ((Sb.refl b H').new (o := .lst [.int 12, .int 300, .int ((10 : Int) ^ (12 : Int).toNat - 1)]) hp).trans (s12.trans s13)
      refine ⟨_, _, rfl, rfl, ns.map V.int, s2.get q1 nD, by rw [List.length_map, q2]; exact small1000 (by omega), ns ++ [1 + u], by rw [upd_same, List.map_append]; rfl, by rw [List.length_append, q2]; rfl, fun n hn => ?_, c11.wr hD (q5.trans s2) c13, (q5.trans s2).wr hD⟩
      rcases List.mem_append.mp hn with h | h
      · exact q3 n h
      · rw [List.mem_singleton.mp h]
        omega
    rintro H8 ⟨ns, q1, q2, q3, q4, q5⟩
    refine ⟨D, ns, rfl, SqL.of q1, by omega, fun p c hc hp => ⟨p, _, c, rfl, upd_same, by omega, fun ms q hpw hmem hlen hq => ?_⟩⟩
    have B9 := (q4.new (o := SetO w p (fun j => decide (j ∈ ns)) c) hp).new (o := .lst (ms.map V.int)) hq
    have S9 := ((s11.trans q5).new (o := SetO w p (fun j => decide (j ∈ ns)) c) hp).new (o := .lst (ms.map V.int)) hq
    have nq : q ≠ b := (q4.new (o := SetO w p (fun j => decide (j ∈ ns)) c) hp).ne hq
    have g9 : upd (upd H8 p (SetO w p (fun j => decide (j ∈ ns)) c)) q (.lst (ms.map V.int)) q = some (.lst (ms.map V.int)) := upd_same
    have ml : ms.length ≤ 8 := by omega
    have mp : ∀ n ∈ ms, 1 ≤ n ∧ n ≤ 10 ^ 12 := fun n hn => q3 n (by simpa using (hmem n).mp hn)
    rw [show (cxOf CX0 P w K mg base ["bag", "chosen", "turn", "step"] "_law_great_row" (defScope sGreatRow) f cdv A outer s H E).nox.w = w from rfl]
    generalize upd (upd H8 p (SetO w p (fun j => decide (j ∈ ns)) c)) q (.lst (ms.map V.int)) = H9 at B9 S9 g9 ⊢
    refine ⟨_, rfl, q, _, rfl, SqL.of g9, fun u hu => ⟨u, rfl, ⟨_, SqL.of upd_same⟩, fun D2 hD2 => ?_⟩⟩
    have B10 := B9.new (o := .lst (ms.map V.int).reverse) hu
    have S10 := S9.new (o := .lst (ms.map V.int).reverse) hu
    have nu := B9.ne hu
    have g10 : upd H9 u (.lst (ms.map V.int).reverse) u = some (.lst (ms.map V.int).reverse) := upd_same
    generalize upd H9 u (.lst (ms.map V.int).reverse) = H10 at B10 S10 g10 hD2 ⊢
    have nD2 := B10.ne hD2
    refine lc_list (K := K) (a := u) (xs := (ms.map V.int).reverse) (fun i H' => ∃ (ts : List Addr) (R : List Run), H' D2 = some (.lst (ts.map V.ref)) ∧ Paired (fun t (r : Run) => H' t = some (.tup [.int r.1, .int r.2]) ∧ t ≠ b ∧ t ≠ D2) ts R ∧ R.map (·.1) = ms.reverse.take i ∧ (∀ r ∈ R, 1 ≤ r.2 ∧ r.2 ≤ 10 ^ 14) ∧ Bag H' b ∧ Sb b H10 H') ?_ ?_ ?_ ?_
    · exact ⟨[], [], upd_same, .nil, by rw [List.take_zero]; rfl, (fun _ z => nomatch z), B10.new hD2, (Sb.refl b H10).new hD2⟩
    · rintro i H' _ ⟨_, _, _, _, _, _, _, sb⟩
      exact SqL.of (sb.get g10 nu)
    · rintro i x H' hx ⟨ts, R, p1, p2, p3, p4, p5, p6⟩
      obtain ⟨z, hz, rfl⟩ : ∃ z, ms.reverse[i]? = some z ∧ x = .int z := by
        rw [← List.map_reverse, List.getElem?_map] at hx
        obtain ⟨z, e1, e2⟩ := Option.map_eq_some_iff.mp hx
        exact ⟨z, e1, e2.symm⟩
      refine ⟨rfl, _, rfl, _, rfl, 10, 6, rfl, rfl, ⟨by decide, by decide, by decide⟩, 10, 13, rfl, rfl, ⟨by decide, by decide, by decide⟩, by show 6 ≤ sizeLine; decide, fun pl hpl => ?_⟩
      have npl := p5.ne hpl
      refine ⟨b, pl, [.int 1, .int 2, .int 3, .int 17, .int ((10 : Int) ^ (6 : Int).toNat), .int ((10 : Int) ^ (13 : Int).toNat)], rfl, p5.new hpl, sql_new upd_same npl, (fun z => nomatch z), by show 6 ≤ 1000000; decide, fun y H'' hy b2 s2' => ⟨by show 2 ≤ sizeLine; decide, fun t ht => ?_⟩⟩
      have s2 := ((Sb.refl b H').new (o := .lst [.int 1, .int 2, .int 3, .int 17, .int ((10 : Int) ^ (6 : Int).toNat), .int ((10 : Int) ^ (13 : Int).toNat)]) hpl).trans s2'
      obtain ⟨y', rfl, hy'⟩ : ∃ y' : Int, y = .int y' ∧ (1 ≤ y' ∧ y' ≤ 10 ^ 14) := by
        simp only [List.mem_cons, List.not_mem_nil, or_false] at hy
        rcases hy with rfl | rfl | rfl | rfl | rfl | rfl
        · exact ⟨_, rfl, by decide⟩
        · exact ⟨_, rfl, by decide⟩
        · exact ⟨_, rfl, by decide⟩
        · exact ⟨_, rfl, by decide⟩
        · exact ⟨_, rfl, by decide⟩
        · exact ⟨_, rfl, by decide⟩
      have nt : t ≠ D2 := fun e => by rw [e, s2.get p1 nD2] at ht; cases ht
      have nb := b2.ne ht
      have rl : R.length ≤ 8 := by
        have := congrArg List.length p3
        rw [List.length_map, List.length_take, List.length_reverse] at this
        omega
      have tl := paired_len p2
      refine ⟨ts.map V.ref, s3u ht (s2.get p1 nD2), by rw [List.length_map]; exact small1000 (by omega), ts ++ [t], R ++ [(z, y')], by rw [upd_same, List.map_append]; rfl, ?_, ?_, ?_, B10.wr hD2 ((p6.trans s2).new ht) (b2.new ht), ((p6.trans s2).new ht).wr hD2⟩
      · refine paired_snoc ⟨by rw [upd_ne nt, upd_same], nb, nt⟩ (paired_imp (fun t0 r h => ⟨?_, h.2⟩) p2)
        rw [upd_ne h.2.2]
        exact s3u ht (s2.get h.1 h.2.1)
      · rw [List.map_append, p3, List.take_succ, hz]
        rfl
      · intro r hr
        rcases List.mem_append.mp hr with h | h
        · exact p4 r h
        · rw [List.mem_singleton.mp h]
          exact hy'
    · rintro H11 ⟨ts, R, p1, p2, p3, p4, p5, p6⟩
      have p3' : R.map (·.1) = ms.reverse := by
        rw [p3]
        exact List.take_of_length_le (by rw [List.length_reverse, List.length_reverse, List.length_map]; omega)
      refine ⟨D2, _, rfl, .inl ⟨SqL.of p1, fun l hl => ?_⟩⟩
      have nl := p5.ne hl
      refine k l R _ ⟨?_, fun r hr => ?_⟩ ?_ ⟨l, ts.map V.ref, rfl, SqT.of ((wo_ne nl).trans upd_same), ?_⟩ (p5.new hl) ((S10.trans p6).new hl)
      · have := congrArg List.length p3'
        rw [List.length_map, List.length_reverse] at this
        omega
      · have hm : r.1 ∈ ms := by
          have : r.1 ∈ ms.reverse := by rw [← p3']; exact List.mem_map.mpr ⟨r, hr, rfl⟩
          exact List.mem_reverse.mp this
        have h1 := mp _ hm
        have h2 := p4 r hr
        exact ⟨h1.1, h1.2, h2.1, h2.2⟩
      · have : (R.map (·.1)).Pairwise (fun x y => y < x) := by
          rw [p3', List.pairwise_reverse]
          exact hpw
        exact List.pairwise_map.mp this
      · exact paired_ref (fun t r h => ⟨t, rfl, SqT.of ((wo_ne h.2.1).trans (s3u hl h.1))⟩) p2
end
end Y

/-! NsK: enumerate(t), a tuple. -/
namespace Ns
open PySem PySem.Spec PyProof.Rows L2
set_option maxHeartbeats 4000000 in
theorem meets_enum1 {v : Value} {o : Obj} {H : Heap → Prop} (B : Begins v o H) :
    Meets (Builtin.«enumerate.__new__» ⟨[.type "enumerate", v], []⟩) (fun _ R s => H s.heap ∧
      R (.ok (.ret (.ref (s.heap.push o).objs.size))) { s with heap := (s.heap.push o).push { cls := .type "enumerate", data := .fields #[.none, .bool false, .ref s.heap.objs.size, rawInt 0, .none, .none] } }) :=
  .of_wp fun prog w A R s h => by
    obtain ⟨hp, g, d, tk, os⟩ := s; obtain ⟨h1, h⟩ := h
    have hsub := sub_enumerate
    have q1 : ∀ {A' : Around} {E : Value → Shared → Prop} {Q : Value → Shared → Prop}, Q (.ref hp.objs.size) ⟨hp.push o, g, d, tk, os⟩ → wpAny (model prog w) A' (pyIter v) Q E ⟨hp, g, d, tk, os⟩ :=
      fun q => B.iter prog w _ _ ⟨hp, g, d, tk, os⟩ _ h1 q
    wp_walk using q1
    refine wpAny_stack_any fun st => wpAny_pure ?_
    split
    · rename_i c _ _ _ _ _
      cases (c == Value.type "enumerate")
      · wp_walk using q1
        exact ⟨_, rfl, h⟩
      · wp_walk using q1
        exact ⟨_, rfl, h⟩
    · wp_walk using q1
      exact ⟨_, rfl, h⟩
section
variable {prog : Program} {w : World} {A : Around} {E : Value → Shared → Prop} {s : Shared}
theorem call_enum1 {v : Value} {o : Obj} {H : Heap → Prop} {Q : Value → Shared → Prop} (B : Begins v o H) (h1 : H s.heap)
    (h : ∀ h', IsEnum h' (s.heap.objs.size + 1) s.heap.objs.size 0 .none → h'.get? s.heap.objs.size = some o → h'.objs.size = s.heap.objs.size + 2 →
      (∀ b o, s.heap.get? b = some o → h'.get? b = some o) → Q (.ref (s.heap.objs.size + 1)) { s with heap := h' }) :
    wpAny (model prog w) A (call (.type "enumerate") [v]) Q E s := by
  refine callType_new F.called_enumerate (by decide) (F.typeCall_enumerate_1 _) (F.newCall_enumerate_1 _) (fun obj => F.args_object_init_2 obj _) F.entry_enumerate_new
    (meets_enum1 B) ⟨h1, ?_⟩
  have hz : (s.heap.push o).objs.size = s.heap.objs.size + 1 := Heap.size_push ..
  show _ ∧ _
  rw [hz]
  have he : IsEnum ((s.heap.push o).push { cls := .type "enumerate", data := .fields #[.none, .bool false, .ref s.heap.objs.size, rawInt 0, .none, .none] }) (s.heap.objs.size + 1) s.heap.objs.size 0 .none := by
    have := Heap.get?_push_size (s.heap.push o) (o := { cls := .type "enumerate", data := .fields #[.none, .bool false, .ref s.heap.objs.size, rawInt 0, .none, .none] }) rfl
    rw [hz] at this; exact this
  refine ⟨⟨_, he, rfl⟩, h _ he (Heap.get?_push_of_some _ (Heap.get?_push_size _ B.free)) (by rw [Heap.size_push, hz]) fun b o x => Heap.get?_push_of_some _ (Heap.get?_push_of_some _ x)⟩
end
/-- the tuple at a, each item in a new pair -/
def IteT (K : PySem.W.Frag) (a : Addr) : It :=
  ⟨fun i H => ∃ (xs : List V) (x : V), SqT K H a xs ∧ xs[i]? = some x, fun i H v H' => ∃ T x, v = .ref T ∧ H T = none ∧ H' = upd H T (.tup [.int (i : Nat), x]) ∧ ∀ xs, SqT K H a xs → xs[i]? = some x, fun i H => ∃ xs : List V, SqT K H a xs ∧ xs.length ≤ i⟩
theorem turn_enumT {P : Program} {w : World} {K : PySem.W.Frag} {elts : List Expr} {kk : Nat} {tpos : Pos} (a e it : Addr) :
    Turn P w K (.Tuple elts kk tpos) (IteT K a) [e, it] e (fun i h => (∃ old, IsEnum h e it ((i : Nat) : Int) old) ∧ h.IsTupleIter it a i ∧ e ≠ it) where
  mem := by simp
  obj := fun i h st b hb => by
    obtain ⟨⟨old, he⟩, ⟨o, ho, hc, hd⟩, _⟩ := st
    have e' : b = e ∨ b = it := by simpa using hb
    rcases e' with z | z
    · rw [z]; exact ⟨_, he, fun v q => nomatch q⟩
    · rw [z]; exact ⟨o, ho, fun v q => by rw [hd] at q; cases q⟩
  keep := fun i h h' st k => let ⟨⟨old, he⟩, hi, hne⟩ := st; ⟨⟨old, k e (by simp) _ he⟩, hi.at fun o q => k it (by simp) o q, hne⟩
  item := by
    intro X hP hw hK hc i pins s σ H E I hf st hg
    subst hP hw hK
    obtain ⟨⟨old, he⟩, hit, hne⟩ := st
    obtain ⟨xs, x, hq, hx⟩ := hg
    obtain ⟨its, rv, p, hz⟩ := I.tuple hq
    obtain ⟨u, hu, ru⟩ := rv.get hx
    have p' : s.heap.IsTuple a its.toArray := p
    have hel : e < s.heap.objs.size := Heap.lt_size he
    have hil : it < s.heap.objs.size := by obtain ⟨_, q, _⟩ := hit; exact Heap.lt_size q
    have nai : a ≠ it := fun z => by
      obtain ⟨o, e1, c1, _⟩ := p'
      obtain ⟨o2, e2, c2, _⟩ := hit
      rw [z, e2] at e1
      cases e1
      rw [c1] at c2
      injection c2 with c3
      exact absurd c3 (by decide)
    have nea : e ≠ a := fun z => by
      obtain ⟨o, e1, c1, _⟩ := p'
      have e2 : s.heap.get? e = _ := he
      rw [z, e1] at e2
      have := congrArg (fun z => z.map Obj.cls) e2
      have c2 : o.cls = .type "enumerate" := Option.some.inj this
      rw [c1] at c2
      injection c2 with c3
      exact absurd c3 (by decide)
    have D := Draws.tuple (prog := X.prog) (w := X.w) (A := X.A.in1) (I.ok.hd hc) it a nai its.toArray
    have hi : i < its.toArray.size := by
      have := (List.getElem?_eq_some_iff.mp hu).1
      simpa using this
    refine wpAny_pyNext_enum_itemD D he ⟨hit, p'⟩ hi hne (by simp [hne, nea]) fun x' h' tk hP ho hit' hT hsz hk => ?_
    have ex : x' = u := by
      have hP : its.toArray[i]? = some x' := hP
      have h2 : its.toArray[i]? = some u := by simpa using hu
      rw [h2] at hP
      exact (Option.some.inj hP).symm
    subst ex
    refine ⟨_, rfl, wpAny_letOwnedTupleGo_enum (s := { s with heap := h', toks := tk + 1 }) ho fun h'' he' sb => ?_⟩
    have hT2 : h''.get? s.heap.objs.size = some { cls := .type "tuple", data := .seq #[.int i tk, x'] } := (sb.2 _ (Nat.ne_of_gt hel)).trans hT
    have new : ObjOk X.prog X.w (upd H s.heap.objs.size (.tup [.int (i : Nat), x])) h'' s.heap.objs.size (.tup [.int (i : Nat), x]) :=
      ⟨by show 2 ≤ sizeLine; decide, [.int i tk, x'], .cons ⟨_, rfl⟩ (.cons ru .nil), ⟨_, hT2, rfl, _, rfl⟩⟩
    have I1 : Inv X pins σ (upd H s.heap.objs.size (.tup [.int (i : Nat), x])) { s with heap := h'', toks := tk + 1 } :=
      I.turnedNew (ch := [e, it]) (fun b ob hb q => (sb.2 b (fun z => hb (by simp [z]))).trans (hk b ob (fun z => hb (by simp [z])) (fun z => hb (by simp [z])) q)) hf (Nat.le_refl _) new
    refine ⟨.ref s.heap.objs.size, _, I1, rfl, ⟨_, x, rfl, I.hok.fresh (Nat.le_refl _), rfl, fun ys hy => by rw [I.tuple_inj hy hq]; exact hx⟩, ⟨⟨x', ?_⟩, hit'.1.at fun o q => (sb.2 it (Ne.symm hne)).trans q, hne⟩, fun b hb => ?_⟩
    · have e1 : ((i + 1 : Nat) : Int) = (i : Int) + 1 := by omega
      rw [e1]; exact he'
    · have hb' : b < s.heap.objs.size := by
        have e' : b = e ∨ b = it := by simpa using hb
        rcases e' with z | z
        · rw [z]; exact hel
        · rw [z]; exact hil
      rw [upd_ne (Nat.ne_of_lt hb')]
      exact (hf b hb).1
  done := by
    intro X hP hw hK hc i pins s σ H E I hf st hg
    subst hP hw hK
    obtain ⟨⟨old, he⟩, hit, hne⟩ := st
    obtain ⟨xs, hq, hx⟩ := hg
    obtain ⟨its, rv, p, hz⟩ := I.tuple hq
    have p' : s.heap.IsTuple a its.toArray := p
    obtain ⟨f0, f1, f2, f3, f4, f5⟩ := hf it (by simp)
    have hl := rv.length
    have hT : s.TypeIs (.ref e) "enumerate" := ⟨_, he, rfl⟩
    unfold pyNext
    refine wpAny_bind (wpAny_attempt (wpAny_callSpecial?_slot (name := Str.ofString "__next__") hT F.slot_enumerate_next
      (wpAny_call_entry F.slot_enumerate_next hT F.entry_enumerate_next ?_ (F.args_enumerate_next_1 _))))
    show wpAny _ _ (field (.ref e) 2 >>= _) _ _ _
    refine wpAny_bind (wpAny_field he rfl (x := .ref it) rfl ?_)
    refine wpAny_bind (wpAny_nextOf_tuple_end (I.ok.hd hc) hit p' (by simp; omega) fun h' x he' hx' => ?_)
    obtain ⟨o, ho, hc'⟩ := hx'
    refine wpAny_bind (wpAny_isInstance (T := "StopIteration") (b := true) ⟨o, ho, hc'⟩ isSubtype_stop ?_)
    exact wpAny_pure ⟨rfl, I.turned (t' := s.toks) (fun b o hb q => he' b o hb q) f0 f1 f3 f4 f5⟩
  self := fun A i s Q E st h => let ⟨⟨_, he⟩, _⟩ := st; wpAny_pyIter_enum he h
def iEnumT (K : PySem.W.Frag) (ta : TA) : TI := fun σ H R => ta σ H fun vs H1 => ∃ a xs, vs = [.ref a] ∧ SqT K H1 a xs ∧ R (IteT K a) H1
theorem pi_enumT {X : Cx} {e : Expr} {ta : TA} {p pos tpos : Pos} {elts : List Expr} {kk : Nat} (hg : Gl X "enumerate") (hm : X.mg "enumerate" = none) (ha : PA X [e] ta) (hs : starEach [e] X.env = [(false, eval e X.env)] := by rfl) :
    PI X (.Tuple elts kk tpos) (.Call (.Name "enumerate" p) [e] [] pos) (iEnumT X.K ta) := by
  refine ⟨fun pins s σ H R I h => ?_⟩
  refine Call_ (ld_blt I hg hm boot_enumerate (PyProof.Rows.callWith_type1 (thn (ha.run pos pins s σ H _ I h) fun us s1 ⟨vs, H1, I1, r1, q1⟩ => ?_) hs rfl))
  obtain ⟨a, xs, ex, hq, q⟩ := q1
  subst ex
  cases r1 with
  | cons r rr =>
    cases rr
    cases r
    obtain ⟨its, rv, p', hz⟩ := I1.tuple hq
    have pT : s1.heap.IsTuple a its.toArray := p'
    refine call_enum1 (begins_tuple a its.toArray) pT fun h' he hit hsz hk => wpAny_pyIter_enum he ?_
    have I2 : Inv X pins σ H1 { s1 with heap := h' } := I1.kept (t' := s1.toks) hk
    refine ⟨s1.heap.objs.size + 1, [s1.heap.objs.size + 1, s1.heap.objs.size], _, _, H1, rfl, I2, turn_enumT a (s1.heap.objs.size + 1) s1.heap.objs.size, ⟨⟨.none, he⟩, ⟨_, hit, rfl, rfl⟩, Nat.succ_ne_self _⟩, fun b hb => ?_, q⟩
    have e' : b = s1.heap.objs.size + 1 ∨ b = s1.heap.objs.size := by simpa using hb
    have hle : s1.heap.objs.size ≤ b := by
      rcases e' with z | z
      · rw [z]; exact Nat.le_add_right _ _
      · rw [z]; exact Nat.le_refl _
    exact I1.fpOk hle (I1.hok.fresh hle)
theorem walk_enumT {K : PySem.W.Frag} {a : Addr} {xs : List V} : Walk (IteT K a) xs.length (fun H => SqT K H a xs) (YPair (fun i => some (.int (i : Nat))) (fun i => xs[i]?)) := by
  refine ⟨fun i _ hi q => ⟨xs, xs[i], q, by simp [hi]⟩, fun _ q => ⟨xs, q, Nat.le_refl _⟩, fun i H v H' _ q y => ?_⟩
  obtain ⟨T, x, h1, h2, h3, h4⟩ := y
  exact ⟨T, .int (i : Nat), x, h1, h2, h3, rfl, h4 xs q⟩
end Ns

namespace Y
open PySem PySem.Spec PyProof.Rows L2 Ns
open C8 (pss_cut)
/-- the things in some order: a new list -/
def spMixed (K : PySem.W.Frag) : Sp := fun as H Q _ => ∃ (b a : Addr) (xs : List V), as = [.ref b, .ref a] ∧ Bag H b ∧ SqL K (wo H b) a xs ∧ xs.length ≤ 1000 ∧
  ∀ (p : Addr) (ys : List V) (H' : Hp), ys.Perm xs → H' p = some (.lst ys) → H p = none → p ≠ b → Bag H' b → Sb b H H' → Q (.ref p) H'
/-- one sign of a text -/
def spSomeS : Sp := fun as H Q _ => ∃ (b : Addr) (z : Str), as = [.ref b, .str z] ∧ Bag H b ∧ z.length ≠ 0 ∧ z.length ≤ 1000 ∧ ∀ (c : Nat) (H' : Hp), c ∈ z.cps.toList → Bag H' b → Sb b H H' → Q (.str ⟨#[c]⟩) H'
section
variable {P : Program} {w : World} {K : PySem.W.Frag} {mg : Str → Option Value} {base : Heap}
theorem scM : FnScope ["bag", "things", "found", "thing"] ["bag", "things"] (defScope sMixed) := ⟨rfl, rfl, rfl, by decide +kernel, rfl, by decide +kernel, by decide +kernel⟩
theorem ok_mixed {f fT : Addr} {fd fdT : FuncData} (F : Fun K "_law_mixed" "_law_mixed" sMixed f fd) (T : Nat0 mg) (FT : Fun K "_law_take" "_law_take" sTake fT fdT) (mT : mg "_law_take" = some (.ref fT)) (bT : Binds K fdT ["bag", "many"] []) :
    FnOk P w K mg base CX0 2 f fd ["bag", "things"] (spMixed K) := by
  have GT : FnOk P w K mg base CX0 1 fT fdT ["bag", "many"] spTake := ok_take FT T
  refine F.ok scM (fun as H Q E h => ?_) (fun cdv A outer s H as Q E hr h => ?_)
  · obtain ⟨b, a, xs, rfl, _⟩ := h
    rfl
  · obtain ⟨b, a, xs, rfl, hB, hS, hl, k⟩ := h
    refine ⟨_, pss_cons (ps_set (i := 2) scM.nd rfl (.inl rfl) (pe_lst pa_nil))
      (pss_cons (ps_for PassesOwn.never rfl (pi_list (pv 1)) (pg_name (i := 3) scM.nd rfl (.inl rfl))
        (pss_one (ps_expr (pe_bm PySem.F.plainAttrs_list PySem.F.slot_list_insert PySem.F.type_list_insert mt_insert (pv 2)
          (pa_cons (pe_call GT hr rfl mT FT.kp bT .nil pass0 (pa_cons (pv 0) (pa_cons (pe_op op_add (pe_callB call_len_seq (by rfl) T.len PySem.boot_len (pa_cons (pv 2) pa_nil)) pe_int) pa_nil))) (pa_cons (pv 3) pa_nil))))))
      (pss_one (ps_ret (pv 2)))), ?_⟩
    refine ⟨by show 0 ≤ sizeLine; decide, fun p hp => ?_⟩
    have npb : p ≠ b := hB.ne hp
    have hS0 : SqL K (upd H p (.lst [])) a xs := Same.seq (same_new (Same.refl H) hp) ((wo_sub H b).seq hS)
    refine ⟨_, rfl, a, rfl, ⟨_, hS0⟩, ?_⟩
    refine for_list (K := K) (a := a) (xs := xs) (fun i σ H' => ∃ (v : Option V) (ys : List V), σ = [some (.ref b), some (.ref a), some (.ref p), v] ∧ H' p = some (.lst ys) ∧ ys.Perm (xs.take i) ∧ Bag H' b ∧ Sb b H H') ?_ ?_ ?_ ?_
    · exact ⟨none, [], rfl, upd_same, by rw [List.take_zero], hB.new hp, (Sb.refl b H).new hp⟩
    · rintro i σ H' _ ⟨v, ys, _, _, _, _, s⟩
      exact (wo_sub H' b).seq (s.sl hS)
    · rintro i x σ H' hx ⟨v, ys, rfl, h1, h2, h3, h4⟩
      have hi : i < xs.length := (List.getElem?_eq_some_iff.mp hx).1
      have hyl : ys.length = i := by rw [h2.length_eq, List.length_take]; omega
      refine ⟨_, rfl, .inl ⟨rfl, _, SqL.of h1⟩, _, rfl, _, rfl, p, _, rfl, .inl (SqL.of h1), ys.length, 1, rfl, rfl, b, _, rfl, h3, by omega, Nat.lt_of_le_of_lt (show ((ys.length : Int) + 1).natAbs ≤ 2000 by omega) (by decide), fun j H2 h0 hj hB2 sb2 => ?_⟩
      have e2 := sb2.get h1 npb
      refine ⟨_, rfl, p, ys, j, x, rfl, rfl, e2, small1000 (by omega), h0, by omega, some x, _, rfl, upd_same, put_perm h2 hx, ?_, ?_⟩
      · exact hB.wr hp (h4.trans sb2) hB2
      · exact (h4.trans sb2).wr hp
    · rintro σ H' ⟨v, ys, rfl, h1, h2, h3, h4⟩
      rw [List.take_length] at h2
      exact ⟨_, rfl, k p ys H' h2 h1 hp npb h3 h4⟩
theorem ok_someS {f fT : Addr} {fd fdT : FuncData} (F : Fun K "_law_some" "_law_some" sSome f fd) (T : Nat0 mg) (FT : Fun K "_law_take" "_law_take" sTake fT fdT) (mT : mg "_law_take" = some (.ref fT)) (bT : Binds K fdT ["bag", "many"] []) :
    FnOk P w K mg base CX0 2 f fd ["bag", "things"] spSomeS := by
  have GT : FnOk P w K mg base CX0 1 fT fdT ["bag", "many"] spTake := ok_take FT T
  refine F.ok scS (fun as H Q E h => ?_) (fun cdv A outer s H as Q E hr h => ?_)
  · obtain ⟨b, z, rfl, _⟩ := h
    rfl
  · obtain ⟨b, z, rfl, hB, hne, hl, k⟩ := h
    refine ⟨_, pss_one (ps_ret (pe_ix ix_str (pv 1) (pe_call GT hr rfl mT FT.kp bT .nil pass0 (pa_cons (pv 0) (pa_cons (pe_callB call_len_str (by rfl) T.len PySem.boot_len (pa_cons (pv 1) pa_nil)) pa_nil))) (fun _ _ => rfl))), ?_⟩
    refine ⟨_, rfl, _, rfl, _, rfl, z, rfl, Nat.le_of_lt (small1000 hl), b, _, rfl, hB, by omega, ?_, fun v H' h0 h1 hB' sb => ?_⟩
    · exact Nat.lt_of_le_of_lt (show ((z.length : Int)).natAbs ≤ 1000 by omega) (by decide)
    · have hi : v.toNat < z.cps.toList.length := by
        have e : z.cps.toList.length = z.length := by first | rfl | simp [PySem.Str.length]
        omega
      have ev : v = ((v.toNat : Nat) : Int) := by omega
      obtain ⟨c, ec⟩ : ∃ c, z.cps.toList[v.toNat]? = some c := ⟨_, List.getElem?_eq_getElem hi⟩
      refine ⟨z, v, c, rfl, rfl, Nat.le_of_lt (small1000 hl), by rw [ev]; exact atI_nat ec, ?_⟩
      exact k c H' (List.mem_of_getElem? ec) hB' sb
end
end Y

namespace Y
open PySem PySem.Spec PyProof.Rows L2 Ns
structure D78 (P : Program) (w : World) (K : PySem.W.Frag) (mg : Str → Option Value) (base : Heap) (tP : Addr) (fB fT fS fM fRw fNS fBe fCI fTk fPB fWO fHO fCO fA : Addr) (dB dT dS dM dRw dNS dBe dCI dTk dPB dWO dHO dCO dA : FuncData) : Prop where
  B : Fun K "_law_bag" "_law_bag" sBag fB dB
  mB : mg "_law_bag" = some (.ref fB)
  bB : Binds K dB ["script"] []
  gB : FnOk P w K mg base CX0 1 fB dB ["script"] (spBag K)
  T : Fun K "_law_take" "_law_take" sTake fT dT
  mT : mg "_law_take" = some (.ref fT)
  bT : Binds K dT ["bag", "many"] []
  gT : FnOk P w K mg base CX0 1 fT dT ["bag", "many"] (spTake)
  S : Fun K "_law_some" "_law_some" sSome fS dS
  mS : mg "_law_some" = some (.ref fS)
  bS : Binds K dS ["bag", "things"] []
  gS : FnOk P w K mg base CX0 2 fS dS ["bag", "things"] (spSome K)
  M : Fun K "_law_mixed" "_law_mixed" sMixed fM dM
  mM : mg "_law_mixed" = some (.ref fM)
  bM : Binds K dM ["bag", "things"] []
  gM : FnOk P w K mg base CX0 2 fM dM ["bag", "things"] (spMixed K)
  Rw : Fun K "_law_great_row" "_law_great_row" sGreatRow fRw dRw
  mRw : mg "_law_great_row" = some (.ref fRw)
  bRw : Binds K dRw ["bag"] []
  gRw : FnOk P w K mg base CX0 3 fRw dRw ["bag"] (spRow K)
  NS : Fun K "_law_near_supply" "_law_near_supply" sNearSupply fNS dNS
  mNS : mg "_law_near_supply" = some (.ref fNS)
  bNS : Binds K dNS ["bag", "row"] []
  gNS : FnOk P w K mg base CX0 3 fNS dNS ["bag", "row"] (spSup K)
  Be : Fun K "behind" "behind" sBehind fBe dBe
  mBe : mg "behind" = some (.ref fBe)
  bBe : Binds K dBe ["stairs", "night"] []
  gBe : FnOk P w K mg base CX0 3 fBe dBe ["stairs", "night"] (spBehind K)
  CI : Fun K "could_in" "could_in" sCouldIn fCI dCI
  mCI : mg "could_in" = some (.ref fCI)
  bCI : Binds K dCI ["stairs", "night"] []
  gCI : FnOk P w K mg base CX0 3 fCI dCI ["stairs", "night"] (spCould K)
  Tk : Fun K "taken" "taken" sTaken fTk dTk
  mTk : mg "taken" = some (.ref fTk)
  bTk : Binds K dTk ["stairs", "x"] []
  gTk : FnOk P w K mg base CX0 2 fTk dTk ["stairs", "x"] (spTaken K)
  PB : Fun K "could_by" "could_by" sPBy fPB dPB
  mPB : mg "could_by" = some (.ref fPB)
  bPB : Binds K dPB ["steps", "night"] []
  gPB : FnOk P w K mg base CX0 4 fPB dPB ["steps", "night"] (spPB K)
  WO : Fun K "whole_of" "whole_of" sWholeOf fWO dWO
  mWO : mg "whole_of" = some (.ref fWO)
  bWO : Binds K dWO ["stairs"] []
  gWO : FnOk P w K mg base CX0 1 fWO dWO ["stairs"] (spR1 K whl)
  HO : Fun K "hours_of" "hours_of" sHoursOf fHO dHO
  mHO : mg "hours_of" = some (.ref fHO)
  bHO : Binds K dHO ["stairs"] []
  gHO : FnOk P w K mg base CX0 1 fHO dHO ["stairs"] (spR1 K hrs)
  CO : Fun K "_law_could_of" "_law_could_of" sCouldOf fCO dCO
  mCO : mg "_law_could_of" = some (.ref fCO)
  bCO : Binds K dCO ["row", "night"] []
  gCO : GnOk P w K mg base 4 fCO dCO ["row", "night"] (spCouldOf K tP)
  A : Fun K "_law_alike" "_law_alike" sAlike fA dA
  mA : mg "_law_alike" = some (.ref fA)
  bA : Binds K dA ["found", "due"] []
  gA : GnOk P w K mg base 1 fA dA ["found", "due"] (spAlike K)
theorem vd_of : ∀ {R : List Run} {m : Int}, (∀ r ∈ R, 1 ≤ r.1 ∧ r.1 < m ∧ 1 ≤ r.2) → R.Pairwise (fun x y => y.1 < x.1) → RM.Vd m R
  | [], _, _, _ => trivial
  | r :: R, m, h, p => by
    obtain ⟨p1, p2⟩ := List.pairwise_cons.mp p
    obtain ⟨h1, h2, h3⟩ := h r List.mem_cons_self
    exact ⟨h1, h2, h3, vd_of (fun q hq => ⟨(h q (List.mem_cons_of_mem _ hq)).1, p1 q hq, (h q (List.mem_cons_of_mem _ hq)).2.2⟩) p2⟩
theorem Runs.vd {R : List Run} (h : Runs R) (p : R.Pairwise (fun x y => y.1 < x.1)) : RM.Vd (10 ^ 12 + 1) R := vd_of (fun r hr => by have := h.2 r hr; omega) p
theorem cin_cds {R : List Run} {ns : List Int} (h : Runs R) (vd : RM.Vd (10 ^ 12 + 1) R) (n0 : ∀ s ∈ ns, 0 ≤ s) : cds (fun h => lrch R (h : Int)) ns = cin R ns := by
  unfold cds cin
  refine List.map_congr_left fun m _ => ?_
  unfold cdv
  have e : (fun h : Nat => lrch R (h : Int)) = RM.rN R := by
    funext k
    show lrch R (k : Int) = RM.rch R (k : Int)
    rw [rch_eq h.nn (by omega), rch_rm]
  rw [e, RM.tot_is vd (by decide) fun s hs => n0 s (List.mem_of_mem_take hs)]
theorem cin_len (R : List Run) (ns : List Int) : (cin R ns).length = ns.length + 1 := by
  unfold cin
  rw [List.length_map, List.length_range]
theorem cin_at {R : List Run} {ns : List Int} {i : Nat} (h : i ≤ ns.length) : (cin R ns)[i]? = some (RM.tot R (ns.take i)) := by
  unfold cin
  rw [List.getElem?_map, List.getElem?_range (by omega)]
  rfl
theorem cin_last (R : List Run) (ns : List Int) : ∃ l, cin R ns = l ++ [RM.tot R ns] := by
  refine ⟨(List.range ns.length).map fun m => RM.tot R (ns.take m), ?_⟩
  unfold cin
  rw [List.range_succ, List.map_append]
  show _ ++ [RM.tot R (ns.take ns.length)] = _
  rw [List.take_length]
/-- numbers of rows behind nights -/
def Bd (R : List Run) : Prop := ∀ r ∈ R, 1 ≤ r.1 ∧ r.1 ≤ 10 ^ 12 ∧ 1 ≤ r.2 ∧ r.2 ≤ 10 ^ 14
theorem vd_steps : ∀ {R : List Run} {m : Int}, RM.Vd m R → ∀ r ∈ R, 1 ≤ r.1 ∧ r.1 < m ∧ 1 ≤ r.2
  | [], _, _, _, h => by cases h
  | q :: R, m, v, r, h => by
    have k1 := v.1
    have k2 := v.2.1
    rcases List.mem_cons.mp h with rfl | h
    · exact ⟨v.1, v.2.1, v.2.2.1⟩
    · have := vd_steps v.2.2.2 r h
      omega
def Tm (R : List Run) : Prop := ∀ r ∈ R, r.2 ≤ 10 ^ 14
theorem tm_one {s t : Int} {C : List Run} (h : t ≤ 10 ^ 14) (g : Tm C) : Tm (RM.one s t ++ C) := fun r hr => by
  rcases List.mem_append.mp hr with h1 | h1
  · unfold RM.one at h1
    split at h1
    · cases h1
    · rw [List.mem_singleton.mp h1]
      exact h
  · exact g r h1
theorem tm_cons {q : Run} {C : List Run} (h : q.2 ≤ 10 ^ 14) (g : Tm C) : Tm (q :: C) := fun r hr => by
  rcases List.mem_cons.mp hr with rfl | h1
  · exact h
  · exact g r h1
theorem tkc_tm : ∀ {x : Int} {R : List Run}, Tm R → Tm (RM.tkc x R)
  | _, [], _ => fun _ h => by cases h
  | x, [q], h => by
    have hq := h q List.mem_cons_self
    unfold RM.tkc
    refine tm_one (by omega) ?_
    split
    · exact fun _ h => by cases h
    · exact tm_cons (by show (1 : Int) ≤ 10 ^ 14; decide) fun _ h => by cases h
  | x, q :: p :: B, h => by
    have hq := h q List.mem_cons_self
    have hp := h p (List.mem_cons_of_mem _ List.mem_cons_self)
    have hT : Tm (p :: B) := fun r hr => h r (List.mem_cons_of_mem _ hr)
    have hB : Tm B := fun r hr => hT r (List.mem_cons_of_mem _ hr)
    unfold RM.tkc
    split
    · exact tm_cons hq (tkc_tm hT)
    · refine tm_one (by omega) ?_
      split
      · exact hT
      · exact tm_cons (by show (1 : Int) ≤ 10 ^ 14; decide) (tm_one (by omega) hB)
theorem bh_tm {R : List Run} {s : Int} (h : Tm R) : Tm (RM.bh R s) := by
  unfold RM.bh
  split
  · exact h
  · exact tkc_tm h
theorem bhN_tm : ∀ {ns : List Int} {R : List Run}, Tm R → Tm (RM.bhN R ns)
  | [], _, h => h
  | s :: ns, R, h => by
    show Tm (RM.bhN (RM.bh R s) ns)
    exact bhN_tm (bh_tm h)
def rowD (R : List Run) : PyData := .tuple (R.map runD)
theorem fit_run {r : Run} (h : 0 ≤ r.1 ∧ r.1 ≤ 10 ^ 12 ∧ 0 ≤ r.2 ∧ r.2 ≤ 10 ^ 14) : Fit 700 1 (runD r) := by
  refine (fit_tuple (m := 300) (k := 0) fun d hd => ?_).mono (show 2 * (300 + 2) + 3 ≤ 700 by decide) (by decide)
  simp only [List.mem_cons, List.not_mem_nil, or_false] at hd
  rcases hd with rfl | rfl
  · exact fit_num h.1 (by omega)
  · exact fit_num h.2.2.1 (by omega)
theorem fit_row {R : List Run} (hl : R.length ≤ 60) (h : ∀ r ∈ R, 0 ≤ r.1 ∧ r.1 ≤ 10 ^ 12 ∧ 0 ≤ r.2 ∧ r.2 ≤ 10 ^ 14) : Fit 60000 2 (rowD R) := by
  refine (fit_tuple (m := 700) (k := 1) fun d hd => ?_).mono ?_ (by decide)
  · obtain ⟨r, hr, rfl⟩ := List.mem_map.mp hd
    exact fit_run (h r hr)
  · rw [List.length_map]
    omega
section
variable {K : PySem.W.Frag} {H : Hp}
theorem dat_runs : ∀ {xs : List V} {R : List Run}, Paired (RunV K H) xs R → DatA K H xs (R.map runD)
  | _, _, .nil => .nil
  | _, _, .cons ⟨t, e, h⟩ r => by
    subst e
    exact .cons (.tup h (.cons (.int _) (.cons (.int _) .nil))) (dat_runs r)
theorem dat_row {y : V} {R : List Run} (h : RowV K H y R) : DatV K H y (rowD R) := by
  obtain ⟨t, xs, rfl, h1, h2⟩ := h
  exact .tup h1 (dat_runs h2)
theorem eqT_runs (n : Nat) : ∀ {xs zs : List V} {R : List Run}, Paired (RunV K H) xs R → Paired (RunV K H) zs R → Paired (EqT K H (n + 2)) xs zs
  | _, _, _, .nil, .nil => .nil
  | _, _, _, .cons ⟨a, e, h⟩ t, .cons ⟨b, e', h'⟩ t' => by
    subst e e'
    refine .cons (eqT_tup n h h' fun x hx => ?_) (eqT_runs n t t')
    simp only [List.mem_cons, List.not_mem_nil, or_false] at hx
    rcases hx with rfl | rfl <;> rfl
theorem eqT_row (n : Nat) {y z : V} {R : List Run} (h : RowV K H y R) (g : RowV K H z R) : EqT K H (n + 3) y z := by
  obtain ⟨t, xs, rfl, h1, h2⟩ := h
  obtain ⟨t', xs', rfl, g1, g2⟩ := g
  exact .inr (.inr (.inr ⟨t, t', xs, xs', rfl, rfl, h1, g1, eqT_runs n h2 g2⟩))
/-- [row, x] twice -/
theorem eqs_rowx {a b : Addr} {y z u v : V} {R : List Run} (ha : H a = some (.lst [y, u])) (hb : H b = some (.lst [z, v])) (h : RowV K H y R) (g : RowV K H z R) (e : EqT K H 4 u v) : EqS K H 4 (.ref a) (.ref b) :=
  .inl (.inl ⟨a, b, _, _, rfl, rfl, SqL.of ha, SqL.of hb, .cons (eqT_row 1 h g) (.cons e .nil)⟩)
theorem dat_rowx {a : Addr} {y u : V} {R : List Run} {d : PyData} (ha : H a = some (.lst [y, u])) (h : RowV K H y R) (e : DatV K H u d) : DatV K H (.ref a) (.list [rowD R, d]) := .lst (SqL.of ha) (.cons (dat_row h) (.cons e .nil))
end
theorem fit_rowx {R : List Run} {d : PyData} (h : Fit 60000 2 (rowD R)) (g : Fit 60000 2 d) : Fit 130000 3 (.list [rowD R, d]) := by
  refine (fit_list (m := 60000) (k := 2) fun z hz => ?_).mono (show 2 * (60000 + 2) + 3 ≤ 130000 by decide) (by decide)
  simp only [List.mem_cons, List.not_mem_nil, or_false] at hz
  rcases hz with rfl | rfl
  · exact h
  · exact g
/-! the table of code objects, beside the bag -/
open LamX in
theorem tabs_wo {T : List (Addr × Str)} {H : Hp} {b : Addr} (h : Tabs T H) (B : Bag H b) : Tabs T (wo H b) := fun p hp => by
  obtain ⟨ps, h1, h2, h3⟩ := h p hp
  obtain ⟨_, _, _, _, _, e, _⟩ := B
  refine ⟨ps, (wo_ne (fun z => by rw [z, e] at h1; cases h1)).trans h1, h2, fun pos cv hc => ?_⟩
  obtain ⟨c, e1, e2⟩ := h3 pos cv hc
  exact ⟨c, e1, (wo_ne (fun z => by rw [z, e] at e2; cases e2)).trans e2⟩
open LamX in
theorem tabs_sb {T : List (Addr × Str)} {H H' : Hp} {b : Addr} (h : Tabs T H) (B : Bag H b) (s : Sb b H H') : Tabs T H' := ((tabs_wo h B).ext s.1).ext (wo_sub H' b)
open LamX in
theorem bag_ext {H H' : Hp} {b : Addr} (B : Bag H b) (e : ExtN H H') : Bag H' b := by
  obtain ⟨n0, n1, n2, l, ns, e1, e2, r⟩ := B
  exact ⟨n0, n1, n2, l, ns, e _ _ e1 (fun _ z => nomatch z), e _ _ e2 (fun _ z => nomatch z), r⟩
def unI : V → Int | .int i => i | _ => 0
theorem perm_ints {ys : List V} {ns : List Int} (h : ys.Perm (ns.map V.int)) : ∃ zs : List Int, ys = zs.map V.int ∧ zs.Perm ns := by
  refine ⟨ys.map unI, ?_, ?_⟩
  · rw [List.map_map]
    have : ∀ v ∈ ys, (V.int ∘ unI) v = v := fun v hv => by
      obtain ⟨i, _, rfl⟩ := List.mem_map.mp (h.mem_iff.mp hv)
      rfl
    exact (List.map_id ys).symm.trans (List.map_congr_left fun v hv => (this v hv).symm)
  · have := h.map unI
    rw [List.map_map] at this
    have e : ns.map (unI ∘ V.int) = ns := List.map_id ns
    rw [e] at this
    exact this
theorem tot_bd {R : List Run} {ns : List Int} (h : Runs R) (vd : RM.Vd (10 ^ 12 + 1) R) (n0 : ∀ s ∈ ns, 0 ≤ s) : 0 ≤ RM.tot R ns ∧ RM.tot R ns ≤ 10 ^ 28 := by
  have w := RM.tot_whole vd (by decide) n0
  have w1 : RM.whole R ≤ 8 * 10 ^ 26 := (whl_bd h).2
  have nn : ∀ {R : List Run} {m : Int}, RM.Vd m R → 0 ≤ RM.whole R := fun {R} => by
    induction R with
    | nil => intro m v; exact Int.le_refl _
    | cons q R ih =>
      intro m v
      have := ih v.2.2.2
      have k1 := v.1
      have k2 := v.2.2.1
      have e : RM.whole (q :: R) = q.1 * q.2 + RM.whole R := by unfold RM.whole; rw [List.map_cons, List.sum_cons]
      have : 0 ≤ q.1 * q.2 := Int.mul_nonneg (by omega) (by omega)
      omega
  have w2 := nn (RM.bhN_vd vd (by decide) n0)
  have t0 : ∀ {ns : List Int} {R : List Run} {m : Int}, RM.Vd m R → 1 ≤ m → (∀ s ∈ ns, 0 ≤ s) → 0 ≤ RM.tot R ns := fun {ns} => by
    induction ns with
    | nil => intro R m _ _ _; exact Int.le_refl _
    | cons s ns ih =>
      intro R m v hm hs
      have s0 := hs s List.mem_cons_self
      have := ih (RM.bh_vd v hm s0) hm fun t ht => hs t (List.mem_cons_of_mem _ ht)
      have := (RM.top_lt v hm).1
      show 0 ≤ min s (RM.top R) + RM.tot (RM.bh R s) ns
      omega
  exact ⟨t0 vd (by decide) n0, by omega⟩
theorem eqvAll_ints : ∀ l : List Int, PyData.eqvAll (l.map PyData.int) (l.map PyData.int) = true
  | [] => by simp [PyData.eqvAll]
  | i :: l => by
    have := eqvAll_ints l
    simp [PyData.eqvAll, PyData.eqv, this]
theorem eqv_ints (l : List Int) : PyData.eqv (.list (l.map PyData.int)) (.list (l.map PyData.int)) = true := by
  have := eqvAll_ints l
  simp [PyData.eqv, this]
theorem fit_big {i : Int} (h : 0 ≤ i ∧ i ≤ 10 ^ 28) : Fit 60000 2 (.int i) := (fit_num h.1 h.2).mono (by decide) (by decide)
theorem fit_intsL {l : List Int} (hl : l.length ≤ 100) (h : ∀ i ∈ l, 0 ≤ i ∧ i ≤ 10 ^ 28) : Fit 60000 2 (.list (l.map PyData.int)) := by
  refine (fit_list (m := 300) (k := 0) fun d hd => ?_).mono ?_ (by decide)
  · obtain ⟨x, hx, rfl⟩ := List.mem_map.mp hd
    exact fit_num (h x hx).1 (h x hx).2
  · rw [List.length_map]
    omega
theorem fit_behind {R : List Run} {ws : List Int} (h : Runs R) (vd : RM.Vd (10 ^ 12 + 1) R) (w0 : ∀ s ∈ ws, 0 ≤ s) (hl : ws.length ≤ 48) : Fit 60000 2 (rowD (RM.bhN R ws)) := by
  have l := bhN_len (R := R) ws
  have l4 := h.1
  refine fit_row (by omega) fun r hr => ?_
  have s := vd_steps (RM.bhN_vd vd (by decide) w0) r hr
  have t := bhN_tm (ns := ws) (R := R) (fun r hr => (h.2 r hr).2.2.2) r hr
  omega
theorem sqt_wo {K : PySem.W.Frag} {H : Hp} {b p : Addr} {xs : List V} (h : SqT K H p xs) (B : Bag H b) : SqT K (wo H b) p xs := by
  obtain ⟨_, _, _, _, _, e, _⟩ := B
  rcases h with (h | ⟨o, h⟩) | h
  · exact .inl (.inl ((wo_ne (fun z => by rw [z, e] at h; cases h)).trans h))
  · exact .inl (.inr ⟨o, (wo_ne (fun z => by rw [z, e] at h; cases h)).trans h⟩)
  · exact .inr h
theorem RowV.wo {K : PySem.W.Frag} {H : Hp} {b : Addr} {v : V} {R : List Run} (h : RowV K H v R) (B : Bag H b) : RowV K (wo H b) v R := by
  obtain ⟨t, xs, rfl, h1, h2⟩ := h
  exact ⟨t, xs, rfl, sqt_wo h1 B, paired_imp (fun v c ⟨a, e1, q⟩ => ⟨a, e1, sqt_wo q B⟩) h2⟩
theorem eqT_ints {K : PySem.W.Frag} {H : Hp} {a b : Addr} {l : List Int} (ha : H a = some (.lst (l.map V.int))) (hb : H b = some (.lst (l.map V.int))) : EqT K H 4 (.ref a) (.ref b) :=
  .inr (.inr (.inl (.inl ⟨a, b, _, _, rfl, rfl, SqL.of ha, SqL.of hb, same_rows fun x hx => eqT_flat 2 (flat_ints x hx)⟩)))
theorem cin_bd {R : List Run} {ns : List Int} (h : Runs R) (vd : RM.Vd (10 ^ 12 + 1) R) (n0 : ∀ s ∈ ns, 0 ≤ s) : ∀ i ∈ cin R ns, 0 ≤ i ∧ i ≤ 10 ^ 28 := fun i hi => by
  unfold cin at hi
  obtain ⟨m, _, rfl⟩ := List.mem_map.mp hi
  exact tot_bd h vd fun s hs => n0 s (List.mem_of_mem_take hs)
theorem shaped_row (R : List Run) : SeqAt.shaped (rowD R) = true := by
  obtain ⟨h1, h2⟩ := lay_runs R
  unfold SeqAt.shaped rowD
  rw [Bool.and_eq_true]
  refine ⟨by simp [PyData.canLay0, h1], decide_eq_true ?_⟩
  simp only [PyData.depth]
  omega
/-- the first step of a row, 0 of none -/
def topTE (K : PySem.W.Frag) (i : Nat) : TE := tIf (tTest (tOp (rNeD K) (tVar i) (tTup tNil))) (tOp (rIxT K) (tOp (rIxT K) (tVar i) (tC (.int 0))) (tC (.int 0))) (tC (.int 0))
theorem eqv_row_nil (q : Run) (R : List Run) : PyData.eqv (rowD (q :: R)) (.tuple []) = false := by
  unfold rowD
  rw [List.map_cons]
  simp [PyData.eqv, PyData.eqvAll]
theorem top_te {K : PySem.W.Frag} {i : Nat} {σ : L2.St} {H : Hp} {Q : VK} {y : V} {R : List Run} (hi : σ[i]? = some (some y)) (h : RowV K H y R) (k : ∀ q, H q = none → Q (.int (RM.top R)) (upd H q (.tup []))) : topTE K i σ H Q := by
  refine ⟨y, hi, by show 0 ≤ sizeLine; decide, fun q hq => ?_⟩
  have hv := h.more (same_new (o := .tup []) (Same.refl H) hq)
  obtain ⟨t, xs, rfl, h1, h2⟩ := hv
  refine ⟨rowD R, .tuple [], .tup h1 (dp_runs h2), .tup (SqT.of upd_same) .nil, shaped_row R, by decide +kernel, _, rfl, ?_⟩
  cases R with
  | nil =>
    refine ite2 (fun c => absurd c (by decide)) (fun _ => ?_)
    exact k q hq
  | cons r R =>
    rw [eqv_row_nil]
    refine ite2 (fun _ => ?_) (fun c => absurd rfl c)
    cases h2 with
    | cons g _ =>
      obtain ⟨a, rfl, ha⟩ := g
      refine ⟨_, hi, t, _, 0, .ref a, rfl, rfl, h1, at0, a, _, 0, .int r.1, rfl, rfl, ha, at0, k q hq⟩
theorem eqs_row {K : PySem.W.Frag} {H : Hp} (n : Nat) {y z : V} {R : List Run} (h : RowV K H y R) (g : RowV K H z R) : EqS K H (n + 2) y z := by
  obtain ⟨t, xs, rfl, h1, h2⟩ := h
  obtain ⟨t', xs', rfl, g1, g2⟩ := g
  exact .inr ⟨t, t', xs, xs', rfl, rfl, h1, g1, eqT_runs n h2 g2⟩
theorem hrs_rm (R : List Run) : hrs R = RM.hoursN R := rfl
theorem shaped_intsT (l : List Int) : SeqAt.shaped (.tuple (l.map PyData.int)) = true := by
  obtain ⟨h1, h2⟩ := lay_ints l
  unfold SeqAt.shaped
  rw [Bool.and_eq_true]
  refine ⟨by simp [PyData.canLay0, h1], decide_eq_true ?_⟩
  simp only [PyData.depth, h2]
  decide
theorem eqv_ints_nil {l : List Int} (h : l ≠ []) : PyData.eqv (.tuple (l.map PyData.int)) (.tuple []) = false := by
  cases l with
  | nil => exact absurd rfl h
  | cons i l => simp [PyData.eqv, PyData.eqvAll]
end Y

namespace Y
open PySem PySem.Spec PyProof.Rows L2 Ns
open C8 (pss_cut)
section
variable {P : Program} {w : World} {K : PySem.W.Frag} {mg : Str → Option Value} {base : Heap} {tP : Addr} {fB fT fS fM fRw fNS fBe fCI fTk fPB fWO fHO fCO fA : Addr} {dB dT dS dM dRw dNS dBe dCI dTk dPB dWO dHO dCO dA : FuncData}
theorem scL : FnScope ["script", "bag", "turn", "row", "some", "k", "night", "hour", "sums", "last", "now", "first", "supply", "x", "other", "at", "less"] ["script"] (defScope sLaw) := ⟨rfl, rfl, rfl, by decide +kernel, rfl, by decide +kernel, by decide +kernel⟩
set_option maxHeartbeats 16000000 in
theorem ok_law {f c : Addr} {fd : FuncData} (F : Fun K "law" "law" sLaw f fd) (T : Nat0 mg) (hE : mg "enumerate" = none) (D : D78 P w K mg base tP fB fT fS fM fRw fNS fBe fCI fTk fPB fWO fHO fCO fA dB dT dS dM dRw dNS dBe dCI dTk dPB dWO dHO dCO dA) : GnOk P w K mg base 5 f fd ["script"] (spTopT K [(c, tP)]) := by
  refine Fun.okG F scL (fun as H Q E h => ?_) (fun cdv A outer s H as Q E hr hgd h => ?_)
  · obtain ⟨a, ns, rfl, _⟩ := h
    rfl
  · obtain ⟨a, ns, rfl, hS, hl, hT0, k⟩ := h
    have hr1 : Room 1 _ := hr.mono (by decide)
    have hr2 : Room 2 _ := hr.mono (by decide)
    have hr3 : Room 3 _ := hr.mono (by decide)
    have hr4 : Room 4 _ := hr
    have hun := hr.units
    refine ⟨_, (pss_cons (ps_set (i := 1) scL.nd rfl (.inr rfl) (pe_call D.gB hr1 rfl D.mB D.B.kp D.bB .nil pass0 (pa_cons (pv 0) pa_nil)))
      (pss_cons (ps_for PassesOwn.never rfl (pi_range1 (by rfl) T.range (pa_cons pe_int pa_nil)) (pg_name (i := 2) scL.nd rfl (.inl rfl))
      (pss_cons (ps_set (i := 3) scL.nd rfl (.inr rfl) (pe_call D.gRw hr3 rfl D.mRw D.Rw.kp D.bRw .nil pass0 (pa_cons (pv 1) pa_nil)))
      (pss_cons (ps_set (i := 4) scL.nd rfl (.inr rfl) (pe_lc (own := [("k", 5)]) (g := gName 5) (tt := tYes)  rfl scL.nd (pi_range1 (by rfl) T.range (pa_cons (pe_op op_add pe_int (pe_call D.gT hr1 rfl D.mT D.T.kp D.bT .nil pass0 (pa_cons (pv 1) (pa_cons pe_int pa_nil)))) pa_nil)) (blkOk_by (N := ["script", "bag", "turn", "row", "some", "k", "night", "hour", "sums", "last", "now", "first", "supply", "x", "other", "at", "less"]) (sc := defScope sLaw) (by decide +kernel)) (fun _ _ _ _ _ => (pg_name (i := 5) scL.nd rfl (.inl rfl))) (fun _ _ _ _ _ => pts_nil)
        (fun _ _ _ _ _ => (pe_call D.gNS hr3 rfl D.mNS D.NS.kp D.bNS .nil pass0 (pa_cons (pv 1) (pa_cons (pv 3) pa_nil))))))
      (pss_cons (ps_set (i := 6) scL.nd rfl (.inl rfl) (pe_callTy call_tuple_of (by rfl) T.tuple (by decide +kernel) (pa_cons (pe_lc (own := [("hour", 7)]) (g := gName 7) (tt := tYes)  rfl scL.nd (pi_range1 (by rfl) T.range (pa_cons (pe_call D.gS hr2 rfl D.mS D.S.kp D.bS .nil pass0 (pa_cons (pv 1) (pa_cons (pe_lst (pa_cons pe_int (pa_cons pe_int (pa_cons pe_int (pa_cons pe_int pa_nil))))) pa_nil))) pa_nil)) (blkOk_by (N := ["script", "bag", "turn", "row", "some", "k", "night", "hour", "sums", "last", "now", "first", "supply", "x", "other", "at", "less"]) (sc := defScope sLaw) (by decide +kernel)) (fun _ _ _ _ _ => (pg_name (i := 7) scL.nd rfl (.inl rfl))) (fun _ _ _ _ _ => pts_nil)
        (fun _ _ _ _ _ => (pe_call D.gS hr2 rfl D.mS D.S.kp D.bS .nil pass0 (pa_cons (pv 1) (pa_cons (pv 4) pa_nil))))) pa_nil)))
      (pss_cons (ps_par (i := 8) (j := 9) rfl scL.nd rfl rfl (by decide) rfl rfl (pa_cons (pe_call D.gCI hr3 rfl D.mCI D.CI.kp D.bCI .nil pass0 (pa_cons (pv 3) (pa_cons (pv 6) pa_nil))) (pa_cons (pe_call D.gBe hr3 rfl D.mBe D.Be.kp D.bBe .nil pass0 (pa_cons (pv 3) (pa_cons (pv 6) pa_nil))) pa_nil)) (by rfl))
      (pss_cons (ps_if (pt_not (pt_val (pe_callG D.gA hr1 hgd rfl D.mA D.A.kp D.bA (pa_cons (pe_lst (pa_cons (pv 8) (pa_cons (pe_call D.gPB hr4 rfl D.mPB D.PB.kp D.bPB .nil pass0 (pa_cons (pv 3) (pa_cons (pv 6) pa_nil))) pa_nil))) (pa_cons (pe_lst (pa_cons (pe_callG D.gCO hr4 hgd rfl D.mCO D.CO.kp D.bCO (pa_cons (pv 3) (pa_cons (pv 6) pa_nil))) (pa_cons (pe_callTy call_tuple_of (by rfl) T.tuple (by decide +kernel) (pa_cons (pv 8) pa_nil)) pa_nil))) pa_nil))))) (pss_one (ps_ret pe_bl)) pss_nil)
      (pss_cons (ps_par (i := 10) (j := 11) rfl scL.nd rfl rfl (by decide) rfl rfl (pa_cons (pv 3) (pa_cons (pe_ifExp (pt_cmpR (op_neD hr.units) (pv 3) (pe_tup pa_nil) (nomark _)) (pe_ix ix_tup (pe_ix ix_tup (pv 3) pe_int (fun _ _ => rfl)) pe_int (fun _ _ => rfl)) pe_int) pa_nil)) (by rfl))
      (pss_cons (ps_for PassesOwn.never rfl (pi_enumT (by rfl) hE (pa_cons (pv 6) pa_nil)) (pg_tup (by rfl) (pgs_cons (pg_name (i := 7) scL.nd rfl (.inl rfl)) (pgs_cons (pg_name (i := 12) scL.nd rfl (.inl rfl)) pgs_nil)))
      (pss_cons (ps_set (i := 13) scL.nd rfl (.inl rfl) (pe_callB (call_min2 rfl) (by rfl) T.min (by decide +kernel) (pa_cons (pv 12) (pa_cons (pe_ifExp (pt_cmpR (op_neD hr.units) (pv 10) (pe_tup pa_nil) (nomark _)) (pe_ix ix_tup (pe_ix ix_tup (pv 10) pe_int (fun _ _ => rfl)) pe_int (fun _ _ => rfl)) pe_int) pa_nil))))
      (pss_cons (ps_set (i := 10) scL.nd rfl (.inl rfl) (pe_call D.gTk hr2 rfl D.mTk D.Tk.kp D.bTk .nil pass0 (pa_cons (pv 10) (pa_cons (pv 13) pa_nil))))
      (pss_one (ps_if (pt_cmpR op_ne (pe_op op_sub (pe_ix ix_list (pv 8) (pe_op op_add (pv 7) pe_int) (fun _ _ => rfl)) (pe_ix ix_list (pv 8) (pv 7) (fun _ _ => rfl))) (pv 13) (nomark _)) (pss_one (ps_ret pe_bl)) pss_nil)))))
      (pss_cons (ps_if (PW.pt (pw_or (pt_not (pt_val (pe_callG D.gA hr1 hgd rfl D.mA D.A.kp D.bA (pa_cons (pv 10) (pa_cons (pv 9) pa_nil))))) (pw_or (pt_cmpR op_ne (pe_op op_add (pe_call D.gWO hr1 rfl D.mWO D.WO.kp D.bWO .nil pass0 (pa_cons (pv 9) pa_nil)) (pe_ix ix_list (pv 8) (pe_un un_neg pe_int) (fun _ _ => rfl))) (pe_call D.gWO hr1 rfl D.mWO D.WO.kp D.bWO .nil pass0 (pa_cons (pv 3) pa_nil)) (nomark _)) (pw_or1 (pt_cmpR op_gt (pe_call D.gHO hr1 rfl D.mHO D.HO.kp D.bHO .nil pass0 (pa_cons (pv 9) pa_nil)) (pe_call D.gHO hr1 rfl D.mHO D.HO.kp D.bHO .nil pass0 (pa_cons (pv 3) pa_nil)) (nomark _)))))) (pss_one (ps_ret pe_bl)) pss_nil)
      (pss_cons (ps_for PassesOwn.never rfl (pi_tup (pe_tup (pa_cons (pe_callTy call_tuple_of (by rfl) T.tuple (by decide +kernel) (pa_cons (pe_callB cr_sortedTI (by rfl) T.sorted (by decide +kernel) (pa_cons (pv 6) pa_nil)) pa_nil)) (pa_cons (pe_callTy call_tuple_of (by rfl) T.tuple (by decide +kernel) (pa_cons (pe_revL (pe_callB cr_sortedTI (by rfl) T.sorted (by decide +kernel) (pa_cons (pv 6) pa_nil))) pa_nil)) (pa_cons (pe_callTy call_tuple_of (by rfl) T.tuple (by decide +kernel) (pa_cons (pe_call D.gM hr2 rfl D.mM D.M.kp D.bM .nil pass0 (pa_cons (pv 1) (pa_cons (pe_callTy call_list_of (by rfl) T.list_ (by decide +kernel) (pa_cons (pv 6) pa_nil)) pa_nil))) pa_nil)) pa_nil))))) (pg_name (i := 14) scL.nd rfl (.inl rfl))
      (pss_one (ps_if (pt_not (pt_val (pe_callG D.gA hr1 hgd rfl D.mA D.A.kp D.bA (pa_cons (pe_lst (pa_cons (pe_call D.gBe hr3 rfl D.mBe D.Be.kp D.bBe .nil pass0 (pa_cons (pv 3) (pa_cons (pv 14) pa_nil))) (pa_cons (pe_ix ix_list (pe_call D.gCI hr3 rfl D.mCI D.CI.kp D.bCI .nil pass0 (pa_cons (pv 3) (pa_cons (pv 14) pa_nil))) (pe_un un_neg pe_int) (fun _ _ => rfl)) pa_nil))) (pa_cons (pe_lst (pa_cons (pv 9) (pa_cons (pe_ix ix_list (pv 8) (pe_un un_neg pe_int) (fun _ _ => rfl)) pa_nil))) pa_nil))))) (pss_one (ps_ret pe_bl)) pss_nil)))
      (pss_one (ps_if (pt_cmpR (op_neD hr.units) (pv 6) (pe_tup pa_nil) (nomark _)) (pss_cons (ps_set (i := 15) scL.nd rfl (.inl rfl) (pe_call D.gT hr1 rfl D.mT D.T.kp D.bT .nil pass0 (pa_cons (pv 1) (pa_cons (pe_callB call_len_seq (by rfl) T.len PySem.boot_len (pa_cons (pv 6) pa_nil)) pa_nil))))
      (pss_cons (ps_set (i := 16) scL.nd rfl (.inl rfl) (pe_op op_sub (pe_ix ix_list (pv 8) (pe_un un_neg pe_int) (fun _ _ => rfl)) (pe_ix ix_list (pe_call D.gCI hr3 rfl D.mCI D.CI.kp D.bCI .nil pass0 (pa_cons (pv 3) (pa_cons (pe_op op_catU (pe_slice sl_tupU (pv 6) po_none (po_some (pv 15))) (pe_slice sl_tupU (pv 6) (po_some (pe_op op_add (pv 15) pe_int)) po_none)) pa_nil))) (pe_un un_neg pe_int) (fun _ _ => rfl))))
      (pss_one (ps_if (pt_not (pt_chain op_le op_le pe_int (pv 16) (pe_callB (call_min2 rfl) (by rfl) T.min (by decide +kernel) (pa_cons (pe_ix ix_tup (pv 6) (pv 15) (fun _ _ => rfl)) (pa_cons (pv 11) pa_nil))))) (pss_one (ps_ret pe_bl)) pss_nil)))) pss_nil))))))))))))
      (pss_one (ps_ret pe_bl)))), ?_⟩
    refine ⟨_, rfl, a, ns, rfl, hS, hl, fun b Hb hBb _ smb => ?_⟩
    have T1 : LamX.Tabs [(tP, qLam)] Hb := LamX.Tabs.ext (H := H) (fun p hp => by rw [List.mem_singleton.mp hp]; exact LamX.TabS.nil (hT0 (c, tP) List.mem_cons_self)) smb
    refine ⟨2, rfl, by decide, by decide, for_range (n := 2) (fun i σ H' => ∃ v2 v3 v4 v5 v6 v7 v8 v9 v10 v11 v12 v13 v14 v15 v16 : Option V, σ = [some (.ref a), some (.ref b), v2, v3, v4, v5, v6, v7, v8, v9, v10, v11, v12, v13, v14, v15, v16] ∧ Bag H' b ∧ LamX.Tabs [(tP, qLam)] H') ?_ ?_ ?_⟩
    · exact ⟨none, none, none, none, none, none, none, none, none, none, none, none, none, none, none, rfl, hBb, T1⟩
    · clear hBb T1 smb
      rintro i σ H0 hi ⟨v2, v3, v4, v5, v6, v7, v8, v9, v10, v11, v12, v13, v14, v15, v16, rfl, hB, hT⟩
      refine ⟨_, rfl, b, rfl, hB, fun t R H2 hR pw V2 B2 s2 => ?_⟩
      have vd := hR.vd pw
      have l4 := hR.1
      have bdR : ∀ r ∈ R, -(2 ^ 64) < r.1 ∧ r.1 < 2 ^ 64 := fun r hr' => by have := hR.2 r hr'; omega
      -- some supplies
      refine ⟨_, rfl, b, 5, rfl, B2, by decide, by decide, fun v H3 v0 v1 B3 s3 => ⟨_, _, rfl, rfl, 1 + v, rfl, by omega, by omega, fun D hD => ?_⟩⟩
      have nD := B3.ne hD
      have V3 : RowV K (wo H3 b) (.ref t) R := V2.more s3.1
      refine lc_range (lo := 0) (n := (1 + v).toNat) (fun i H' => ∃ ss : List Int, H' D = some (.lst (ss.map V.int)) ∧ ss.length = i ∧ (∀ s ∈ ss, 0 ≤ s ∧ s ≤ 10 ^ 12 - 1) ∧ Bag H' b ∧ Sb b H3 H') ?_ ?_ ?_
      · exact ⟨[], upd_same, rfl, (fun _ z => nomatch z), B3.new hD, (Sb.refl b H3).new hD⟩
      · rintro j H' hj ⟨ss, q1, q2, q3, q4, q5⟩
        refine ⟨rfl, _, rfl, _, rfl, b, .ref t, R, rfl, q4, V3.more q5.1, hR, fun z H'' z0 z1 c12 s12 => ?_⟩
        refine ⟨ss.map V.int, s12.get q1 nD, by rw [List.length_map, q2]; exact small1000 (by omega), ss ++ [z], by rw [upd_same, List.map_append]; rfl, by rw [List.length_append, q2]; rfl, fun n hn => ?_, B3.wr hD (q5.trans s12) c12, (q5.trans s12).wr hD⟩
        rcases List.mem_append.mp hn with h | h
        · exact q3 n h
        · rw [List.mem_singleton.mp h]
          exact ⟨z0, z1⟩
      rintro H4 ⟨ss, e4, l5, b5, B4, s4⟩
      -- the night
      refine ⟨_, rfl, by show 4 ≤ sizeLine; decide, fun p hp => ?_⟩
      have np := B4.ne hp
      refine ⟨b, p, [.int 48, .int 20, .int 7, .int 0], rfl, B4.new hp, sql_new upd_same np, (fun z => nomatch z), by show 4 ≤ 1000000; decide, fun x H5 hx B5 s5' => ?_⟩
      obtain ⟨hn, rfl, hn0⟩ : ∃ hn : Int, x = .int hn ∧ (0 ≤ hn ∧ hn ≤ 48) := by
        simp only [List.mem_cons, List.not_mem_nil, or_false] at hx
        rcases hx with rfl | rfl | rfl | rfl
        · exact ⟨_, rfl, by decide⟩
        · exact ⟨_, rfl, by decide⟩
        · exact ⟨_, rfl, by decide⟩
        · exact ⟨_, rfl, by decide⟩
      have s5 := ((Sb.refl b H4).new (o := .lst [.int 48, .int 20, .int 7, .int 0]) hp).trans s5'
      have e5 := s5.get e4 nD
      refine ⟨hn, rfl, by omega, by omega, fun D2 hD2 => ?_⟩
      have nD2 := B5.ne hD2
      refine lc_range (lo := 0) (n := hn.toNat) (fun i H' => ∃ ts : List Int, H' D2 = some (.lst (ts.map V.int)) ∧ ts.length = i ∧ (∀ s ∈ ts, 0 ≤ s ∧ s ≤ 10 ^ 12 - 1) ∧ Bag H' b ∧ Sb b H5 H') ?_ ?_ ?_
      · exact ⟨[], upd_same, rfl, (fun _ z => nomatch z), B5.new hD2, (Sb.refl b H5).new hD2⟩
      · rintro j H' hj ⟨ts, q1, q2, q3, q4, q5⟩
        refine ⟨rfl, _, rfl, _, rfl, b, D, _, rfl, q4, sql_new (q5.get e5 nD) nD, ?_, ?_, fun x H'' hx c12 s12 => ?_⟩
        · intro z
          have := congrArg List.length z
          rw [List.length_map, l5] at this
          have : (1 + v).toNat = 0 := this
          omega
        · rw [List.length_map, l5]
          show (1 + v).toNat ≤ 1000000
          omega
        obtain ⟨z, hz, rfl⟩ := List.mem_map.mp hx
        refine ⟨ts.map V.int, s12.get q1 nD2, by rw [List.length_map, q2]; exact small1000 (by omega), ts ++ [z], by rw [upd_same, List.map_append]; rfl, by rw [List.length_append, q2]; rfl, fun n hn => ?_, B5.wr hD2 (q5.trans s12) c12, (q5.trans s12).wr hD2⟩
        rcases List.mem_append.mp hn with h | h
        · exact q3 n h
        · rw [List.mem_singleton.mp h]
          exact b5 z hz
      rintro H6 ⟨ws, e6, l6, w0, B6, s6⟩
      refine ⟨D2, _, rfl, .inl ⟨SqL.of e6, fun n2 hn2 => ?_⟩⟩
      have B10 := B6.new (o := .tup (ws.map V.int)) hn2
      have S10 := (((s3.trans s4).trans s5).trans s6).new (o := .tup (ws.map V.int)) hn2
      have h10 : SqT K (upd H6 n2 (.tup (ws.map V.int))) n2 (ws.map V.int) := SqT.of upd_same
      generalize upd H6 n2 (.tup (ws.map V.int)) = H10 at B10 S10 h10 ⊢
      have w00 : ∀ z ∈ ws, 0 ≤ z := fun z hz => (w0 z hz).1
      have l48 : ws.length ≤ 48 := by omega
      have V10 : RowV K H10 (.ref t) R := (V2.more S10.1).more (wo_sub H10 b)
      have T10 : LamX.Tabs [(tP, qLam)] H10 := (tabs_sb hT hB s2 |> fun z => tabs_sb z B2 S10)
      clear e4 b5 B4 s4 l5 hp np B5 s5' s5 e5 hD2 nD2 e6 l6 B6 s6 hn2 S10 V3 V2 hT hB B2 s2 B3 s3 hD nD hn0
      -- sums and last
      refine ⟨_, rfl, _, rfl, .ref t, n2, 10 ^ 12 + 1, R, ws, rfl, V10, vd, by decide, by decide, h10, w00, by omega, fun su H11 e11 f11 m11 => ?_⟩
      refine ⟨_, rfl, _, rfl, .ref t, n2, 10 ^ 12 + 1, R, ws, rfl, V10.more m11, vd, by decide, by decide, sqt_more m11 h10, w00, by omega, fun du H12 Vd12 m12 => ?_⟩
      have m13 := m11.trans m12
      have e13 := m12 _ _ e11
      have sune : su ≠ b := B10.ne f11
      have V13 := V10.more m13
      have n13 := sqt_more m13 h10
      have B13 := B10.keep m13
      have T13 := T10.ext m13
      clear e11 f11 m11 m12 V10 h10 B10 T10 m13
      have vdD := RM.bhN_vd vd (by decide) w00
      have bdD : ∀ r ∈ RM.bhN R ws, -(2 ^ 64) < r.1 ∧ r.1 < 2 ^ 64 := vd_bd vdD (by decide)
      have lD := bhN_len (R := R) ws
      obtain ⟨cl, ecl⟩ := cin_last R ws
      have hw := RM.tot_whole vd (by decide) w00
      have hw' : RM.tot R ws + whl (RM.bhN R ws) = whl R := hw
      refine ⟨_, _, rfl, ?_⟩
      refine ⟨_, rfl, _, rfl, _, rfl, .ref t, n2, 10 ^ 12 + 1, R, ws, rfl, V13, vd, by decide, by decide, n13, w00, by omega, fun pb H14 ep14 f14 m14 => ?_⟩
      refine ⟨by show 2 ≤ sizeLine; decide, fun a1 h1 => ?_⟩
      have m15 := same_new (o := .lst [.ref su, .ref pb]) m14 h1
      have x1 : upd H14 a1 (.lst [.ref su, .ref pb]) a1 = some (.lst [.ref su, .ref pb]) := upd_same
      have pb15 := s3u (o := .lst [.ref su, .ref pb]) h1 ep14
      generalize upd H14 a1 (.lst [.ref su, .ref pb]) = H15 at m15 x1 pb15 ⊢
      refine ⟨_, rfl, _, rfl, .ref t, n2, R, ws, rfl, V13.more m15, bdR, sqt_more m15 n13, by omega, T13.ext m15, fun p H16 eN T16 ep fr => ?_⟩
      rw [cin_cds hR vd w00] at ep
      have X16 : LamX.ExtN H12 H16 := fun b' o e n => eN b' o (m15 _ _ e) n
      have e16 := X16 _ _ e13 (fun _ z => nomatch z)
      have x16 := eN _ _ x1 (fun _ z => nomatch z)
      have pb16 := eN _ _ pb15 (fun _ z => nomatch z)
      have V16 := V13.ext X16
      have n16 := sqt_ext X16 n13
      have D16 := Vd12.ext X16
      have B16 := bag_ext B13 X16
      clear e13 Vd12 V13 n13 B13 T13 m14 m15 eN fr X16 h1 x1 pb15 ep14 f14
      refine ⟨_, rfl, su, _, rfl, .inl ⟨SqL.of e16, fun q hq => ⟨by show 2 ≤ sizeLine; decide, fun a2 h2 => ?_⟩⟩⟩
      have mA := same_new (o := .lst [.ref p, .ref q]) (same_new (o := .tup ((cin R ws).map V.int)) (Same.refl H16) hq) h2
      have q1 := s3u (o := .lst [.ref p, .ref q]) h2 (upd_same (H := H16) (a := q) (o := .tup ((cin R ws).map V.int)))
      have x2 : upd (upd H16 q (.tup ((cin R ws).map V.int))) a2 (.lst [.ref p, .ref q]) a2 = some (.lst [.ref p, .ref q]) := upd_same
      generalize upd (upd H16 q (.tup ((cin R ws).map V.int))) a2 (.lst [.ref p, .ref q]) = H17 at mA q1 x2 ⊢
      have fC : Fit 130000 3 (.list [.list ((cin R ws).map PyData.int), .tuple ((cin R ws).map PyData.int)]) := by
        refine (fit_list (m := 60000) (k := 2) fun z hz => ?_).mono (show 2 * (60000 + 2) + 3 ≤ 130000 by decide) (by decide)
        simp only [List.mem_cons, List.not_mem_nil, or_false] at hz
        rcases hz with rfl | rfl
        · exact fit_intsL (by rw [cin_len]; omega) (cin_bd hR vd w00)
        · exact (fit_ints (by rw [cin_len]; omega) (cin_bd hR vd w00)).mono (by decide) (by decide)
      have k1 := fC.1
      have k2 : (PyData.list [.list ((cin R ws).map PyData.int), .tuple ((cin R ws).map PyData.int)]).shown.length ≤ sizeLine := Nat.le_trans fC.2.1 (big_ok (n := 130000) (by decide))
      have k3 : (PyData.list [.list ((cin R ws).map PyData.int), .tuple ((cin R ws).map PyData.int)]).depth ≤ 60 := Nat.le_trans fC.2.2 (show 3 ≤ 60 by decide)
      refine ⟨.ref a1, .ref a2, .list [.list ((cin R ws).map PyData.int), .tuple ((cin R ws).map PyData.int)], rfl, .inr ⟨4, by decide, .inl (.inl ⟨a1, a2, _, _, rfl, rfl, SqL.of (mA _ _ x16), SqL.of x2, .cons (eqT_ints (mA _ _ e16) (mA _ _ ep)) (.cons (eqT_tup 2 (SqT.of (mA _ _ pb16)) (SqT.of q1) flat_ints) .nil)⟩)⟩, .lst (SqL.of (mA _ _ x16)) (.cons (.lst (SqL.of (mA _ _ e16)) (dat_ints _)) (.cons (.tup (SqT.of (mA _ _ pb16)) (dat_ints _)) .nil)), .lst (SqL.of x2) (.cons (.lst (SqL.of (mA _ _ ep)) (dat_ints _)) (.cons (.tup (SqT.of q1) (dat_ints _)) .nil)), k1, k2, k3, ?_⟩
      refine ⟨_, rfl, ?_⟩
      refine ite2 (fun h => by cases h) (fun _ => ?_)
      have V17 := V16.more mA
      have n17 := sqt_more mA n16
      have D17 := D16.more mA
      have B17 := B16.keep mA
      have e17 := mA _ _ e16
      have T17 := T16.ext mA
      clear fC k1 k2 k3 q1 x2 mA hq h2 ep x16 pb16 V16 n16 D16 B16 e16 T16
      have e17' : H17 su = some (.lst (cl.map V.int ++ [.int (RM.tot R ws)])) := by rw [e17, ecl, List.map_append]; rfl
      have atR : ∀ {G : Hp} {v : V} {Q : List Run}, RowV K H17 v Q → Sb b H17 G → RowV K G v Q := fun {G v Q} h s => ((h.wo B17).more s.1).more (wo_sub G b)
      have atT : ∀ {G : Hp}, Sb b H17 G → SqT K G n2 (ws.map V.int) := fun {G} s => sqt_more (wo_sub G b) (sqt_more s.1 (sqt_wo n17 B17))
      have tb := tot_bd hR vd w00
      have fDI := fit_rowx (d := .int (RM.tot R ws)) (fit_behind hR vd w00 (by omega)) (fit_big tb)
      have g1 := fDI.1
      have g2 : (PyData.list [rowD (RM.bhN R ws), .int (RM.tot R ws)]).shown.length ≤ sizeLine := Nat.le_trans fDI.2.1 (big_ok (n := 130000) (by decide))
      have g3 : (PyData.list [rowD (RM.bhN R ws), .int (RM.tot R ws)]).depth ≤ 60 := Nat.le_trans fDI.2.2 (show 3 ≤ 60 by decide)
      have fD := fit_behind hR vd w00 (by omega)
      have cat : ∀ {j : Nat}, j ≤ ws.length → ((cin R ws).map V.int)[j]? = some (.int (RM.tot R (ws.take j))) := fun {j} hj => by rw [List.getElem?_map, cin_at hj]; rfl
      -- hour by hour
      refine ⟨_, rfl, top_te (i := 3) rfl V17 (fun q hq => ⟨_, _, rfl, ?_⟩)⟩
      have S18 := (Sb.refl b H17).new (o := .tup []) hq
      have B18 := B17.new (o := .tup []) hq
      generalize upd H17 q (.tup []) = H18 at S18 B18 ⊢
      refine ⟨_, rfl, n2, _, rfl, atT S18, ?_⟩
      refine for_it (walk_enumT (K := K) (a := n2) (xs := ws.map V.int)) (fun j σ H' => ∃ (y : V) (v7 v12 v13 : Option V), σ = [some (.ref a), some (.ref b), some (.int (0 + (i : Int))), some (.ref t), some (.ref D), v5, some (.ref n2), v7, some (.ref su), some du, some y, some (.int (RM.top R)), v12, v13, v14, v15, v16] ∧ RowV K H' y (RM.bhN R (ws.take j)) ∧ Bag H' b ∧ Sb b H17 H') ?_ ?_ ?_ ?_
      · exact ⟨.ref t, _, _, _, rfl, by rw [List.take_zero]; exact atR V17 S18, B18, S18⟩
      · rintro j σ H' _ ⟨_, _, _, _, _, _, _, s⟩
        exact atT s
      · rintro j x σ H1 H2 hj ⟨y, u7, u12, u13, rfl, Vy, B', s'⟩ ⟨T', x', y', rfl, fT, rfl, hx, hy⟩
        cases hx
        obtain ⟨z, hz, rfl⟩ := ints_of hy
        have hj' : j < ws.length := (List.getElem?_eq_some_iff.mp hz).1
        have zm := w0 z (List.mem_of_getElem? hz)
        have nI : ∀ s ∈ ws.take j, 0 ≤ s := fun s hs => w00 s (List.mem_of_mem_take hs)
        have vI := RM.bhN_vd vd (by decide) nI
        have lI := bhN_len (R := R) (ws.take j)
        have l2 : (ws.take j).length ≤ ws.length := by rw [List.length_take]; exact Nat.min_le_right _ _
        have tp := RM.top_lt vI (by decide)
        have B2 := B'.new (o := .tup [.int (j : Nat), .int z]) fT
        have S2 := s'.new (o := .tup [.int (j : Nat), .int z]) fT
        have V2 := Vy.more (same_new (o := .tup [.int (j : Nat), .int z]) (Same.refl H1) fT)
        have t2 : upd H1 T' (.tup [.int (j : Nat), .int z]) T' = some (.tup [.int (j : Nat), .int z]) := upd_same
        generalize upd H1 T' (.tup [.int (j : Nat), .int z]) = H2 at B2 S2 V2 t2 ⊢
        refine ⟨T', _, rfl, SqT.of t2, rfl, _, _, rfl, _, _, rfl, rfl, ?_⟩
        refine ⟨_, rfl, top_te (i := 10) rfl V2 (fun q hq => ⟨z, RM.top (RM.bhN R (ws.take j)), rfl, ?_⟩)⟩
        have ex : (if RM.top (RM.bhN R (ws.take j)) < z then RM.top (RM.bhN R (ws.take j)) else z) = min z (RM.top (RM.bhN R (ws.take j))) := mn_min _ _
        rw [ex]
        have B3 := B2.new (o := .tup []) hq
        have S3 := S2.new (o := .tup []) hq
        have V3 := V2.more (same_new (o := .tup []) (Same.refl H2) hq)
        generalize upd H2 q (.tup []) = H3 at B3 S3 V3 ⊢
        refine ⟨_, rfl, _, rfl, y, min z (RM.top (RM.bhN R (ws.take j))), 10 ^ 12 + 1, _, rfl, V3, vI, by decide, by omega, by omega, by omega, fun y2 H4 V4 m4 => ?_⟩
        have S4 := S3.same m4
        have e4 := S4.get e17 sune
        have a1' := cat (j := j + 1) (by omega)
        have a2' := cat (j := j) (by omega)
        refine ⟨_, rfl, _, rfl, _, _, rfl, rfl, su, _, (j : Int) + 1, _, rfl, rfl, SqL.of e4, by rw [show (j : Int) + 1 = ((j + 1 : Nat) : Int) by omega]; exact atI_nat a1', _, rfl, _, rfl, su, _, (j : Int), _, rfl, rfl, SqL.of e4, atI_nat a2', _, _, rfl, rfl, _, rfl, rfl, _, rfl, ?_⟩
        have hd := tot_take (R := R) hz
        refine ite2 (fun c => ?_) (fun _ => ?_)
        · have c : (!decide (V.int (RM.tot R (ws.take (j + 1)) - RM.tot R (ws.take j)) = V.int (min z (RM.top (RM.bhN R (ws.take j)))))) = true := c
          rw [decide_eq_true (congrArg V.int (show RM.tot R (ws.take (j + 1)) - RM.tot R (ws.take j) = min z (RM.top (RM.bhN R (ws.take j))) by omega))] at c
          cases c
        refine ⟨y2, _, _, _, rfl, ?_, B3.keep m4, S4⟩
        rw [bhN_take hz, bh_tk]
        exact V4
      rintro σ H3 ⟨now, u7, u12, u13, rfl, Vn, B3, S3⟩
      rw [List.length_map, List.take_length] at Vn
      have Dn := atR D17 S3
      have Rn := atR V17 S3
      have gd1 := fD.1
      have gd2 : (rowD (RM.bhN R ws)).shown.length ≤ sizeLine := Nat.le_trans fD.2.1 (big_ok (n := 60000) (by decide))
      have gd3 : (rowD (RM.bhN R ws)).depth ≤ 60 := Nat.le_trans fD.2.2 (show 2 ≤ 60 by decide)
      refine ⟨_, rfl, _, rfl, now, du, rowD (RM.bhN R ws), rfl, .inr ⟨4, by decide, eqs_row 2 Vn Dn⟩, dat_row Vn, dat_row Dn, gd1, gd2, gd3, ?_⟩
      refine ⟨_, rfl, ?_⟩
      refine ite2 (fun h => by cases h) (fun _ => ?_)
      have e3 := S3.get e17' sune
      refine ⟨_, rfl, du, _, rfl, Dn, bdD, by omega, fun H4 m4 => ?_⟩
      refine ⟨_, rfl, 1, rfl, su, _, -1, .int (RM.tot R ws), rfl, rfl, SqL.of (m4 _ _ e3), atI_last _ _, _, _, rfl, rfl, _, rfl, .ref t, R, rfl, Rn.more m4, bdR, by omega, fun H5 m5 => ?_⟩
      refine ⟨rfl, _, rfl, ?_⟩
      refine ite2 (fun h => ?_) (fun _ => ?_)
      · have h : (!decide (V.int (whl (RM.bhN R ws) + RM.tot R ws) = V.int (whl R))) = true := h
        rw [decide_eq_true (congrArg V.int (show whl (RM.bhN R ws) + RM.tot R ws = whl R by omega))] at h
        cases h
      have m35 := m4.trans m5
      refine ⟨_, rfl, du, _, rfl, Dn.more m35, bdD, by omega, fun H6 m6 => ⟨_, rfl, .ref t, R, rfl, Rn.more (m35.trans m6), bdR, by omega, fun H7 m7 => ⟨_, _, rfl, rfl, _, rfl, ?_⟩⟩⟩
      have hh := RM.bhN_hours ws R
      refine ite2 (fun h => ?_) (fun _ => ?_)
      · have h : hrs R < hrs (RM.bhN R ws) := of_decide_eq_true h
        rw [hrs_rm, hrs_rm] at h
        omega
      have m37 := (m35.trans m6).trans m7
      have S7 := S3.same m37
      have B7 := B3.keep m37
      clear Dn Rn e3 m4 m5 m35 m6 m7 m37 Vn B3 gd1 gd2 gd3 hh
      -- in other orders
      refine ⟨_, rfl, n2, ws, rfl, atT S7, fun ms1 r1 pm1 srt1 hr1' => ⟨r1, _, rfl, .inl ⟨SqL.of upd_same, fun q1 hq1 => ?_⟩⟩⟩
      have S8 := (S7.new (o := .lst (ms1.map V.int)) hr1').new (o := .tup (ms1.map V.int)) hq1
      have B8 := (B7.new (o := .lst (ms1.map V.int)) hr1').new (o := .tup (ms1.map V.int)) hq1
      have q18 : upd (upd H7 r1 (.lst (ms1.map V.int))) q1 (.tup (ms1.map V.int)) q1 = some (.tup (ms1.map V.int)) := upd_same
      have nq1 : q1 ≠ b := (B7.new (o := .lst (ms1.map V.int)) hr1').ne hq1
      generalize upd (upd H7 r1 (.lst (ms1.map V.int))) q1 (.tup (ms1.map V.int)) = H8 at S8 B8 q18 ⊢
      refine ⟨_, rfl, n2, ws, rfl, atT S8, fun ms2 r2 pm2 srt2 hr2' => ⟨r2, _, rfl, SqL.of upd_same, fun u2 hu2 => ⟨u2, _, rfl, .inl ⟨SqL.of upd_same, fun q2 hq2 => ?_⟩⟩⟩⟩
      have S9 := ((S8.new (o := .lst (ms2.map V.int)) hr2').new (o := .lst (ms2.map V.int).reverse) hu2).new (o := .tup (ms2.map V.int).reverse) hq2
      have B9 := ((B8.new (o := .lst (ms2.map V.int)) hr2').new (o := .lst (ms2.map V.int).reverse) hu2).new (o := .tup (ms2.map V.int).reverse) hq2
      have m89 := same_new (o := .tup (ms2.map V.int).reverse) (same_new (o := .lst (ms2.map V.int).reverse) (same_new (o := .lst (ms2.map V.int)) (Same.refl H8) hr2') hu2) hq2
      have nq2 : q2 ≠ b := ((B8.new (o := .lst (ms2.map V.int)) hr2').new (o := .lst (ms2.map V.int).reverse) hu2).ne hq2
      have q29 : upd (upd (upd H8 r2 (.lst (ms2.map V.int))) u2 (.lst (ms2.map V.int).reverse)) q2 (.tup (ms2.map V.int).reverse) q2 = some (.tup (ms2.reverse.map V.int)) := by rw [upd_same, List.map_reverse]
      generalize upd (upd (upd H8 r2 (.lst (ms2.map V.int))) u2 (.lst (ms2.map V.int).reverse)) q2 (.tup (ms2.map V.int).reverse) = H9 at S9 B9 m89 q29 ⊢
      have q19 := m89 _ _ q18
      refine ⟨_, rfl, _, rfl, n2, _, rfl, .inr (atT S9), fun q hq => ?_⟩
      have lw : (ws.map V.int).length = ws.length := List.length_map _
      refine ⟨b, q, _, rfl, B9.new hq, sql_new upd_same (B9.ne hq), by omega, fun m ys H18 pm em fm nm B18 s18 => ⟨m, _, rfl, .inl ⟨SqL.of em, fun q3 hq3 => ?_⟩⟩⟩
      obtain ⟨us3, rfl, pu3⟩ := perm_ints pm
      have s9 := (Sb.refl b H9).new (o := .lst (ws.map V.int)) hq
      have S19 := ((S9.new (o := .lst (ws.map V.int)) hq).trans s18).new (o := .tup (us3.map V.int)) hq3
      have B19 := B18.new (o := .tup (us3.map V.int)) hq3
      have q39 : upd H18 q3 (.tup (us3.map V.int)) q3 = some (.tup (us3.map V.int)) := upd_same
      have q1a := s3u (o := .tup (us3.map V.int)) hq3 ((s9.trans s18).get q19 nq1)
      have q2a := s3u (o := .tup (us3.map V.int)) hq3 ((s9.trans s18).get q29 nq2)
      generalize upd H18 q3 (.tup (us3.map V.int)) = H19 at S19 B19 q39 q1a q2a ⊢
      refine ⟨by show 3 ≤ sizeLine; decide, fun p hp => ⟨p, rfl, ⟨_, SqT.of upd_same⟩, ?_⟩⟩
      have S20 := S19.new (o := .tup [.ref q1, .ref q2, .ref q3]) hp
      have B20 := B19.new (o := .tup [.ref q1, .ref q2, .ref q3]) hp
      have p20 : upd H19 p (.tup [.ref q1, .ref q2, .ref q3]) p = some (.tup [.ref q1, .ref q2, .ref q3]) := upd_same
      have q1b := s3u (o := .tup [.ref q1, .ref q2, .ref q3]) hp q1a
      have q2b := s3u (o := .tup [.ref q1, .ref q2, .ref q3]) hp q2a
      have q3b := s3u (o := .tup [.ref q1, .ref q2, .ref q3]) hp q39
      generalize upd H19 p (.tup [.ref q1, .ref q2, .ref q3]) = H20 at S20 B20 p20 q1b q2b q3b ⊢
      have items : ∀ x ∈ [V.ref q1, V.ref q2, V.ref q3], ∃ (ot : Addr) (us : List Int), x = V.ref ot ∧ H20 ot = some (.tup (us.map V.int)) ∧ us.Perm ws := fun x hx => by
        simp only [List.mem_cons, List.not_mem_nil, or_false] at hx
        rcases hx with rfl | rfl | rfl
        · exact ⟨_, _, rfl, q1b, pm1⟩
        · exact ⟨_, _, rfl, q2b, (List.reverse_perm ms2).trans pm2⟩
        · exact ⟨_, _, rfl, q3b, pu3⟩
      clear q1b q2b q3b q1a q2a q39 S19 B19 s9 em fm nm B18 s18 pm hq hq3 hp q19 q29 m89 S9 B9 hr2' hu2 hq2 S8 B8 q18 hr1' hq1 S7 B7
      refine for_tup (K := K) (a := p) (xs := [V.ref q1, V.ref q2, V.ref q3]) (fun j σ H' => ∃ w14 : Option V, σ = [some (.ref a), some (.ref b), some (.int (0 + (i : Int))), some (.ref t), some (.ref D), v5, some (.ref n2), u7, some (.ref su), some du, some now, some (.int (RM.top R)), u12, u13, w14, v15, v16] ∧ Bag H' b ∧ Same H20 H') ?_ ?_ ?_ ?_
      · exact ⟨_, rfl, B20, .refl H20⟩
      · rintro j σ H' _ ⟨_, _, _, sm⟩
        exact SqT.of (sm _ _ p20)
      · rintro j x σ H' hx ⟨w14, rfl, B', sm⟩
        obtain ⟨ot, us, rfl, o20, pu⟩ := items x (List.mem_of_getElem? hx)
        have S19 := S20.same sm
        have o19 := sm _ _ o20
        have V19 : RowV K H' (.ref t) R := atR V17 S19
        have D19 : RowV K H' du (RM.bhN R ws) := atR D17 S19
        have e19 := S19.get e17' sune
        have u0 : ∀ z ∈ us, 0 ≤ z := fun z hz => w00 z (pu.mem_iff.mp hz)
        have lu : us.length ≤ 48 := by rw [pu.length_eq]; exact l48
        obtain ⟨np1, np2⟩ := RM.night_perm vd (by decide) w00 pu
        obtain ⟨cu, ecu⟩ := cin_last R us
        refine ⟨_, rfl, _, rfl, .ref t, ot, 10 ^ 12 + 1, R, us, rfl, V19, vd, by decide, by decide, SqT.of o19, u0, by omega, fun y1 H30 Vy m20 => ?_⟩
        refine ⟨_, rfl, _, rfl, .ref t, ot, 10 ^ 12 + 1, R, us, rfl, V19.more m20, vd, by decide, by decide, SqT.of (m20 _ _ o19), u0, by omega, fun p21 H31 e21 f21 m21 => ?_⟩
        have e21' : H31 p21 = some (.lst (cu.map V.int ++ [.int (RM.tot R us)])) := by rw [e21, ecu, List.map_append]; rfl
        rw [np1] at Vy
        rw [np2] at e21'
        refine ⟨1, rfl, p21, _, -1, .int (RM.tot R ws), rfl, rfl, SqL.of e21', atI_last _ _, by show 2 ≤ sizeLine; decide, fun a1 h1 => ?_⟩
        refine ⟨_, rfl, _, rfl, 1, rfl, su, _, -1, .int (RM.tot R ws), rfl, rfl, SqL.of (s3u h1 (m21 _ _ (m20 _ _ e19))), atI_last _ _, by show 2 ≤ sizeLine; decide, fun a2 h2 => ?_⟩
        have mA := same_new (o := .lst [du, .int (RM.tot R ws)]) (same_new (o := .lst [y1, .int (RM.tot R ws)]) (m20.trans m21) h1) h2
        have mB := same_new (o := .lst [du, .int (RM.tot R ws)]) (same_new (o := .lst [y1, .int (RM.tot R ws)]) m21 h1) h2
        have x1 := s3u (o := .lst [du, .int (RM.tot R ws)]) h2 (upd_same (H := H31) (a := a1) (o := .lst [y1, .int (RM.tot R ws)]))
        have x2 : upd (upd H31 a1 (.lst [y1, .int (RM.tot R ws)])) a2 (.lst [du, .int (RM.tot R ws)]) a2 = some (.lst [du, .int (RM.tot R ws)]) := upd_same
        generalize upd (upd H31 a1 (.lst [y1, .int (RM.tot R ws)])) a2 (.lst [du, .int (RM.tot R ws)]) = H32 at mA mB x1 x2 ⊢
        have Vy2 := Vy.more mB
        have Dd2 := D19.more mA
        refine ⟨.ref a1, .ref a2, .list [rowD (RM.bhN R ws), .int (RM.tot R ws)], rfl, .inr ⟨4, by decide, eqs_rowx x1 x2 Vy2 Dd2 (.inl ⟨rfl, rfl⟩)⟩, dat_rowx x1 Vy2 (.int _), dat_rowx x2 Dd2 (.int _), g1, g2, g3, ?_⟩
        refine ⟨_, rfl, ?_⟩
        refine ite2 (fun h => by cases h) (fun _ => ?_)
        exact ⟨_, rfl, B'.keep mA, sm.trans mA⟩
      rintro σ H33 ⟨w14, rfl, B33, m33⟩
      have S33 := S20.same m33
      clear g1 g2 g3 fDI items p20 S20 B20
      -- without an hour
      refine ⟨_, rfl, by show 0 ≤ sizeLine; decide, fun q hq => ?_⟩
      have S34 := S33.new (o := .tup []) hq
      have B34 := B33.new (o := .tup []) hq
      have q34 : upd H33 q (.tup []) q = some (.tup []) := upd_same
      generalize upd H33 q (.tup []) = H34 at S34 B34 q34 ⊢
      have T34 := tabs_sb T17 B17 S34
      have n34 := atT S34
      have e34 := S34.get e17' sune
      refine ⟨.tuple (ws.map PyData.int), .tuple [], .tup n34 (dp_ints _), .tup (SqT.of q34) .nil, shaped_intsT ws, by decide +kernel, _, rfl, ?_⟩
      by_cases hw0 : ws = []
      · subst hw0
        refine ite2 (fun c => absurd c (by decide)) (fun _ => ?_)
        exact ⟨_, _, _, _, _, _, _, _, _, _, _, _, _, _, _, rfl, B34, T34⟩
      rw [eqv_ints_nil hw0]
      refine ite2 (fun _ => ?_) (fun c => absurd rfl c)
      have pos : 0 < ws.length := List.length_pos_iff.mpr hw0
      refine ⟨_, rfl, _, rfl, n2, _, rfl, .inr n34, b, _, rfl, B34, by omega, Nat.lt_of_le_of_lt (show (((ws.map V.int).length : Int)).natAbs ≤ 100 by omega) (by decide +kernel), fun v H35 v0 v1 B35 s35 => ?_⟩
      obtain ⟨m, rfl⟩ : ∃ m : Nat, v = m := ⟨v.toNat, by omega⟩
      have hm : m < ws.length := by omega
      have S35 := S34.trans s35
      have e35 := S35.get e17' sune
      have ec1 : cutV (ws.map V.int) none (some (m : Int)) = (ws.take m).map V.int := by rw [cut_upto, List.map_take]
      have ec6 : cutV (ws.map V.int) (some ((m : Int) + 1)) none = (ws.drop (m + 1)).map V.int := by rw [show (m : Int) + 1 = ((m + 1 : Nat) : Int) by omega, cut_from, List.map_drop]
      refine ⟨_, rfl, 1, rfl, su, _, -1, .int (RM.tot R ws), rfl, rfl, SqL.of e35, atI_last _ _, ?_⟩
      refine ⟨_, rfl, _, rfl, _, rfl, _, rfl, n2, _, rfl, atT S35, fun p36 H36 m36 h36 => ?_⟩
      rw [ec1] at h36
      refine ⟨_, rfl, _, rfl, _, _, rfl, rfl, _, rfl, n2, _, rfl, atT (S35.same m36), fun p37 H37 m37 h37 => ?_⟩
      rw [ec6] at h37
      refine ⟨p36, p37, _, _, rfl, rfl, sqt_more m37 h36, h37, ?_, fun p38 H38 m38 h38 => ?_⟩
      · rw [List.length_map, List.length_map, List.length_take, List.length_drop]
        exact Nat.le_of_lt (small1000 (by omega))
      rw [← List.map_append] at h38
      have S38 := ((S35.same m36).same m37).same m38
      have B38 := ((B35.keep m36).keep m37).keep m38
      obtain ⟨z, hz⟩ : ∃ z, ws[m]? = some z := ⟨_, List.getElem?_eq_getElem hm⟩
      have ews : ws.take m ++ z :: ws.drop (m + 1) = ws := by rw [← drop_at hz, List.take_append_drop]
      have sk := RM.tot_skip (a := ws.take m) (b := ws.drop (m + 1)) (s := z) vd (by decide) (by rw [ews]; exact w00)
      rw [ews] at sk
      have r0 : ∀ s ∈ ws.take m ++ ws.drop (m + 1), 0 ≤ s := fun s hs => by
        rcases List.mem_append.mp hs with h | h
        · exact w00 s (List.mem_of_mem_take h)
        · exact w00 s (List.mem_of_mem_drop h)
      have lr : (ws.take m ++ ws.drop (m + 1)).length ≤ 48 := by rw [List.length_append, List.length_take, List.length_drop]; omega
      obtain ⟨cr, ecr⟩ := cin_last R (ws.take m ++ ws.drop (m + 1))
      generalize ws.take m ++ ws.drop (m + 1) = rs at h38 sk r0 lr ecr
      refine ⟨.ref t, p38, 10 ^ 12 + 1, R, rs, rfl, atR V17 S38, vd, by decide, by decide, h38, r0, by omega, fun p39 H39 e39 f39 m39 => ?_⟩
      have e39' : H39 p39 = some (.lst (cr.map V.int ++ [.int (RM.tot R rs)])) := by rw [e39, ecr, List.map_append]; rfl
      have S39 := S38.same m39
      have B39 := B38.keep m39
      refine ⟨1, rfl, p39, _, -1, .int (RM.tot R rs), rfl, rfl, SqL.of e39', atI_last _ _, _, _, rfl, rfl, ?_⟩
      refine ⟨_, rfl, _, _, rfl, rfl, _, rfl, ?_⟩
      refine ite2 (fun _ => ?_) (fun c => ?_)
      · refine ⟨_, rfl, _, rfl, n2, _, (m : Int), .int z, rfl, rfl, atT S39, atI_nat (by rw [List.getElem?_map, hz]; rfl), _, rfl, z, RM.top R, rfl, _, _, rfl, rfl, ?_⟩
        refine ⟨_, rfl, ?_⟩
        have ex : (if RM.top R < z then RM.top R else z) = min z (RM.top R) := mn_min _ _
        rw [ex]
        refine ite2 (fun c => ?_) (fun _ => ?_)
        · have c : (!decide (RM.tot R ws - RM.tot R rs ≤ min z (RM.top R))) = true := c
          rw [decide_eq_true (show RM.tot R ws - RM.tot R rs ≤ min z (RM.top R) by omega)] at c
          cases c
        exact ⟨_, _, _, _, _, _, _, _, _, _, _, _, _, _, _, rfl, B39, tabs_sb T17 B17 S39⟩
      · exact absurd (decide_eq_true (show (0 : Int) ≤ RM.tot R ws - RM.tot R rs by omega)) c
    · rintro σ H' ⟨v2, v3, v4, v5, v6, v7, v8, v9, v10, v11, v12, v13, v14, v15, v16, rfl, _⟩
      exact k H'
end
end Y

namespace Y
open PySem PySem.Spec PyProof.Rows L2 Ns
/-- the def's data -/
def fdOf {K : PySem.W.Frag} {x q : Str} {st : Stmt} {f : Addr} {fd : FuncData} (_ : Fun K x q st f fd) : FuncData := fd
set_option maxHeartbeats 4000000 in
theorem all_mk {l : PySem.W.OpenLaw} {w : World} {K : PySem.W.Frag} {h : Heap} {mg : Str → Option Value} {fa : Addr} (X : K.In h) (G : h.Ns mainGlobals mg) (hfa : mg "law" = some (.ref fa))
    {fPR fRI fSI fWO fHO fTk fBe fFT fCI fTF fAE fPB fB fT fS fM fA fLR fCB fNS fCO fRw fL : Addr}
    {oddPR andPR : Option Addr} {sldPR : Array (Option Value)} {ocdPR kVdPR dcdPR pmdPR cddPR ctdPR : Value}
    {oddRI andRI : Option Addr} {sldRI : Array (Option Value)} {ocdRI kVdRI dcdRI pmdRI cddRI ctdRI : Value}
    {oddSI andSI : Option Addr} {sldSI : Array (Option Value)} {ocdSI kVdSI dcdSI pmdSI cddSI ctdSI : Value}
    {oddWO andWO : Option Addr} {sldWO : Array (Option Value)} {ocdWO kVdWO dcdWO pmdWO cddWO ctdWO : Value}
    {oddHO andHO : Option Addr} {sldHO : Array (Option Value)} {ocdHO kVdHO dcdHO pmdHO cddHO ctdHO : Value}
    {oddTk andTk : Option Addr} {sldTk : Array (Option Value)} {ocdTk kVdTk dcdTk pmdTk cddTk ctdTk : Value}
    {oddBe andBe : Option Addr} {sldBe : Array (Option Value)} {ocdBe kVdBe dcdBe pmdBe cddBe ctdBe : Value}
    {oddFT andFT : Option Addr} {sldFT : Array (Option Value)} {ocdFT kVdFT dcdFT pmdFT cddFT ctdFT : Value}
    {oddCI andCI : Option Addr} {sldCI : Array (Option Value)} {ocdCI kVdCI dcdCI pmdCI cddCI ctdCI : Value}
    {oddTF andTF : Option Addr} {sldTF : Array (Option Value)} {ocdTF kVdTF dcdTF pmdTF cddTF ctdTF : Value}
    {oddAE andAE : Option Addr} {sldAE : Array (Option Value)} {ocdAE kVdAE dcdAE pmdAE cddAE ctdAE : Value}
    {oddPB andPB : Option Addr} {sldPB : Array (Option Value)} {ocdPB kVdPB dcdPB pmdPB cddPB ctdPB : Value}
    {oddB andB : Option Addr} {sldB : Array (Option Value)} {ocdB kVdB dcdB pmdB cddB ctdB : Value}
    {oddT andT : Option Addr} {sldT : Array (Option Value)} {ocdT kVdT dcdT pmdT cddT ctdT : Value}
    {oddS andS : Option Addr} {sldS : Array (Option Value)} {ocdS kVdS dcdS pmdS cddS ctdS : Value}
    {oddM andM : Option Addr} {sldM : Array (Option Value)} {ocdM kVdM dcdM pmdM cddM ctdM : Value}
    {oddA andA : Option Addr} {sldA : Array (Option Value)} {ocdA kVdA dcdA pmdA cddA ctdA : Value}
    {oddLR andLR : Option Addr} {sldLR : Array (Option Value)} {ocdLR kVdLR dcdLR pmdLR cddLR ctdLR : Value}
    {oddCB andCB : Option Addr} {sldCB : Array (Option Value)} {ocdCB kVdCB dcdCB pmdCB cddCB ctdCB : Value}
    {oddNS andNS : Option Addr} {sldNS : Array (Option Value)} {ocdNS kVdNS dcdNS pmdNS cddNS ctdNS : Value}
    {oddCO andCO : Option Addr} {sldCO : Array (Option Value)} {ocdCO kVdCO dcdCO pmdCO cddCO ctdCO : Value}
    {oddRw andRw : Option Addr} {sldRw : Array (Option Value)} {ocdRw kVdRw dcdRw pmdRw cddRw ctdRw : Value}
    {oddL andL : Option Addr} {sldL : Array (Option Value)} {ocdL kVdL dcdL pmdL cddL ctdL : Value}
    (adPR : PySem.W.nsIn K mainGlobals "put_run" = some (some (.ref fPR)))
    (ldPR : K.lookup fPR = some ⟨ocdPR, oddPR, .func (PySem.W.fnOf "put_run" "put_run" (defArgs sPutRun) (defBody sPutRun) (defScope sPutRun) .none kVdPR dcdPR pmdPR andPR cddPR ctdPR), sldPR⟩)
    (cdPR : PySem.W.codeIn K cddPR "put_run" = true)
    (kdPR : PySem.W.keepIn K (.ref fPR) = true)
    (adRI : PySem.W.nsIn K mainGlobals "reach_in" = some (some (.ref fRI)))
    (ldRI : K.lookup fRI = some ⟨ocdRI, oddRI, .func (PySem.W.fnOf "reach_in" "reach_in" (defArgs sReachIn) (defBody sReachIn) (defScope sReachIn) .none kVdRI dcdRI pmdRI andRI cddRI ctdRI), sldRI⟩)
    (cdRI : PySem.W.codeIn K cddRI "reach_in" = true)
    (kdRI : PySem.W.keepIn K (.ref fRI) = true)
    (adSI : PySem.W.nsIn K mainGlobals "step_in" = some (some (.ref fSI)))
    (ldSI : K.lookup fSI = some ⟨ocdSI, oddSI, .func (PySem.W.fnOf "step_in" "step_in" (defArgs sStepIn) (defBody sStepIn) (defScope sStepIn) .none kVdSI dcdSI pmdSI andSI cddSI ctdSI), sldSI⟩)
    (cdSI : PySem.W.codeIn K cddSI "step_in" = true)
    (kdSI : PySem.W.keepIn K (.ref fSI) = true)
    (adWO : PySem.W.nsIn K mainGlobals "whole_of" = some (some (.ref fWO)))
    (ldWO : K.lookup fWO = some ⟨ocdWO, oddWO, .func (PySem.W.fnOf "whole_of" "whole_of" (defArgs sWholeOf) (defBody sWholeOf) (defScope sWholeOf) .none kVdWO dcdWO pmdWO andWO cddWO ctdWO), sldWO⟩)
    (cdWO : PySem.W.codeIn K cddWO "whole_of" = true)
    (kdWO : PySem.W.keepIn K (.ref fWO) = true)
    (adHO : PySem.W.nsIn K mainGlobals "hours_of" = some (some (.ref fHO)))
    (ldHO : K.lookup fHO = some ⟨ocdHO, oddHO, .func (PySem.W.fnOf "hours_of" "hours_of" (defArgs sHoursOf) (defBody sHoursOf) (defScope sHoursOf) .none kVdHO dcdHO pmdHO andHO cddHO ctdHO), sldHO⟩)
    (cdHO : PySem.W.codeIn K cddHO "hours_of" = true)
    (kdHO : PySem.W.keepIn K (.ref fHO) = true)
    (adTk : PySem.W.nsIn K mainGlobals "taken" = some (some (.ref fTk)))
    (ldTk : K.lookup fTk = some ⟨ocdTk, oddTk, .func (PySem.W.fnOf "taken" "taken" (defArgs sTaken) (defBody sTaken) (defScope sTaken) .none kVdTk dcdTk pmdTk andTk cddTk ctdTk), sldTk⟩)
    (cdTk : PySem.W.codeIn K cddTk "taken" = true)
    (kdTk : PySem.W.keepIn K (.ref fTk) = true)
    (adBe : PySem.W.nsIn K mainGlobals "behind" = some (some (.ref fBe)))
    (ldBe : K.lookup fBe = some ⟨ocdBe, oddBe, .func (PySem.W.fnOf "behind" "behind" (defArgs sBehind) (defBody sBehind) (defScope sBehind) .none kVdBe dcdBe pmdBe andBe cddBe ctdBe), sldBe⟩)
    (cdBe : PySem.W.codeIn K cddBe "behind" = true)
    (kdBe : PySem.W.keepIn K (.ref fBe) = true)
    (adFT : PySem.W.nsIn K mainGlobals "first_taken" = some (some (.ref fFT)))
    (ldFT : K.lookup fFT = some ⟨ocdFT, oddFT, .func (PySem.W.fnOf "first_taken" "first_taken" (defArgs sFirstTaken) (defBody sFirstTaken) (defScope sFirstTaken) .none kVdFT dcdFT pmdFT andFT cddFT ctdFT), sldFT⟩)
    (cdFT : PySem.W.codeIn K cddFT "first_taken" = true)
    (kdFT : PySem.W.keepIn K (.ref fFT) = true)
    (adCI : PySem.W.nsIn K mainGlobals "could_in" = some (some (.ref fCI)))
    (ldCI : K.lookup fCI = some ⟨ocdCI, oddCI, .func (PySem.W.fnOf "could_in" "could_in" (defArgs sCouldIn) (defBody sCouldIn) (defScope sCouldIn) .none kVdCI dcdCI pmdCI andCI cddCI ctdCI), sldCI⟩)
    (cdCI : PySem.W.codeIn K cddCI "could_in" = true)
    (kdCI : PySem.W.keepIn K (.ref fCI) = true)
    (adTF : PySem.W.nsIn K mainGlobals "told_for" = some (some (.ref fTF)))
    (ldTF : K.lookup fTF = some ⟨ocdTF, oddTF, .func (PySem.W.fnOf "told_for" "told_for" (defArgs sTold) (defBody sTold) (defScope sTold) .none kVdTF dcdTF pmdTF andTF cddTF ctdTF), sldTF⟩)
    (cdTF : PySem.W.codeIn K cddTF "told_for" = true)
    (kdTF : PySem.W.keepIn K (.ref fTF) = true)
    (adAE : PySem.W.nsIn K mainGlobals "could_at_end" = some (some (.ref fAE)))
    (ldAE : K.lookup fAE = some ⟨ocdAE, oddAE, .func (PySem.W.fnOf "could_at_end" "could_at_end" (defArgs sAtEnd) (defBody sAtEnd) (defScope sAtEnd) .none kVdAE dcdAE pmdAE andAE cddAE ctdAE), sldAE⟩)
    (cdAE : PySem.W.codeIn K cddAE "could_at_end" = true)
    (kdAE : PySem.W.keepIn K (.ref fAE) = true)
    (adPB : PySem.W.nsIn K mainGlobals "could_by" = some (some (.ref fPB)))
    (ldPB : K.lookup fPB = some ⟨ocdPB, oddPB, .func (PySem.W.fnOf "could_by" "could_by" (defArgs sPBy) (defBody sPBy) (defScope sPBy) .none kVdPB dcdPB pmdPB andPB cddPB ctdPB), sldPB⟩)
    (cdPB : PySem.W.codeIn K cddPB "could_by" = true)
    (kdPB : PySem.W.keepIn K (.ref fPB) = true)
    (adB : PySem.W.nsIn K mainGlobals "_law_bag" = some (some (.ref fB)))
    (ldB : K.lookup fB = some ⟨ocdB, oddB, .func (PySem.W.fnOf "_law_bag" "_law_bag" (defArgs sBag) (defBody sBag) (defScope sBag) .none kVdB dcdB pmdB andB cddB ctdB), sldB⟩)
    (cdB : PySem.W.codeIn K cddB "_law_bag" = true)
    (kdB : PySem.W.keepIn K (.ref fB) = true)
    (adT : PySem.W.nsIn K mainGlobals "_law_take" = some (some (.ref fT)))
    (ldT : K.lookup fT = some ⟨ocdT, oddT, .func (PySem.W.fnOf "_law_take" "_law_take" (defArgs sTake) (defBody sTake) (defScope sTake) .none kVdT dcdT pmdT andT cddT ctdT), sldT⟩)
    (cdT : PySem.W.codeIn K cddT "_law_take" = true)
    (kdT : PySem.W.keepIn K (.ref fT) = true)
    (adS : PySem.W.nsIn K mainGlobals "_law_some" = some (some (.ref fS)))
    (ldS : K.lookup fS = some ⟨ocdS, oddS, .func (PySem.W.fnOf "_law_some" "_law_some" (defArgs sSome) (defBody sSome) (defScope sSome) .none kVdS dcdS pmdS andS cddS ctdS), sldS⟩)
    (cdS : PySem.W.codeIn K cddS "_law_some" = true)
    (kdS : PySem.W.keepIn K (.ref fS) = true)
    (adM : PySem.W.nsIn K mainGlobals "_law_mixed" = some (some (.ref fM)))
    (ldM : K.lookup fM = some ⟨ocdM, oddM, .func (PySem.W.fnOf "_law_mixed" "_law_mixed" (defArgs sMixed) (defBody sMixed) (defScope sMixed) .none kVdM dcdM pmdM andM cddM ctdM), sldM⟩)
    (cdM : PySem.W.codeIn K cddM "_law_mixed" = true)
    (kdM : PySem.W.keepIn K (.ref fM) = true)
    (adA : PySem.W.nsIn K mainGlobals "_law_alike" = some (some (.ref fA)))
    (ldA : K.lookup fA = some ⟨ocdA, oddA, .func (PySem.W.fnOf "_law_alike" "_law_alike" (defArgs sAlike) (defBody sAlike) (defScope sAlike) .none kVdA dcdA pmdA andA cddA ctdA), sldA⟩)
    (cdA : PySem.W.codeIn K cddA "_law_alike" = true)
    (kdA : PySem.W.keepIn K (.ref fA) = true)
    (adLR : PySem.W.nsIn K mainGlobals "_law_row_reach" = some (some (.ref fLR)))
    (ldLR : K.lookup fLR = some ⟨ocdLR, oddLR, .func (PySem.W.fnOf "_law_row_reach" "_law_row_reach" (defArgs sRowReach) (defBody sRowReach) (defScope sRowReach) .none kVdLR dcdLR pmdLR andLR cddLR ctdLR), sldLR⟩)
    (cdLR : PySem.W.codeIn K cddLR "_law_row_reach" = true)
    (kdLR : PySem.W.keepIn K (.ref fLR) = true)
    (adCB : PySem.W.nsIn K mainGlobals "_law_could_by" = some (some (.ref fCB)))
    (ldCB : K.lookup fCB = some ⟨ocdCB, oddCB, .func (PySem.W.fnOf "_law_could_by" "_law_could_by" (defArgs sCouldBy) (defBody sCouldBy) (defScope sCouldBy) .none kVdCB dcdCB pmdCB andCB cddCB ctdCB), sldCB⟩)
    (cdCB : PySem.W.codeIn K cddCB "_law_could_by" = true)
    (kdCB : PySem.W.keepIn K (.ref fCB) = true)
    (adNS : PySem.W.nsIn K mainGlobals "_law_near_supply" = some (some (.ref fNS)))
    (ldNS : K.lookup fNS = some ⟨ocdNS, oddNS, .func (PySem.W.fnOf "_law_near_supply" "_law_near_supply" (defArgs sNearSupply) (defBody sNearSupply) (defScope sNearSupply) .none kVdNS dcdNS pmdNS andNS cddNS ctdNS), sldNS⟩)
    (cdNS : PySem.W.codeIn K cddNS "_law_near_supply" = true)
    (kdNS : PySem.W.keepIn K (.ref fNS) = true)
    (adCO : PySem.W.nsIn K mainGlobals "_law_could_of" = some (some (.ref fCO)))
    (ldCO : K.lookup fCO = some ⟨ocdCO, oddCO, .func (PySem.W.fnOf "_law_could_of" "_law_could_of" (defArgs sCouldOf) (defBody sCouldOf) (defScope sCouldOf) .none kVdCO dcdCO pmdCO andCO cddCO ctdCO), sldCO⟩)
    (cdCO : PySem.W.codeIn K cddCO "_law_could_of" = true)
    (kdCO : PySem.W.keepIn K (.ref fCO) = true)
    (adRw : PySem.W.nsIn K mainGlobals "_law_great_row" = some (some (.ref fRw)))
    (ldRw : K.lookup fRw = some ⟨ocdRw, oddRw, .func (PySem.W.fnOf "_law_great_row" "_law_great_row" (defArgs sGreatRow) (defBody sGreatRow) (defScope sGreatRow) .none kVdRw dcdRw pmdRw andRw cddRw ctdRw), sldRw⟩)
    (cdRw : PySem.W.codeIn K cddRw "_law_great_row" = true)
    (kdRw : PySem.W.keepIn K (.ref fRw) = true)
    (adL : PySem.W.nsIn K mainGlobals "law" = some (some (.ref fL)))
    (ldL : K.lookup fL = some ⟨ocdL, oddL, .func (PySem.W.fnOf "law" "law" (defArgs sLaw) (defBody sLaw) (defScope sLaw) .none kVdL dcdL pmdL andL cddL ctdL), sldL⟩)
    (cdL : PySem.W.codeIn K cddL "law" = true)
    (kdL : PySem.W.keepIn K (.ref fL) = true)
    (zabs : PySem.W.nsIn K mainGlobals "abs" = some none)
    (zint : PySem.W.nsIn K mainGlobals "int" = some none)
    (zlen : PySem.W.nsIn K mainGlobals "len" = some none)
    (zrepr : PySem.W.nsIn K mainGlobals "repr" = some none)
    (zisinstance : PySem.W.nsIn K mainGlobals "isinstance" = some none)
    (zrange : PySem.W.nsIn K mainGlobals "range" = some none)
    (zsorted : PySem.W.nsIn K mainGlobals "sorted" = some none)
    (ztuple : PySem.W.nsIn K mainGlobals "tuple" = some none)
    (zlist : PySem.W.nsIn K mainGlobals "list" = some none)
    (zdict : PySem.W.nsIn K mainGlobals "dict" = some none)
    (zset : PySem.W.nsIn K mainGlobals "set" = some none)
    (zsum : PySem.W.nsIn K mainGlobals "sum" = some none)
    (zmax : PySem.W.nsIn K mainGlobals "max" = some none)
    (zmin : PySem.W.nsIn K mainGlobals "min" = some none)
    (zstr : PySem.W.nsIn K mainGlobals "str" = some none)
    (zall : PySem.W.nsIn K mainGlobals "all" = some none)
    (zany : PySem.W.nsIn K mainGlobals "any" = some none)
    (zzip : PySem.W.nsIn K mainGlobals "zip" = some none)
    (zenumerate : PySem.W.nsIn K mainGlobals "enumerate" = some none)
    {cC tP : Addr} (mC : h.get? tP = some (PySem.W.tabObj #[])) (tC : PySem.W.tabIn K "_law_could_of" = some (cC, tP)) (hC : PySem.W.codeHdIn K cC tP = true) (oC : K.lookup tP = none) :
    ∃ (fd : FuncData) (cs : List (Addr × Addr)), Ns.Makers K h cs ∧ (∀ (s : Shared) (v : Value), BindsTo s fd ⟨[v], []⟩ [("script", v)]) ∧ ∀ base : Heap, K.In base → base.Ns mainGlobals mg → (∀ p ∈ cs, LamX.TabB base mg p.1 p.2) → GnOk l.prog w K mg base 5 fa fd ["script"] (spTopT K cs) := by
  have e := hfa.symm.trans (PySem.W.mg_of X G adL)
  cases e
  have T : Nat0 mg := ⟨PySem.W.mg_none_of X G zabs, PySem.W.mg_none_of X G zint, PySem.W.mg_none_of X G zlen, PySem.W.mg_none_of X G zrepr, PySem.W.mg_none_of X G zisinstance, PySem.W.mg_none_of X G zrange, PySem.W.mg_none_of X G zsorted, PySem.W.mg_none_of X G ztuple, PySem.W.mg_none_of X G zlist, PySem.W.mg_none_of X G zdict, PySem.W.mg_none_of X G zset, PySem.W.mg_none_of X G zsum, PySem.W.mg_none_of X G zmax, PySem.W.mg_none_of X G zmin, PySem.W.mg_none_of X G zstr, PySem.W.mg_none_of X G zall, PySem.W.mg_none_of X G zany, PySem.W.mg_none_of X G zzip⟩
  have h_enumerate : mg "enumerate" = none := PySem.W.mg_none_of X G zenumerate
  have FPR := fun_mk (st := sPutRun) ldPR cdPR kdPR
  have bPR := FPR.binds (ps := ["runs", "step", "times"]) fun _ _ _ _ _ _ us hl => match us, hl with | [_, _, _], _ => rfl
  have mPR := PySem.W.mg_of X G adPR
  have FRI := fun_mk (st := sReachIn) ldRI cdRI kdRI
  have bRI := FRI.binds (ps := ["stairs", "h"]) fun _ _ _ _ _ _ us hl => match us, hl with | [_, _], _ => rfl
  have mRI := PySem.W.mg_of X G adRI
  have FSI := fun_mk (st := sStepIn) ldSI cdSI kdSI
  have bSI := FSI.binds (ps := ["stairs", "h"]) fun _ _ _ _ _ _ us hl => match us, hl with | [_, _], _ => rfl
  have mSI := PySem.W.mg_of X G adSI
  have FWO := fun_mk (st := sWholeOf) ldWO cdWO kdWO
  have bWO := FWO.binds (ps := ["stairs"]) fun _ _ _ _ _ _ us hl => match us, hl with | [_], _ => rfl
  have mWO := PySem.W.mg_of X G adWO
  have FHO := fun_mk (st := sHoursOf) ldHO cdHO kdHO
  have bHO := FHO.binds (ps := ["stairs"]) fun _ _ _ _ _ _ us hl => match us, hl with | [_], _ => rfl
  have mHO := PySem.W.mg_of X G adHO
  have FTk := fun_mk (st := sTaken) ldTk cdTk kdTk
  have bTk := FTk.binds (ps := ["stairs", "x"]) fun _ _ _ _ _ _ us hl => match us, hl with | [_, _], _ => rfl
  have mTk := PySem.W.mg_of X G adTk
  have FBe := fun_mk (st := sBehind) ldBe cdBe kdBe
  have bBe := FBe.binds (ps := ["stairs", "night"]) fun _ _ _ _ _ _ us hl => match us, hl with | [_, _], _ => rfl
  have mBe := PySem.W.mg_of X G adBe
  have FFT := fun_mk (st := sFirstTaken) ldFT cdFT kdFT
  have bFT := FFT.binds (ps := ["stairs", "supply"]) fun _ _ _ _ _ _ us hl => match us, hl with | [_, _], _ => rfl
  have mFT := PySem.W.mg_of X G adFT
  have FCI := fun_mk (st := sCouldIn) ldCI cdCI kdCI
  have bCI := FCI.binds (ps := ["stairs", "night"]) fun _ _ _ _ _ _ us hl => match us, hl with | [_, _], _ => rfl
  have mCI := PySem.W.mg_of X G adCI
  have FTF := fun_mk (st := sTold) ldTF cdTF kdTF
  have bTF := FTF.binds (ps := ["steps", "supplies"]) fun _ _ _ _ _ _ us hl => match us, hl with | [_, _], _ => rfl
  have mTF := PySem.W.mg_of X G adTF
  have FAE := fun_mk (st := sAtEnd) ldAE cdAE kdAE
  have bAE := FAE.binds (ps := ["steps", "night"]) fun _ _ _ _ _ _ us hl => match us, hl with | [_, _], _ => rfl
  have mAE := PySem.W.mg_of X G adAE
  have FPB := fun_mk (st := sPBy) ldPB cdPB kdPB
  have bPB := FPB.binds (ps := ["steps", "night"]) fun _ _ _ _ _ _ us hl => match us, hl with | [_, _], _ => rfl
  have mPB := PySem.W.mg_of X G adPB
  have FB := fun_mk (st := sBag) ldB cdB kdB
  have bB := FB.binds (ps := ["script"]) fun _ _ _ _ _ _ us hl => match us, hl with | [_], _ => rfl
  have mB := PySem.W.mg_of X G adB
  have FT := fun_mk (st := sTake) ldT cdT kdT
  have bT := FT.binds (ps := ["bag", "many"]) fun _ _ _ _ _ _ us hl => match us, hl with | [_, _], _ => rfl
  have mT := PySem.W.mg_of X G adT
  have FS := fun_mk (st := sSome) ldS cdS kdS
  have bS := FS.binds (ps := ["bag", "things"]) fun _ _ _ _ _ _ us hl => match us, hl with | [_, _], _ => rfl
  have mS := PySem.W.mg_of X G adS
  have FM := fun_mk (st := sMixed) ldM cdM kdM
  have bM := FM.binds (ps := ["bag", "things"]) fun _ _ _ _ _ _ us hl => match us, hl with | [_, _], _ => rfl
  have mM := PySem.W.mg_of X G adM
  have FA := fun_mk (st := sAlike) ldA cdA kdA
  have bA := FA.binds (ps := ["found", "due"]) fun _ _ _ _ _ _ us hl => match us, hl with | [_, _], _ => rfl
  have mA := PySem.W.mg_of X G adA
  have FLR := fun_mk (st := sRowReach) ldLR cdLR kdLR
  have bLR := FLR.binds (ps := ["row", "hours"]) fun _ _ _ _ _ _ us hl => match us, hl with | [_, _], _ => rfl
  have mLR := PySem.W.mg_of X G adLR
  have FCB := fun_mk (st := sCouldBy) ldCB cdCB kdCB
  have bCB := FCB.binds (ps := ["rule", "night"]) fun _ _ _ _ _ _ us hl => match us, hl with | [_, _], _ => rfl
  have mCB := PySem.W.mg_of X G adCB
  have FNS := fun_mk (st := sNearSupply) ldNS cdNS kdNS
  have bNS := FNS.binds (ps := ["bag", "row"]) fun _ _ _ _ _ _ us hl => match us, hl with | [_, _], _ => rfl
  have mNS := PySem.W.mg_of X G adNS
  have FCO := fun_mk (st := sCouldOf) ldCO cdCO kdCO
  have bCO := FCO.binds (ps := ["row", "night"]) fun _ _ _ _ _ _ us hl => match us, hl with | [_, _], _ => rfl
  have mCO := PySem.W.mg_of X G adCO
  have FRw := fun_mk (st := sGreatRow) ldRw cdRw kdRw
  have bRw := FRw.binds (ps := ["bag"]) fun _ _ _ _ _ _ us hl => match us, hl with | [_], _ => rfl
  have mRw := PySem.W.mg_of X G adRw
  have FL := fun_mk (st := sLaw) ldL cdL kdL
  exact ⟨_, [(cC, tP)], ⟨fun p hp => by rw [List.mem_singleton.mp hp]; exact hC, fun p hp => by rw [List.mem_singleton.mp hp]; exact oC, fun p hp => by rw [List.mem_singleton.mp hp]; exact mC⟩, fun s v => .of_eq rfl, fun base _ _ tb =>
    have gFT : FnOk l.prog w K mg base CX0 2 fFT _ ["stairs", "supply"] (spFT K) := ok_firstTaken FFT T FSI mSI bSI
    have gTk : FnOk l.prog w K mg base CX0 2 fTk _ ["stairs", "x"] (spTaken K) := ok_taken FTk T FPR mPR bPR
    have gTF : FnOk l.prog w K mg base CX0 2 fTF _ ["steps", "supplies"] (spTold K) := ok_told FTF T FRI mRI bRI
    have gAE : FnOk l.prog w K mg base CX0 3 fAE _ ["steps", "night"] (spAtEnd K) := ok_atEnd FAE T gTF FTF mTF bTF
    have D : D78 l.prog w K mg base tP fB fT fS fM fRw fNS fBe fCI fTk fPB fWO fHO fCO fA _ _ _ _ _ _ _ _ _ _ _ _ _ _ := { B := FB, mB := mB, bB := bB, gB := ok_bag FB T, T := FT, mT := mT, bT := bT, gT := ok_take FT T, S := FS, mS := mS, bS := bS, gS := ok_some FS T FT mT bT, M := FM, mM := mM, bM := bM, gM := ok_mixed FM T FT mT bT, Rw := FRw, mRw := mRw, bRw := bRw, gRw := ok_greatRow FRw T FT mT bT FS mS bS, NS := FNS, mNS := mNS, bNS := bNS, gNS := ok_nearSupply FNS T FT mT bT FS mS bS, Be := FBe, mBe := mBe, bBe := bBe, gBe := ok_behind FBe gFT FFT mFT bFT gTk FTk mTk bTk, CI := FCI, mCI := mCI, bCI := bCI, gCI := ok_couldIn FCI gFT FFT mFT bFT gTk FTk mTk bTk, Tk := FTk, mTk := mTk, bTk := bTk, gTk := gTk, PB := FPB, mPB := mPB, bPB := bPB, gPB := ok_pBy FPB T gAE FAE mAE bAE, WO := FWO, mWO := mWO, bWO := bWO, gWO := ok_wholeOf FWO T, HO := FHO, mHO := mHO, bHO := bHO, gHO := ok_hoursOf FHO T, CO := FCO, mCO := mCO, bCO := bCO, gCO := ok_couldOf FCO T (Ns.code_of adCO tC) (tb (cC, tP) (List.mem_singleton.mpr rfl)) FCB mCB bCB FLR mLR bLR, A := FA, mA := mA, bA := bA, gA := ok_alike FA T }
    ok_law (c := cC) FL T h_enumerate D⟩
end Y
open PySem PySem.W PyProof.Rows in
set_option maxRecDepth 100000 in
set_option maxHeartbeats 0 in
theorem PySem.Challenge.cw_nightstairs_k78_whole_nights_of_great_ro_holds : PySem.Challenge.rw_nightstairs_k78_whole_nights_of_great_ro.Holds := by
  w_on; o_law; k_head; (case hw => w_witness2)
  k_fill
  refine Ns.walk_ofGM (l := PySem.Challenge.rw_nightstairs_k78_whole_nights_of_great_ro) (k := 5) rfl rfl ⟨rfl, by decide, by decide⟩ (fun w h Z => PySem.W.km_in_of Z) ?F
  case F =>
    intro w mg fa h Z KX G hmg
    refine' Y.all_mk KX G hmg ?adPR ?ldPR ?cdPR ?kdPR ?adRI ?ldRI ?cdRI ?kdRI ?adSI ?ldSI ?cdSI ?kdSI ?adWO ?ldWO ?cdWO ?kdWO ?adHO ?ldHO ?cdHO ?kdHO ?adTk ?ldTk ?cdTk ?kdTk ?adBe ?ldBe ?cdBe ?kdBe ?adFT ?ldFT ?cdFT ?kdFT ?adCI ?ldCI ?cdCI ?kdCI ?adTF ?ldTF ?cdTF ?kdTF ?adAE ?ldAE ?cdAE ?kdAE ?adPB ?ldPB ?cdPB ?kdPB ?adB ?ldB ?cdB ?kdB ?adT ?ldT ?cdT ?kdT ?adS ?ldS ?cdS ?kdS ?adM ?ldM ?cdM ?kdM ?adA ?ldA ?cdA ?kdA ?adLR ?ldLR ?cdLR ?kdLR ?adCB ?ldCB ?cdCB ?kdCB ?adNS ?ldNS ?cdNS ?kdNS ?adCO ?ldCO ?cdCO ?kdCO ?adRw ?ldRw ?cdRw ?kdRw ?adL ?ldL ?cdL ?kdL ?zabs ?zint ?zlen ?zrepr ?zisinstance ?zrange ?zsorted ?ztuple ?zlist ?zdict ?zset ?zsum ?zmax ?zmin ?zstr ?zall ?zany ?zzip ?zenumerate ?mC ?tC ?hC ?oC
    (case adPR => k_is)
    (case ldPR => k_is)
    (case cdPR => k_is)
    (case kdPR => k_is)
    (case adRI => k_is)
    (case ldRI => k_is)
    (case cdRI => k_is)
    (case kdRI => k_is)
    (case adSI => k_is)
    (case ldSI => k_is)
    (case cdSI => k_is)
    (case kdSI => k_is)
    (case adWO => k_is)
    (case ldWO => k_is)
    (case cdWO => k_is)
    (case kdWO => k_is)
    (case adHO => k_is)
    (case ldHO => k_is)
    (case cdHO => k_is)
    (case kdHO => k_is)
    (case adTk => k_is)
    (case ldTk => k_is)
    (case cdTk => k_is)
    (case kdTk => k_is)
    (case adBe => k_is)
    (case ldBe => k_is)
    (case cdBe => k_is)
    (case kdBe => k_is)
    (case adFT => k_is)
    (case ldFT => k_is)
    (case cdFT => k_is)
    (case kdFT => k_is)
    (case adCI => k_is)
    (case ldCI => k_is)
    (case cdCI => k_is)
    (case kdCI => k_is)
    (case adTF => k_is)
    (case ldTF => k_is)
    (case cdTF => k_is)
    (case kdTF => k_is)
    (case adAE => k_is)
    (case ldAE => k_is)
    (case cdAE => k_is)
    (case kdAE => k_is)
    (case adPB => k_is)
    (case ldPB => k_is)
    (case cdPB => k_is)
    (case kdPB => k_is)
    (case adB => k_is)
    (case ldB => k_is)
    (case cdB => k_is)
    (case kdB => k_is)
    (case adT => k_is)
    (case ldT => k_is)
    (case cdT => k_is)
    (case kdT => k_is)
    (case adS => k_is)
    (case ldS => k_is)
    (case cdS => k_is)
    (case kdS => k_is)
    (case adM => k_is)
    (case ldM => k_is)
    (case cdM => k_is)
    (case kdM => k_is)
    (case adA => k_is)
    (case ldA => k_is)
    (case cdA => k_is)
    (case kdA => k_is)
    (case adLR => k_is)
    (case ldLR => k_is)
    (case cdLR => k_is)
    (case kdLR => k_is)
    (case adCB => k_is)
    (case ldCB => k_is)
    (case cdCB => k_is)
    (case kdCB => k_is)
    (case adNS => k_is)
    (case ldNS => k_is)
    (case cdNS => k_is)
    (case kdNS => k_is)
    (case adCO => k_is)
    (case ldCO => k_is)
    (case cdCO => k_is)
    (case kdCO => k_is)
    (case adRw => k_is)
    (case ldRw => k_is)
    (case cdRw => k_is)
    (case kdRw => k_is)
    (case adL => k_is)
    (case ldL => k_is)
    (case cdL => k_is)
    (case kdL => k_is)
    (case zabs => k_is)
    (case zint => k_is)
    (case zlen => k_is)
    (case zrepr => k_is)
    (case zisinstance => k_is)
    (case zrange => k_is)
    (case zsorted => k_is)
    (case ztuple => k_is)
    (case zlist => k_is)
    (case zdict => k_is)
    (case zset => k_is)
    (case zsum => k_is)
    (case zmax => k_is)
    (case zmin => k_is)
    (case zstr => k_is)
    (case zall => k_is)
    (case zany => k_is)
    (case zzip => k_is)
    (case zenumerate => k_is)
    (case mC => exact PySem.W.km_tabs_of Z _ (List.mem_singleton.mpr rfl))
    (case tC => first | rfl | decide +kernel | k_is)
    (case hC => first | rfl | decide +kernel | k_is)
    (case oC => first | rfl | decide +kernel | k_is)

