import PyProof.Rows.All
import Wide.All
import OpenK.AllK
import Wide.FinOn
import PyProof.ReprRoads
import HandS.ForMost
import HandS.DeepEq
import HandS.Ends
import HandS.Wide
import HandS.Codes
import KE.KEqNest
import HandS.More
import HandS.Text
import HandS.Conv
import KE.SortData
import HandS.TupLen
import HandS.DictTup
import PyProof.DictUpdate
import KE.KItemsList
import KE.KDictSum
import HandS.DictComp
import HandS.SetTxt0
import HandS.Set
import HandS.SetFor
import HandS.SetKeys
import HandS.Style
import PySem.Challenge.RW_nightstairs_k04_yards_looked_at
set_option Elab.async false
set_option linter.all false
set_option maxRecDepth 100000
set_option pp.maxSteps 150
set_option pp.deepTerms false
/-! NsA: data as a whole over the abstract heap; its repr; its ==. -/
namespace Ns
open PySem PySem.Spec PyProof.Rows L2

/-- a key as data -/
def kD : Key → PyData
  | .inl i => .int i
  | .inr x => .str x

mutual
/-- the value x is the datum d -/
inductive DatV (K : PySem.W.Frag) (H : Hp) : V → PyData → Prop
  | non : DatV K H .non .none
  | bl (b : Bool) : DatV K H (.bl b) (.bool b)
  | int (i : Int) : DatV K H (.int i) (.int i)
  | str (x : Str) : DatV K H (.str x) (.str x)
  | lst {a : Addr} {xs : List V} {ds : List PyData} : SqL K H a xs → DatA K H xs ds → DatV K H (.ref a) (.list ds)
  | tup {a : Addr} {xs : List V} {ds : List PyData} : SqT K H a xs → DatA K H xs ds → DatV K H (.ref a) (.tuple ds)
  | dic {a : Addr} {kvs : List (Key × V)} {ds : List PyData} : H a = some (.dK kvs) → DatA K H (kvs.map (·.2)) ds → DatV K H (.ref a) (.dict ((kvs.map fun p => kD p.1).zip ds))
inductive DatA (K : PySem.W.Frag) (H : Hp) : List V → List PyData → Prop
  | nil : DatA K H [] []
  | cons {x : V} {d : PyData} {xs : List V} {ds : List PyData} : DatV K H x d → DatA K H xs ds → DatA K H (x :: xs) (d :: ds)
end

theorem DatA.len {K : PySem.W.Frag} {H : Hp} : ∀ {xs : List V} {ds : List PyData}, DatA K H xs ds → xs.length = ds.length
  | _, _, .nil => rfl
  | _, _, .cons _ t => by rw [List.length_cons, List.length_cons, t.len]

mutual
/-- what stood stands: the datum too -/
theorem DatV.more {K : PySem.W.Frag} {H H' : Hp} (m : Same H H') : ∀ {x : V} {d : PyData}, DatV K H x d → DatV K H' x d
  | _, _, .non => .non
  | _, _, .bl b => .bl b
  | _, _, .int i => .int i
  | _, _, .str x => .str x
  | _, _, .lst h t => .lst (m.seq h) (t.more m)
  | _, _, .tup h t => .tup (h.elim (fun z => .inl (z.elim (fun z => .inl (m _ _ z)) fun ⟨o, z⟩ => .inr ⟨o, m _ _ z⟩)) .inr) (t.more m)
  | _, _, .dic h t => .dic (m _ _ h) (t.more m)
theorem DatA.more {K : PySem.W.Frag} {H H' : Hp} (m : Same H H') : ∀ {xs : List V} {ds : List PyData}, DatA K H xs ds → DatA K H' xs ds
  | _, _, .nil => .nil
  | _, _, .cons h t => .cons (h.more m) (t.more m)
end

theorem map_fst_zip {α β : Type} : ∀ {as : List α} {bs : List β}, as.length = bs.length → (as.zip bs).map (·.1) = as
  | [], [], _ => rfl
  | a :: as, b :: bs, h => by
    have h' : as.length = bs.length := by simpa using h
    simp [map_fst_zip h']
theorem map_snd_zip {α β : Type} : ∀ {as : List α} {bs : List β}, as.length = bs.length → (as.zip bs).map (·.2) = bs
  | [], [], _ => rfl
  | a :: as, b :: bs, h => by
    have h' : as.length = bs.length := by simpa using h
    simp [map_snd_zip h']

section
variable {X : Cx} {pins : List (Addr × Obj)} {σ : L2.St} {H : Hp} {s : Shared}

/-- the keys of a dict's entries are read -/
theorem keys_read {h : Heap} {P : Program} {w : World} : ∀ {es : List DictEntry} {vs : List (Key × Value)}, Pairs (mixKind P w) es vs → ReadsAll h (es.map (·.key)) (vs.map fun p => kD p.1) []
  | _, _, .nil => .nil
  | e :: es, kv :: vs, .cons h1 _ t => by
    have q : Reads h e.key (kD kv.1) [] := by
      rcases keyIs_shape (show keyIs kv.1 e.key = true from h1) with ⟨i, t, ek, ev⟩ | ⟨x, t, ek, ev⟩
      · rw [ek, ev]; exact .int i t
      · rw [ek, ev]; exact .str x t
    exact ReadsAll.cons (as := []) (bs := []) q (keys_read t)
theorem pairs_vals {P : Program} {w : World} : ∀ {es : List DictEntry} {vs : List (Key × Value)}, Pairs (mixKind P w) es vs → es.map (·.val) = vs.map (·.2)
  | _, _, .nil => rfl
  | e :: es, kv :: vs, .cons _ h2 t => by
    rw [List.map_cons, List.map_cons, h2, pairs_vals t]
theorem kv_fst : ∀ {ks : List (Key × V)} {vs : List (Key × Value)}, KV ks vs → vs.map (fun p => kD p.1) = ks.map fun p => kD p.1
  | _, _, .nil => rfl
  | _, _, .cons h t => by rw [List.map_cons, List.map_cons, h.1, kv_fst t]
theorem kv_vals : ∀ {ks : List (Key × V)} {vs : List (Key × Value)}, KV ks vs → Vals (ks.map (·.2)) (vs.map (·.2))
  | _, _, .nil => .nil
  | _, _, .cons h t => .cons h.2 (kv_vals t)

mutual
/-- what the heap reads of it -/
theorem reads_of (I : Inv X pins σ H s) : ∀ {x : V} {d : PyData}, DatV X.K H x d → ∀ {v : Value}, RelV x v → ∃ as, Reads s.heap v d as
  | _, _, .non, v, r => by cases (show v = Value.none from r); exact ⟨_, .none⟩
  | _, _, .bl b, v, r => by cases (show v = Value.bool b from r); exact ⟨_, .bool b⟩
  | _, _, .int i, v, r => by obtain ⟨t, rfl⟩ := (show ∃ t, v = Value.int i t from r); exact ⟨_, .int i t⟩
  | _, _, .str x, v, r => by obtain ⟨t, rfl⟩ := (show ∃ t, v = Value.str x t from r); exact ⟨_, .str x t⟩
  | _, _, .lst (a := a) h t, v, r => by
    cases (show v = Value.ref a from r)
    obtain ⟨its, rv, ⟨o, n, h1, h2, h3, h4⟩, _⟩ := I.list h
    obtain ⟨as, q⟩ := readsA_of I t rv
    exact ⟨_, .list h1 h2 (by first | exact h3 | exact h4) (by simpa using q)⟩
  | _, _, .tup (a := a) h t, v, r => by
    cases (show v = Value.ref a from r)
    obtain ⟨its, rv, ⟨o, h1, h2, n, h3⟩, _⟩ := I.tuple h
    obtain ⟨as, q⟩ := readsA_of I t rv
    exact ⟨_, .tuple h1 h2 h3 (by simpa using q)⟩
  | _, _, .dic (a := a) (kvs := kvs) (ds := ds) h t, v, r => by
    cases (show v = Value.ref a from r)
    obtain ⟨_, _, vs, rv, o, es, ep, h1, h2, h3, _, h5, _⟩ := (show ObjOk X.prog X.w H s.heap a (.dK kvs) from I.hok a _ h)
    obtain ⟨as, q⟩ := readsA_of I t (kv_vals rv)
    have hl : (kvs.map fun p => kD p.1).length = ds.length := by
      have z := t.len
      rw [List.length_map] at z ⊢
      exact z
    refine ⟨_, Reads.dict (as := []) (bs := as) h1 h2.1 h3 ?_ ?_⟩
    · rw [map_fst_zip hl, ← kv_fst rv]
      exact keys_read h5
    · rw [map_snd_zip hl, pairs_vals h5]
      exact q
theorem readsA_of (I : Inv X pins σ H s) : ∀ {xs : List V} {ds : List PyData}, DatA X.K H xs ds → ∀ {us : List Value}, Vals xs us → ∃ as, ReadsAll s.heap us ds as
  | _, _, .nil, us, r => by cases r; exact ⟨_, .nil⟩
  | _, _, .cons h t, us, r => by
    cases r with
    | cons r1 r2 =>
      obtain ⟨as, q⟩ := reads_of I h r1
      obtain ⟨bs, q2⟩ := readsA_of I t r2
      exact ⟨_, .cons q q2⟩
end
end
end Ns

/-! NsB: repr of data. -/
namespace Ns
open PySem PySem.Spec PyProof.Rows L2
section
variable {X : Cx} {pins : List (Addr × Obj)} {σ : L2.St} {H : Hp} {s : Shared}

theorem zip_kv : ∀ {as : List Key} {ds : List PyData}, as.length = ds.length → ((as.map kD).zip ds).map (·.1) = as.map kD := fun {as ds} h => map_fst_zip (by rw [List.length_map]; exact h)

theorem kv_of_zip {α : Type} {f : α → PyData} {l : List α} {ds : List PyData} (h : l.length = ds.length) : (((l.map f).zip ds).map (·.1) = l.map f) ∧ (((l.map f).zip ds).map (·.2) = ds) :=
  ⟨map_fst_zip (by rw [List.length_map]; exact h), map_snd_zip (by rw [List.length_map]; exact h)⟩

/-- keys show themselves, whatever stands -/
theorem keys_shown {P : Program} {w : World} {h : Heap} {n : Nat} : ∀ {es : List DictEntry} {vs : List (Key × Value)}, Pairs (mixKind P w) es vs → (∀ p ∈ vs, (kD p.1).showable = true ∧ (kD p.1).shown.length ≤ sizeLine) →
    ReprAllK P w [] h n (es.map (·.key)) (PyData.shownAll (vs.map fun p => kD p.1))
  | _, _, .nil, _ => by simp only [List.map_nil, PyData.shownAll]; exact .nil
  | e :: es, kv :: vs, .cons h1 _ t, hz => by
    rw [List.map_cons, List.map_cons, PyData.shownAll_cons]
    obtain ⟨z1, z2⟩ := hz kv List.mem_cons_self
    refine .cons (ReprK.of_is ?_ _ _ _) (keys_shown t fun p hp => hz p (List.mem_cons_of_mem _ hp))
    rcases keyIs_shape (show keyIs kv.1 e.key = true from h1) with ⟨i, tk, ek, ev⟩ | ⟨x, tk, ek, ev⟩
    · rw [ek] at z1 ⊢
      rw [ev]
      show ReprIs P w _ (PyData.int i).shown
      rw [PyData.shown_int]
      exact ReprIs.int tk (of_decide_eq_true (by simpa [kD, PyData.showable] using z1))
    · rw [ek] at z2 ⊢
      rw [ev]
      show ReprIs P w _ (PyData.str x).shown
      have z2' : (PyData.str x).shown.length ≤ sizeLine := z2
      rw [PyData.shown_str] at z2' ⊢
      exact ReprIs.str x tk z2'

theorem all_of : ∀ {l : List PyData}, PyData.showableAll l = true → ∀ d ∈ l, d.showable = true
  | [], _, _, hd => nomatch hd
  | x :: l, h, d, hd => by
    have h' : x.showable = true ∧ PyData.showableAll l = true := by simpa [PyData.showableAll] using h
    rcases List.mem_cons.mp hd with e | e
    · rw [e]; exact h'.1
    · exact all_of h'.2 d e
theorem shown_mem : ∀ {l : List PyData} {d : PyData}, d ∈ l → d.shown ∈ PyData.shownAll l
  | [], _, h => nomatch h
  | x :: l, d, h => by
    rw [PyData.shownAll_cons]
    rcases List.mem_cons.mp h with e | e
    · rw [e]; exact List.mem_cons_self
    · exact List.mem_cons_of_mem _ (shown_mem e)

mutual
theorem reprK_of (I : Inv X pins σ H s) : ∀ {x : V} {d : PyData}, DatV X.K H x d → ∀ {v : Value}, RelV x v → d.showable = true → d.shown.length ≤ sizeLine →
    ∃ bs, ReadAtMost s.heap d.depth bs ∧ ReprK X.prog X.w bs s.heap d.depth v d.shown
  | _, _, .non, v, r, _, _ => by
    cases (show v = Value.none from r)
    exact ⟨[], (fun _ z => nomatch z), by rw [PyData.shown_none]; exact .of_is ReprIs.none _ _ _⟩
  | _, _, .bl b, v, r, _, _ => by
    cases (show v = Value.bool b from r)
    refine ⟨[], (fun _ z => nomatch z), ?_⟩
    simp only [PyData.shown]
    exact .of_is (ReprIs.bool b) _ _ _
  | _, _, .int i, v, r, hs, _ => by
    obtain ⟨t, rfl⟩ := (show ∃ t, v = Value.int i t from r)
    refine ⟨[], (fun _ z => nomatch z), ?_⟩
    rw [PyData.shown_int]
    exact .of_is (ReprIs.int t (by simpa [PyData.showable] using hs)) _ _ _
  | _, _, .str x, v, r, _, hz => by
    obtain ⟨t, rfl⟩ := (show ∃ t, v = Value.str x t from r)
    refine ⟨[], (fun _ z => nomatch z), ?_⟩
    rw [PyData.shown_str] at hz ⊢
    exact .of_is (ReprIs.str x t hz) _ _ _
  | _, _, .lst (a := a) (ds := ds) h t, v, r, hs, hz => by
    cases (show v = Value.ref a from r)
    have hz1 : (listText (PyData.shownAll ds)).length ≤ sizeLine := by simpa only [PyData.shown] using hz
    have hs1 : PyData.showableAll ds = true := by simpa [PyData.showable] using hs
    obtain ⟨as, rd⟩ := reads_of I (.lst h t) (v := .ref a) rfl
    obtain ⟨its, rv, ⟨o, n, h1, h2, h3, h4⟩, _⟩ := I.list h
    have h5 : o.data = .seq its.toArray n := by first | exact h3 | exact h4
    obtain ⟨bs, hb, hk⟩ := reprA_of I t rv hs1 fun u hu => Nat.le_trans (listText_mem_le hu) hz1
    have dp : (PyData.list ds).depth = PyData.depthAll ds + 1 := by simp only [PyData.depth] <;> omega
    have hna : a ∉ bs := not_mem_of_deeper rd (by rw [dp]; omega) hb
    refine ⟨a :: bs, ReadAtMost.cons rd (by rw [dp]; omega) hb, ?_⟩
    rw [dp]
    simp only [PyData.shown]
    cases its with
    | nil =>
      have e0 : PyData.shownAll ds = [] := List.length_eq_zero_iff.mp (by simpa using hk.length_eq)
      rw [e0, listText_nil]
      exact ReprK.listEmpty h1 h2 h5
    | cons y l => exact ReprK.list h1 h2 h5 hna (by simpa using hk.length_eq) fun i u e => hk.item i u (by simpa using e)
  | _, _, .tup (a := a) (ds := ds) h t, v, r, hs, hz => by
    cases (show v = Value.ref a from r)
    have hz1 : (tupleText (PyData.shownAll ds)).length ≤ sizeLine := by simpa only [PyData.shown] using hz
    have hs1 : PyData.showableAll ds = true := by simpa [PyData.showable] using hs
    obtain ⟨as, rd⟩ := reads_of I (.tup h t) (v := .ref a) rfl
    obtain ⟨its, rv, ⟨o, h1, h2, n, h3⟩, _⟩ := I.tuple h
    obtain ⟨bs, hb, hk⟩ := reprA_of I t rv hs1 fun u hu => Nat.le_trans (tupleText_mem_le hu) hz1
    have dp : (PyData.tuple ds).depth = PyData.depthAll ds + 1 := by simp only [PyData.depth] <;> omega
    have hna : a ∉ bs := not_mem_of_deeper rd (by rw [dp]; omega) hb
    refine ⟨a :: bs, ReadAtMost.cons rd (by rw [dp]; omega) hb, ?_⟩
    rw [dp]
    simp only [PyData.shown]
    exact ReprK.tuple h1 h2 h3 hna (by simpa using hk)
  | _, _, .dic (a := a) (kvs := kvs) (ds := ds) h t, v, r, hs, hz => by
    cases (show v = Value.ref a from r)
    have hl : kvs.length = ds.length := by
      have z := t.len
      rw [List.length_map] at z
      exact z
    obtain ⟨e1, e2⟩ := kv_of_zip (f := fun p : Key × V => kD p.1) (l := kvs) hl
    have hz1 : (dictText (PyData.shownKv ((kvs.map fun p => kD p.1).zip ds))).length ≤ sizeLine := by simpa only [PyData.shown] using hz
    have hs1 : PyData.showableKv ((kvs.map fun p => kD p.1).zip ds) = true := by simpa [PyData.showable] using hs
    obtain ⟨s1, s2⟩ := PyData.showableKv_split _ hs1
    rw [e1] at s1
    rw [e2] at s2
    obtain ⟨as, rd⟩ := reads_of I (.dic h t) (v := .ref a) rfl
    obtain ⟨_, hsy, vs, rv, o, es, ep, h1, h2, h3, _, h5, _⟩ := (show ObjOk X.prog X.w H s.heap a (.dK kvs) from I.hok a _ h)
    have vl : ∀ u ∈ PyData.shownAll ds, u.length ≤ sizeLine := fun u hu => by
      obtain ⟨p, hp, hq⟩ := PyData.shownKv_val_le _ u (by rw [e2]; exact hu)
      exact Nat.le_trans hq (Nat.le_trans (dictText_mem_le hp) hz1)
    have kl : ∀ u ∈ PyData.shownAll (kvs.map fun p => kD p.1), u.length ≤ sizeLine := fun u hu => by
      obtain ⟨p, hp, hq⟩ := PyData.shownKv_key_le _ u (by rw [e1]; exact hu)
      exact Nat.le_trans hq (Nat.le_trans (dictText_mem_le hp) hz1)
    obtain ⟨bs, hb, hk⟩ := reprA_of I t (kv_vals rv) s2 vl
    have kk : ReprAllK X.prog X.w [] s.heap (PyData.depthKv ((kvs.map fun p => kD p.1).zip ds)) (es.toList.map (·.key)) (PyData.shownAll (kvs.map fun p => kD p.1)) := by
      rw [← kv_fst rv]
      refine keys_shown h5 fun p hp => ?_
      have hm : kD p.1 ∈ kvs.map fun p => kD p.1 := by
        rw [← kv_fst rv]
        exact List.mem_map.mpr ⟨p, hp, rfl⟩
      exact ⟨all_of s1 _ hm, kl _ (shown_mem hm)⟩
    have dv : PyData.depthAll ds ≤ PyData.depthKv ((kvs.map fun p => kD p.1).zip ds) := by
      have z := PyData.depthAll_vals_le ((kvs.map fun p => kD p.1).zip ds)
      rw [e2] at z
      exact z
    have hb2 : ReadAtMost s.heap (PyData.depthKv ((kvs.map fun p => kD p.1).zip ds)) bs := hb.mono dv
    have dp : (PyData.dict ((kvs.map fun p => kD p.1).zip ds)).depth = PyData.depthKv ((kvs.map fun p => kD p.1).zip ds) + 1 := by simp only [PyData.depth] <;> omega
    have hna : a ∉ bs := not_mem_of_deeper rd (by rw [dp]; omega) hb2
    refine ⟨a :: bs, ReadAtMost.cons rd (by rw [dp]; omega) hb2, ?_⟩
    rw [dp]
    simp only [PyData.shown, PyData.shownKv_eq]
    rw [e1, e2]
    refine ReprK.dict h1 h2.1 h3 hsy hna (ReprEntriesK.of_two es.toList _ _ (kk.more_le (fun b z => absurd z List.not_mem_nil) (Nat.le_refl _)) ?_)
    rw [pairs_vals h5]
    exact hk.more_le (fun b z => z) dv
theorem reprA_of (I : Inv X pins σ H s) : ∀ {xs : List V} {ds : List PyData}, DatA X.K H xs ds → ∀ {us : List Value}, Vals xs us → PyData.showableAll ds = true → (∀ t ∈ PyData.shownAll ds, t.length ≤ sizeLine) →
    ∃ bs, ReadAtMost s.heap (PyData.depthAll ds) bs ∧ ReprAllK X.prog X.w bs s.heap (PyData.depthAll ds) us (PyData.shownAll ds)
  | _, _, .nil, us, r, _, _ => by
    cases r
    exact ⟨[], (fun _ z => nomatch z), by simp only [PyData.shownAll]; exact .nil⟩
  | _, _, .cons (d := d) (ds := ds) h t, us, r, hs, hz => by
    cases r with
    | cons r1 r2 =>
      have hs1 : d.showable = true ∧ PyData.showableAll ds = true := by simpa [PyData.showableAll] using hs
      rw [PyData.shownAll_cons] at hz ⊢
      obtain ⟨b1, g1, k1⟩ := reprK_of I h r1 hs1.1 (hz _ List.mem_cons_self)
      obtain ⟨b2, g2, k2⟩ := reprA_of I t r2 hs1.2 fun u hu => hz u (List.mem_cons_of_mem _ hu)
      have dp : PyData.depthAll (d :: ds) = max d.depth (PyData.depthAll ds) := by simp only [PyData.depthAll]
      refine ⟨b1 ++ b2, ?_, ?_⟩
      · rw [dp]
        exact (g1.mono (Nat.le_max_left _ _)).append (g2.mono (Nat.le_max_right _ _))
      · rw [dp]
        exact .cons ((k1.more fun b z => List.mem_append_left _ z).level_le (Nat.le_max_left _ _)) (k2.more_le (fun b z => List.mem_append_right _ z) (Nat.le_max_right _ _))
end
theorem dict_entries (I : Inv X pins σ H s) {a : Addr} {kvs : List (Key × V)} {ds : List PyData} {vs : List (Key × Value)} {o : Obj} {es : Array DictEntry} {ep : Nat} (h : H a = some (.dK kvs)) (t : DatA X.K H (kvs.map (·.2)) ds)
    (hs : (PyData.dict ((kvs.map fun p => kD p.1).zip ds)).showable = true) (hz : (PyData.dict ((kvs.map fun p => kD p.1).zip ds)).shown.length ≤ sizeLine) (h1 : s.heap.get? a = some o) (h3 : o.data = .dict es ep)
    (h5 : Pairs (mixKind X.prog X.w) es.toList vs) (rv : KV kvs vs) :
    ∃ n bs, a ∉ bs ∧ ReprEntriesK X.prog X.w bs s.heap n es.toList (PyData.shownKv ((kvs.map fun p => kD p.1).zip ds)) ∧ n + 1 ≤ (PyData.dict ((kvs.map fun p => kD p.1).zip ds)).depth := by
  have hl : kvs.length = ds.length := by
    have z := t.len
    rw [List.length_map] at z
    exact z
  obtain ⟨e1, e2⟩ := kv_of_zip (f := fun p : Key × V => kD p.1) (l := kvs) hl
  have hz1 : (dictText (PyData.shownKv ((kvs.map fun p => kD p.1).zip ds))).length ≤ sizeLine := by simpa only [PyData.shown] using hz
  have hs1 : PyData.showableKv ((kvs.map fun p => kD p.1).zip ds) = true := by simpa [PyData.showable] using hs
  obtain ⟨s1, s2⟩ := PyData.showableKv_split _ hs1
  rw [e1] at s1
  rw [e2] at s2
  obtain ⟨as, rd⟩ := reads_of I (.dic h t) (v := .ref a) rfl
  obtain ⟨bs, hb, hk⟩ := reprA_of I t (kv_vals rv) s2 fun u hu => by
    obtain ⟨p, hp, hq⟩ := PyData.shownKv_val_le _ u (by rw [e2]; exact hu)
    exact Nat.le_trans hq (Nat.le_trans (dictText_mem_le hp) hz1)
  have kk : ReprAllK X.prog X.w [] s.heap (PyData.depthKv ((kvs.map fun p => kD p.1).zip ds)) (es.toList.map (·.key)) (PyData.shownAll (kvs.map fun p => kD p.1)) := by
    rw [← kv_fst rv]
    refine keys_shown h5 fun p hp => ?_
    have hm : kD p.1 ∈ kvs.map fun p => kD p.1 := by
      rw [← kv_fst rv]
      exact List.mem_map.mpr ⟨p, hp, rfl⟩
    obtain ⟨y, hy, hq⟩ := PyData.shownKv_key_le _ _ (by rw [e1]; exact shown_mem hm)
    exact ⟨all_of s1 _ hm, Nat.le_trans hq (Nat.le_trans (dictText_mem_le hy) hz1)⟩
  have dv : PyData.depthAll ds ≤ PyData.depthKv ((kvs.map fun p => kD p.1).zip ds) := by
    have z := PyData.depthAll_vals_le ((kvs.map fun p => kD p.1).zip ds)
    rw [e2] at z
    exact z
  have dp : (PyData.dict ((kvs.map fun p => kD p.1).zip ds)).depth = PyData.depthKv ((kvs.map fun p => kD p.1).zip ds) + 1 := by simp only [PyData.depth] <;> omega
  have hna : a ∉ bs := not_mem_of_deeper rd (by rw [dp]; omega) (hb.mono dv)
  refine ⟨_, bs, hna, ?_, Nat.le_of_eq dp.symm⟩
  rw [PyData.shownKv_eq, e1, e2]
  refine ReprEntriesK.of_two es.toList _ _ (kk.more_le (fun b z => absurd z List.not_mem_nil) (Nat.le_refl _)) ?_
  rw [pairs_vals h5]
  exact hk.more_le (fun b z => z) dv
end
end Ns

/-! NsC: the call of repr; == of equal data. -/
namespace Ns
open PySem PySem.Spec PyProof.Rows L2
section
variable {X : Cx} {pins : List (Addr × Obj)} {σ : L2.St} {H : Hp} {s : Shared}

theorem repr_run (I : Inv X pins σ H s) {A : Around} (hg : A.guards = some []) {x : V} {d : PyData} (D : DatV X.K H x d) {v : Value} (r : RelV x v) (hs : d.showable = true) (hz : d.shown.length ≤ sizeLine) (hu : A.units + (d.depth + 2) < cLine)
    {E Q : Value → Shared → Prop} (q : ∀ h' u tk, (∀ b o, s.heap.get? b = some o → h'.get? b = some o) → Q (.str d.shown u) { s with heap := h', toks := tk }) :
    wpAny (model X.prog X.w) A (call (.builtin "repr") [v]) Q E s := by
  cases D with
  | non =>
    cases (show v = Value.none from r)
    rw [PyData.shown_none] at q
    exact PySem.P.repr_of_none (q s.heap _ _ fun _ _ e => e)
  | bl b =>
    cases (show v = Value.bool b from r)
    rw [PyData.shown_bool] at q
    exact PySem.P.repr_of_bool (q s.heap _ _ fun _ _ e => e)
  | int i =>
    obtain ⟨t, rfl⟩ := (show ∃ t, v = Value.int i t from r)
    rw [PyData.shown_int] at q
    exact PySem.P.repr_of_int (of_decide_eq_true (by simpa [PyData.showable] using hs)) (q s.heap _ _ fun _ _ e => e)
  | str y =>
    obtain ⟨t, rfl⟩ := (show ∃ t, v = Value.str y t from r)
    rw [PyData.shown_str] at q hz
    exact PySem.P.repr_of_str (q s.heap _ _ fun _ _ e => e) hz
  | @lst a xs ds h t =>
    cases (show v = Value.ref a from r)
    have hz1 : (listText (PyData.shownAll ds)).length ≤ sizeLine := by simpa only [PyData.shown] using hz
    have hs1 : PyData.showableAll ds = true := by simpa [PyData.showable] using hs
    obtain ⟨as, rd⟩ := reads_of I (.lst h t) (v := .ref a) rfl
    obtain ⟨its, rv, ⟨o, n, h1, h2, h3, h4⟩, _⟩ := I.list h
    have h5 : o.data = .seq its.toArray n := by first | exact h3 | exact h4
    obtain ⟨bs, hb, hk⟩ := reprA_of I t rv hs1 fun u hu => Nat.le_trans (listText_mem_le hu) hz1
    have dp : (PyData.list ds).depth = PyData.depthAll ds + 1 := by simp only [PyData.depth] <;> omega
    have hna : a ∉ bs := not_mem_of_deeper rd (by rw [dp]; omega) hb
    simp only [PyData.shown] at q
    rw [dp] at hu
    refine call_repr_slot (by omega) ⟨o, h1, h2⟩ F.slot_list_repr.toG ?_
    cases its with
    | nil =>
      have e0 : PyData.shownAll ds = [] := List.length_eq_zero_iff.mp (by simpa using hk.length_eq)
      rw [e0, listText_nil] at q
      exact call_list_repr_empty ⟨o, h1, h2⟩ h1 h5 ⟨_, _, rfl, q s.heap _ _ fun _ _ e => e⟩
    | cons y l =>
      exact call_list_reprK (A := A.in1) (g := []) h1 h2 h5 hna (by simpa using hk.length_eq) (fun i u e => hk.item i u (by simpa using e)) hg (fun b _ => Clear.nil b) (by show A.units + 1 + _ < _; omega) (fun _ _ e => e)
        (fun h' u tk k => ⟨_, _, rfl, q h' u tk k⟩) hz1
  | @tup a xs ds h t =>
    cases (show v = Value.ref a from r)
    have hz1 : (tupleText (PyData.shownAll ds)).length ≤ sizeLine := by simpa only [PyData.shown] using hz
    have hs1 : PyData.showableAll ds = true := by simpa [PyData.showable] using hs
    obtain ⟨as, rd⟩ := reads_of I (.tup h t) (v := .ref a) rfl
    obtain ⟨its, rv, ⟨o, h1, h2, n, h3⟩, _⟩ := I.tuple h
    obtain ⟨bs, hb, hk⟩ := reprA_of I t rv hs1 fun u hu => Nat.le_trans (tupleText_mem_le hu) hz1
    have dp : (PyData.tuple ds).depth = PyData.depthAll ds + 1 := by simp only [PyData.depth] <;> omega
    have hna : a ∉ bs := not_mem_of_deeper rd (by rw [dp]; omega) hb
    simp only [PyData.shown] at q
    rw [dp] at hu
    refine call_repr_slot (by omega) ⟨o, h1, h2⟩ F.slot_tuple_repr ?_
    exact call_tuple_reprK (A := A.in1) (g := []) h1 h2 h3 hna (by simpa using hk) hg (fun b _ => Clear.nil b) (by show A.units + 1 + _ < _; omega) (fun _ _ e => e)
      (fun h' u tk k => ⟨_, _, rfl, q h' u tk k⟩) hz1
  | @dic a kvs ds h t =>
    cases (show v = Value.ref a from r)
    obtain ⟨_, hsy, vs, rv, o, es, ep, h1, h2, h3, _, h5, _⟩ := (show ObjOk X.prog X.w H s.heap a (.dK kvs) from I.hok a _ h)
    obtain ⟨n, bs, hna, hE, hd⟩ := dict_entries I h t hs hz h1 h3 h5 rv
    simp only [PyData.shown] at q hz
    refine call_repr_slot (by omega) ⟨o, h1, h2.1⟩ F.slot_dict_repr ?_
    exact call_dict_reprK (A := A.in1) (g := []) h1 h2.1 h3 hsy hna hE hg (fun b _ => Clear.nil b) (by show A.units + 1 + _ < _; omega) (fun _ _ e => e)
      (fun h' u tk k => ⟨_, _, rfl, q h' u tk k⟩) hz

/-- repr(x), x data -/
def rRep (K : PySem.W.Frag) : List V → Hp → VK → Prop := fun xs H Q => ∃ x d, xs = [x] ∧ DatV K H x d ∧ d.showable = true ∧ d.shown.length ≤ sizeLine ∧ d.depth ≤ 60 ∧ Q (.str d.shown) H
theorem call_reprD (hg : X.A.guards = some []) (hu : X.A.units + 64 < cLine) : CallR X (.builtin "repr") (rRep X.K) := by
  intro pins s σ H xs us Q I r h
  obtain ⟨x, d, rfl, D, hs, hz, hd, q⟩ := h
  obtain ⟨u, rfl, r1⟩ := vals1 r
  exact repr_run I hg D r1 hs hz (by omega) fun h' u tk k => ⟨.str d.shown, H, I.kept (t' := tk) k, ⟨u, rfl⟩, q⟩
end
end Ns

/-! NsG: defs that are called where no repr is under way (the guards are known to be none); xs[i] op= e of a list; the end of a law over such a def. -/
namespace Ns
open PySem PySem.Spec PyProof.Rows L2

/-- as FnOk, for calls with no guard around -/
structure GnOk (P : Program) (w : World) (K : PySem.W.Frag) (mg : Str → Option Value) (base : Heap) (k : Nat) (f : Addr) (fd : FuncData) (ps : List Str) (sp : Sp) : Prop where
  glen : ∀ as H Q E, sp as H Q E → as.length = ps.length
  grun : ∀ (A : Around) (outer : List Env) (s : Shared) (H : Hp) (args : Args) (us : List Value) (as : List V) (Q : VK) (E : XK), Room k A → A.guards = some [] → Env0 P w K mg base A outer s H →
    BindsTo s fd args (ps.zip us) → Vals as us → sp as H Q E → codeAny (model P w) A (.call (.ref f) args) (CR CX0 outer P w H s Q E) s
theorem FnOk.guarded {P : Program} {w : World} {K : PySem.W.Frag} {mg : Str → Option Value} {base : Heap} {k : Nat} {f : Addr} {fd : FuncData} {ps : List Str} {sp : Sp} (F : FnOk P w K mg base CX0 k f fd ps sp) : GnOk P w K mg base k f fd ps sp :=
  ⟨F.len, fun A outer s H args us as Q E hr _ e b v h => F.run A outer s H args us as Q E hr e b v h⟩

section
variable {X : Cx} {k : Nat} {f : Addr} {fd : FuncData} {ps : List Str} {sp : Sp} {x : Str} {p pos : Pos} {e : Expr} {es : List Expr} {t : TA}
theorem run_g {pins : List (Addr × Obj)} {σ : L2.St} {H : Hp} {s : Shared} {Q : VK} {us : List Value} {as : List V} (F : GnOk X.prog X.w X.K X.mg X.base k f fd ps sp) (hr : Room k X.A) (hgd : X.A.guards = some []) (hb : Binds X.K fd ps [])
    (I : Inv X pins σ H s) (r : Vals as us) (h : sp as H Q E0) : wpAny (model X.prog X.w) X.A (call (.ref f) us) (EP X pins σ Q) X.xe s := by
  have hl : us.length = ps.length := r.length.symm.trans (F.glen _ _ _ _ h)
  have bb := hb s us I.kIn (by rw [List.append_nil]; exact hl)
  rw [List.append_nil] at bb
  refine wpAny_call (codeAny_mono (F.grun X.A X.stack s H ⟨us, []⟩ us as Q E0 hr hgd I.env0 bb r h) fun z s' hz => ?_)
  match z, hz with
  | .error _, hz => exact (show False from hz).elim
  | .ok (.ret u), hz => exact I.after hz
  | .ok .next, hz => exact (show False from hz).elim
  | .ok .brk, hz => exact (show False from hz).elim
  | .ok .cont, hz => exact (show False from hz).elim
theorem pe_callG (F : GnOk X.prog X.w X.K X.mg X.base k f fd ps sp) (hr : Room k X.A) (hgd : X.A.guards = some []) (hg : Gl X x) (hm : X.mg x = some (.ref f)) (hk : PySem.W.keepIn X.K (.ref f) = true) (hb : Binds X.K fd ps [])
    (ha : PA X (e :: es) t) (hdb : (x == ("__debug__" : Str)) = false := by decide) (he : starEach (e :: es) X.env = (false, eval e X.env) :: starEach es X.env := by rfl) (hpl : (backTo pos (starEach es X.env)).any (·.1) = false := by rfl) :
    PE X (.Call (.Name x p) (e :: es) [] pos) (tCall sp [] E0 t) :=
  ⟨fun pins s σ H Q I h => wpAny_Call_Name_kw (ld_glob I hg hm (PySem.W.callWith_K (h₀ := X.base) I.ok.mod.kin hk (thn (ha.run pos pins s σ H _ I h) fun us s1 ⟨as, H1, I1, r, q⟩ => ⟨I1.kIn, run_g F hr hgd hb I1 r (by have q' : sp (as ++ []) H1 Q E0 := q; rw [List.append_nil] at q'; exact q')⟩) he hpl) hdb)⟩
end

/-- the def by its body: the guards are known within -/
theorem Fun.okG {P : Program} {w : World} {K : PySem.W.Frag} {mg : Str → Option Value} {base : Heap} {x qual : Str} {st : Stmt} {f : Addr} {fd : FuncData} {N ps : List Str} {k : Nat} {sp : Sp} (F : Fun K x qual st f fd) (S : FnScope N ps (defScope st))
    (len : ∀ as H Q E, sp as H Q E → as.length = ps.length)
    (body : ∀ (cdv : Value) (A : Around) (outer : List Env) (s : Shared) (H : Hp) (as : List V) (Q : VK) (E : XK), Room k (A.deeper (envOfC qual (defScope st) s.heap.objs.size f cdv)) → (A.deeper (envOfC qual (defScope st) s.heap.objs.size f cdv)).guards = some [] → sp as H Q E →
      ∃ t, PSs (cxOf CX0 P w K mg base N qual (defScope st) f cdv A outer s H E).nox (defBody st) t ∧ t { nx := fun _ H' => Q .non H', rt := Q } (start N as) H) : GnOk P w K mg base (k + 1) f fd ps sp := by
  obtain ⟨oc, od, kV, doc, pm, an, cdv, ct, osl, rfl, lk, hcd⟩ := F.ex
  refine ⟨len, fun A outer s H args us as Q E hr hgd e0 hb r hsp => ?_⟩
  have old : ∀ b o, base.get? b = some o → s.heap.get? b = some o := fun b o z => (e0.bs b o z).1
  have kin : K.In s.heap := e0.mod.kin.keeps old
  refine codeAny_call_function hr.depth (kin _ _ lk) rfl S.co S.gen rfl (PySem.W.codeRec_of kin hcd) (hb _ _ _ _ (wpAny_newFunctionEnv_cells S.kind (fun y hy => ?_) fun env he s1 x => ?_))
  · have hm := (List.of_mem_zip (show (y.1, y.2) ∈ ps.zip us from hy)).1
    exact (S.par y.1 hm).imp (fun z => z) fun z => ⟨z, PySem.W.cellsFrom_some _ _ _ (.inl z)⟩
  · cases he
    refine ⟨(e0.mod.nolimit.keeps old).keeps x.toInCall.keep, codeAny_func ?_⟩
    obtain ⟨t, ht, hq⟩ := body cdv A outer s H as Q E (hr.deeper _) hgd hsp
    have J := inv_start (CX := CX0) (E := E) S hr.hd e0 (len _ _ _ _ hsp) r x
    refine wpAny_mono (ht.nox.run [] s1 (start N as) H _ J hq) (fun fl s' hs => ?_) fun e s' hs => hs
    match fl, hs with
    | .ret u, ⟨v, _, H', J', rv, q⟩ => exact ⟨v, H', J'.os, J'.bare, J'.base, J'.hok, rv, q⟩
    | .next, ⟨_, H', J', q⟩ => exact ⟨V.non, H', J'.os, J'.bare, J'.base, J'.hok, rfl, q⟩
    | .brk, ⟨_, _, _, q⟩ => exact (show False from q).elim
    | .cont, ⟨_, _, _, q⟩ => exact (show False from q).elim
end Ns

/-! NsH: the end of a law over a guarded def; xs[i] op= e. -/
namespace Ns
open PySem PySem.Spec PyProof.Rows L2

/-- what a law's def promises: of a list of ints, True -/
def spTop (K : PySem.W.Frag) : Sp := fun as H Q _ => ∃ (a : Addr) (ns : List Int), as = [.ref a] ∧ SqL K H a (ns.map V.int) ∧ ns.length ≤ 63 ∧ ∀ H', Q (.bl true) H'

/-- the abstract heap at the entry: the script at a alone, unless it is a written object -/
theorem entry_core {P : Program} {w : World} {K : PySem.W.Frag} {mg mb : Str → Option Value} {k : Nat} {fa a : Addr} {fd : FuncData} {s : Shared} {vs : List Value} {ns : List Int} (kin : K.In s.heap) (gl : s.heap.Ns mainGlobals mg)
    (bl : s.heap.Ns builtinsNs mb) (bb : ∀ x : Str, x ≠ "__name__" → mb x = bootBuiltins x) (nl : s.heap.NoLimit) (ge : s.gens = #[]) (sc : s.heap.get? a = some { cls := .type "list", data := .seq vs.toArray }) (l63 : ns.length ≤ 63)
    (hr : Room k callerA) (F : ∀ base : Heap, K.In base → base.Ns mainGlobals mg → GnOk P w K mg base k fa fd ["script"] (spTop K)) (bd : ∀ (z : Shared) (u : Value), BindsTo z fd ⟨[u], []⟩ [("script", u)])
    (H : Hp) (only : ∀ b o, H b = some o → b = a ∧ ∃ ob xs, o = .frz ob (.lst xs)) (free : H a ≠ none → K.lookup a = none) (hok : HOk P w H s.heap) (sq : SqL K H a (ns.map V.int)) :
    codeAny (model P w) callerA (.call (.ref fa) ⟨[.ref a], []⟩) (fun r s' => r = .ok (.ret (.bool true)) ∧ OldK s.heap s'.heap ∧ s'.os = s.os ∧ AllBare s'.gens) s := by
  have noD : ∀ {b : Addr} {o : Obj} {es : Array DictEntry} {n : Nat}, s.heap.get? b = some o → o.data = .dict es n → H b = none := by
    intro b o es n e d
    cases q : H b with
    | none => rfl
    | some u =>
      obtain ⟨rfl, _⟩ := only b u q
      rw [sc] at e
      cases e
      cases d
  have ns' : ∀ {b : Addr} {m : Str → Option Value}, s.heap.Ns b m → (hidT s.heap H).Ns b m := by
    rintro b m ⟨o, es, n, e, d, r⟩
    exact ⟨o, es, n, hidT_get e (noD e d), d, r⟩
  have kin' : K.In (hidT s.heap H) := by
    intro b o e
    refine hidT_get (kin b o e) ?_
    cases q : H b with
    | none => rfl
    | some u =>
      obtain ⟨rfl, _⟩ := only b u q
      rw [free (by rw [q]; exact fun z => nomatch z)] at e
      cases e
  have md : Mod K mg (hidT s.heap H) := by
    obtain ⟨mc, n1, n2⟩ := nl
    exact { kin := kin', glob := ns' gl, blt := ⟨mb, ns' bl, bb⟩, nolimit := ⟨mc, ns' n1, n2⟩ }
  have e0 : Env0 P w K mg (hidT s.heap H) callerA [] s H :=
    { frames := rfl, mod := md, bs := fun b o e => of_hidT e, bsz := Nat.le_of_eq (hidT_size _ _), funs := trivial, frf := fun b hb => (List.not_mem_nil hb).elim, hok := hok, bare := .of_eq ge }
  have run := (F _ kin' (ns' gl)).grun callerA [] s H ⟨[.ref a], []⟩ [.ref a] [.ref a] (fun v _ => v = .bl true) E0 hr rfl e0 (bd s (.ref a)) (.cons rfl .nil) ⟨a, ns, rfl, sq, l63, fun _ => rfl⟩
  refine codeAny_mono run fun r s' h => ?_
  match r, h with
  | .error _, h => exact (show False from h).elim
  | .ok .next, h => exact (show False from h).elim
  | .ok .brk, h => exact (show False from h).elim
  | .ok .cont, h => exact (show False from h).elim
  | .ok (.ret u), ⟨v, H', o', bare, un, hok', rv, q⟩ =>
    have q' : v = .bl true := q
    rw [q'] at rv
    have eu : u = Value.bool true := rv
    rw [eu]
    refine ⟨rfl, OldK.of_keep fun b o e => ?_, o', bare⟩
    cases z : H b with
    | none => exact un.keep b o e z (fun y => List.not_mem_nil y) List.not_mem_nil
    | some u' =>
      obtain ⟨_, ob, xs, rfl⟩ := only b u' z
      have h1 : s.heap.get? b = some ob := (hok b _ z).1
      have h2 : s'.heap.get? b = some ob := (hok' b _ (un.frzs b ob _ z)).1
      rw [e] at h1
      cases h1
      exact h2

theorem walk_ofG {l : PySem.W.OpenLaw} {k : Nat} {q : Program} {loose : List Str} {XP : (Str → Option Value) → Heap → Prop} {YP : World → Heap → Prop} {d : DefRec} {K : Params → PySem.W.Frag} (hn : l.most = some 63) (hdf : d.params.defaults = []) (hr : Room k callerA)
    (hY : ∀ (w : World) (h : Heap), YP w h → (K w.params).In h)
    (F : ∀ (w : World) (mg : Str → Option Value) (fa : Addr) (h : Heap), (K w.params).In h → h.Ns mainGlobals mg → mg d.name = some (.ref fa) →
      ∃ fd : FuncData, (∀ (z : Shared) (u : Value), BindsTo z fd ⟨[u], []⟩ [("script", u)]) ∧ ∀ base : Heap, (K w.params).In base → base.Ns mainGlobals mg → GnOk l.prog w (K w.params) mg base k fa fd ["script"] (spTop (K w.params))) :
    PySem.W.WalkO q loose XP YP l.row.toRowW d [] (fun f vs => PySem.call f vs) := by
  refine Att.attach_call hn hdf ?_
  intro w s0 s mg mb fa o pm cd doc a vs ns G Y ho hd hcd hmg hobj hints hlen hg
  obtain ⟨fd, bd, hF⟩ := F w mg fa _ (hY w _ Y) G.T.g hmg
  have rv := vals_ints hints
  have hz : (ns.map V.int).length ≤ sizeLine := by
    rw [List.length_map]
    exact Nat.le_trans hlen (by decide)
  have go := entry_core (P := l.prog) (w := w) (a := a) (ns := ns) (hY w _ Y) G.T.g G.T.b G.T.builtins G.T.nolimit hg hobj hlen hr hF bd
  cases hk : (K w.params).lookup a with
  | some ok =>
    have e := hY w _ Y a ok hk
    rw [hobj] at e
    cases e
    refine go (fun _ => none) (fun b o z => nomatch z) (fun z => absurd rfl z) (fun b u z => nomatch z) (.inr ⟨_, vs.toArray, _, hk, rfl, rfl, rfl, ?_, by simpa using rv⟩)
    rw [List.size_toArray, ← rv.length]
    exact hz
  | none =>
    have at_a : (fun b => if b = a then some (HO.frz { cls := .type "list", data := .seq vs.toArray } (.lst (ns.map V.int))) else none) a = some (HO.frz { cls := .type "list", data := .seq vs.toArray } (.lst (ns.map V.int))) := if_pos rfl
    have un_a : ∀ (b : Addr) (u : HO), (if b = a then some (HO.frz { cls := .type "list", data := .seq vs.toArray } (.lst (ns.map V.int))) else none) = some u → b = a ∧ u = HO.frz { cls := .type "list", data := .seq vs.toArray } (.lst (ns.map V.int)) := by
      intro b u z
      by_cases hb : b = a
      · rw [if_pos hb] at z
        exact ⟨hb, (Option.some.inj z).symm⟩
      · rw [if_neg hb] at z
        cases z
    refine go (fun b => if b = a then some (HO.frz { cls := .type "list", data := .seq vs.toArray } (.lst (ns.map V.int))) else none) (fun b u z => ?_) (fun _ => hk) (fun b u z => ?_) (.inl (.inr ⟨_, at_a⟩))
    · obtain ⟨e1, e2⟩ := un_a b u z
      exact ⟨e1, _, _, e2⟩
    · obtain ⟨e1, e2⟩ := un_a b u z
      subst e1
      subst e2
      exact ⟨hobj, hz, vs, _, rv, hobj⟩

/-- o[i] of a list, by values -/
theorem get_list {X : Cx} : PGet X (rIxL X.K) := by
  intro pins s σ H o i ov iv Q I ro ri h
  obtain ⟨p, xs, j, v, rfl, rfl, hS, hat, q⟩ := h
  cases (show ov = Value.ref p from ro)
  obtain ⟨t, rfl⟩ := (show ∃ t, iv = Value.int j t from ri)
  obtain ⟨its, rv, pl, hz⟩ := I.list hS
  obtain ⟨n, h1, h2, h3, h4, h5⟩ := atI_get hat
  obtain ⟨u, eu, ru⟩ := rv.get h2
  have ln := rv.length
  have l63 := line63
  have done : EP X pins σ Q u s := ⟨v, H, I, ru, q⟩
  rcases Int.lt_or_le j 0 with c | c
  · refine wpAny_getItem_list_neg pl.isList (by omega) (by rw [List.size_toArray]; omega) (by omega) ?_ done
    have e : (j + (its.toArray.size : Int)).toNat = n := by
      rw [seqIndex_neg (by omega) h4] at h1
      rw [List.size_toArray, ← ln]
      exact Option.some.inj h1
    rw [e]
    simpa using eu
  · refine wpAny_getItem_list pl.isList c (by omega) ?_ done
    have e : j.toNat = n := by
      rw [seqIndex_of c h5] at h1
      exact Option.some.inj h1
    rw [e]
    simpa using eu
end Ns

/-! the tops of the text -/
namespace Y
open PySem PySem.Spec PyProof.Rows L2 Ns
def top (i : Nat) : Stmt := PySem.Challenge.pw_nightstairs_k04_yards_looked_at.main.body.getD i (.Pass ⟨0, 0, 0, 0⟩)
abbrev sKnotsIn : Stmt := top 1
abbrev sKnotsOf : Stmt := top 3
abbrev sCarsOf : Stmt := top 4
abbrev sCarOf : Stmt := top 5
abbrev sCapOf : Stmt := top 6
abbrev sNeedsOf : Stmt := top 7
abbrev sNeedOf : Stmt := top 8
abbrev sSumOf : Stmt := top 9
abbrev sBag : Stmt := top 11
abbrev sTake : Stmt := top 12
abbrev sSome : Stmt := top 13
abbrev sMixed : Stmt := top 14
abbrev sAlike : Stmt := top 15
abbrev sName : Stmt := top 16
abbrev sNames : Stmt := top 17
abbrev sSize : Stmt := top 18
abbrev sCables : Stmt := top 19
abbrev sCars : Stmt := top 20
abbrev sYardOf : Stmt := top 21
abbrev sSmall : Stmt := top 22
abbrev sWide : Stmt := top 23
abbrev sGreat : Stmt := top 24
abbrev sKnots : Stmt := top 25
abbrev sAllCars : Stmt := top 26
abbrev sALot : Stmt := top 27
abbrev sTurned : Stmt := top 28
abbrev sRowsRight : Stmt := top 29
abbrev sLaw : Stmt := top 30
end Y

/-! the bag over the heap -/
namespace Y
open PySem PySem.Spec PyProof.Rows L2 Ns
/-- the heap but for b -/
def wo (H : Hp) (b : Addr) : Hp := fun c => if c = b then none else H c
theorem wo_ne {H : Hp} {b c : Addr} (h : c ≠ b) : wo H b c = H c := if_neg h
theorem wo_at {H : Hp} {b : Addr} : wo H b b = none := if_pos rfl
theorem wo_of {H : Hp} {b c : Addr} {o : HO} (h : wo H b c = some o) : c ≠ b ∧ H c = some o := by
  by_cases e : c = b
  · rw [e, wo_at] at h
    cases h
  · exact ⟨e, (wo_ne e).symm.trans h⟩
theorem wo_sub (H : Hp) (b : Addr) : Same (wo H b) H := fun _ _ h => (wo_of h).2
/-- all but b stands; b keeps its row of numbers -/
def Sb (b : Addr) (H H' : Hp) : Prop := Same (wo H b) (wo H' b) ∧ ∀ (n0 n1 n2 : Int) (l : Addr), H b = some (.lst [.int n0, .int n1, .int n2, .ref l]) → ∃ m0 m1 m2 : Int, H' b = some (.lst [.int m0, .int m1, .int m2, .ref l])
theorem Sb.refl (b : Addr) (H : Hp) : Sb b H H := ⟨Same.refl _, fun n0 n1 n2 _ h => ⟨n0, n1, n2, h⟩⟩
theorem Sb.trans {b : Addr} {H H1 H2 : Hp} (h : Sb b H H1) (g : Sb b H1 H2) : Sb b H H2 := ⟨Same.trans h.1 g.1, fun n0 n1 n2 l e => by
  obtain ⟨m0, m1, m2, e1⟩ := h.2 n0 n1 n2 l e
  exact g.2 _ _ _ _ e1⟩
theorem Sb.get {b c : Addr} {H H' : Hp} {o : HO} (h : Sb b H H') (e : H c = some o) (n : c ≠ b) : H' c = some o := (wo_of (h.1 c o ((wo_ne n).trans e))).2
theorem Sb.new {b p : Addr} {H H' : Hp} {o : HO} (h : Sb b H H') (n : H' p = none) : Sb b H (upd H' p o) := ⟨fun c u e => by
  have q := h.1 c u e
  obtain ⟨q1, q2⟩ := wo_of q
  rw [wo_ne q1, upd_ne (ne_of_none q2 n)]
  exact q2, fun n0 n1 n2 l e => by
  obtain ⟨m0, m1, m2, e1⟩ := h.2 n0 n1 n2 l e
  exact ⟨m0, m1, m2, by rw [upd_ne (ne_of_none e1 n)]; exact e1⟩⟩
theorem Sb.put {b l : Addr} {H H' : Hp} {n0 n1 n2 m0 m1 m2 : Int} (h : Sb b H H') (e0 : H' b = some (.lst [.int n0, .int n1, .int n2, .ref l])) : Sb b H (upd H' b (.lst [.int m0, .int m1, .int m2, .ref l])) := ⟨fun c u e => by
  obtain ⟨q1, q2⟩ := wo_of (h.1 c u e)
  rw [wo_ne q1, upd_ne q1]
  exact q2, fun k0 k1 k2 l' e => by
  obtain ⟨j0, j1, j2, e1⟩ := h.2 _ _ _ _ e
  rw [e0] at e1
  cases e1
  exact ⟨m0, m1, m2, upd_same⟩⟩
theorem Sb.same {b : Addr} {H H' H2 : Hp} (h : Sb b H H') (m : Same H' H2) : Sb b H H2 := ⟨fun c u e => by
  obtain ⟨q1, q2⟩ := wo_of (h.1 c u e)
  rw [wo_ne q1]
  exact m _ _ q2, fun n0 n1 n2 l e => by
  obtain ⟨m0, m1, m2, e1⟩ := h.2 n0 n1 n2 l e
  exact ⟨m0, m1, m2, m _ _ e1⟩⟩
/-- the bag at b -/
def Bag (H : Hp) (b : Addr) : Prop := ∃ (n0 n1 n2 : Int) (l : Addr) (ns : List Int), H b = some (.lst [.int n0, .int n1, .int n2, .ref l]) ∧ H l = some (.lst (ns.map V.int)) ∧ l ≠ b ∧ 0 ≤ n0 ∧ 0 ≤ n1 ∧ n1 < 2147483647 ∧ 0 ≤ n2 ∧ (∀ n ∈ ns, 0 ≤ n) ∧ ns.length ≤ 63
theorem Bag.new {H : Hp} {b p : Addr} {o : HO} (h : Bag H b) (n : H p = none) : Bag (upd H p o) b := by
  obtain ⟨n0, n1, n2, l, ns, h1, h2, r⟩ := h
  exact ⟨n0, n1, n2, l, ns, by rw [upd_ne (ne_of_none h1 n)]; exact h1, by rw [upd_ne (ne_of_none h2 n)]; exact h2, r⟩
theorem Bag.keep {H H' : Hp} {b : Addr} (h : Bag H b) (m : Same H H') : Bag H' b := by
  obtain ⟨n0, n1, n2, l, ns, h1, h2, r⟩ := h
  exact ⟨n0, n1, n2, l, ns, m _ _ h1, m _ _ h2, r⟩
theorem Bag.ne {H : Hp} {b p : Addr} (h : Bag H b) (n : H p = none) : p ≠ b := fun e => by
  obtain ⟨_, _, _, _, _, h1, _⟩ := h
  rw [e, h1] at n
  cases n
/-- a place that was free at first is written: the bag stands -/
theorem Bag.wr {H H' : Hp} {b p : Addr} {o : HO} (h : Bag H b) (n : H p = none) (s : Sb b H H') (g : Bag H' b) : Bag (upd H' p o) b := by
  obtain ⟨n0, n1, n2, l, ns, h1, h2, h3, _⟩ := id h
  obtain ⟨k0, k1, k2, l', ns', g1, g2, r⟩ := g
  obtain ⟨m0, m1, m2, e⟩ := s.2 _ _ _ _ h1
  rw [g1] at e
  cases e
  exact ⟨_, _, _, _, ns', by rw [upd_ne (h.ne n).symm]; exact g1, by rw [upd_ne (ne_of_none h2 n)]; exact g2, r⟩
theorem Sb.wr {b p : Addr} {H H' : Hp} {o : HO} (s : Sb b H H') (n : H p = none) : Sb b H (upd H' p o) := ⟨fun c u e => by
  obtain ⟨q1, q2⟩ := wo_of (s.1 c u e)
  rw [wo_ne q1, upd_ne (ne_of_none (wo_of e).2 n)]
  exact q2, fun n0 n1 n2 l e => by
  obtain ⟨m0, m1, m2, e1⟩ := s.2 n0 n1 n2 l e
  exact ⟨m0, m1, m2, by rw [upd_ne (ne_of_none e n)]; exact e1⟩⟩
theorem Sb.free {b p : Addr} {H H' : Hp} (h : Sb b H H') (hp : H' p = none) (n : p ≠ b) : H p = none := by
  cases e : H p with
  | none => rfl
  | some o => rw [h.get e n] at hp; cases hp
/-- what stood but for the bag: lists, tuples -/
theorem Sb.sl {K : PySem.W.Frag} {b a : Addr} {H H' : Hp} {xs : List V} (s : Sb b H H') (h : SqL K (wo H b) a xs) : SqL K (wo H' b) a xs := Same.seq s.1 h
theorem wo_same {H H' : Hp} {b : Addr} (m : Same H H') : Same (wo H b) (wo H' b) := fun c o e => by
  obtain ⟨q1, q2⟩ := wo_of e
  rw [wo_ne q1]
  exact m _ _ q2
theorem ints_at {ns : List Int} {i : Nat} {v : V} (h : (ns.map V.int)[i]? = some v) : ∃ z, ns[i]? = some z ∧ v = .int z := by
  rw [List.getElem?_map] at h
  obtain ⟨z, e, q⟩ := Option.map_eq_some_iff.mp h
  exact ⟨z, e, q.symm⟩
theorem cut_ints (ns : List Int) (lo hi : Option Int) : ∃ ms : List Int, cutV (ns.map V.int) lo hi = ms.map V.int ∧ (∀ n ∈ ms, n ∈ ns) ∧ ms.length ≤ ns.length := by
  refine ⟨(ns.drop (HT.sIx (ns.map V.int).length 0 lo)).take (HT.sIx (ns.map V.int).length (ns.map V.int).length hi - HT.sIx (ns.map V.int).length 0 lo), ?_, fun n h => List.mem_of_mem_drop (List.mem_of_mem_take h), ?_⟩
  · unfold cutV
    rw [List.map_take, List.map_drop]
  · rw [List.length_take, List.length_drop]
    omega
theorem same_new {H H' : Hp} {p : Addr} {o : HO} (h : Same H H') (n : H' p = none) : Same H (upd H' p o) := fun c u e => by
  rw [upd_ne (ne_of_none (h c u e) n)]
  exact h c u e
theorem same_put {H H' : Hp} {p : Addr} {o : HO} (h : Same H H') (n : H p = none) : Same H (upd H' p o) := fun c u e => by
  rw [upd_ne (ne_of_none e n)]
  exact h c u e
/-- a thing put amid is among -/
theorem put_perm {α : Type} {xs ys : List α} {x : α} {i j : Nat} (h : ys.Perm (xs.take i)) (hx : xs[i]? = some x) : (ys.take j ++ [x] ++ ys.drop j).Perm (xs.take (i + 1)) := by
  have e : xs.take (i + 1) = xs.take i ++ [x] := by rw [List.take_succ, hx]; rfl
  rw [e]
  have p1 : (ys.take j ++ [x] ++ ys.drop j).Perm (x :: ys) := by
    rw [List.append_assoc, List.singleton_append]
    refine List.perm_middle.trans ?_
    rw [List.take_append_drop]
  exact p1.trans ((h.cons x).trans (List.perm_append_singleton x (xs.take i)).symm)
/-- what the top has left of the built-in names -/
structure Nat0 (mg : Str → Option Value) : Prop where
  abs : mg "abs" = none
  int : mg "int" = none
  len : mg "len" = none
  repr : mg "repr" = none
  isi : mg "isinstance" = none
  range : mg "range" = none
  sorted : mg "sorted" = none
  tuple : mg "tuple" = none
  list_ : mg "list" = none
  dict : mg "dict" = none
  set_ : mg "set" = none
  sum : mg "sum" = none
  max : mg "max" = none
  min : mg "min" = none
  str : mg "str" = none
  all : mg "all" = none
  any : mg "any" = none
  zip : mg "zip" = none
end Y

namespace Y
open PySem PySem.Spec PyProof.Rows L2 Ns
open C8 (pss_cut)
def spBag (K : PySem.W.Frag) : Sp := fun as H Q _ => ∃ (a : Addr) (ns : List Int), as = [.ref a] ∧ SqL K H a (ns.map V.int) ∧ ns.length ≤ 63 ∧ ∀ (b : Addr) (H' : Hp), Bag H' b → H b = none → Same H H' → Q (.ref b) H'
def spTake : Sp := fun as H Q _ => ∃ (b : Addr) (m : Int), as = [.ref b, .int m] ∧ Bag H b ∧ 0 < m ∧ m.natAbs < 2 ^ 200 ∧ ∀ (v : Int) (H' : Hp), 0 ≤ v → v < m → Bag H' b → Sb b H H' → Q (.int v) H'
section
variable {P : Program} {w : World} {K : PySem.W.Frag} {mg : Str → Option Value} {base : Heap}
theorem scB : FnScope ["script", "cell"] ["script"] (defScope sBag) := ⟨rfl, rfl, rfl, by decide +kernel, rfl, by decide +kernel, by decide +kernel⟩
theorem ok_bag {f : Addr} {fd : FuncData} (F : Fun K "_law_bag" "_law_bag" sBag f fd) (T : Nat0 mg) : FnOk P w K mg base CX0 1 f fd ["script"] (spBag K) := by
  refine F.ok scB (fun as H Q E h => ?_) (fun cdv A outer s H as Q E hr h => ?_)
  · obtain ⟨a, ns, rfl, _⟩ := h
    rfl
  · obtain ⟨a, ns, rfl, hS, hl, k⟩ := h
    refine ⟨_, pss_one (ps_ret (pe_lst (pa_cons pe_int (pa_cons pe_int (pa_cons pe_int (pa_cons
      (pe_lc (own := [("cell", 1)]) (g := gName 1) (tt := tYes) rfl scB.nd (pi_list (pe_slice sl_list (pv 0) po_none (po_some pe_int))) (blkOk_by (N := ["script", "cell"]) (sc := defScope sBag) (by decide +kernel)) (fun _ _ _ _ _ => pg_name (i := 1) scB.nd rfl (Or.inl rfl)) (fun _ _ _ _ _ => pts_nil)
        (fun _ _ _ _ _ => pe_callB call_abs (by rfl) T.abs (by decide +kernel) (pa_cons (pv 1) pa_nil))) pa_nil)))))), ?_⟩
    obtain ⟨ms, ec, hin, hlm⟩ := cut_ints ns none (some 63)
    refine ⟨_, rfl, _, rfl, a, _, rfl, hS, fun p hp => ?_⟩
    rw [ec]
    have lm : ms.length ≤ 63 := Nat.le_trans hlm hl
    refine ⟨p, rfl, ⟨_, .inl (.inl upd_same)⟩, fun D hD => ?_⟩
    refine lc_list (K := K) (a := p) (xs := ms.map V.int) (fun i H' => ∃ ks : List Int, H' D = some (.lst (ks.map V.int)) ∧ ks.length = i ∧ (∀ n ∈ ks, 0 ≤ n) ∧ H' p = some (.lst (ms.map V.int)) ∧ Same H H') ?_ ?_ ?_ ?_
    · have npd : p ≠ D := fun e => by rw [← e, upd_same] at hD; cases hD
      refine ⟨[], upd_same, rfl, (fun _ z => nomatch z), by rw [upd_ne npd, upd_same], fun c o e => ?_⟩
      have hD' : H D = none := by rw [upd_ne npd.symm] at hD; exact hD
      rw [upd_ne (ne_of_none e hD'), upd_ne (ne_of_none e hp)]
      exact e
    · rintro i H' hi ⟨ks, _, _, _, h, _⟩
      exact .inl (.inl h)
    · rintro i x H' hx ⟨ks, h1, h2, h3, h4, h5⟩
      obtain ⟨z, hz, rfl⟩ := ints_at hx
      have hi : i < ms.length := (List.getElem?_eq_some_iff.mp hz).1
      refine ⟨rfl, _, rfl, z, rfl, ks.map V.int, h1, by rw [List.length_map, h2]; exact small1000 (by omega), ks ++ [if z < 0 then -z else z], ?_, ?_, ?_, ?_, ?_⟩
      · rw [upd_same, List.map_append]
        rfl
      · rw [List.length_append, h2]
        rfl
      · intro n hn
        rcases List.mem_append.mp hn with q | q
        · exact h3 n q
        · rw [List.mem_singleton] at q
          subst q
          split <;> omega
      · have npd : p ≠ D := fun e => by rw [← e, upd_same] at hD; cases hD
        rw [upd_ne npd]
        exact h4
      · intro c o e
        have hD' : H D = none := by
          have npd : p ≠ D := fun e => by rw [← e, upd_same] at hD; cases hD
          rw [upd_ne npd.symm] at hD
          exact hD
        rw [upd_ne (ne_of_none e hD')]
        exact h5 c o e
    · rintro H' ⟨ks, h1, h2, h3, h4, h5⟩
      rw [List.length_map] at h2
      refine ⟨by show 4 ≤ sizeLine; decide, fun b hb => ?_⟩
      refine k b _ ⟨0, 1234567891, 0, D, ks, upd_same, by rw [upd_ne (ne_of_none h1 hb)]; exact h1, ne_of_none h1 hb, by decide, by decide, by decide, by decide, h3, by omega⟩ (h5.free hb) fun c o e => ?_
      rw [upd_ne (ne_of_none (h5 c o e) hb)]
      exact h5 c o e
end
section
variable {P : Program} {w : World} {K : PySem.W.Frag} {mg : Str → Option Value} {base : Heap}
theorem scT : FnScope ["bag", "many", "cell", "stirred", "value", "begin", "second"] ["bag", "many"] (defScope sTake) := ⟨rfl, rfl, rfl, by decide +kernel, rfl, by decide +kernel, by decide +kernel⟩
theorem at0 {α : Type} {x : α} {xs : List α} : atI (x :: xs) (0 : Int) = some x := atI_nat (j := 0) rfl
theorem at1 {α : Type} {x y : α} {xs : List α} : atI (x :: y :: xs) (1 : Int) = some y := atI_nat (j := 1) rfl
theorem at2 {α : Type} {x y z : α} {xs : List α} : atI (x :: y :: z :: xs) (2 : Int) = some z := atI_nat (j := 2) rfl
theorem at3 {α : Type} {x y z u : α} {xs : List α} : atI (x :: y :: z :: u :: xs) (3 : Int) = some u := atI_nat (j := 3) rfl
theorem fm {x m : Int} (h : 0 < m) : 0 ≤ x.fmod m ∧ x.fmod m < m := by
  rw [Int.fmod_eq_emod_of_nonneg x (by omega)]
  exact ⟨Int.emod_nonneg _ (by omega), Int.emod_lt_of_pos _ h⟩
theorem head_int {ms : List Int} (h : ∀ n ∈ ms, 0 ≤ n) : ∃ z : Int, 0 ≤ z ∧ atI (ms.map V.int ++ [V.int 0]) (0 : Int) = some (.int z) := by
  cases ms with
  | nil => exact ⟨0, by decide, at0⟩
  | cons n ms => exact ⟨n, h n List.mem_cons_self, at0⟩
theorem ok_take {f : Addr} {fd : FuncData} (F : Fun K "_law_take" "_law_take" sTake f fd) (T : Nat0 mg) : FnOk P w K mg base CX0 1 f fd ["bag", "many"] spTake := by
  refine F.ok scT (fun as H Q E h => ?_) (fun cdv A outer s H as Q E hr h => ?_)
  · obtain ⟨b, m, rfl, _⟩ := h
    rfl
  · obtain ⟨b, m, rfl, hB, hm, hmz, k⟩ := h
    refine ⟨_, pss_cut (ps_if (pt_cmpR op_eq (pe_ix ix_list (pv 0) pe_int (fun _ _ => rfl)) pe_int (nomark _))
        (pss_cons (ps_set (i := 2) scT.nd rfl (.inl rfl) (pe_ix ix_list (pe_op op_cat (pe_slice sl_list (pe_ix ix_list (pv 0) pe_int (fun _ _ => rfl)) (po_some (pe_ix ix_list (pv 0) pe_int (fun _ _ => rfl))) po_none) (pe_lst (pa_cons pe_int pa_nil))) pe_int (fun _ _ => rfl)))
        (pss_cons (ps_augS (pv 0) pe_int get_list pe_int ip_add set_list)
        (pss_cut (ps_if (pt_cmpR op_ge (pv 2) (pe_op op_pow pe_int pe_int) (nomark _)) (pss_one (ps_asg (pv 2) (pg_sub (pv 0) pe_int set_list))) pss_nil)
        (pss_cons (ps_set (i := 3) scT.nd rfl (.inl rfl) (pe_op op_add (pe_op op_add (pe_op op_mul (pe_ix ix_list (pv 0) pe_int (fun _ _ => rfl)) pe_int)
            (pe_op op_modN (pe_callTy call_int1 (by rfl) T.int (by decide +kernel) (pa_cons (pv 2) pa_nil)) pe_int)) (pe_op op_mul pe_int (pe_ix ix_list (pv 0) pe_int (fun _ _ => rfl)))))
        (pss_one (ps_asg (pe_op op_modN (pe_callTy call_int1 (by rfl) T.int (by decide +kernel) (pa_cons (pv 3) pa_nil)) pe_int) (pg_sub (pv 0) pe_int set_list))))))) pss_nil)
      (pss_cons (ps_if (pt_cmpR op_gt (pe_ix ix_list (pv 0) pe_int (fun _ _ => rfl)) pe_int (nomark _))
        (pss_cons (ps_set (i := 4) scT.nd rfl (.inl rfl) (pe_op op_modN (pe_callTy call_int1 (by rfl) T.int (by decide +kernel) (pa_cons (pe_ix ix_list (pv 0) pe_int (fun _ _ => rfl)) pa_nil)) (pv 1)))
        (pss_cons (ps_asg (pe_op op_fdivW (pe_callTy call_int1 (by rfl) T.int (by decide +kernel) (pa_cons (pe_ix ix_list (pv 0) pe_int (fun _ _ => rfl)) pa_nil)) (pv 1)) (pg_sub (pv 0) pe_int set_list))
        (pss_one (ps_ret (pv 4))))) pss_nil)
      (pss_cons (ps_set (i := 5) scT.nd rfl (.inl rfl) (pe_op op_modN (pe_callTy call_int1 (by rfl) T.int (by decide +kernel) (pa_cons (pe_op op_mul (pe_op op_add (pe_ix ix_list (pv 0) pe_int (fun _ _ => rfl)) pe_int) pe_int) pa_nil)) pe_int))
      (pss_cons (ps_set (i := 6) scT.nd rfl (.inl rfl) (pe_op op_modN (pe_callTy call_int1 (by rfl) T.int (by decide +kernel) (pa_cons (pe_op op_mul (pe_op op_modN (pe_callTy call_int1 (by rfl) T.int (by decide +kernel) (pa_cons (pe_op op_mul (pv 5) (pv 5)) pa_nil)) pe_int) pe_int) pa_nil)) pe_int))
      (pss_one (ps_ret (pe_op op_modN (pe_callTy call_int1 (by rfl) T.int (by decide +kernel) (pa_cons (pe_op op_fdivN (pv 6) pe_int) pa_nil)) (pv 1))))))), ?_⟩
    refine ⟨fun σ' H' => ∃ c s : Option V, σ' = [some (.ref b), some (.int m), c, s, none, none, none] ∧ Bag H' b ∧ Sb b H H', ?_, ?_⟩
    · obtain ⟨n0, n1, n2, l, ns, h1, h2, hlb, z0, z1, z1', z2, hn, hlen⟩ := id hB
      refine ⟨_, rfl, b, _, _, _, rfl, rfl, SqL.of h1, at0, rfl, _, rfl, ?_⟩
      refine ite2 (fun c => ?_) (fun c => ⟨none, none, rfl, hB, Sb.refl _ _⟩)
      obtain ⟨ms, ec, hin, hlm⟩ := cut_ints ns (some n2) none
      refine ⟨_, rfl, b, _, _, _, rfl, rfl, SqL.of h1, at3, _, rfl, b, _, _, _, rfl, rfl, SqL.of h1, at2, n2, rfl, l, _, rfl, SqL.of h2, fun p hp => ?_⟩
      rw [ec]
      refine ⟨by show 1 ≤ sizeLine; decide, fun q hq => ?_⟩
      have npq : p ≠ q := fun e => by rw [← e, upd_same] at hq; cases hq
      have lmz : (ms.map V.int).length + [V.int 0].length ≤ sizeLine := by
        rw [List.length_map]
        exact Nat.le_of_lt (small1000 (show ms.length + 1 ≤ 1000 by omega))
      refine ⟨p, q, _, _, rfl, rfl, by rw [upd_ne npq, upd_same], upd_same, lmz, fun r hr => ?_⟩
      obtain ⟨z, hz, hat⟩ := head_int (ms := ms) fun n h => hn n (hin n h)
      refine ⟨r, _, _, _, rfl, rfl, SqL.of upd_same, hat, ?_⟩
      have hb3 : upd (upd (upd H p (.lst (ms.map V.int))) q (.lst [V.int 0])) r (.lst (ms.map V.int ++ [V.int 0])) b = some (.lst [.int n0, .int n1, .int n2, .ref l]) := by
        have e1 : upd H p (.lst (ms.map V.int)) b = some (.lst [.int n0, .int n1, .int n2, .ref l]) := by rw [upd_ne (ne_of_none h1 hp)]; exact h1
        have e2 : upd (upd H p (.lst (ms.map V.int))) q (.lst [V.int 0]) b = some (.lst [.int n0, .int n1, .int n2, .ref l]) := by rw [upd_ne (ne_of_none e1 hq)]; exact e1
        rw [upd_ne (ne_of_none e2 hr)]
        exact e2
      have hl3 : upd (upd (upd H p (.lst (ms.map V.int))) q (.lst [V.int 0])) r (.lst (ms.map V.int ++ [V.int 0])) l = some (.lst (ns.map V.int)) := by
        have e1 : upd H p (.lst (ms.map V.int)) l = some (.lst (ns.map V.int)) := by rw [upd_ne (ne_of_none h2 hp)]; exact h2
        have e2 : upd (upd H p (.lst (ms.map V.int))) q (.lst [V.int 0]) l = some (.lst (ns.map V.int)) := by rw [upd_ne (ne_of_none e1 hq)]; exact e1
        rw [upd_ne (ne_of_none e2 hr)]
        exact e2
      have sb3 : Sb b H (upd (upd (upd H p (.lst (ms.map V.int))) q (.lst [V.int 0])) r (.lst (ms.map V.int ++ [V.int 0]))) := (((Sb.refl b H).new hp).new hq).new hr
      generalize upd (upd (upd H p (.lst (ms.map V.int))) q (.lst [V.int 0])) r (.lst (ms.map V.int ++ [V.int 0])) = H3 at hb3 hl3 sb3 ⊢
      refine ⟨_, rfl, b, _, _, _, rfl, rfl, SqL.of hb3, at2, n2, 1, rfl, rfl, b, _, _, 2, rfl, rfl, hb3, rfl, ?_⟩
      refine ⟨fun σ' H' => ∃ n0' : Int, σ' = [some (.ref b), some (.int m), some (.int z), none, none, none, none] ∧ H' b = some (.lst [.int n0', .int n1, .int (n2 + 1), .ref l]) ∧ H' l = some (.lst (ns.map V.int)) ∧ 0 ≤ n0' ∧ Sb b H H', ?_, ?_⟩
      · have hb4 : upd H3 b (.lst (([.int n0, .int n1, .int n2, .ref l] : List V).set 2 (.int (n2 + 1)))) b = some (.lst [.int n0, .int n1, .int (n2 + 1), .ref l]) := upd_same
        have hl4 : upd H3 b (.lst (([.int n0, .int n1, .int n2, .ref l] : List V).set 2 (.int (n2 + 1)))) l = some (.lst (ns.map V.int)) := by rw [upd_ne hlb]; exact hl3
        have sb4 : Sb b H (upd H3 b (.lst (([.int n0, .int n1, .int n2, .ref l] : List V).set 2 (.int (n2 + 1))))) := sb3.put hb3
        generalize upd H3 b (.lst (([.int n0, .int n1, .int n2, .ref l] : List V).set 2 (.int (n2 + 1)))) = H4 at hb4 hl4 sb4 ⊢
        refine ⟨_, rfl, 10, 18, rfl, rfl, ⟨by decide, by decide, by decide⟩, z, _, rfl, rfl, _, rfl, ?_⟩
        refine ite2 (fun _ => ?_) (fun _ => ⟨n0, rfl, hb4, hl4, z0, sb4⟩)
        exact ⟨_, rfl, _, rfl, b, _, _, 0, rfl, rfl, hb4, rfl, z, rfl, upd_same, by rw [upd_ne hlb]; exact hl4, hz, sb4.put hb4⟩
      · rintro σ' H' ⟨n0', rfl, hb5, hl5, z0', sb5⟩
        refine ⟨_, rfl, b, _, _, _, rfl, rfl, SqL.of hb5, at1, n1, _, rfl, rfl, .inl ⟨by omega, by omega⟩, _, rfl, .inl ⟨z, rfl, z, _, rfl, rfl, (show (2147483647 : Int) ≠ 0 by decide), _, _, rfl, rfl, _, rfl, b, _, _, _, rfl, rfl, SqL.of hb5, at2, 7919, _, rfl, rfl, .inl ⟨by decide, by decide⟩, _, _, rfl, rfl, ?_⟩⟩
        refine ⟨_, rfl, .inl ⟨_, rfl, _, _, rfl, rfl, (show (2147483647 : Int) ≠ 0 by decide), _, rfl, b, _, _, 1, rfl, rfl, hb5, rfl, ?_⟩⟩
        exact ⟨_, _, rfl, ⟨n0', _, n2 + 1, l, ns, upd_same, by rw [upd_ne hlb]; exact hl5, hlb, z0', (fm (by decide)).1, (fm (by decide)).2, by omega, hn, hlen⟩, sb5.put hb5⟩
    · rintro σ' H' ⟨c, s', rfl, hB', sb⟩
      obtain ⟨n0, n1, n2, l, ns, h1, h2, hlb, z0, z1, z1', z2, hn, hlen⟩ := id hB'
      refine ⟨_, rfl, b, _, _, _, rfl, rfl, SqL.of h1, at0, _, _, rfl, rfl, _, rfl, ?_⟩
      refine ite2 (fun _ => ?_) (fun _ => ?_)
      · refine ⟨_, rfl, b, _, _, _, rfl, rfl, SqL.of h1, at0, .inl ⟨n0, rfl, _, rfl, n0, m, rfl, rfl, by omega, ?_⟩⟩
        refine ⟨_, rfl, b, _, _, _, rfl, rfl, SqL.of h1, at0, .inl ⟨n0, rfl, _, rfl, n0, m, rfl, rfl, wide_div hm hmz (by decide) (by decide), _, rfl, b, _, _, 0, rfl, rfl, h1, rfl, ?_⟩⟩
        refine ⟨_, rfl, k _ _ (fm hm).1 (fm hm).2 ⟨n0 / m, n1, n2, l, ns, upd_same, by rw [upd_ne hlb]; exact h2, hlb, Int.ediv_nonneg z0 (by omega), z1, z1', z2, hn, hlen⟩ (sb.put h1)⟩
      · have b1 := fm (x := (n1 + 1) * 39373) (m := 1000000007) (by decide)
        refine ⟨_, rfl, b, _, _, _, rfl, rfl, SqL.of h1, at1, n1, 1, rfl, rfl, n1 + 1, _, rfl, rfl, .inl ⟨by omega, by omega⟩, .inl ⟨_, rfl, _, _, rfl, rfl, (show (1000000007 : Int) ≠ 0 by decide), ?_⟩⟩
        have b2 := fm (x := ((n1 + 1) * 39373).fmod 1000000007 * ((n1 + 1) * 39373).fmod 1000000007) (m := 998244353) (by decide)
        refine ⟨_, rfl, _, rfl, _, _, rfl, rfl, .inl ⟨by omega, by omega⟩, .inl ⟨_, rfl, _, _, rfl, rfl, (show (998244353 : Int) ≠ 0 by decide), _, _, rfl, rfl, .inl ⟨by omega, by omega⟩, .inl ⟨_, rfl, _, _, rfl, rfl, (show (998244353 : Int) ≠ 0 by decide), ?_⟩⟩⟩
        exact ⟨_, rfl, _, _, rfl, rfl, ⟨by decide, by decide⟩, .inl ⟨_, rfl, _, rfl, _, m, rfl, rfl, by omega, k _ _ (fm hm).1 (fm hm).2 hB' sb⟩⟩
end
end Y

namespace Y
open PySem PySem.Spec PyProof.Rows L2 Ns
open C8 (pss_cut)
def spSome (K : PySem.W.Frag) : Sp := fun as H Q _ => ∃ (b a : Addr) (xs : List V), as = [.ref b, .ref a] ∧ Bag H b ∧ SqL K (wo H b) a xs ∧ xs ≠ [] ∧ xs.length ≤ 1000000 ∧ ∀ (x : V) (H' : Hp), x ∈ xs → Bag H' b → Sb b H H' → Q x H'
section
variable {P : Program} {w : World} {K : PySem.W.Frag} {mg : Str → Option Value} {base : Heap}
theorem scS : FnScope ["bag", "things"] ["bag", "things"] (defScope sSome) := ⟨rfl, rfl, rfl, by decide +kernel, rfl, by decide +kernel, by decide +kernel⟩
theorem ok_some {f fT : Addr} {fd fdT : FuncData} (F : Fun K "_law_some" "_law_some" sSome f fd) (T : Nat0 mg) (FT : Fun K "_law_take" "_law_take" sTake fT fdT) (mT : mg "_law_take" = some (.ref fT)) (bT : Binds K fdT ["bag", "many"] []) :
    FnOk P w K mg base CX0 2 f fd ["bag", "things"] (spSome K) := by
  have GT : FnOk P w K mg base CX0 1 fT fdT ["bag", "many"] spTake := ok_take FT T
  refine F.ok scS (fun as H Q E h => ?_) (fun cdv A outer s H as Q E hr h => ?_)
  · obtain ⟨b, a, xs, rfl, _⟩ := h
    rfl
  · obtain ⟨b, a, xs, rfl, hB, hS, hne, hl, k⟩ := h
    have pos : 0 < xs.length := List.length_pos_iff.mpr hne
    refine ⟨_, pss_one (ps_ret (pe_ix ix_list (pv 1) (pe_call GT hr rfl mT FT.kp bT .nil pass0 (pa_cons (pv 0) (pa_cons (pe_callB call_len_seq (by rfl) T.len PySem.boot_len (pa_cons (pv 1) pa_nil)) pa_nil))) (fun _ _ => rfl))), ?_⟩
    refine ⟨_, rfl, _, rfl, _, rfl, a, _, rfl, .inl ((wo_sub H b).seq hS), b, _, rfl, hB, by omega, ?_, fun v H' h0 h1 hB' sb => ?_⟩
    · exact Nat.lt_of_le_of_lt (show ((xs.length : Int)).natAbs ≤ 1000000 by omega) (by decide)
    · have hi : v.toNat < xs.length := by omega
      have e : v = ((v.toNat : Nat) : Int) := by omega
      have hx : xs[v.toNat]? = some xs[v.toNat] := List.getElem?_eq_getElem hi
      obtain ⟨x, ex⟩ : ∃ x, xs[v.toNat]? = some x := ⟨_, hx⟩
      exact ⟨a, xs, v, x, rfl, rfl, (wo_sub H' b).seq (sb.sl hS), by rw [e]; exact atI_nat ex, k _ _ (List.mem_of_getElem? ex) hB' sb⟩
end
end Y

/-! NsD: how long the text of data is. -/
namespace Ns
open PySem PySem.Spec PyProof.Rows L2
/-- shown in at most m signs, nested at most k deep -/
def Fit (m k : Nat) (d : PyData) : Prop := d.showable = true ∧ d.shown.length ≤ m ∧ d.depth ≤ k
theorem Fit.mono {m m' k k' : Nat} {d : PyData} (h : Fit m k d) (hm : m ≤ m') (hk : k ≤ k') : Fit m' k' d := ⟨h.1, Nat.le_trans h.2.1 hm, Nat.le_trans h.2.2 hk⟩
theorem sum_le {m : Nat} : ∀ {l : List Nat}, (∀ n ∈ l, n ≤ m) → l.sum ≤ l.length * m
  | [], _ => Nat.zero_le _
  | n :: l, h => by
    have h1 := h n List.mem_cons_self
    have h2 := sum_le (l := l) fun k hk => h k (List.mem_cons_of_mem _ hk)
    rw [List.sum_cons, List.length_cons, Nat.succ_mul]
    omega
theorem depthAll_le {k : Nat} : ∀ {ds : List PyData}, (∀ d ∈ ds, d.depth ≤ k) → PyData.depthAll ds ≤ k
  | [], _ => by simp [PyData.depthAll]
  | d :: ds, h => by
    simp only [PyData.depthAll]
    exact Nat.max_le.mpr ⟨h d List.mem_cons_self, depthAll_le fun e he => h e (List.mem_cons_of_mem _ he)⟩
theorem mem_shown : ∀ {ds : List PyData} {t : Str}, t ∈ PyData.shownAll ds → ∃ d ∈ ds, t = d.shown
  | [], t, h => by rw [PyData.shownAll_nil] at h; exact nomatch h
  | d :: ds, t, h => by
    rw [PyData.shownAll_cons] at h
    rcases List.mem_cons.mp h with e | e
    · exact ⟨d, List.mem_cons_self, e⟩
    · obtain ⟨d', h1, h2⟩ := mem_shown e
      exact ⟨d', List.mem_cons_of_mem _ h1, h2⟩
theorem lens_le {m k : Nat} {ds : List PyData} (h : ∀ d ∈ ds, Fit m k d) : ((PyData.shownAll ds).map (·.length)).sum ≤ ds.length * m := by
  have e : ((PyData.shownAll ds).map (·.length)).length = ds.length := by rw [List.length_map, PyData.shownAll_length]
  have z := sum_le (l := (PyData.shownAll ds).map (·.length)) (m := m) fun n hn => by
    obtain ⟨t, ht, rfl⟩ := List.mem_map.mp hn
    obtain ⟨d, hd, rfl⟩ := mem_shown ht
    exact (h d hd).2.1
  rw [e] at z
  exact z
theorem fit_list {m k : Nat} {ds : List PyData} (h : ∀ d ∈ ds, Fit m k d) : Fit (ds.length * (m + 2) + 3) (k + 1) (.list ds) := by
  refine ⟨?_, ?_, ?_⟩
  · simp only [PyData.showable]
    exact showableAll_of fun d hd => (h d hd).1
  · simp only [PyData.shown]
    have z1 := listText_len_le (PyData.shownAll ds)
    have z2 := lens_le h
    rw [PyData.shownAll_length] at z1
    rw [Nat.mul_add]
    omega
  · have e : (PyData.list ds).depth = PyData.depthAll ds + 1 := by simp only [PyData.depth] <;> omega
    rw [e]
    exact Nat.succ_le_succ (depthAll_le fun d hd => (h d hd).2.2)
theorem fit_tuple {m k : Nat} {ds : List PyData} (h : ∀ d ∈ ds, Fit m k d) : Fit (ds.length * (m + 2) + 3) (k + 1) (.tuple ds) := by
  refine ⟨?_, ?_, ?_⟩
  · simp only [PyData.showable]
    exact showableAll_of fun d hd => (h d hd).1
  · simp only [PyData.shown]
    have z1 := tupleText_len_le (PyData.shownAll ds)
    have z2 := lens_le h
    rw [PyData.shownAll_length] at z1
    rw [Nat.mul_add]
    omega
  · have e : (PyData.tuple ds).depth = PyData.depthAll ds + 1 := by simp only [PyData.depth] <;> omega
    rw [e]
    exact Nat.succ_le_succ (depthAll_le fun d hd => (h d hd).2.2)
theorem kvs_le {m k : Nat} : ∀ {kvs : List (PyData × PyData)}, (∀ p ∈ kvs, Fit m k p.1 ∧ Fit m k p.2) → ((PyData.shownKv kvs).map (·.length)).sum ≤ kvs.length * (2 * m + 2) ∧ PyData.depthKv kvs ≤ k
  | [], _ => by simp [PyData.shownKv, PyData.depthKv]
  | (a, b) :: r, h => by
    obtain ⟨h1, h2⟩ := h (a, b) List.mem_cons_self
    obtain ⟨z1, z2⟩ := kvs_le (kvs := r) fun p hp => h p (List.mem_cons_of_mem _ hp)
    have e : (a.shown ++ ": " ++ b.shown).length = a.shown.length + 2 + b.shown.length := by
      rw [strLen_append, strLen_append]
      rfl
    have y1 := h1.2.1
    have y2 := h2.2.1
    refine ⟨?_, ?_⟩
    · rw [PyData.shownKv_cons, List.map_cons, List.sum_cons, List.length_cons, Nat.succ_mul, e]
      have y1' : a.shown.length ≤ m := y1
      have y2' : b.shown.length ≤ m := y2
      omega
    · have y3 : a.depth ≤ k := h1.2.2
      have y4 : b.depth ≤ k := h2.2.2
      simp only [PyData.depthKv]
      omega
theorem fit_dict {m k : Nat} {kvs : List (PyData × PyData)} (h : ∀ p ∈ kvs, Fit m k p.1 ∧ Fit m k p.2) : Fit (kvs.length * (2 * m + 4) + 3) (k + 1) (.dict kvs) := by
  obtain ⟨z1, z2⟩ := kvs_le h
  refine ⟨?_, ?_, ?_⟩
  · simp only [PyData.showable]
    exact showableKv_of fun p hp => ⟨(h p hp).1.1, (h p hp).2.1⟩
  · simp only [PyData.shown]
    have y := dictText_len_le (PyData.shownKv kvs)
    rw [PyData.shownKv_length] at y
    have e : kvs.length * (2 * m + 4) = kvs.length * (2 * m + 2) + 2 * kvs.length := by
      rw [Nat.mul_add, Nat.mul_add]
      omega
    omega
  · have e : (PyData.dict kvs).depth = PyData.depthKv kvs + 1 := by simp only [PyData.depth] <;> omega
    omega
theorem fit_int {i : Int} {n : Nat} (h0 : 0 < n) (h : i.natAbs < 10 ^ n) (hn : n ≤ 500) : Fit (n + 1) 0 (.int i) := by
  have z : (10 : Nat) ^ n < 2 ^ 1920 := Nat.lt_of_le_of_lt (Nat.pow_le_pow_right (by decide) hn) (by decide +kernel)
  refine ⟨decide_eq_true (log2_small (Nat.lt_trans h z)), ?_, by simp [PyData.depth]⟩
  rw [PyData.shown_int, PySem.ofString_length]
  exact int_text_length_le10 h0 h
/-- a datum is equal to itself -/
theorem eqv_self {K : PySem.W.Frag} {H : Hp} {x : V} {d : PyData} (D : DatV K H x d) (n : Nat) : EqV K H (n + 1) x x := by
  cases D with
  | non => exact .inl ⟨rfl, rfl⟩
  | bl b => exact .inl ⟨rfl, rfl⟩
  | int i => exact .inl ⟨rfl, rfl⟩
  | str y => exact .inl ⟨rfl, rfl⟩
  | lst _ _ => exact .inr (.inl ⟨_, rfl, rfl⟩)
  | tup _ _ => exact .inr (.inl ⟨_, rfl, rfl⟩)
  | dic _ _ => exact .inr (.inl ⟨_, rfl, rfl⟩)
theorem paired_rep {α β : Type} {F : α → β → Prop} {a : α} {b : β} (h : F a b) : ∀ n : Nat, Paired F (List.replicate n a) (List.replicate n b)
  | 0 => .nil
  | n + 1 => .cons h (paired_rep h n)
theorem datA_rep {K : PySem.W.Frag} {H : Hp} {x : V} {d : PyData} (D : DatV K H x d) : ∀ n : Nat, DatA K H (List.replicate n x) (List.replicate n d)
  | 0 => .nil
  | n + 1 => .cons D (datA_rep D n)
end Ns

/-! NsE: == of equal nested lists, tuples and dicts. -/
namespace Ns
open PySem PySem.Spec PyProof.Rows L2
/-- two tuples of equal items -/
def EqU (K : PySem.W.Frag) (H : Hp) (E : V → V → Prop) (x y : V) : Prop := ∃ a b xs ys, x = .ref a ∧ y = .ref b ∧ SqT K H a xs ∧ SqT K H b ys ∧ Paired E xs ys
/-- equal, of nesting below n, tuples too -/
def EqT (K : PySem.W.Frag) (H : Hp) : Nat → V → V → Prop
  | 0 => fun _ _ => False
  | n + 1 => fun x y => (x = y ∧ flatB x = true) ∨ (∃ a, x = .ref a ∧ y = .ref a) ∨ EqR K H (EqT K H n) x y ∨ EqU K H (EqT K H n) x y
section
variable {X : Cx} {pins : List (Addr × Obj)} {σ : L2.St} {H : Hp} {s : Shared}
theorem eqU_run (I : Inv X pins σ H s) {A : Around} {F : V → V → Prop} (hu : A.units < cLine) (ih : ∀ x y v u, F x y → RelV x v → RelV y u → SeqAt.EqP X.prog X.w A.in1 s v u true) {x y : V} {v u : Value} (h : EqU X.K H F x y) (rx : RelV x v) (ry : RelV y u)
    (E Q : Value → Shared → Prop) (q : Q (.bool true) s) : wpAny (model X.prog X.w) A (richCompare .Eq v u) Q E s := by
  obtain ⟨a, b, xs, ys, rfl, rfl, ha, hb, hp⟩ := h
  cases (show v = Value.ref a from rx)
  cases (show u = Value.ref b from ry)
  obtain ⟨us, r1, ⟨o1, h1, h2, n1, h3⟩, _⟩ := I.tuple ha
  obtain ⟨ws, r2, ⟨o2, g1, g2, n2, g3⟩, _⟩ := I.tuple hb
  have hsz : us.toArray.size = ws.toArray.size := by
    rw [List.size_toArray, List.size_toArray, ← r1.length, ← r2.length]
    exact Paired.length hp
  refine SeqAt.rcIn_tuples (e := fun _ => true) ⟨o1, h1, h2, n1, h3⟩ ⟨o2, g1, g2, n2, g3⟩ hu (fun j h1 h2 => ?_) ?_
  · have k := items_run ih hp r1 r2 j (by simpa using h1) (by simpa using h2)
    simp only [List.getElem_toArray]
    exact fun E Q q => k E Q q
  · rw [hsz, show ((List.range (min ws.toArray.size ws.toArray.size)).all fun _ => true) = true from List.all_eq_true.mpr fun _ _ => rfl]
    simpa using q
theorem eqT_run (I : Inv X pins σ H s) : ∀ (n : Nat) (A : Around), A.units + n < cLine → ∀ (x y : V) (v u : Value), EqT X.K H n x y → RelV x v → RelV y u → SeqAt.EqP X.prog X.w A s v u true
  | 0, _, _, _, _, _, _, h, _, _ => (show False from h).elim
  | n + 1, A, hu, x, y, v, u, h, rx, ry => by
    have ih := eqT_run I n A.in1 (by show A.units + 1 + n < cLine; omega)
    rcases h with ⟨rfl, f⟩ | ⟨a, rfl, rfl⟩ | h | h
    · exact (eqAt_same rx ry f).eqP
    · cases (show v = Value.ref a from rx)
      cases (show u = Value.ref a from ry)
      exact (SeqAt.EqAt.same _).eqP
    · have step := eqR_run I (A := A) (by omega) ih h rx ry
      obtain ⟨a, b, rfl, rfl⟩ : ∃ a b, x = .ref a ∧ y = .ref b := by
        rcases h with ⟨a, b, _, _, e1, e2, _⟩ | ⟨a, b, _, _, e1, e2, _⟩
        · exact ⟨a, b, e1, e2⟩
        · exact ⟨a, b, e1, e2⟩
      cases (show v = Value.ref a from rx)
      cases (show u = Value.ref b from ry)
      by_cases e : a = b
      · subst e
        exact (SeqAt.EqAt.same _).eqP
      · exact SeqAt.eqP_refs e step
    · have step := eqU_run I (A := A) (by omega) ih h rx ry
      obtain ⟨a, b, _, _, rfl, rfl, _⟩ := h
      cases (show v = Value.ref a from rx)
      cases (show u = Value.ref b from ry)
      by_cases e : a = b
      · subst e
        exact (SeqAt.EqAt.same _).eqP
      · exact SeqAt.eqP_refs e step
end
/-- flat, or a list, a tuple, a dict, the two of them equal -/
def EqS (K : PySem.W.Frag) (H : Hp) (n : Nat) (x y : V) : Prop := EqR K H (EqT K H n) x y ∨ EqU K H (EqT K H n) x y
section
variable {X : Cx}
/-- a == b, equal: flat ones, or lists, tuples, dicts -/
def rEqT (K : PySem.W.Frag) : R2 := fun x y H Q => ((x = y ∧ ((∃ i, x = .int i) ∨ (∃ z, x = .str z) ∨ x = .non ∨ ∃ b, x = .bl b)) ∨ ∃ n, n ≤ 60 ∧ EqS K H n x y) ∧ Q (.bl true) H
theorem op_eqT (hu : X.A.units + 64 < cLine) : OpR X (compareOp .Eq) (rEqT X.K) := by
  intro pins s σ H x y v u Q I rx ry h
  obtain ⟨h, q⟩ := h
  have qq : EP X pins σ Q (Value.bool true) s := ⟨.bl true, H, I, rfl, q⟩
  rcases h with ⟨rfl, ⟨i, rfl⟩ | ⟨z, rfl⟩ | rfl | ⟨b, rfl⟩⟩ | ⟨n, hn, h | h⟩
  · obtain ⟨t, rfl⟩ := (show ∃ t, v = Value.int i t from rx)
    obtain ⟨t', rfl⟩ := (show ∃ t, u = Value.int i t from ry)
    exact SeqAt.RcAt.int_int i t i t' _ _ _ _ (by rw [beq_self_eq_true]; exact qq)
  · obtain ⟨t, rfl⟩ := (show ∃ t, v = Value.str z t from rx)
    obtain ⟨t', rfl⟩ := (show ∃ t, u = Value.str z t from ry)
    exact SeqAt.RcAt.str_str z t z t' _ _ _ _ (by rw [beq_self_eq_true]; exact qq)
  · cases (show v = Value.none from rx)
    cases (show u = Value.none from ry)
    exact SeqAt.RcAt.none_none _ _ _ _ qq
  · cases (show v = Value.bool b from rx)
    cases (show u = Value.bool b from ry)
    exact SeqAt.RcAt.bool_bool b b _ _ _ _ (by rw [beq_self_eq_true]; exact qq)
  · exact eqR_run I (A := X.A) (by omega) (eqT_run I n X.A.in1 (by show X.A.units + 1 + n < cLine; omega)) h rx ry _ _ qq
  · exact eqU_run I (A := X.A) (by omega) (eqT_run I n X.A.in1 (by show X.A.units + 1 + n < cLine; omega)) h rx ry _ _ qq
end
end Ns

namespace Y
open PySem PySem.Spec PyProof.Rows L2 Ns
/-- equal data: True -/
def spAlike (K : PySem.W.Frag) : Sp := fun as H Q _ => ∃ (x y : V) (d : PyData), as = [x, y] ∧ ((x = y ∧ ((∃ i, x = .int i) ∨ (∃ z, x = .str z) ∨ x = .non ∨ ∃ b, x = .bl b)) ∨ ∃ n, n ≤ 60 ∧ EqS K H n x y) ∧ DatV K H x d ∧ DatV K H y d ∧ d.showable = true ∧ d.shown.length ≤ sizeLine ∧ d.depth ≤ 60 ∧ Q (.bl true) H
section
variable {P : Program} {w : World} {K : PySem.W.Frag} {mg : Str → Option Value} {base : Heap}
theorem scA : FnScope ["found", "due"] ["found", "due"] (defScope sAlike) := ⟨rfl, rfl, rfl, by decide +kernel, rfl, by decide +kernel, by decide +kernel⟩
theorem ok_alike {f : Addr} {fd : FuncData} (F : Fun K "_law_alike" "_law_alike" sAlike f fd) (T : Nat0 mg) : GnOk P w K mg base 1 f fd ["found", "due"] (spAlike K) := by
  refine Fun.okG F scA (fun as H Q E h => ?_) (fun cdv A outer s H as Q E hr hgd h => ?_)
  · obtain ⟨x, y, d, rfl, _⟩ := h
    rfl
  · obtain ⟨x, y, d, rfl, he, dx, dy, hs, hz, hd, k⟩ := h
    have hu : (A.deeper (envOfC "_law_alike" (defScope sAlike) s.heap.objs.size f cdv)).units + 64 < cLine := hr.units
    refine ⟨_, pss_one (ps_ret (pe_and (pe_cmpR (op_eqT hu) (pv 0) (pv 1) (nomark _)) (pe_one (pe_cmpR op_eq
      (pe_callB (call_reprD hgd hu) (by rfl) T.repr (by decide +kernel) (pa_cons (pv 0) pa_nil)) (pe_callB (call_reprD hgd hu) (by rfl) T.repr (by decide +kernel) (pa_cons (pv 1) pa_nil)) (nomark _))))), ?_⟩
    refine ⟨_, rfl, _, rfl, he, true, rfl, ?_⟩
    refine iteT ?_
    refine ⟨_, rfl, x, d, rfl, dx, hs, hz, hd, _, rfl, y, d, rfl, dy, hs, hz, hd, rfl, ?_⟩
    rw [decide_eq_true rfl]
    exact k
end
end Y

namespace Y
open PySem PySem.Spec PyProof.Rows L2 Ns
open C8 (pss_cut)
/-- the things in some order: a new list -/
def spMixed (K : PySem.W.Frag) : Sp := fun as H Q _ => ∃ (b a : Addr) (xs : List V), as = [.ref b, .ref a] ∧ Bag H b ∧ SqL K (wo H b) a xs ∧ xs.length ≤ 1000 ∧
  ∀ (p : Addr) (ys : List V) (H' : Hp), ys.Perm xs → H' p = some (.lst ys) → H p = none → p ≠ b → Bag H' b → Sb b H H' → Q (.ref p) H'
/-- one sign of a text -/
def spSomeS : Sp := fun as H Q _ => ∃ (b : Addr) (z : Str), as = [.ref b, .str z] ∧ Bag H b ∧ z.length ≠ 0 ∧ z.length ≤ 1000 ∧ ∀ (c : Nat) (H' : Hp), c ∈ z.cps.toList → Bag H' b → Sb b H H' → Q (.str ⟨#[c]⟩) H'
section
variable {P : Program} {w : World} {K : PySem.W.Frag} {mg : Str → Option Value} {base : Heap}
theorem scM : FnScope ["bag", "things", "found", "thing"] ["bag", "things"] (defScope sMixed) := ⟨rfl, rfl, rfl, by decide +kernel, rfl, by decide +kernel, by decide +kernel⟩
theorem ok_mixed {f fT : Addr} {fd fdT : FuncData} (F : Fun K "_law_mixed" "_law_mixed" sMixed f fd) (T : Nat0 mg) (FT : Fun K "_law_take" "_law_take" sTake fT fdT) (mT : mg "_law_take" = some (.ref fT)) (bT : Binds K fdT ["bag", "many"] []) :
    FnOk P w K mg base CX0 2 f fd ["bag", "things"] (spMixed K) := by
  have GT : FnOk P w K mg base CX0 1 fT fdT ["bag", "many"] spTake := ok_take FT T
  refine F.ok scM (fun as H Q E h => ?_) (fun cdv A outer s H as Q E hr h => ?_)
  · obtain ⟨b, a, xs, rfl, _⟩ := h
    rfl
  · obtain ⟨b, a, xs, rfl, hB, hS, hl, k⟩ := h
    refine ⟨_, pss_cons (ps_set (i := 2) scM.nd rfl (.inl rfl) (pe_lst pa_nil))
      (pss_cons (ps_for PassesOwn.never rfl (pi_list (pv 1)) (pg_name (i := 3) scM.nd rfl (.inl rfl))
        (pss_one (ps_expr (pe_bm PySem.F.plainAttrs_list PySem.F.slot_list_insert PySem.F.type_list_insert mt_insert (pv 2)
          (pa_cons (pe_call GT hr rfl mT FT.kp bT .nil pass0 (pa_cons (pv 0) (pa_cons (pe_op op_add (pe_callB call_len_seq (by rfl) T.len PySem.boot_len (pa_cons (pv 2) pa_nil)) pe_int) pa_nil))) (pa_cons (pv 3) pa_nil))))))
      (pss_one (ps_ret (pv 2)))), ?_⟩
    refine ⟨by show 0 ≤ sizeLine; decide, fun p hp => ?_⟩
    have npb : p ≠ b := hB.ne hp
    have hS0 : SqL K (upd H p (.lst [])) a xs := Same.seq (same_new (Same.refl H) hp) ((wo_sub H b).seq hS)
    refine ⟨_, rfl, a, rfl, ⟨_, hS0⟩, ?_⟩
    refine for_list (K := K) (a := a) (xs := xs) (fun i σ H' => ∃ (v : Option V) (ys : List V), σ = [some (.ref b), some (.ref a), some (.ref p), v] ∧ H' p = some (.lst ys) ∧ ys.Perm (xs.take i) ∧ Bag H' b ∧ Sb b H H') ?_ ?_ ?_ ?_
    · exact ⟨none, [], rfl, upd_same, by rw [List.take_zero], hB.new hp, (Sb.refl b H).new hp⟩
    · rintro i σ H' _ ⟨v, ys, _, _, _, _, s⟩
      exact (wo_sub H' b).seq (s.sl hS)
    · rintro i x σ H' hx ⟨v, ys, rfl, h1, h2, h3, h4⟩
      have hi : i < xs.length := (List.getElem?_eq_some_iff.mp hx).1
      have hyl : ys.length = i := by rw [h2.length_eq, List.length_take]; omega
      refine ⟨_, rfl, .inl ⟨rfl, _, SqL.of h1⟩, _, rfl, _, rfl, p, _, rfl, .inl (SqL.of h1), ys.length, 1, rfl, rfl, b, _, rfl, h3, by omega, Nat.lt_of_le_of_lt (show ((ys.length : Int) + 1).natAbs ≤ 2000 by omega) (by decide), fun j H2 h0 hj hB2 sb2 => ?_⟩
      have e2 := sb2.get h1 npb
      refine ⟨_, rfl, p, ys, j, x, rfl, rfl, e2, small1000 (by omega), h0, by omega, some x, _, rfl, upd_same, put_perm h2 hx, ?_, ?_⟩
      · exact hB.wr hp (h4.trans sb2) hB2
      · exact (h4.trans sb2).wr hp
    · rintro σ H' ⟨v, ys, rfl, h1, h2, h3, h4⟩
      rw [List.take_length] at h2
      exact ⟨_, rfl, k p ys H' h2 h1 hp npb h3 h4⟩
theorem ok_someS {f fT : Addr} {fd fdT : FuncData} (F : Fun K "_law_some" "_law_some" sSome f fd) (T : Nat0 mg) (FT : Fun K "_law_take" "_law_take" sTake fT fdT) (mT : mg "_law_take" = some (.ref fT)) (bT : Binds K fdT ["bag", "many"] []) :
    FnOk P w K mg base CX0 2 f fd ["bag", "things"] spSomeS := by
  have GT : FnOk P w K mg base CX0 1 fT fdT ["bag", "many"] spTake := ok_take FT T
  refine F.ok scS (fun as H Q E h => ?_) (fun cdv A outer s H as Q E hr h => ?_)
  · obtain ⟨b, z, rfl, _⟩ := h
    rfl
  · obtain ⟨b, z, rfl, hB, hne, hl, k⟩ := h
    refine ⟨_, pss_one (ps_ret (pe_ix ix_str (pv 1) (pe_call GT hr rfl mT FT.kp bT .nil pass0 (pa_cons (pv 0) (pa_cons (pe_callB call_len_str (by rfl) T.len PySem.boot_len (pa_cons (pv 1) pa_nil)) pa_nil))) (fun _ _ => rfl))), ?_⟩
    refine ⟨_, rfl, _, rfl, _, rfl, z, rfl, Nat.le_of_lt (small1000 hl), b, _, rfl, hB, by omega, ?_, fun v H' h0 h1 hB' sb => ?_⟩
    · exact Nat.lt_of_le_of_lt (show ((z.length : Int)).natAbs ≤ 1000 by omega) (by decide)
    · have hi : v.toNat < z.cps.toList.length := by
        have e : z.cps.toList.length = z.length := by first | rfl | simp [PySem.Str.length]
        omega
      have ev : v = ((v.toNat : Nat) : Int) := by omega
      obtain ⟨c, ec⟩ : ∃ c, z.cps.toList[v.toNat]? = some c := ⟨_, List.getElem?_eq_getElem hi⟩
      refine ⟨z, v, c, rfl, rfl, Nat.le_of_lt (small1000 hl), by rw [ev]; exact atI_nat ec, ?_⟩
      exact k c H' (List.mem_of_getElem? ec) hB' sb
end
end Y

/-! names, as texts: what is one, and that a row of tries comes to a new one -/
namespace Y
open PySem PySem.Spec PyProof.Rows L2 Ns
def isL (c : Nat) : Prop := 97 ≤ c ∧ c ≤ 122
def isD (c : Nat) : Prop := 48 ≤ c ∧ c ≤ 57
def isS (c : Nat) : Prop := isL c ∨ isD c
instance (c : Nat) : Decidable (isL c) := inferInstanceAs (Decidable (_ ∧ _))
instance (c : Nat) : Decidable (isD c) := inferInstanceAs (Decidable (_ ∧ _))
instance (c : Nat) : Decidable (isS c) := inferInstanceAs (Decidable (_ ∨ _))
/-- the signs of a name -/
def NmL (n : List Nat) : Prop := ∃ c r, n = c :: r ∧ isL c ∧ (∀ d ∈ r, isS d) ∧ r.length ≤ 19
def Nm (x : Str) : Prop := NmL x.cps.toList
abbrev letters : Str := "abcdefghijklmnopqrstuvwxyz"
abbrev signs : Str := "abcdefghijklmnopqrstuvwxyz0123456789"
theorem letters_ok : ∀ c ∈ letters.cps.toList, isL c := by decide +kernel
theorem signs_ok : ∀ c ∈ signs.cps.toList, isS c := by decide +kernel
theorem len_cps (z : Str) : z.cps.toList.length = z.length := by first | rfl | simp [PySem.Str.length]
theorem str_ext {x y : Str} (h : x.cps.toList = y.cps.toList) : x = y := by
  cases x
  cases y
  exact congrArg PySem.Str.mk (Array.toList_inj.mp h)
theorem Nm.len {x : Str} (h : Nm x) : 1 ≤ x.length ∧ x.length ≤ 20 := by
  obtain ⟨c, r, e, _, _, h⟩ := h
  rw [← len_cps, e, List.length_cons]
  omega
theorem nm_one {c : Nat} (h : isL c) : Nm ⟨#[c]⟩ := ⟨c, [], rfl, h, (fun _ z => nomatch z), by decide⟩
theorem nm_snoc {x : Str} {c : Nat} (h : Nm x) (hl : x.length ≤ 19) (hc : isS c) : Nm (x ++ ⟨#[c]⟩) := by
  obtain ⟨d, r, e, h1, h2, h3⟩ := h
  refine ⟨d, r ++ [c], by rw [cps_toList_append, e]; rfl, h1, fun k hk => ?_, ?_⟩
  · rcases List.mem_append.mp hk with q | q
    · exact h2 k q
    · rw [List.mem_singleton] at q
      rw [q]; exact hc
  · have q : x.cps.toList.length ≤ 19 := by rw [len_cps]; exact hl
    rw [e, List.length_cons] at q
    rw [List.length_append, List.length_singleton]
    omega
theorem cut_list (z : Str) (k : Nat) : (cutS z none (some (k : Int))).cps.toList = z.cps.toList.take k := by
  have e : HT.sIx z.length 0 none = 0 := rfl
  unfold cutS
  show ((z.cps.toList.drop (HT.sIx z.length 0 none)).take (HT.sIx z.length z.length (some (k : Int)) - HT.sIx z.length 0 none)) = _
  rw [e, List.drop_zero, Nat.sub_zero]
  have h : HT.sIx z.length z.length (some (k : Int)) = min k z.length := by
    unfold HT.sIx
    simp
    try omega
  rw [h, ← len_cps]
  rw [List.take_eq_take_iff]
  omega
theorem nm_cut {x : Str} {k : Nat} (h : Nm x) (hk : 1 ≤ k) : Nm (cutS x none (some (k : Int))) ∧ (cutS x none (some (k : Int))).length ≤ k := by
  obtain ⟨c, r, e, h1, h2, h3⟩ := h
  have q := cut_list x k
  obtain ⟨m, rfl⟩ : ∃ m, k = m + 1 := ⟨k - 1, by omega⟩
  rw [e, List.take_succ_cons] at q
  refine ⟨⟨c, r.take m, q, h1, fun d hd => h2 d (List.mem_of_mem_take hd), ?_⟩, ?_⟩
  · rw [List.length_take]; omega
  · rw [← len_cps, q, List.length_cons, List.length_take]; omega
/-- the digits of a number -/
def Dg (k : Nat) : List Nat := (toString (k : Int) : PySem.Str).cps.toList
theorem dg_digits : ∀ k, k < 101 → (∀ c ∈ Dg k, isD c) ∧ (Dg k).length ≤ 3 := by decide +kernel
theorem dg_inj : ∀ j, j < 101 → ∀ k, k < 101 → Dg j = Dg k → j = k := by decide +kernel
theorem not_both {c : Nat} (h : isL c) (g : isD c) : False := by
  unfold isL at h
  unfold isD at g
  omega
theorem split_same : ∀ {a b : List Nat} {c d : Nat} {r t : List Nat}, (∀ x ∈ a, isD x) → (∀ x ∈ b, isD x) → isL c → isL d → a ++ c :: r = b ++ d :: t → a = b
  | [], [], _, _, _, _, _, _, _, _, _ => rfl
  | [], y :: b, c, d, r, t, _, hb, hc, _, h => by
    injection h with h1 h2
    rw [h1] at hc
    exact (not_both hc (hb y List.mem_cons_self)).elim
  | x :: a, [], c, d, r, t, ha, _, _, hd, h => by
    injection h with h1 h2
    rw [← h1] at hd
    exact (not_both hd (ha x List.mem_cons_self)).elim
  | x :: a, y :: b, c, d, r, t, ha, hb, hc, hd, h => by
    injection h with h1 h2
    rw [h1, split_same (fun z hz => ha z (List.mem_cons_of_mem _ hz)) (fun z hz => hb z (List.mem_cons_of_mem _ hz)) hc hd h2]
/-- the k-th try -/
def Tr (k : Nat) (x : Str) : Prop := ∃ c r, isL c ∧ x.cps.toList = 120 :: (Dg k ++ c :: r)
theorem tr_inj {j k : Nat} {x : Str} (hj : j < 101) (hk : k < 101) (h : Tr j x) (g : Tr k x) : j = k := by
  obtain ⟨c, r, h1, h2⟩ := h
  obtain ⟨d, t, g1, g2⟩ := g
  rw [h2] at g2
  injection g2 with _ e
  exact dg_inj j hj k hk (split_same (dg_digits j hj).1 (dg_digits k hk).1 h1 g1 e)
def tryOf (k : Nat) (x : Str) : Str := ("x" : Str) ++ toString (k : Int) ++ cutS x none (some (16 : Int))
theorem tryOf_cps (k : Nat) (x : Str) : (tryOf k x).cps.toList = 120 :: (Dg k ++ x.cps.toList.take 16) := by
  unfold tryOf
  rw [cps_toList_append, cps_toList_append, show (16 : Int) = ((16 : Nat) : Int) from rfl, cut_list]
  rfl
theorem tr_try {k : Nat} {x : Str} (h : Nm x) : Tr k (tryOf k x) := by
  obtain ⟨c, r, e, h1, _⟩ := h
  exact ⟨c, r.take 15, h1, by rw [tryOf_cps, e]; rfl⟩
theorem nm_try {k : Nat} {x : Str} (h : Nm x) (hk : k < 101) : Nm (tryOf k x) := by
  obtain ⟨c, r, e, h1, h2, h3⟩ := h
  obtain ⟨d1, d2⟩ := dg_digits k hk
  refine ⟨120, Dg k ++ x.cps.toList.take 16, tryOf_cps k x, by decide, fun d hd => ?_, ?_⟩
  · rcases List.mem_append.mp hd with q | q
    · exact .inr (d1 d q)
    · have q' := List.mem_of_mem_take q
      rw [e] at q'
      rcases List.mem_cons.mp q' with z | z
      · rw [z]; exact .inl h1
      · exact h2 d z
  · rw [List.length_append, List.length_take]
    omega
abbrev feed : Str := "feed"
theorem tr_feed {k : Nat} {x : Str} (h : Tr k x) : x ≠ feed := by
  rintro rfl
  obtain ⟨c, r, _, e⟩ := h
  have e' : feed.cps.toList = [102, 101, 101, 100] := by decide +kernel
  rw [e'] at e
  cases e
theorem sub_len {α : Type} [DecidableEq α] : ∀ {l m : List α}, l.Nodup → (∀ x ∈ l, x ∈ m) → l.length ≤ m.length
  | [], _, _, _ => Nat.zero_le _
  | x :: l, m, hn, hs => by
    have hx := hs x List.mem_cons_self
    have q := sub_len (l := l) (m := m.erase x) (List.nodup_cons.mp hn).2 fun y hy => by
      have ne : y ≠ x := fun e => (List.nodup_cons.mp hn).1 (e ▸ hy)
      exact (List.mem_erase_of_ne ne).mpr (hs y (List.mem_cons_of_mem _ hy))
    rw [List.length_erase_of_mem hx] at q
    have := List.length_pos_of_mem hx
    rw [List.length_cons]
    omega
/-- ahead of the i-th turn -/
def Ahead (taken : List Str) (i : Nat) (x : Str) : Prop := Nm x ∧ ((x ∉ taken ∧ x ≠ feed) ∨ i = 0 ∨ ∃ seen : List Str, seen.length + 1 = i ∧ seen.Nodup ∧ (∀ s ∈ seen, s ∈ taken ∧ ∃ k, k + 1 < i ∧ Tr k s) ∧ Tr (i - 1) x)
theorem ahead_good {taken : List Str} {i : Nat} {x : Str} (h : Nm x) (h1 : x ∉ taken) (h2 : x ≠ feed) : Ahead taken (i + 1) x := ⟨h, .inl ⟨h1, h2⟩⟩
theorem ahead_bad {taken : List Str} {i : Nat} {x : Str} (hi : i < 101) (h : Ahead taken i x) (hb : x ∈ taken ∨ x = feed) : Ahead taken (i + 1) (tryOf i x) := by
  obtain ⟨n, h⟩ := h
  refine ⟨nm_try n hi, ?_⟩
  rcases h with ⟨h1, h2⟩ | rfl | ⟨seen, h1, h2, h3, h4⟩
  · rcases hb with q | q
    · exact absurd q h1
    · exact absurd q h2
  · exact .inr (.inr ⟨[], rfl, List.nodup_nil, (fun _ z => nomatch z), tr_try n⟩)
  · have hx : x ∈ taken := by
      rcases hb with q | q
      · exact q
      · exact absurd q (tr_feed h4)
    refine .inr (.inr ⟨x :: seen, by rw [List.length_cons]; omega, List.nodup_cons.mpr ⟨fun hm => ?_, h2⟩, fun s hs => ?_, tr_try n⟩)
    · obtain ⟨_, k, hk, ht⟩ := h3 x hm
      have := tr_inj (by omega) (by omega) ht h4
      omega
    · rcases List.mem_cons.mp hs with e | e
      · rw [e]
        exact ⟨hx, i - 1, by omega, h4⟩
      · obtain ⟨g1, k, g2, g3⟩ := h3 s e
        exact ⟨g1, k, by omega, g3⟩
theorem ahead_end {taken : List Str} {x : Str} (hl : taken.length ≤ 100) (h : Ahead taken (taken.length + 1) x) : Nm x ∧ x ∉ taken ∧ x ≠ feed := by
  obtain ⟨n, h⟩ := h
  refine ⟨n, ?_⟩
  rcases h with h | h | ⟨seen, h1, h2, h3, h4⟩
  · exact h
  · cases h
  · refine ⟨fun hx => ?_, tr_feed h4⟩
    have q := sub_len (l := x :: seen) (m := taken) (List.nodup_cons.mpr ⟨fun hm => ?_, h2⟩) fun s hs => by
      rcases List.mem_cons.mp hs with e | e
      · rw [e]; exact hx
      · exact (h3 s e).1
    · rw [List.length_cons] at q
      omega
    · obtain ⟨_, k, hk, ht⟩ := h3 x hm
      have := tr_inj (by omega) (by omega) ht h4
      omega
end Y

namespace Y
open PySem PySem.Spec PyProof.Rows L2 Ns
open C8 (pss_cut)
def txs (l : List Str) : List V := l.map V.str
def spName (K : PySem.W.Frag) : Sp := fun as H Q _ => ∃ (b a : Addr) (ts : List Str), as = [.ref b, .ref a] ∧ Bag H b ∧ SqL K (wo H b) a (txs ts) ∧ ts.length ≤ 100 ∧ (∀ t ∈ ts, Nm t) ∧ ∀ (x : Str) (H' : Hp), Nm x → x ∉ ts → x ≠ feed → Bag H' b → Sb b H H' → Q (.str x) H'
theorem dp_txs {K : PySem.W.Frag} {H : Hp} : ∀ ts : List Str, DpAll K H (txs ts) (ts.map PyData.str)
  | [] => .nil
  | t :: ts => .cons (.str t) (dp_txs ts)
theorem nm_ok {t : Str} (h : Nm t) : PyData.strOk t = true := by
  obtain ⟨c, r, e, h1, h2, _⟩ := h
  unfold PyData.strOk
  rw [Array.all_eq_true_iff_forall_mem]
  intro x hx
  have hx' : x ∈ t.cps.toList := by simpa using hx
  rw [e] at hx'
  refine decide_eq_true ?_
  rcases List.mem_cons.mp hx' with q | q
  · rw [q]; unfold isL at h1; omega
  · rcases h2 x q with z | z
    · unfold isL at z; omega
    · unfold isD at z; omega
theorem lay_txs : ∀ ts : List Str, (∀ t ∈ ts, Nm t) → PyData.canLayAll0 (ts.map PyData.str) = true ∧ PyData.depthAll (ts.map PyData.str) = 0
  | [], _ => ⟨rfl, rfl⟩
  | t :: ts, h => by
    obtain ⟨h1, h2⟩ := lay_txs ts fun t ht => h t (List.mem_cons_of_mem _ ht)
    exact ⟨by simp [PyData.canLayAll0, PyData.canLay0, h1, nm_ok (h t List.mem_cons_self)], by simp [PyData.depthAll, PyData.depth, h2]⟩
theorem shaped_txs {ts : List Str} (h : ∀ t ∈ ts, Nm t) : SeqAt.shaped (.list (ts.map PyData.str)) = true := by
  obtain ⟨h1, h2⟩ := lay_txs ts h
  simp [SeqAt.shaped, PyData.canLay0, PyData.depth, h1, h2]
theorem flat_txs (ts : List Str) : (txs ts).all flatV = true := by
  rw [List.all_eq_true]
  intro x hx
  obtain ⟨t, _, rfl⟩ := List.mem_map.mp hx
  rfl
theorem in_txs {x : Str} {ts : List Str} : inV (.str x) (txs ts) = true ↔ x ∈ ts := by
  unfold inV txs
  rw [List.any_map, List.any_eq_true]
  constructor
  · rintro ⟨y, hy, h⟩
    have e : y = x := by simpa [L2.eqV] using h
    rw [← e]; exact hy
  · intro h
    exact ⟨x, h, by simp [L2.eqV]⟩
theorem hx20 {x : Str} (h : Nm x) : x.length ≤ sizeLine := Nat.le_of_lt (small1000 (show x.length ≤ 1000 by have := h.len; omega))
section
variable {P : Program} {w : World} {K : PySem.W.Frag} {mg : Str → Option Value} {base : Heap}
theorem scN : FnScope ["bag", "taken", "letters", "signs", "name", "way", "k", "near"] ["bag", "taken"] (defScope sName) := ⟨rfl, rfl, rfl, by decide +kernel, rfl, by decide +kernel, by decide +kernel⟩
theorem ok_name {f fT fS : Addr} {fd fdT fdS : FuncData} (F : Fun K "_law_name" "_law_name" sName f fd) (T : Nat0 mg) (FT : Fun K "_law_take" "_law_take" sTake fT fdT) (mT : mg "_law_take" = some (.ref fT)) (bT : Binds K fdT ["bag", "many"] [])
    (FS : Fun K "_law_some" "_law_some" sSome fS fdS) (mS : mg "_law_some" = some (.ref fS)) (bS : Binds K fdS ["bag", "things"] []) :
    FnOk P w K mg base CX0 3 f fd ["bag", "taken"] (spName K) := by
  have GT : FnOk P w K mg base CX0 1 fT fdT ["bag", "many"] spTake := ok_take FT T
  have GS : FnOk P w K mg base CX0 2 fS fdS ["bag", "things"] (spSome K) := ok_some FS T FT mT bT
  have GZ : FnOk P w K mg base CX0 2 fS fdS ["bag", "things"] spSomeS := ok_someS FS T FT mT bT
  refine F.ok scN (fun as H Q E h => ?_) (fun cdv A outer s H as Q E hr h => ?_)
  · obtain ⟨b, a, ts, rfl, _⟩ := h
    rfl
  · obtain ⟨b, a, ts, rfl, hB, hS, hl, hn, k⟩ := h
    have hr1 : Room 1 _ := hr.mono (by decide)
    refine ⟨_, pss_cons (ps_asg (pe_tup (pa_cons pe_str (pa_cons pe_str pa_nil))) (pg_tup (by rfl) (pgs_cons (pg_name (i := 2) scN.nd rfl (.inl rfl)) (pgs_cons (pg_name (i := 3) scN.nd rfl (.inl rfl)) pgs_nil))))
      (pss_cons (ps_par (i := 4) (j := 5) rfl scN.nd rfl rfl (by decide) rfl rfl (pa_cons (pe_call GZ hr rfl mS FS.kp bS .nil pass0 (pa_cons (pv 0) (pa_cons (pv 2) pa_nil))) (pa_cons (pe_call GT hr1 rfl mT FT.kp bT .nil pass0 (pa_cons (pv 0) (pa_cons pe_int pa_nil))) pa_nil)) (by rfl))
      (pss_cons (ps_for PassesOwn.never rfl (pi_range1 (by rfl) T.range (pa_cons (pe_ix ix_list (pe_lst (pa_cons pe_int (pa_cons pe_int (pa_cons pe_int (pa_cons pe_int (pa_cons pe_int (pa_cons pe_int pa_nil))))))) (pv 5) (fun _ _ => rfl)) pa_nil)) (pg_name (i := 6) scN.nd rfl (.inl rfl))
        (pss_one (ps_set (i := 4) scN.nd rfl (.inl rfl) (pe_op op_add_str (pv 4) (pe_call GZ hr rfl mS FS.kp bS .nil pass0 (pa_cons (pv 0) (pa_cons (pv 3) pa_nil)))))))
      (pss_cut (ps_if (PW.pt (pw_and (pt_cmpR (op_neD hr.units) (pv 1) (pe_lst pa_nil) (nomark _)) (pw_and1 (pt_cmpR op_eq (pe_call GT hr1 rfl mT FT.kp bT .nil pass0 (pa_cons (pv 0) (pa_cons pe_int pa_nil))) pe_int (nomark _)))))
        (pss_cons (ps_set (i := 7) scN.nd rfl (.inl rfl) (pe_call GS hr rfl mS FS.kp bS .nil pass0 (pa_cons (pv 0) (pa_cons (pv 1) pa_nil))))
        (pss_one (ps_set (i := 4) scN.nd rfl (.inl rfl) (pe_op op_add_str (pe_ifExp (pt_cmpR op_eq (pe_call GT hr1 rfl mT FT.kp bT .nil pass0 (pa_cons (pv 0) (pa_cons pe_int pa_nil))) pe_int (nomark _)) (pe_slice sl_str (pv 7) po_none (po_some pe_int)) (pe_slice sl_str (pv 7) po_none (po_some pe_int)))
          (pe_call GZ hr rfl mS FS.kp bS .nil pass0 (pa_cons (pv 0) (pa_cons (pv 3) pa_nil))))))) pss_nil)
      (pss_cons (ps_for PassesOwn.never rfl (pi_range1 (by rfl) T.range (pa_cons (pe_op op_add (pe_callB call_len_seq (by rfl) T.len PySem.boot_len (pa_cons (pv 1) pa_nil)) pe_int) pa_nil)) (pg_name (i := 6) scN.nd rfl (.inl rfl))
        (pss_one (ps_if (PW.pt (pw_or (pt_cmpR op_in_seq (pv 4) (pv 1) (by rfl)) (pw_or1 (pt_cmpR op_eq (pv 4) pe_str (nomark _)))))
          (pss_one (ps_set (i := 4) scN.nd rfl (.inl rfl) (pe_op op_add_str (pe_op op_add_str pe_str (pe_callTy call_str_int (by rfl) T.str (by decide +kernel) (pa_cons (pv 6) pa_nil))) (pe_slice sl_str (pv 4) po_none (po_some pe_int))))) pss_nil)))
      (pss_one (ps_ret (pv 4))))))), ?_⟩
    refine ⟨by show 2 ≤ sizeLine; decide, fun p hp => ?_⟩
    refine ⟨p, _, rfl, SqT.of upd_same, rfl, ?_⟩
    have hB0 : Bag (upd H p (.tup [.str letters, .str signs])) b := hB.new hp
    have s0 : Sb b H (upd H p (.tup [.str letters, .str signs])) := (Sb.refl b H).new hp
    refine ⟨_, _, rfl, _, _, rfl, rfl, ?_⟩
    refine ⟨_, rfl, _, rfl, b, letters, rfl, hB0, by decide, by decide, fun c0 H1 hc0 hB1 s1 => ?_⟩
    refine ⟨_, rfl, b, 6, rfl, hB1, by decide, by decide, fun way H2 w0 w1 hB2 s2 => ?_⟩
    refine ⟨_, _, rfl, ?_⟩
    have s02 := (s0.trans s1).trans s2
    refine ⟨by show 6 ≤ sizeLine; decide, fun q hq => ⟨_, rfl, ?_⟩⟩
    obtain ⟨m, hm, hat⟩ : ∃ m : Nat, m ≤ 19 ∧ atI [V.int 0, V.int 1, V.int 2, V.int 5, V.int 12, V.int 19] way = some (.int m) := by
      have : way = 0 ∨ way = 1 ∨ way = 2 ∨ way = 3 ∨ way = 4 ∨ way = 5 := by omega
      rcases this with rfl | rfl | rfl | rfl | rfl | rfl
      · exact ⟨0, by decide, atI_nat (j := 0) rfl⟩
      · exact ⟨1, by decide, atI_nat (j := 1) rfl⟩
      · exact ⟨2, by decide, atI_nat (j := 2) rfl⟩
      · exact ⟨5, by decide, atI_nat (j := 3) rfl⟩
      · exact ⟨12, by decide, atI_nat (j := 4) rfl⟩
      · exact ⟨19, by decide, atI_nat (j := 5) rfl⟩
    refine ⟨q, _, way, _, rfl, rfl, SqL.of upd_same, hat, ?_⟩
    have hB3 := hB2.new (o := .lst [V.int 0, V.int 1, V.int 2, V.int 5, V.int 12, V.int 19]) hq
    have s3 := s02.new (o := .lst [V.int 0, V.int 1, V.int 2, V.int 5, V.int 12, V.int 19]) hq
    refine ⟨m, rfl, by omega, by omega, for_range (n := (m : Int).toNat) (fun i σ H' => ∃ (x : Str) (kk : Option V), σ = [some (.ref b), some (.ref a), some (.str letters), some (.str signs), some (.str x), some (.int way), kk, none] ∧ Nm x ∧ x.length ≤ i + 1 ∧ Bag H' b ∧ Sb b H H') ?_ ?_ ?_⟩
    · exact ⟨⟨#[c0]⟩, none, rfl, nm_one (letters_ok c0 hc0), Nat.le_refl 1, hB3, s3⟩
    · rintro i σ H' hi ⟨x, kk, rfl, hx, hxl, hB4, s4⟩
      refine ⟨_, rfl, _, rfl, _, rfl, b, signs, rfl, hB4, by decide, by decide, fun c H5 hc hB5 s5 => ?_⟩
      have hz : x.length ≤ 19 := by omega
      refine ⟨x, ⟨#[c]⟩, rfl, rfl, ?_, x ++ ⟨#[c]⟩, _, rfl, nm_snoc hx hz (signs_ok c hc), ?_, hB5, s4.trans s5⟩
      · exact Nat.le_of_lt (small1000 (show x.length + 1 ≤ 1000 by omega))
      · rw [strLen_append]
        show x.length + 1 ≤ _
        omega
    rintro σ H' ⟨x, kk, rfl, hx, hxl, hB4, s4⟩
    refine ⟨fun σ' H' => ∃ (x : Str) (kk nn : Option V), σ' = [some (.ref b), some (.ref a), some (.str letters), some (.str signs), some (.str x), some (.int way), kk, nn] ∧ Nm x ∧ Bag H' b ∧ Sb b H H', ?_, ?_⟩
    · refine ⟨_, rfl, by show 0 ≤ sizeLine; decide, fun r hr' => ?_⟩
      have hB5 := hB4.new (o := .lst []) hr'
      have s5 := s4.new (o := .lst []) hr'
      have hSn : SqL K (upd H' r (.lst [])) a (txs ts) := (wo_sub _ b).seq (s5.sl hS)
      refine ⟨.list (ts.map PyData.str), .list [], .lst hSn (dp_txs ts), .lst (SqL.of upd_same) .nil, shaped_txs hn, by decide +kernel, _, rfl, ?_⟩
      refine ite2 (fun hne => ?_) (fun _ => ⟨x, _, _, rfl, hx, hB5, s5⟩)
      have ne : txs ts ≠ [] := by
        rintro e
        have e' : ts = [] := List.map_eq_nil_iff.mp e
        rw [e'] at hne
        revert hne
        decide
      refine ⟨_, rfl, b, 3, rfl, hB5, by decide, by decide, fun v H6 v0 v1 hB6 s6 => ⟨rfl, _, rfl, ?_⟩⟩
      refine ite2 (fun _ => ?_) (fun _ => ⟨x, _, _, rfl, hx, hB6, s5.trans s6⟩)
      have s06 := s5.trans s6
      refine ⟨_, rfl, _, rfl, b, a, _, rfl, hB6, s06.sl hS, ne, ?_, fun y H7 hy hB7 s7 => ?_⟩
      · rw [show (txs ts).length = ts.length from List.length_map _]
        omega
      obtain ⟨t, ht, rfl⟩ := List.mem_map.mp hy
      have nt := hn t ht
      have s07 := s06.trans s7
      have tl : t.length ≤ sizeLine := Nat.le_of_lt (small1000 (show t.length ≤ 1000 by have := nt.len; omega))
      refine ⟨_, rfl, b, 2, rfl, hB7, by decide, by decide, fun v2 H8 v20 v21 hB8 s8 => ⟨rfl, _, rfl, ?_⟩⟩
      have s08 := s07.trans s8
      refine ite2 (fun _ => ?_) (fun _ => ?_)
      · refine ⟨_, rfl, _, rfl, t, rfl, tl, _, rfl, _, rfl, b, signs, rfl, hB8, by decide, by decide, fun c H9 hc hB9 s9 => ?_⟩
        obtain ⟨n1, n2⟩ : Nm (cutS t none (some (19 : Int))) ∧ (cutS t none (some (19 : Int))).length ≤ 19 := nm_cut nt (k := 19) (by decide)
        refine ⟨_, _, rfl, rfl, ?_, _, _, _, rfl, nm_snoc n1 n2 (signs_ok c hc), hB9, s08.trans s9⟩
        exact Nat.le_of_lt (small1000 (show _ + 1 ≤ 1000 by omega))
      · refine ⟨_, rfl, _, rfl, t, rfl, tl, _, rfl, _, rfl, b, signs, rfl, hB8, by decide, by decide, fun c H9 hc hB9 s9 => ?_⟩
        obtain ⟨n1, n2⟩ : Nm (cutS t none (some (1 : Int))) ∧ (cutS t none (some (1 : Int))).length ≤ 1 := nm_cut nt (k := 1) (by decide)
        refine ⟨_, _, rfl, rfl, ?_, _, _, _, rfl, nm_snoc n1 (Nat.le_trans n2 (by decide)) (signs_ok c hc), hB9, s08.trans s9⟩
        exact Nat.le_of_lt (small1000 (show _ + 1 ≤ 1000 by omega))
    rintro σ' H5 ⟨x, kk, nn, rfl, hx, hB5, s5⟩
    have tz : (txs ts).length = ts.length := List.length_map _
    refine ⟨_, rfl, a, _, rfl, .inl ((wo_sub _ b).seq (s5.sl hS)), ((txs ts).length : Nat), 1, rfl, rfl, ?_⟩
    refine ⟨_, rfl, by omega, by omega, for_range (n := (((txs ts).length : Int) + 1).toNat) (fun i σ H' => ∃ (x : Str) (kk : Option V), σ = [some (.ref b), some (.ref a), some (.str letters), some (.str signs), some (.str x), some (.int way), kk, nn] ∧ Ahead ts i x ∧ Bag H' b ∧ Sb b H H') ?_ ?_ ?_⟩
    · exact ⟨x, kk, rfl, ⟨hx, .inr (.inl rfl)⟩, hB5, s5⟩
    · rintro i σ H' hi ⟨x, kk, rfl, hA, hB6, s6⟩
      refine ⟨_, rfl, _, rfl, a, _, rfl, .inl ((wo_sub _ b).seq (s6.sl hS)), rfl, flat_txs ts, _, rfl, ?_⟩
      have i100 : i < 101 := by omega
      have xl := hx20 hA.1
      have go : ∀ (Z : Str → Hp → Prop), Z (tryOf i x) H' → Z ("x" ++ toString (0 + (i : Int)) ++ cutS x none (some 16)) H' := fun Z z => by rw [Int.zero_add]; exact z
      have l1 : (0 + (i : Int)).natAbs.log2 < 1920 := log2_small (Nat.lt_of_le_of_lt (show (0 + (i : Int)).natAbs ≤ 100 by omega) (by decide +kernel))
      have l2 : ("x" : Str).length + (toString (0 + (i : Int)) : Str).length ≤ sizeLine := by
        rw [Int.zero_add]
        have := (dg_digits i i100).2
        unfold Dg at this
        rw [len_cps] at this
        exact Nat.le_of_lt (small1000 (show 1 + _ ≤ 1000 by omega))
      have l3 : (("x" : Str) ++ (toString (0 + (i : Int)) : Str)).length + (cutS x none (some 16)).length ≤ sizeLine := by
        rw [Int.zero_add, strLen_append]
        have := (dg_digits i i100).2
        unfold Dg at this
        rw [len_cps] at this
        have : (cutS x none (some (16 : Int))).length ≤ 16 := (nm_cut hA.1 (k := 16) (by decide)).2
        exact Nat.le_of_lt (small1000 (show 1 + _ + _ ≤ 1000 by omega))
      refine ite2 (fun hin => ?_) (fun hin => ?_)
      · refine iteT ?_
        refine ⟨_, rfl, _, rfl, l1, _, _, rfl, rfl, l2, _, rfl, _, rfl, _, rfl, xl, _, _, rfl, rfl, l3, _, _, rfl, ?_, hB6, s6⟩
        rw [Int.zero_add]
        exact ahead_bad i100 hA (.inl (in_txs.mp hin))
      · refine ⟨_, rfl, rfl, _, rfl, ?_⟩
        refine ite2 (fun heq => ?_) (fun hne => ?_)
        · refine ⟨_, rfl, _, rfl, l1, _, _, rfl, rfl, l2, _, rfl, _, rfl, _, rfl, xl, _, _, rfl, rfl, l3, _, _, rfl, ?_, hB6, s6⟩
          rw [Int.zero_add]
          exact ahead_bad i100 hA (.inr (by simpa using heq))
        · exact ⟨x, _, rfl, ahead_good hA.1 (fun z => hin (in_txs.mpr z)) (by simpa using hne), hB6, s6⟩
    · rintro σ H' ⟨x, kk, rfl, hA, hB6, s6⟩
      obtain ⟨n1, n2, n3⟩ := ahead_end (x := x) hl (by rw [tz] at hA; exact hA)
      exact ⟨_, rfl, k x H' n1 n2 n3 hB6 s6⟩
end
end Y

namespace Y
open PySem PySem.Spec PyProof.Rows L2 Ns
open C8 (pss_cut)
theorem cut_from (xs : List V) (k : Nat) : cutV xs (some (k : Int)) none = xs.drop k := by
  unfold cutV
  rw [HT.sIx_nat, HT.sIx_none]
  rcases Nat.lt_or_ge xs.length k with h | h
  · rw [Nat.min_eq_right (Nat.le_of_lt h), Nat.sub_self, List.take_zero, List.drop_of_length_le (Nat.le_of_lt h)]
  · rw [Nat.min_eq_left h]
    exact List.take_of_length_le (by rw [List.length_drop]; exact Nat.le_refl _)
theorem cut_upto (xs : List V) (k : Nat) : cutV xs none (some (k : Int)) = xs.take k := by
  unfold cutV
  rw [HT.sIx_nat, HT.sIx_none, List.drop_zero, Nat.sub_zero]
  rw [List.take_eq_take_iff]
  omega
/-- a list that stands apart from the bag -/
theorem sql_new {K : PySem.W.Frag} {H : Hp} {b p : Addr} {xs : List V} (e : H p = some (.lst xs)) (n : p ≠ b) : SqL K (wo H b) p xs := SqL.of ((wo_ne n).trans e)
theorem sqt_new {K : PySem.W.Frag} {H : Hp} {b p : Addr} {xs : List V} (e : H p = some (.tup xs)) (n : p ≠ b) : SqT K (wo H b) p xs := SqT.of ((wo_ne n).trans e)
/-- new names -/
structure Nms (ts xs : List Str) : Prop where
  nm : ∀ x ∈ xs, Nm x
  nodup : xs.Nodup
  off : ∀ x ∈ xs, x ∉ ts ∧ x ≠ feed
def spNames (K : PySem.W.Frag) : Sp := fun as H Q _ => ∃ (b a : Addr) (m : Nat) (ts : List Str), as = [.ref b, .int m, .ref a] ∧ Bag H b ∧ SqL K (wo H b) a (txs ts) ∧ ts.length + m ≤ 100 ∧ (∀ t ∈ ts, Nm t) ∧
  ∀ (p : Addr) (xs : List Str) (H' : Hp), xs.length = m → Nms ts xs → H' p = some (.lst (txs xs)) → H p = none → Bag H' b → Sb b H H' → Q (.ref p) H'
def spSize : Sp := fun as H Q _ => ∃ (b : Addr) (m : Int), as = [.ref b, .int m] ∧ Bag H b ∧ 0 ≤ m ∧ m ≤ 10 ^ 13 ∧ ∀ (v : Int) (H' : Hp), 0 ≤ v → v ≤ m → Bag H' b → Sb b H H' → Q (.int v) H'
section
variable {P : Program} {w : World} {K : PySem.W.Frag} {mg : Str → Option Value} {base : Heap}
theorem scNs : FnScope ["bag", "many", "taken", "found", "k"] ["bag", "many", "taken"] (defScope sNames) := ⟨rfl, rfl, rfl, by decide +kernel, rfl, by decide +kernel, by decide +kernel⟩
theorem ok_names {f fN : Addr} {fd fdN : FuncData} (F : Fun K "_law_names" "_law_names" sNames f fd) (T : Nat0 mg) (GN : FnOk P w K mg base CX0 3 fN fdN ["bag", "taken"] (spName K)) (FN : Fun K "_law_name" "_law_name" sName fN fdN) (mN : mg "_law_name" = some (.ref fN)) (bN : Binds K fdN ["bag", "taken"] []) :
    FnOk P w K mg base CX0 4 f fd ["bag", "many", "taken"] (spNames K) := by
  refine F.ok scNs (fun as H Q E h => ?_) (fun cdv A outer s H as Q E hr h => ?_)
  · obtain ⟨b, a, m, ts, rfl, _⟩ := h
    rfl
  · obtain ⟨b, a, m, ts, rfl, hB, hS, hl, hn, k⟩ := h
    refine ⟨_, pss_cons (ps_set (i := 3) scNs.nd rfl (.inl rfl) (pe_callTy call_list_of (by rfl) T.list_ (by decide +kernel) (pa_cons (pv 2) pa_nil)))
      (pss_cons (ps_for PassesOwn.never rfl (pi_range1 (by rfl) T.range (pa_cons (pv 1) pa_nil)) (pg_name (i := 4) scNs.nd rfl (.inl rfl))
        (pss_one (ps_expr (pe_bm PySem.F.plainAttrs_list PySem.F.slot_list_append PySem.F.type_list_append mt_append (pv 3) (pa_cons (pe_call GN hr rfl mN FN.kp bN .nil pass0 (pa_cons (pv 0) (pa_cons (pv 3) pa_nil))) pa_nil)))))
      (pss_one (ps_ret (pe_slice sl_list (pv 3) (po_some (pe_callB call_len_seq (by rfl) T.len PySem.boot_len (pa_cons (pv 2) pa_nil))) po_none)))), ?_⟩
    refine ⟨_, rfl, a, _, rfl, .inl ((wo_sub H b).seq hS), fun p hp => ?_⟩
    have npb : p ≠ b := hB.ne hp
    refine ⟨_, rfl, m, rfl, by omega, by omega, for_range (n := ((m : Int)).toNat) (fun i σ H' => ∃ (kk : Option V) (xs : List Str), σ = [some (.ref b), some (.int m), some (.ref a), some (.ref p), kk] ∧ xs.length = i ∧ Nms ts xs ∧ H' p = some (.lst (txs (ts ++ xs))) ∧ Bag H' b ∧ Sb b H H') ?_ ?_ ?_⟩
    · exact ⟨none, [], rfl, rfl, ⟨(fun _ z => nomatch z), List.nodup_nil, (fun _ z => nomatch z)⟩, by rw [upd_same, List.append_nil], hB.new hp, (Sb.refl b H).new hp⟩
    · rintro i σ H' hi ⟨kk, xs, rfl, hx, N, e, hB1, s1⟩
      have hlen : (ts ++ xs).length ≤ 100 := by rw [List.length_append]; omega
      refine ⟨_, rfl, .inl ⟨rfl, _, SqL.of e⟩, _, rfl, _, rfl, b, p, ts ++ xs, rfl, hB1, sql_new e npb, hlen, fun t ht => ?_, fun x H2 nx n1 n2 hB2 s2 => ?_⟩
      · rcases List.mem_append.mp ht with q | q
        · exact hn t q
        · exact N.nm t q
      · have e2 := s2.get e npb
        refine ⟨p, _, _, rfl, rfl, e2, small1000 ?_, ⟨_, xs ++ [x], rfl, by rw [List.length_append, hx]; rfl, ⟨fun y hy => ?_, ?_, fun y hy => ?_⟩, ?_, hB.wr hp (s1.trans s2) hB2, (s1.trans s2).wr hp⟩⟩
        · rw [show (txs (ts ++ xs)).length = (ts ++ xs).length from List.length_map _]
          omega
        · rcases List.mem_append.mp hy with q | q
          · exact N.nm y q
          · rw [List.mem_singleton.mp q]; exact nx
        · rw [List.nodup_append]
          refine ⟨N.nodup, List.nodup_cons.mpr ⟨(fun z => nomatch z), List.nodup_nil⟩, fun y hy z hz => ?_⟩
          rw [List.mem_singleton.mp hz]
          rintro rfl
          exact n1 (List.mem_append_right _ hy)
        · rcases List.mem_append.mp hy with q | q
          · exact N.off y q
          · rw [List.mem_singleton.mp q]
            exact ⟨fun z => n1 (List.mem_append_left _ z), n2⟩
        · rw [upd_same, ← List.append_assoc]
          unfold txs
          rw [List.map_append (l₁ := ts ++ xs)]
          rfl
    · rintro σ H' ⟨kk, xs, rfl, hx, N, e, hB1, s1⟩
      refine ⟨_, rfl, _, rfl, a, _, rfl, .inl ((wo_sub H' b).seq (s1.sl hS)), _, rfl, p, _, rfl, SqL.of e, fun q hq => ?_⟩
      have e4 : cutV (txs (ts ++ xs)) (some (((txs ts).length : Nat) : Int)) none = txs xs := by
        rw [cut_from]
        unfold txs
        rw [List.map_append, List.drop_left]
      rw [e4]
      exact k q xs _ (by omega) N upd_same (s1.free hq (hB1.ne hq)) (hB1.new hq) (s1.new hq)
theorem scZ : FnScope ["bag", "most", "small"] ["bag", "most"] (defScope sSize) := ⟨rfl, rfl, rfl, by decide +kernel, rfl, by decide +kernel, by decide +kernel⟩
theorem ok_size {f fT fS : Addr} {fd fdT fdS : FuncData} (F : Fun K "_law_size" "_law_size" sSize f fd) (T : Nat0 mg) (FT : Fun K "_law_take" "_law_take" sTake fT fdT) (mT : mg "_law_take" = some (.ref fT)) (bT : Binds K fdT ["bag", "many"] [])
    (FS : Fun K "_law_some" "_law_some" sSome fS fdS) (mS : mg "_law_some" = some (.ref fS)) (bS : Binds K fdS ["bag", "things"] []) :
    FnOk P w K mg base CX0 3 f fd ["bag", "most"] spSize := by
  have GT : FnOk P w K mg base CX0 1 fT fdT ["bag", "many"] spTake := ok_take FT T
  have GS : FnOk P w K mg base CX0 2 fS fdS ["bag", "things"] (spSome K) := ok_some FS T FT mT bT
  refine F.ok scZ (fun as H Q E h => ?_) (fun cdv A outer s H as Q E hr h => ?_)
  · obtain ⟨b, m, rfl, _⟩ := h
    rfl
  · obtain ⟨b, m, rfl, hB, h0, h1, k⟩ := h
    have hr1 : Room 1 _ := hr.mono (by decide)
    refine ⟨_, pss_cons (ps_set (i := 2) scZ.nd rfl (.inl rfl) (pe_call GT hr1 rfl mT FT.kp bT .nil pass0 (pa_cons (pv 0) (pa_cons (pe_op op_add (pe_callB (call_min2 rfl) (by rfl) T.min (by decide +kernel) (pa_cons (pv 1) (pa_cons pe_int pa_nil))) pe_int) pa_nil))))
      (pss_one (ps_ret (pe_call GS hr rfl mS FS.kp bS .nil pass0 (pa_cons (pv 0) (pa_cons (pe_lst (pa_cons (pv 2) (pa_cons (pv 2) (pa_cons (pv 2) (pa_cons (pe_callB (call_min2 rfl) (by rfl) T.min (by decide +kernel) (pa_cons (pv 1) (pa_cons pe_int pa_nil)))
        (pa_cons (pe_call GT hr1 rfl mT FT.kp bT .nil pass0 (pa_cons (pv 0) (pa_cons (pe_op op_add (pv 1) pe_int) pa_nil))) (pa_cons (pv 1) pa_nil))))))) pa_nil))))), ?_⟩
    have big : ((10 : Int) ^ 13 + 1).natAbs < 2 ^ 200 := by decide +kernel
    refine ⟨_, rfl, _, rfl, m, 6, rfl, _, 1, rfl, rfl, b, _, rfl, hB, ?_, ?_, fun v H1 v0 v1 hB1 s1 => ?_⟩
    · split <;> omega
    · refine Nat.lt_of_le_of_lt ?_ big
      split <;> omega
    refine ⟨_, rfl, _, rfl, _, rfl, _, rfl, _, rfl, m, 1, rfl, _, rfl, _, rfl, m, 1, rfl, rfl, b, _, rfl, hB1, by omega, Nat.lt_of_le_of_lt (show (m + 1).natAbs ≤ _ by omega) big, fun u H2 u0 u1 hB2 s2 => ?_⟩
    refine ⟨_, rfl, by show 6 ≤ sizeLine; decide, fun p hp => ?_⟩
    refine ⟨b, p, _, rfl, hB2.new hp, sql_new upd_same (hB2.ne hp), (fun z => nomatch z), by show 6 ≤ 1000000; decide, fun x H' hx hB' s' => ?_⟩
    have fin : ∀ i : Int, x = .int i → 0 ≤ i → i ≤ m → Q x H' := fun i e g0 g1 => by
      rw [e]
      exact k i H' g0 g1 hB' (((s1.trans s2).new hp).trans s')
    have v1' : v ≤ m := by
      by_cases c : (6 : Int) < m
      · rw [if_pos c] at v1; omega
      · rw [if_neg c] at v1; omega
    simp only [List.mem_cons, List.not_mem_nil, or_false] at hx
    rcases hx with rfl | rfl | rfl | rfl | rfl | rfl
    · exact fin v rfl v0 v1'
    · exact fin v rfl v0 v1'
    · exact fin v rfl v0 v1'
    · refine fin _ rfl ?_ ?_ <;> split <;> omega
    · exact fin u rfl u0 (by omega)
    · exact fin m rfl h0 (Int.le_refl m)
end
end Y

/-! NsS: sorted(xs) of data that are alike; sorted(d), d with pairs of texts as keys. -/
namespace Ns
open PySem PySem.Spec PyProof.Rows L2
open PySem.W (dataLe AllAlike Sortable EachIs)
section
variable {X : Cx}
theorem each_vals {bs : List (V × PyData)} : ∀ {out : List Value}, EachIs (fun v (b : V × PyData) => RelV b.1 v) out bs → Vals (bs.map (·.1)) out
  | _, .nil => .nil
  | _, .cons h t => .cons h (each_vals t)
theorem vals_each {bs : List (V × PyData)} : ∀ {us : List Value}, Vals (bs.map (·.1)) us → EachIs (fun v (b : V × PyData) => RelV b.1 v) us bs := by
  induction bs with
  | nil => intro us r; cases r; exact .nil
  | cons b bs ih => intro us r; cases r with
    | cons h t => exact .cons h (ih t)
theorem each_and {α β : Type} {R S : α → β → Prop} : ∀ {as : List α} {bs : List β}, EachIs R as bs → (∀ b ∈ bs, ∀ a, R a b → S a b) → EachIs S as bs
  | _, _, .nil, _ => .nil
  | _, _, .cons h t, k => .cons (k _ List.mem_cons_self _ h) (each_and t fun b hb => k b (List.mem_cons_of_mem _ hb))
/-- sorted(xs): alike data in Python's order -/
def rSortG (K : PySem.W.Frag) : List V → Hp → VK → Prop := fun vs H Q => ∃ (a : Addr) (bs : List (V × PyData)), vs = [V.ref a] ∧ SqL K H a (bs.map (·.1)) ∧ (∀ p ∈ bs, DatV K H p.1 p.2 ∧ p.2.depth ≤ 60) ∧ AllAlike (bs.map (·.2)) ∧ Sortable (bs.map (·.2)) ∧ bs.length ≤ sizeLine ∧
  ∀ p, H p = none → Q (.ref p) (upd H p (.lst ((bs.mergeSort (dataLe false (·.2))).map (·.1))))
theorem cr_sortG (hu : X.A.units + 64 < cLine) : CallR X (.builtin "sorted") (rSortG X.K) := by
  intro pins s σ H vs us Q I r h
  obtain ⟨a, bs, rfl, hs, hD, ha, hk, hz, q⟩ := h
  obtain ⟨its, rv, hl, _⟩ := I.list hs
  rw [Vals.ref1 r]
  have e := vals_each rv
  refine PySem.W.sorted_data (enc := fun b : V × PyData => b.2) hl.isList e (each_and e fun b hb v rb => reads_of I (hD b hb).1 rb) ha hk hz (fun b hb => by have := (hD b hb).2; omega) fun out hlo ho => ?_
  obtain ⟨ep, he'⟩ := PyProof.Rows.sortedAll_at s.heap its out.toArray
  have hlen : ((bs.mergeSort (dataLe false (·.2))).map (·.1)).length ≤ sizeLine := by rw [List.length_map, List.length_mergeSort]; exact hz
  exact ⟨.ref _, upd H (s.heap.objs.size + 1) (.lst ((bs.mergeSort (dataLe false (·.2))).map (·.1))), I.laid (t' := s.toks) (fun _ _ => PyProof.Rows.sortedAll_old) (Nat.le_succ _) ⟨hlen, out, ep, each_vals ho, by simpa using he'⟩, rfl, q _ (I.hok.fresh (Nat.le_succ _))⟩
/-- two rows of one length that agree at each place -/
theorem rows_same {α β : Type} {f : α → β} : ∀ {xs : List β} {ks : List α}, xs.length = ks.length → (∀ (j : Nat) (v : β) (b : α), xs[j]? = some v → ks[j]? = some b → v = f b) → xs = ks.map f
  | [], [], _, _ => rfl
  | v :: xs, b :: ks, hl, h => by
    rw [List.map_cons, h 0 v b rfl rfl, rows_same (Nat.succ.inj hl) fun j u c h1 h2 => h (j + 1) u c h1 h2]
/-- a pair of texts as data -/
def pD (k : Str × Str) : PyData := .tuple [.str k.1, .str k.2]
def pK (k : Str × Str) : List Key := [.inr k.1, .inr k.2]
/-- sorted(d), d with pairs of texts as keys: the keys' own tuples -/
def rSortDT : List V → Hp → VK → Prop := fun vs H Q => ∃ (a : Addr) (kvs : List (List Key × V)) (ks : List (Str × Str)), vs = [V.ref a] ∧ Rd H a (.dT kvs) ∧ kvs.map (·.1) = ks.map pK ∧ ks.length ≤ 1000 ∧
  ∀ (p : Addr) (qs : List Addr), H p = none → Paired (fun (q : Addr) (k : Str × Str) => H q = some (.tup [.str k.1, .str k.2])) qs (ks.mergeSort (dataLe false pD)) → Q (.ref p) (upd H p (.lst (qs.map V.ref)))
theorem isKeys_pairs {H : Hp} : ∀ {kvs : List (List Key × V)} {bs : List Addr} {ks : List (Str × Str)}, IsKeys H kvs bs → kvs.map (·.1) = ks.map pK → Paired (fun (q : Addr) (k : Str × Str) => H q = some (.tup [.str k.1, .str k.2])) bs ks
  | [], _, [], .nil, _ => .nil
  | [], _, _ :: _, _, e => by cases e
  | _ :: _, _, [], _, e => by cases e
  | kv :: kvs, _, k :: ks, .cons h t, e => by
    injection e with e1 e2
    refine .cons ?_ (isKeys_pairs t e2)
    rw [show kv.1 = pK k from e1] at h
    exact h
theorem pair_each {R : Addr → Str × Str → Prop} : ∀ {qs : List Addr} {ks : List (Str × Str)}, Paired R qs ks → EachIs (fun v k => ∃ q, v = Value.ref q ∧ R q k) (qs.map Value.ref) ks
  | _, _, .nil => .nil
  | _, _, .cons h t => .cons ⟨_, rfl, h⟩ (pair_each t)
theorem each_pair {R : Addr → Str × Str → Prop} : ∀ {out : List Value} {ks : List (Str × Str)}, EachIs (fun v k => ∃ q, v = Value.ref q ∧ R q k) out ks → ∃ qs : List Addr, out = qs.map Value.ref ∧ Paired R qs ks
  | _, _, .nil => ⟨[], rfl, .nil⟩
  | _, _, .cons ⟨q, e, h⟩ t => by
    obtain ⟨qs, e2, p⟩ := each_pair t
    exact ⟨q :: qs, by rw [e, e2]; rfl, .cons h p⟩
theorem alike_pD (ks : List (Str × Str)) : AllAlike (ks.map pD) := AllAlike.of fun _ _ => by simp [PySem.W.alike, PySem.W.alikeAll, pD]
theorem sortable_pD (ks : List (Str × Str)) : Sortable (ks.map pD) := Sortable.tuples fun _ => ⟨_, _, rfl⟩
theorem cr_sortDT (hc : X.calm = true) (hu : X.A.units + 64 < cLine) : CallR X (.builtin "sorted") rSortDT := by
  intro pins s σ H xs us Q I r h
  obtain ⟨d, kvs, kk, rfl, hd, hkk, h1000, q⟩ := h
  obtain ⟨u, rfl, rx⟩ := r.one
  cases rx
  obtain ⟨z, hs, ks, pr, o, es, ep, ho, hx, hdt, he, hn⟩ := (show ObjOk X.prog X.w H s.heap d (.dT kvs) from hd.ok I.hok)
  have l1 : es.size = ks.length := size_of_entries he
  have l2 : kvs.length = ks.length := Paired.length pr
  have l3 : kvs.length = kk.length := by
    have := congrArg List.length hkk
    rw [List.length_map, List.length_map] at this
    exact this
  have z16 : sizeLine = 16777216 := sizeLine_eq
  refine Calls.call_function_entry PyProof.Rows.kind_sorted PyProof.Rows.plain_sorted PyProof.Rows.entry_sorted (PyProof.Rows.args_sorted1 _) ?_
  unfold Builtin.«sorted»
  refine wpAny_bind (m := checkCount "sorted" 1 1 _) (wpAny_pure ?_)
  refine wpAny_bind (PySem.W.kdu_collect (A := X.A.in1) (kdl_raw hs hx hdt) (I.ok.hd hc) ho (by omega) fun h' tk acc hk it => ?_)
  have hsz : acc.toList.length = ks.length := (Array.length_toList).trans (it.1.trans l1)
  have ea : acc.toList = ks.map fun x => Value.ref x.2.1 := by
    refine rows_same hsz fun j v b hv hb => ?_
    obtain ⟨en, hen, rfl⟩ := it.2 j v ((Array.getElem?_toList).symm.trans hv)
    have q := (entry_at he j).symm.trans hen
    rw [hb] at q
    cases q
    rfl
  have eb : acc.toList = (ks.map fun x => x.2.1).map Value.ref := by rw [ea, List.map_map]; all_goals rfl
  have hP := isKeys_pairs (isKeys_of pr) hkk
  have hal : acc.toList.length = kk.length := by rw [Array.length_toList, it.1, l1, ← l2, l3]
  have I1 : Inv X pins σ H { s with heap := h', toks := tk } := I.kept hk
  refine wpAny_bind (wpAny_newList ?_ (by rw [hal]; omega))
  have hoL : (h'.push (seqObj "list" acc.toList.toArray 0)).get? h'.objs.size = some (seqObj "list" acc.toList.toArray 0) := Heap.get?_push_size _ rfl
  show wpAny _ _ _ _ _ { s with heap := h'.push (seqObj "list" acc.toList.toArray 0), toks := tk }
  have e0 : EachIs (fun v (k : Str × Str) => ∃ q, v = Value.ref q ∧ H q = some (.tup [.str k.1, .str k.2])) acc.toList kk := by
    rw [eb]
    exact pair_each hP
  refine wpAny_bind (wpAny_holding (PySem.W.list_sort_data (enc := pD) (s := { s with heap := h'.push (seqObj "list" acc.toList.toArray 0), toks := tk }) hoL e0 (each_and e0 fun k _ v rv => ?_) (alike_pD kk) (sortable_pD kk) (by omega) (fun k _ => ?_) fun out hlo hO => ?_))
  · obtain ⟨q, rfl, hq⟩ := rv
    obtain ⟨_, its, rv2, ot, hot, hct, nt, hdtt⟩ := (show ObjOk X.prog X.w H h' q (.tup [.str k.1, .str k.2]) from I1.hok q _ hq)
    obtain ⟨u1, u2, rfl, r1, r2⟩ := rv2.two
    obtain ⟨t1, rfl⟩ := r1
    obtain ⟨t2, rfl⟩ := r2
    refine ⟨[], Reads.tuple (Heap.get?_push_of_some _ hot) hct hdtt ?_, fun z => nomatch z⟩
    exact ReadsAll.cons (as := []) (bs := []) (.str _ _) (ReadsAll.cons (as := []) (bs := []) (.str _ _) .nil)
  · have : (pD k).depth = 1 := by simp [pD, PyData.depth, PyData.depthAll]
    show X.A.units + 1 + 1 + _ < _
    omega
  · obtain ⟨qs, eo, pq⟩ := each_pair hO
    obtain ⟨e', he'⟩ := PyProof.Rows.sortedHeap_at (vs := acc.toList) (out := out.toArray) hoL
    have hlen : (qs.map V.ref).length ≤ sizeLine := by
      have : out.length = qs.length := by rw [eo, List.length_map]
      rw [List.length_map]
      omega
    refine wpAny_pure ⟨_, rfl, .ref h'.objs.size, upd H h'.objs.size (.lst (qs.map V.ref)), I1.laid (t' := tk) (fun b u e => ?_) (Nat.le_refl _)
      (show ObjOk X.prog X.w _ _ _ (.lst (qs.map V.ref)) from ⟨hlen, out, e', by rw [eo]; exact vals_refs qs, by simpa using he'⟩), rfl, q _ qs (I1.hok.fresh (Nat.le_refl _)) pq⟩
    have hb : b < h'.objs.size := Heap.lt_size e
    rw [PyProof.Rows.sortedHeap_old (Nat.ne_of_lt hb) (by rw [size_push']; exact Nat.lt_succ_of_lt hb)]
    exact Heap.get?_push_of_some _ e
end
end Ns

/-! cables and cars: what is known of them; dicts of pairs -/
namespace Y
open PySem PySem.Spec PyProof.Rows L2 Ns
open PySem.W (dataLe)
abbrev Cab := Str × Str × Int
abbrev Car := Str × Str × Int × Int
def ckey (c : Cab) : Str × Str := (c.1, c.2.1)
/-- a dict of pairs, its entries -/
def kvs (fs : List ((Str × Str) × Int)) : List (List Key × V) := fs.map fun f => (pK f.1, .int f.2)
theorem pK_inj {k j : Str × Str} (h : pK k = pK j) : k = j := by
  obtain ⟨a, b⟩ := k
  obtain ⟨c, d⟩ := j
  injection h with h1 h2
  injection h2 with h2 _
  injection h1 with h1
  injection h2 with h2
  exact Prod.ext h1 h2
def put (fs : List ((Str × Str) × Int)) (k : Str × Str) (v : Int) : List ((Str × Str) × Int) := if (fs.any fun f => decide (f.1 = k)) = true then fs.map (fun f => if f.1 = k then (f.1, v) else f) else fs ++ [(k, v)]
theorem kvs_any (k : Str × Str) : ∀ fs : List ((Str × Str) × Int), ((kvs fs).any fun kv => decide (kv.1 = pK k)) = fs.any fun f => decide (f.1 = k)
  | [] => rfl
  | f :: fs => by
    have ih := kvs_any k fs
    unfold kvs at ih ⊢
    rw [List.map_cons, List.any_cons, List.any_cons, ih]
    congr 1
    rw [decide_eq_decide]
    exact ⟨fun h => pK_inj h, fun h => by rw [h]⟩
theorem kvs_put (fs : List ((Str × Str) × Int)) (k : Str × Str) (v : Int) : putK (kvs fs) (pK k) (.int v) = kvs (put fs k v) := by
  unfold putK put
  rw [kvs_any]
  by_cases h : (fs.any fun f => decide (f.1 = k)) = true
  · rw [if_pos h, if_pos h]
    unfold kvs
    rw [List.map_map, List.map_map]
    apply List.map_congr_left
    intro f _
    by_cases e : f.1 = k
    · simp [e]
    · have e' : ¬ pK f.1 = pK k := fun z => e (pK_inj z)
      simp [e, e']
  · rw [if_neg h, if_neg h]
    unfold kvs
    rw [List.map_append]
    rfl
/-- what a dict of drawn cables holds -/
structure Fs (ns : List Str) (most : Int) (many : Nat) (fs : List ((Str × Str) × Int)) : Prop where
  len : fs.length ≤ many
  nodup : (fs.map (·.1)).Nodup
  each : ∀ f ∈ fs, f.1.1 ≠ f.1.2 ∧ f.1.1 ∈ feed :: ns ∧ f.1.2 ∈ ns ∧ 0 ≤ f.2 ∧ f.2 ≤ most
theorem Fs.nil (ns : List Str) (most : Int) (many : Nat) : Fs ns most many [] := ⟨Nat.zero_le _, List.nodup_nil, fun _ z => nomatch z⟩
theorem Fs.put {ns : List Str} {most v : Int} {many : Nat} {fs : List ((Str × Str) × Int)} {s e : Str} (h : Fs ns most many fs) (hl : fs.length < many) (h1 : s ≠ e) (h2 : s ∈ feed :: ns) (h3 : e ∈ ns) (h4 : 0 ≤ v) (h5 : v ≤ most) : Fs ns most many (put fs (s, e) v) := by
  unfold Y.put
  by_cases c : (fs.any fun f => decide (f.1 = (s, e))) = true
  · rw [if_pos c]
    refine ⟨by rw [List.length_map]; exact h.len, ?_, fun f hf => ?_⟩
    · have e1 : (fs.map (fun f => if f.1 = (s, e) then (f.1, v) else f)).map (·.1) = fs.map (·.1) := by
        rw [List.map_map]
        apply List.map_congr_left
        intro f _
        by_cases z : f.1 = (s, e)
        · simp [z]
        · simp [z]
      rw [e1]
      exact h.nodup
    · obtain ⟨g, hg, rfl⟩ := List.mem_map.mp hf
      by_cases z : g.1 = (s, e)
      · rw [if_pos z]
        obtain ⟨g1, g2, g3, _⟩ := h.each g hg
        exact ⟨g1, g2, g3, h4, h5⟩
      · rw [if_neg z]
        exact h.each g hg
  · rw [if_neg c]
    have nc : (s, e) ∉ fs.map (·.1) := fun z => c (by
      obtain ⟨f, hf, ef⟩ := List.mem_map.mp z
      exact List.any_eq_true.mpr ⟨f, hf, decide_eq_true ef⟩)
    refine ⟨by rw [List.length_append]; exact hl, ?_, fun f hf => ?_⟩
    · rw [List.map_append, List.nodup_append]
      refine ⟨h.nodup, List.nodup_cons.mpr ⟨(fun z => nomatch z), List.nodup_nil⟩, fun y hy z hz => ?_⟩
      rw [List.mem_singleton.mp hz]
      rintro rfl
      exact nc hy
    · rcases List.mem_append.mp hf with q | q
      · exact h.each f q
      · rw [List.mem_singleton.mp q]
        exact ⟨h1, h2, h3, h4, h5⟩
/-- drawn cables, in their order -/
structure Cabs (ns : List Str) (most : Int) (many : Nat) (cs : List Cab) : Prop where
  len : cs.length ≤ many
  nodup : (cs.map ckey).Nodup
  each : ∀ c ∈ cs, c.1 ≠ c.2.1 ∧ c.1 ∈ feed :: ns ∧ c.2.1 ∈ ns ∧ 0 ≤ c.2.2 ∧ c.2.2 ≤ most
  srt : ∃ ks : List (Str × Str), cs.map ckey = ks.mergeSort (dataLe false pD)
/-- a cable as a value, a car -/
def CabV (K : PySem.W.Frag) (H : Hp) (x : V) (c : Cab) : Prop := ∃ t, x = .ref t ∧ SqT K H t [.str c.1, .str c.2.1, .int c.2.2]
def CarV (K : PySem.W.Frag) (H : Hp) (x : V) (c : Car) : Prop := ∃ t, x = .ref t ∧ SqT K H t [.str c.1, .str c.2.1, .int c.2.2.1, .int c.2.2.2]
theorem sqt_more {K : PySem.W.Frag} {H H' : Hp} (m : Same H H') {a : Addr} {xs : List V} (h : SqT K H a xs) : SqT K H' a xs := h.elim (fun z => .inl (z.elim (fun z => .inl (m _ _ z)) fun ⟨o, z⟩ => .inr ⟨o, m _ _ z⟩)) .inr
theorem CabV.more {K : PySem.W.Frag} {H H' : Hp} (m : Same H H') {x : V} {c : Cab} (h : CabV K H x c) : CabV K H' x c := by
  obtain ⟨t, e, q⟩ := h
  exact ⟨t, e, sqt_more m q⟩
theorem CarV.more {K : PySem.W.Frag} {H H' : Hp} (m : Same H H') {x : V} {c : Car} (h : CarV K H x c) : CarV K H' x c := by
  obtain ⟨t, e, q⟩ := h
  exact ⟨t, e, sqt_more m q⟩
theorem paired_imp {α β : Type} {R S : α → β → Prop} (k : ∀ a b, R a b → S a b) : ∀ {as : List α} {bs : List β}, Paired R as bs → Paired S as bs
  | _, _, .nil => .nil
  | _, _, .cons h t => .cons (k _ _ h) (paired_imp k t)
theorem paired_snoc {α β : Type} {R : α → β → Prop} {a : α} {b : β} (h : R a b) : ∀ {as : List α} {bs : List β}, Paired R as bs → Paired R (as ++ [a]) (bs ++ [b])
  | _, _, .nil => .cons h .nil
  | _, _, .cons g t => .cons g (paired_snoc h t)
theorem rows_nodup {ns : List Str} (N : Nms [] ns) : (feed :: ns).Nodup := List.nodup_cons.mpr ⟨fun z => (N.off _ z).2 rfl, N.nodup⟩
theorem row_ne {α : Type} {l : List α} (n : l.Nodup) {i j : Nat} {x y : α} (h : l[i]? = some x) (g : l[j]? = some y) (ne : i ≠ j) : x ≠ y := by
  rintro rfl
  exact ne ((List.getElem?_inj (List.getElem?_eq_some_iff.mp h).1 n).mp (h.trans g.symm))
theorem txs_at {l : List Str} {j : Nat} {s : Str} (h : l[j]? = some s) : (txs l)[j]? = some (.str s) := by
  unfold txs
  rw [List.getElem?_map, h]
  rfl
/-- the value of a pair in a dict of pairs -/
theorem kvs_get {fs : List ((Str × Str) × Int)} (n : (fs.map (·.1)).Nodup) {k : Str × Str} {v : Int} (h : (k, v) ∈ fs) : valV (kvs fs) (pK k) = some (.int v) := by
  induction fs with
  | nil => cases h
  | cons f fs ih =>
    rw [List.map_cons, List.nodup_cons] at n
    show valV ((pK f.1, V.int f.2) :: kvs fs) (pK k) = _
    rcases List.mem_cons.mp h with e | e
    · rw [← e]
      exact valV_pos rfl
    · rw [valV_neg (fun z => n.1 ?_)]
      · exact ih n.2 e
      · rw [show f.1 = k from pK_inj z]
        exact List.mem_map.mpr ⟨(k, v), e, rfl⟩
end Y

namespace Y
open PySem PySem.Spec PyProof.Rows L2 Ns
open C8 (pss_cut)
open PySem.W (dataLe)
def spCables (K : PySem.W.Frag) : Sp := fun as H Q _ => ∃ (b a : Addr) (ns : List Str) (many : Nat) (most : Int), as = [.ref b, .ref a, .int many, .int most] ∧ Bag H b ∧ H a = some (.lst (txs ns)) ∧ Nms [] ns ∧ ns.length ≤ 50 ∧ many ≤ 60 ∧ 2 ≤ most ∧ most ≤ 10 ^ 12 ∧
  ∀ (p : Addr) (xs : List V) (cs : List Cab) (H' : Hp), Cabs ns most many cs → H' p = some (.tup xs) → Paired (CabV K (wo H' b)) xs cs → H p = none → p ≠ b → Bag H' b → Sb b H H' → Q (.ref p) H'
theorem s3u {H : Hp} {a q : Addr} {o u : HO} (hq : H q = none) (h : H a = some u) : upd H q o a = some u := by rw [upd_ne (ne_of_none h hq)]; exact h
theorem paired_len {α β : Type} {R : α → β → Prop} : ∀ {as : List α} {bs : List β}, Paired R as bs → as.length = bs.length
  | _, _, .nil => rfl
  | _, _, .cons _ t => by rw [List.length_cons, List.length_cons, paired_len t]
/-- a new tuple of a cable -/
def CabT (H : Hp) (b : Addr) (x : V) (c : Cab) : Prop := ∃ t, x = .ref t ∧ t ≠ b ∧ H t = some (.tup [.str c.1, .str c.2.1, .int c.2.2])
theorem CabT.more {H H' : Hp} {b : Addr} (m : Same H H') {x : V} {c : Cab} (h : CabT H b x c) : CabT H' b x c := by
  obtain ⟨t, e, n, q⟩ := h
  exact ⟨t, e, n, m _ _ q⟩
theorem CabT.upd {H : Hp} {b D : Addr} {ys : List V} {o : HO} (hD : H D = some (.lst ys)) {x : V} {c : Cab} (h : CabT H b x c) : CabT (L2.upd H D o) b x c := by
  obtain ⟨t, e, n, q⟩ := h
  exact ⟨t, e, n, by rw [upd_ne (fun z => by rw [z, hD] at q; cases q)]; exact q⟩
theorem paired_at {α β : Type} {R : α → β → Prop} : ∀ {as : List α} {bs : List β}, Paired R as bs → ∀ {i : Nat} {a : α}, as[i]? = some a → ∃ b, bs[i]? = some b ∧ R a b
  | _, _, .cons h _, 0, a, e => by
    rw [List.getElem?_cons_zero] at e
    cases e
    exact ⟨_, rfl, h⟩
  | _, _, .cons _ t, i + 1, a, e => by
    rw [List.getElem?_cons_succ] at e
    exact paired_at t e
theorem ne_at {H : Hp} {a b : Addr} {o u : HO} (h : H a = some o) (g : H b = some u) (n : o ≠ u) : a ≠ b := fun e => by
  rw [e, g] at h
  exact n (Option.some.inj h).symm
/-- amid the loops -/
def CabI (H : Hp) (b a d r : Addr) (ns : List Str) (many : Nat) (most : Int) (σ : L2.St) (H' : Hp) : Prop := ∃ (kk tt cc : Option V) (fs : List ((Str × Str) × Int)), σ = [some (.ref b), some (.ref a), some (.int many), some (.int most), some (.ref d), some (.ref r), kk, tt, cc, none, none] ∧
  H' d = some (.dT (kvs fs)) ∧ H' r = some (.lst (txs (feed :: ns))) ∧ Fs ns most many fs ∧ Bag H' b ∧ Sb b H H'
theorem cab_put {H H' : Hp} {b d r : Addr} {fs : List ((Str × Str) × Int)} {s e : Str} {v : Int} {ns : List Str} (hB : Bag H b) (hd : H d = none) (hr : H r = none) (nrd : r ≠ d) (e1 : H' d = some (.dT (kvs fs))) (e2 : H' r = some (.lst (txs (feed :: ns)))) (hB' : Bag H' b) (s' : Sb b H H') :
    upd H' d (.dT (putK (kvs fs) (pK (s, e)) (.int v))) d = some (.dT (kvs (put fs (s, e) v))) ∧ upd H' d (.dT (putK (kvs fs) (pK (s, e)) (.int v))) r = some (.lst (txs (feed :: ns))) ∧ Bag (upd H' d (.dT (putK (kvs fs) (pK (s, e)) (.int v)))) b ∧ Sb b H (upd H' d (.dT (putK (kvs fs) (pK (s, e)) (.int v)))) :=
  ⟨by rw [upd_same, kvs_put], by rw [upd_ne nrd]; exact e2, hB.wr hd s' hB', s'.wr hd⟩
section
variable {P : Program} {w : World} {K : PySem.W.Frag} {mg : Str → Option Value} {base : Heap}
theorem scC : FnScope ["bag", "knots", "many", "most", "found", "rows", "k", "turn", "couple", "one", "other"] ["bag", "knots", "many", "most"] (defScope sCables) := ⟨rfl, rfl, rfl, by decide +kernel, rfl, by decide +kernel, by decide +kernel⟩
theorem ok_cables {f fT fS fZ : Addr} {fd fdT fdS fdZ : FuncData} (F : Fun K "_law_cables" "_law_cables" sCables f fd) (T : Nat0 mg) (FT : Fun K "_law_take" "_law_take" sTake fT fdT) (mT : mg "_law_take" = some (.ref fT)) (bT : Binds K fdT ["bag", "many"] [])
    (FS : Fun K "_law_some" "_law_some" sSome fS fdS) (mS : mg "_law_some" = some (.ref fS)) (bS : Binds K fdS ["bag", "things"] [])
    (GZ : FnOk P w K mg base CX0 3 fZ fdZ ["bag", "most"] spSize) (FZ : Fun K "_law_size" "_law_size" sSize fZ fdZ) (mZ : mg "_law_size" = some (.ref fZ)) (bZ : Binds K fdZ ["bag", "most"] []) :
    FnOk P w K mg base CX0 4 f fd ["bag", "knots", "many", "most"] (spCables K) := by
  have GT : FnOk P w K mg base CX0 1 fT fdT ["bag", "many"] spTake := ok_take FT T
  have GS : FnOk P w K mg base CX0 2 fS fdS ["bag", "things"] (spSome K) := ok_some FS T FT mT bT
  refine F.ok scC (fun as H Q E h => ?_) (fun cdv A outer s H as Q E hr h => ?_)
  · obtain ⟨b, a, ns, many, most, rfl, _⟩ := h
    rfl
  · obtain ⟨b, a, ns, many, most, rfl, hB, hS, N, hns, hm, hmo, hmo2, k⟩ := h
    have hr1 : Room 1 _ := hr.mono (by decide)
    have hr2 : Room 2 _ := hr.mono (by decide)
    have hu := hu_of hr
    refine ⟨_, pss_cons (ps_asg (pe_tup (pa_cons pe_dnewT (pa_cons (pe_op op_cat (pe_lst (pa_cons pe_str pa_nil)) (pv 1)) pa_nil))) (pg_tup (by rfl) (pgs_cons (pg_name (i := 4) scC.nd rfl (.inr rfl)) (pgs_cons (pg_name (i := 5) scC.nd rfl (.inl rfl)) pgs_nil))))
      (pss_cons (ps_for PassesOwn.never rfl (pi_range2 (by rfl) T.range (pa_cons pe_int (pa_cons (pe_callB call_len_seq (by rfl) T.len PySem.boot_len (pa_cons (pv 5) pa_nil)) pa_nil))) (pg_name (i := 6) scC.nd rfl (.inl rfl))
        (pss_one (ps_if (PW.pt (pw_and (pt_cmpR op_gt (pe_call GT hr1 rfl mT FT.kp bT .nil pass0 (pa_cons (pv 0) (pa_cons pe_int pa_nil))) pe_int (nomark _)) (pw_and1 (pt_cmpR op_lt (pe_callB call_len_dT (by rfl) T.len PySem.boot_len (pa_cons (pv 4) pa_nil)) (pv 2) (nomark _)))))
          (pss_one (ps_dput hu (pv 4) (pe_tup (pa_cons (pe_ix ix_list (pv 5) (pe_call GT hr1 rfl mT FT.kp bT .nil pass0 (pa_cons (pv 0) (pa_cons (pv 6) pa_nil))) (fun _ _ => rfl)) (pa_cons (pe_ix ix_list (pv 5) (pv 6) (fun _ _ => rfl)) pa_nil)))
            (pe_callB (call_max2 rfl) (by rfl) T.max (by decide +kernel) (pa_cons (pe_call GS hr2 rfl mS FS.kp bS .nil pass0 (pa_cons (pv 0) (pa_cons (pe_lst (pa_cons pe_int (pa_cons pe_int (pa_cons pe_int (pa_cons pe_int pa_nil))))) pa_nil)))
              (pa_cons (pe_call GZ hr rfl mZ FZ.kp bZ .nil pass0 (pa_cons (pv 0) (pa_cons (pv 3) pa_nil))) pa_nil))) rfl)) pss_nil)))
      (pss_cons (ps_for PassesOwn.never rfl (pi_range1 (by rfl) T.range (pa_cons (pe_call GT hr1 rfl mT FT.kp bT .nil pass0 (pa_cons (pv 0) (pa_cons (pe_op op_add (pv 2) pe_int) pa_nil))) pa_nil)) (pg_name (i := 7) scC.nd rfl (.inl rfl))
        (pss_cons (ps_set (i := 8) scC.nd rfl (.inl rfl) (pe_tup (pa_cons (pe_call GS hr2 rfl mS FS.kp bS .nil pass0 (pa_cons (pv 0) (pa_cons (pv 5) pa_nil))) (pa_cons (pe_call GS hr2 rfl mS FS.kp bS .nil pass0 (pa_cons (pv 0) (pa_cons (pv 5) pa_nil))) pa_nil))))
        (pss_one (ps_if (PW.pt (pw_and (pt_cmpR op_ne (pe_ix ix_tup (pv 8) pe_int (fun _ _ => rfl)) (pe_ix ix_tup (pv 8) pe_int (fun _ _ => rfl)) (nomark _)) (pw_and (pt_cmpR op_ne (pe_ix ix_tup (pv 8) pe_int (fun _ _ => rfl)) pe_str (nomark _))
            (pw_and1 (pt_cmpR op_lt (pe_callB call_len_dT (by rfl) T.len PySem.boot_len (pa_cons (pv 4) pa_nil)) (pv 2) (nomark _))))))
          (pss_one (ps_dput hu (pv 4) (pv 8) (pe_call GZ hr rfl mZ FZ.kp bZ .nil pass0 (pa_cons (pv 0) (pa_cons (pv 3) pa_nil))) rfl)) pss_nil))))
      (pss_one (ps_ret (pe_callTy call_tuple_of (by rfl) T.tuple (by decide +kernel) (pa_cons
        (pe_lc (own := [("one", 9), ("other", 10)]) (g := gTup K 2 (gCons (gName 9) (gCons (gName 10) gNil))) (tt := tYes) rfl scC.nd (pi_list (pe_callB (cr_sortDT rfl hr.units) (by rfl) T.sorted (by decide +kernel) (pa_cons (pv 4) pa_nil)))
          (blkOk_by (N := ["bag", "knots", "many", "most", "found", "rows", "k", "turn", "couple", "one", "other"]) (sc := defScope sCables) (by decide +kernel)) (fun _ _ _ _ _ => pg_tup rfl (pgs_cons (pg_name (i := 9) scC.nd rfl (Or.inl rfl)) (pgs_cons (pg_name (i := 10) scC.nd rfl (Or.inl rfl)) pgs_nil))) (fun _ _ _ _ _ => pts_nil)
          (fun _ _ _ _ _ => pe_tup (pa_cons (pv 9) (pa_cons (pv 10) (pa_cons (pe_dget hu (pv 4) (pe_tup (pa_cons (pv 9) (pa_cons (pv 10) pa_nil))) (fun _ _ => rfl)) pa_nil))))) pa_nil)))))), ?_⟩
    refine fun d hd => ⟨by show 1 ≤ sizeLine; decide, fun q hq => ⟨_, rfl, q, a, [.str feed], txs ns, rfl, rfl, upd_same, ?_, ?_, fun r hr' => ⟨by show 2 ≤ sizeLine; decide, fun t ht => ⟨t, _, rfl, SqT.of upd_same, rfl, _, _, rfl, _, _, rfl, rfl, ?_⟩⟩⟩⟩
    · exact same_new (same_new (Same.refl H) hd) hq _ _ hS
    · rw [show (txs ns).length = ns.length from List.length_map _]
      exact Nat.le_of_lt (small1000 (show 1 + ns.length ≤ 1000 by omega))
    have ndb : d ≠ b := hB.ne hd
    have s0 : Sb b H (upd H d (.dT [])) := (Sb.refl b H).new hd
    have s1 := s0.new (o := .lst [.str feed]) hq
    have s2 := s1.new (o := .lst ([.str feed] ++ txs ns)) hr'
    have s3 := s2.new (o := .tup [.ref d, .ref r]) ht
    have b0 := ((((hB.new (o := .dT []) hd).new (o := .lst [.str feed]) hq).new (o := .lst ([.str feed] ++ txs ns)) hr').new (o := .tup [.ref d, .ref r]) ht)
    have nrb : r ≠ b := ((hB.new (o := .dT []) hd).new (o := .lst [.str feed]) hq).ne hr'
    have fr : H r = none := s1.free hr' nrb
    have e1 : upd (upd (upd (upd H d (.dT [])) q (.lst [.str feed])) r (.lst ([.str feed] ++ txs ns))) t (.tup [.ref d, .ref r]) d = some (.dT (kvs [])) := by
      have f0 : upd H d (.dT []) d = some (.dT (kvs [])) := upd_same
      have f1 : upd (upd H d (.dT [])) q (.lst [.str feed]) d = some (.dT (kvs [])) := by rw [upd_ne (ne_of_none f0 hq)]; exact f0
      have f2 : upd (upd (upd H d (.dT [])) q (.lst [.str feed])) r (.lst ([.str feed] ++ txs ns)) d = some (.dT (kvs [])) := by rw [upd_ne (ne_of_none f1 hr')]; exact f1
      rw [upd_ne (ne_of_none f2 ht)]; exact f2
    have e2 : upd (upd (upd (upd H d (.dT [])) q (.lst [.str feed])) r (.lst ([.str feed] ++ txs ns))) t (.tup [.ref d, .ref r]) r = some (.lst (txs (feed :: ns))) := by
      have f2 : upd (upd (upd H d (.dT [])) q (.lst [.str feed])) r (.lst ([.str feed] ++ txs ns)) r = some (.lst (txs (feed :: ns))) := upd_same
      rw [upd_ne (ne_of_none f2 ht)]; exact f2
    have nrd : r ≠ d := ne_at e2 e1 (fun z => by cases z)
    have tz : (txs (feed :: ns)).length = ns.length + 1 := by show (List.map _ _).length = _; rw [List.length_map]; rfl
    have big : ((10 : Int) ^ 13).natAbs < 2 ^ 200 := by decide +kernel
    have posR : txs (feed :: ns) ≠ [] := fun z => nomatch z
    refine ⟨_, rfl, r, _, rfl, .inl (SqL.of e2), 1, ((txs (feed :: ns)).length : Int), rfl, ⟨by decide, by decide, by omega, by omega⟩, for_range (lo := 1) (n := (((txs (feed :: ns)).length : Int) - 1).toNat) (fun i σ H' => CabI H b a d r ns many most σ H') ?_ ?_ ?_⟩
    · exact ⟨none, none, none, [], rfl, e1, e2, Fs.nil _ _ _, b0, s3⟩
    · rintro i σ H' hi ⟨kk, tt, cc, fs, rfl, g1, g2, FF, hB', s'⟩
      have hi' : i < ns.length := by omega
      refine ⟨_, rfl, b, 8, rfl, hB', by decide, by decide, fun v H2 v0 v1 hB2 s2' => ⟨v, 0, rfl, rfl, _, rfl, ?_⟩⟩
      have h1 := s2'.get g1 ndb
      have h2 := s2'.get g2 nrb
      have s02 := s'.trans s2'
      refine ite2 (fun _ => ?_) (fun _ => ⟨_, tt, cc, fs, rfl, h1, h2, FF, hB2, s02⟩)
      refine ⟨_, rfl, d, _, rfl, h1, _, rfl, _, _, rfl, rfl, _, rfl, ?_⟩
      refine ite2 (fun lt => ?_) (fun _ => ⟨_, tt, cc, fs, rfl, h1, h2, FF, hB2, s02⟩)
      have hlt : fs.length < many := by
        have q := of_decide_eq_true lt
        rw [show (kvs fs).length = fs.length from List.length_map _] at q
        omega
      refine ⟨_, rfl, by show 4 ≤ sizeLine; decide, fun q4 hq4 => ⟨b, q4, _, rfl, hB2.new hq4, sql_new upd_same (hB2.ne hq4), (fun z => nomatch z), by show 4 ≤ 1000000; decide, fun x H3 hx hB3 s3' => ?_⟩⟩
      obtain ⟨c, rfl, c0, c2⟩ : ∃ c : Int, x = .int c ∧ 0 ≤ c ∧ c ≤ 2 := by
        simp only [List.mem_cons, List.not_mem_nil, or_false] at hx
        rcases hx with rfl | rfl | rfl | rfl
        · exact ⟨1, rfl, by decide, by decide⟩
        · exact ⟨2, rfl, by decide, by decide⟩
        · exact ⟨1, rfl, by decide, by decide⟩
        · exact ⟨0, rfl, by decide, by decide⟩
      have s03 := (s02.new (o := .lst [.int 1, .int 2, .int 1, .int 0]) hq4).trans s3'
      refine ⟨_, rfl, _, rfl, b, most, rfl, hB3, by omega, by omega, fun u H4 u0 u1 hB4 s4 => ⟨c, u, rfl, _, rfl, ?_⟩⟩
      have s04 := s03.trans s4
      refine ⟨_, rfl, _, rfl, _, rfl, b, _, rfl, hB4, by omega, Nat.lt_of_le_of_lt (show (1 + (i : Int)).natAbs ≤ _ by omega) big, fun j H5 j0 j1 hB5 s5 => ?_⟩
      have s05 := s04.trans s5
      obtain ⟨sx, hsx⟩ : ∃ sx, (feed :: ns)[j.toNat]? = some sx := ⟨_, List.getElem?_eq_getElem (by rw [List.length_cons]; omega)⟩
      obtain ⟨ex, hex⟩ : ∃ ex, (feed :: ns)[1 + i]? = some ex := ⟨_, List.getElem?_eq_getElem (by rw [List.length_cons]; omega)⟩
      have m1 : sx ∈ feed :: ns := List.mem_of_getElem? hsx
      have m2 : ex ∈ ns := by
        rw [Nat.add_comm, List.getElem?_cons_succ] at hex
        exact List.mem_of_getElem? hex
      have ne : sx ≠ ex := row_ne (rows_nodup N) hsx hex (by omega)
      have k1 := s5.get (s4.get (s3'.get (s3u hq4 h1) ndb) ndb) ndb
      have k2 := s5.get (s4.get (s3'.get (s3u hq4 h2) nrb) nrb) nrb
      refine ⟨r, _, j, .str sx, rfl, rfl, SqL.of k2, by rw [show j = ((j.toNat : Nat) : Int) by omega]; exact atI_nat (txs_at hsx), ?_⟩
      refine ⟨_, rfl, _, rfl, r, _, _, .str ex, rfl, rfl, SqL.of k2, by rw [show (1 + (i : Int)) = ((1 + i : Nat) : Int) by omega]; exact atI_nat (txs_at hex), ?_⟩
      refine ⟨by show 2 ≤ sizeLine; decide, fun t' ht' => ?_⟩
      have k1' : upd H5 t' (.tup [.str sx, .str ex]) d = some (.dT (kvs fs)) := by rw [upd_ne (ne_of_none k1 ht')]; exact k1
      have k2' : upd H5 t' (.tup [.str sx, .str ex]) r = some (.lst (txs (feed :: ns))) := by rw [upd_ne (ne_of_none k2 ht')]; exact k2
      have hz : (kvs fs).length < sizeLine := by
        rw [show (kvs fs).length = fs.length from List.length_map _]
        exact small1000 (by omega)
      refine ⟨d, _, rfl, DPut.t (k := pK (sx, ex)) k1' upd_same hz, ?_⟩
      obtain ⟨p1, p2, p3, p4⟩ := cab_put (s := sx) (e := ex) (v := if u > c then u else c) hB hd fr nrd k1' k2' (hB5.new ht') (s05.new ht')
      exact ⟨_, tt, cc, _, rfl, p1, p2, FF.put hlt ne m1 m2 (by split <;> omega) (by split <;> omega), p3, p4⟩
    rintro σ H' ⟨kk, tt, cc, fs, rfl, g1, g2, FF, hB', s'⟩
    refine ⟨_, rfl, _, rfl, _, _, rfl, rfl, b, _, rfl, hB', by omega, Nat.lt_of_le_of_lt (show ((many : Int) + 1).natAbs ≤ _ by omega) big, fun n H2 n0 n1 hB2 s2' => ?_⟩
    refine ⟨n, rfl, by omega, by omega, for_range (n := n.toNat) (fun i σ H' => CabI H b a d r ns many most σ H') ?_ ?_ ?_⟩
    · exact ⟨kk, tt, cc, fs, rfl, s2'.get g1 ndb, s2'.get g2 nrb, FF, hB2, s'.trans s2'⟩
    · clear g1 g2 FF hB' s' s2' hB2
      rintro i σ H3 hi ⟨kk, tt, cc, fs, rfl, g1, g2, FF, hB3, s3'⟩
      refine ⟨_, rfl, _, rfl, b, r, _, rfl, hB3, sql_new g2 nrb, posR, by omega, fun x H4 hx hB4 s4 => ?_⟩
      obtain ⟨sx, m1, rfl⟩ := List.mem_map.mp hx
      have q1 := s4.get g1 ndb
      have q2 := s4.get g2 nrb
      refine ⟨_, rfl, _, rfl, b, r, _, rfl, hB4, sql_new q2 nrb, posR, by omega, fun y H5 hy hB5 s5 => ?_⟩
      obtain ⟨ex, m2, rfl⟩ := List.mem_map.mp hy
      have s05 := (s3'.trans s4).trans s5
      have k1 := s5.get q1 ndb
      have k2 := s5.get q2 nrb
      refine ⟨by show 2 ≤ sizeLine; decide, fun t' ht' => ?_⟩
      have k1' : upd H5 t' (.tup [.str sx, .str ex]) d = some (.dT (kvs fs)) := by rw [upd_ne (ne_of_none k1 ht')]; exact k1
      have k2' : upd H5 t' (.tup [.str sx, .str ex]) r = some (.lst (txs (feed :: ns))) := by rw [upd_ne (ne_of_none k2 ht')]; exact k2
      have kt : upd H5 t' (.tup [.str sx, .str ex]) t' = some (.tup [.str sx, .str ex]) := upd_same
      have hB6 := hB5.new (o := .tup [.str sx, .str ex]) ht'
      have s06 := s05.new (o := .tup [.str sx, .str ex]) ht'
      generalize upd H5 t' (.tup [.str sx, .str ex]) = H6 at k1' k2' kt hB6 s06 ⊢
      have stay : CabI H b a d r ns many most [some (.ref b), some (.ref a), some (.int many), some (.int most), some (.ref d), some (.ref r), kk, some (.int (0 + (i : Int))), some (.ref t'), none, none] H6 := ⟨kk, _, _, fs, rfl, k1', k2', FF, hB6, s06⟩
      refine ⟨_, rfl, t', _, 0, _, rfl, rfl, SqT.of kt, at0, _, rfl, t', _, 1, _, rfl, rfl, SqT.of kt, at1, rfl, _, rfl, ?_⟩
      refine ite2 (fun ne => ?_) (fun _ => stay)
      refine ⟨_, rfl, t', _, 1, _, rfl, rfl, SqT.of kt, at1, rfl, _, rfl, ?_⟩
      refine ite2 (fun nf => ?_) (fun _ => stay)
      refine ⟨_, rfl, d, _, rfl, k1', _, rfl, _, _, rfl, rfl, _, rfl, ?_⟩
      refine ite2 (fun lt => ?_) (fun _ => stay)
      have hlt : fs.length < many := by
        have q := of_decide_eq_true lt
        rw [show (kvs fs).length = fs.length from List.length_map _] at q
        omega
      have ne' : sx ≠ ex := fun e => by
        rw [e] at ne
        simp at ne
      have nf' : ex ≠ feed := fun e => by
        rw [e] at nf
        simp at nf
      have m2' : ex ∈ ns := (List.mem_cons.mp m2).resolve_left nf'
      refine ⟨_, rfl, _, rfl, b, most, rfl, hB6, by omega, by omega, fun v H7 v0 v1 hB7 s7 => ?_⟩
      have hz : (kvs fs).length < sizeLine := by
        rw [show (kvs fs).length = fs.length from List.length_map _]
        exact small1000 (by omega)
      have ntb : t' ≠ b := hB5.ne ht'
      refine ⟨_, rfl, _, rfl, d, _, rfl, DPut.t (k := pK (sx, ex)) (s7.get k1' ndb) (s7.get kt ntb) hz, ?_⟩
      obtain ⟨p1, p2, p3, p4⟩ := cab_put (s := sx) (e := ex) (v := v) hB hd fr nrd (s7.get k1' ndb) (s7.get k2' nrb) hB7 (s06.trans s7)
      exact ⟨kk, _, _, _, rfl, p1, p2, FF.put hlt ne' m1 m2' v0 v1, p3, p4⟩
    clear g1 g2 FF hB' s' s2' hB2
    rintro σ H3 ⟨kk, tt, cc, fs, rfl, g1, g2, FF, hB3, s3'⟩
    refine ⟨_, rfl, d, kvs fs, fs.map (·.1), rfl, Rd.of g1, by unfold kvs; rw [List.map_map, List.map_map]; rfl, by rw [List.length_map]; have := FF.len; omega, fun p qs hp pq => ?_⟩
    refine ⟨p, rfl, ⟨_, .inl (.inl upd_same)⟩, fun D hD => ?_⟩
    have npd : p ≠ D := fun e => by rw [← e, upd_same] at hD; cases hD
    have hD' : H3 D = none := by rw [upd_ne npd.symm] at hD; exact hD
    refine lc_list (K := K) (a := p) (xs := qs.map V.ref) (fun i H' => ∃ (ys : List V) (cs : List Cab), H' D = some (.lst ys) ∧ ys.length = i ∧ cs.map ckey = ((fs.map (·.1)).mergeSort (dataLe false pD)).take i ∧ (∀ c ∈ cs, (ckey c, c.2.2) ∈ fs) ∧
      Paired (CabT H' b) ys cs ∧ H' p = some (.lst (qs.map V.ref)) ∧ Same H3 H' ∧ Bag H' b) ?_ ?_ ?_ ?_
    · refine ⟨[], [], upd_same, rfl, by rw [List.take_zero]; rfl, (fun _ z => nomatch z), .nil, by rw [upd_ne npd, upd_same], same_new (same_new (Same.refl H3) hp) hD, (hB3.new hp).new hD⟩
    · rintro i H' hi ⟨ys, cs, _, _, _, _, _, h, _⟩
      exact .inl (.inl h)
    · rintro i x H' hx ⟨ys, cs, h1, h2, h3, h4, h5, h6, h7, h8⟩
      rw [List.getElem?_map] at hx
      obtain ⟨t', ht', rfl⟩ := Option.map_eq_some_iff.mp hx
      obtain ⟨kx, hkx, hq'⟩ := paired_at pq ht'
      have memk : kx ∈ fs.map (·.1) := (List.mergeSort_perm _ _).mem_iff.mp (List.mem_of_getElem? hkx)
      obtain ⟨fx, hfx, rfl⟩ := List.mem_map.mp memk
      have hv : valV (kvs fs) (pK fx.1) = some (.int fx.2) := kvs_get FF.nodup hfx
      refine ⟨t', _, rfl, SqT.of (h7 _ _ hq'), rfl, _, _, rfl, _, _, rfl, rfl, ?_⟩
      refine ⟨rfl, _, rfl, _, rfl, _, rfl, _, rfl, _, rfl, by show 2 ≤ sizeLine; decide, fun u hu' => ?_⟩
      have gd : upd H' u (.tup [.str fx.1.1, .str fx.1.2]) d = some (.dT (kvs fs)) := s3u hu' (h7 _ _ g1)
      have dg := DGet.t (k := pK fx.1) gd (upd_same (H := H') (a := u) (o := .tup [.str fx.1.1, .str fx.1.2]))
      rw [hv] at dg
      refine ⟨d, _, rfl, dg, by show 3 ≤ sizeLine; decide, fun v hv' => ?_⟩
      have nvb : v ≠ b := (h8.new hu').ne hv'
      have q1 : upd (upd H' u (.tup [.str fx.1.1, .str fx.1.2])) v (.tup [.str fx.1.1, .str fx.1.2, .int fx.2]) D = some (.lst ys) := s3u hv' (s3u hu' h1)
      have nDu : D ≠ b := (hB3.new hp).ne hD
      have nvD : v ≠ D := ne_at upd_same q1 (fun z => by cases z)
      refine ⟨ys, q1, by rw [h2]; exact small1000 (by have := (List.getElem?_eq_some_iff.mp hkx).1; rw [List.length_mergeSort, List.length_map] at this; have := FF.len; omega), ?_⟩
      have s9 : Same H' (upd (upd H' u (.tup [.str fx.1.1, .str fx.1.2])) v (.tup [.str fx.1.1, .str fx.1.2, .int fx.2])) := same_new (same_new (Same.refl H') hu') hv'
      have b9 : Bag (upd (upd H' u (.tup [.str fx.1.1, .str fx.1.2])) v (.tup [.str fx.1.1, .str fx.1.2, .int fx.2])) b := (h8.new hu').new hv'
      have v9 : upd (upd H' u (.tup [.str fx.1.1, .str fx.1.2])) v (.tup [.str fx.1.1, .str fx.1.2, .int fx.2]) v = some (.tup [.str fx.1.1, .str fx.1.2, .int fx.2]) := upd_same
      generalize upd (upd H' u (.tup [.str fx.1.1, .str fx.1.2])) v (.tup [.str fx.1.1, .str fx.1.2, .int fx.2]) = H9 at q1 s9 b9 v9 ⊢
      refine ⟨ys ++ [.ref v], cs ++ [(fx.1.1, fx.1.2, fx.2)], upd_same, by rw [List.length_append, h2]; rfl, ?_, fun c hc => ?_, ?_, ?_, ?_, ?_⟩
      · rw [List.map_append, h3, List.take_succ, hkx]
        rfl
      · rcases List.mem_append.mp hc with z | z
        · exact h4 c z
        · rw [List.mem_singleton.mp z]
          exact hfx
      · exact paired_snoc ⟨v, rfl, nvb, by rw [upd_ne nvD]; exact v9⟩ (paired_imp (fun x c h => (CabT.more s9 h).upd q1) h5)
      · rw [upd_ne npd]
        exact s9 _ _ h6
      · exact same_put (h7.trans s9) hD'
      · exact hB3.wr hD' ((Sb.refl b H3).same (h7.trans s9)) b9
    · rintro H' ⟨ys, cs, h1, h2, h3, h4, h5, h6, h7, h8⟩
      refine ⟨D, ys, rfl, .inl ⟨SqL.of h1, fun l hl => ?_⟩⟩
      have nlb : l ≠ b := h8.ne hl
      have ea : cs.map ckey = (fs.map (·.1)).mergeSort (dataLe false pD) := by
        rw [h3, List.take_of_length_le]
        rw [List.length_map, ← paired_len pq]
        exact Nat.le_refl _
      have pm := List.mergeSort_perm (fs.map (·.1)) (dataLe false pD)
      have s4 : Sb b H (upd H' l (.tup ys)) := (s3'.same h7).new hl
      refine k l ys cs _ ⟨?_, ?_, fun c hc => FF.each _ (h4 c hc), _, ea⟩ upd_same ?_ ((s3'.same h7).free hl nlb) nlb (h8.new hl) s4
      · have := congrArg List.length ea
        rw [List.length_map, pm.length_eq, List.length_map] at this
        rw [this]
        exact FF.len
      · rw [ea]
        exact pm.nodup_iff.mpr FF.nodup
      · refine paired_imp (fun x c h => ?_) h5
        obtain ⟨t', e, n, q⟩ := h
        exact ⟨t', e, sqt_new (s3u hl q) n⟩
end
end Y

namespace Y
open PySem PySem.Spec PyProof.Rows L2 Ns
open C8 (pss_cut)
/-- drawn cars, in their order -/
structure Cars (ns nm : List Str) (cs : List Car) : Prop where
  srt : sortedS (cs.map (·.1)) = true
  perm : (cs.map (·.1)).Perm nm
  each : ∀ c ∈ cs, c.2.1 ∈ feed :: ns ∧ 1 ≤ c.2.2.1 ∧ c.2.2.1 ≤ 10 ^ 12 ∧ 0 ≤ c.2.2.2 ∧ c.2.2.2 < 10 ^ 12
/-- a new tuple of a car -/
def CarT (H : Hp) (b : Addr) (x : V) (c : Car) : Prop := ∃ t, x = .ref t ∧ t ≠ b ∧ H t = some (.tup [.str c.1, .str c.2.1, .int c.2.2.1, .int c.2.2.2])
theorem CarT.more {H H' : Hp} {b : Addr} (m : ∀ t xs, t ≠ b → H t = some (.tup xs) → H' t = some (.tup xs)) {x : V} {c : Car} (h : CarT H b x c) : CarT H' b x c := by
  obtain ⟨t, e, n, q⟩ := h
  exact ⟨t, e, n, m _ _ n q⟩
def spCars (K : PySem.W.Frag) : Sp := fun as H Q _ => ∃ (b a c : Addr) (nm ns : List Str) (most : Int), as = [.ref b, .ref a, .ref c, .int most] ∧ Bag H b ∧ SqL K (wo H b) a (txs nm) ∧ H c = some (.lst (txs ns)) ∧ c ≠ b ∧ nm.length ≤ 30 ∧ ns.length ≤ 50 ∧ 2 ≤ most ∧ most < 10 ^ 12 ∧
  ∀ (p : Addr) (xs : List V) (cs : List Car) (H' : Hp), Cars ns nm cs → H' p = some (.tup xs) → Paired (CarV K (wo H' b)) xs cs → H p = none → p ≠ b → Bag H' b → Sb b H H' → Q (.ref p) H'
section
variable {P : Program} {w : World} {K : PySem.W.Frag} {mg : Str → Option Value} {base : Heap}
theorem scR : FnScope ["bag", "names", "knots", "most", "found", "name", "knot", "rate", "need"] ["bag", "names", "knots", "most"] (defScope sCars) := ⟨rfl, rfl, rfl, by decide +kernel, rfl, by decide +kernel, by decide +kernel⟩
theorem ok_cars {f fT fS fZ : Addr} {fd fdT fdS fdZ : FuncData} (F : Fun K "_law_cars" "_law_cars" sCars f fd) (T : Nat0 mg) (FT : Fun K "_law_take" "_law_take" sTake fT fdT) (mT : mg "_law_take" = some (.ref fT)) (bT : Binds K fdT ["bag", "many"] [])
    (FS : Fun K "_law_some" "_law_some" sSome fS fdS) (mS : mg "_law_some" = some (.ref fS)) (bS : Binds K fdS ["bag", "things"] [])
    (GZ : FnOk P w K mg base CX0 3 fZ fdZ ["bag", "most"] spSize) (FZ : Fun K "_law_size" "_law_size" sSize fZ fdZ) (mZ : mg "_law_size" = some (.ref fZ)) (bZ : Binds K fdZ ["bag", "most"] []) :
    FnOk P w K mg base CX0 4 f fd ["bag", "names", "knots", "most"] (spCars K) := by
  have GT : FnOk P w K mg base CX0 1 fT fdT ["bag", "many"] spTake := ok_take FT T
  have GS : FnOk P w K mg base CX0 2 fS fdS ["bag", "things"] (spSome K) := ok_some FS T FT mT bT
  refine F.ok scR (fun as H Q E h => ?_) (fun cdv A outer s H as Q E hr h => ?_)
  · obtain ⟨b, a, c, nm, ns, most, rfl, _⟩ := h
    rfl
  · obtain ⟨b, a, c, nm, ns, most, rfl, hB, hS, hC, ncb, hnm, hns, hmo, hmo2, k⟩ := h
    have hr1 : Room 1 _ := hr.mono (by decide)
    have hr2 : Room 2 _ := hr.mono (by decide)
    refine ⟨_, pss_cons (ps_set (i := 4) scR.nd rfl (.inl rfl) (pe_lst pa_nil))
      (pss_cons (ps_for PassesOwn.never rfl (pi_list (pe_callB cr_sortedS (by rfl) T.sorted (by decide +kernel) (pa_cons (pv 1) pa_nil))) (pg_name (i := 5) scR.nd rfl (.inl rfl))
        (pss_cons (ps_set (i := 6) scR.nd rfl (.inl rfl) (pe_call GS hr2 rfl mS FS.kp bS .nil pass0 (pa_cons (pv 0) (pa_cons (pe_op op_cat (pe_op op_cat (pe_lst (pa_cons pe_str pa_nil)) (pv 2)) (pv 2)) pa_nil))))
        (pss_cons (ps_set (i := 7) scR.nd rfl (.inl rfl) (pe_callB (call_max2 rfl) (by rfl) T.max (by decide +kernel) (pa_cons pe_int (pa_cons (pe_call GS hr2 rfl mS FS.kp bS .nil pass0 (pa_cons (pv 0) (pa_cons (pe_lst (pa_cons pe_int (pa_cons pe_int (pa_cons (pe_call GZ hr rfl mZ FZ.kp bZ .nil pass0 (pa_cons (pv 0) (pa_cons (pv 3) pa_nil))) (pa_cons pe_int pa_nil))))) pa_nil))) pa_nil))))
        (pss_cons (ps_set (i := 8) scR.nd rfl (.inl rfl) (pe_call GS hr2 rfl mS FS.kp bS .nil pass0 (pa_cons (pv 0) (pa_cons (pe_lst (pa_cons (pe_op op_add pe_int (pe_call GZ hr rfl mZ FZ.kp bZ .nil pass0 (pa_cons (pv 0) (pa_cons (pv 3) pa_nil)))) (pa_cons (pv 7)
            (pa_cons (pe_op op_add (pe_op op_mul pe_int (pv 7)) pe_int) (pa_cons pe_int (pa_cons pe_int (pa_cons (pe_op op_mul pe_int (pv 7)) (pa_cons (pe_call GT hr1 rfl mT FT.kp bT .nil pass0 (pa_cons (pv 0) (pa_cons (pe_op op_add (pv 3) pe_int) pa_nil))) pa_nil)))))))) pa_nil))))
        (pss_one (ps_expr (pe_bm PySem.F.plainAttrs_list PySem.F.slot_list_append PySem.F.type_list_append mt_append (pv 4) (pa_cons (pe_tup (pa_cons (pv 5) (pa_cons (pv 6) (pa_cons (pv 7) (pa_cons (pe_callB (call_min2 rfl) (by rfl) T.min (by decide +kernel) (pa_cons (pv 8) (pa_cons (pe_op op_sub (pe_op op_pow pe_int pe_int) pe_int) pa_nil))) pa_nil))))) pa_nil))))))))
      (pss_one (ps_ret (pe_callTy call_tuple_of (by rfl) T.tuple (by decide +kernel) (pa_cons (pv 4) pa_nil))))), ?_⟩
    refine ⟨by show 0 ≤ sizeLine; decide, fun d hd => ?_⟩
    have ndb : d ≠ b := hB.ne hd
    have ncd : c ≠ d := ne_of_none hC hd
    refine ⟨_, rfl, a, nm, rfl, Same.seq (same_new (Same.refl H) hd) ((wo_sub H b).seq hS), by omega, fun ys p perm srt hp => ⟨p, rfl, ⟨_, .inl (.inl upd_same)⟩, ?_⟩⟩
    have npd : p ≠ d := fun e => by rw [e, upd_same] at hp; cases hp
    have hp0 : H p = none := by rw [upd_ne npd] at hp; exact hp
    have npb : p ≠ b := hB.ne hp0
    have hlen : ys.length = nm.length := perm.length_eq
    refine for_list (K := K) (a := p) (xs := ys.map V.str) (fun i σ H' => ∃ (v5 v6 v7 v8 : Option V) (zs : List V) (cs : List Car), σ = [some (.ref b), some (.ref a), some (.ref c), some (.int most), some (.ref d), v5, v6, v7, v8] ∧ H' d = some (.lst zs) ∧ cs.map (·.1) = ys.take i ∧
      (∀ c ∈ cs, c.2.1 ∈ feed :: ns ∧ 1 ≤ c.2.2.1 ∧ c.2.2.1 ≤ 10 ^ 12 ∧ 0 ≤ c.2.2.2 ∧ c.2.2.2 < 10 ^ 12) ∧ Paired (CarT H' b) zs cs ∧ H' p = some (.lst (ys.map V.str)) ∧ Bag H' b ∧ Sb b H H') ?_ ?_ ?_ ?_
    · exact ⟨none, none, none, none, [], [], rfl, by rw [upd_ne npd.symm, upd_same], by rw [List.take_zero]; rfl, (fun _ z => nomatch z), .nil, upd_same, (hB.new hd).new hp, ((Sb.refl b H).new hd).new hp⟩
    · rintro i σ H' _ ⟨v5, v6, v7, v8, zs, cs, _, _, _, _, _, e, _⟩
      exact .inl (.inl e)
    · rintro i x σ H' hx ⟨v5, v6, v7, v8, zs, cs, rfl, g1, g2, g3, g4, g5, hB1, s1⟩
      rw [List.getElem?_map] at hx
      obtain ⟨y, hy, rfl⟩ := Option.map_eq_some_iff.mp hx
      have tl : (txs ns).length = ns.length := List.length_map _
      -- the knot
      refine ⟨_, rfl, by show 1 ≤ sizeLine; decide, fun q1 hq1 => ⟨_, rfl, q1, c, [.str feed], txs ns, rfl, rfl, upd_same, s3u hq1 (s1.get hC ncb), ?_, fun q2 hq2 => ⟨_, rfl, q2, c, [.str feed] ++ txs ns, txs ns, rfl, rfl, upd_same, s3u hq2 (s3u hq1 (s1.get hC ncb)), ?_, fun q3 hq3 => ?_⟩⟩⟩
      · exact Nat.le_of_lt (small1000 (show 1 + _ ≤ 1000 by omega))
      · rw [List.length_append]
        exact Nat.le_of_lt (small1000 (show 1 + _ + _ ≤ 1000 by omega))
      have hB2 := ((hB1.new (o := .lst [.str feed]) hq1).new (o := .lst ([.str feed] ++ txs ns)) hq2).new (o := .lst ([.str feed] ++ txs ns ++ txs ns)) hq3
      have s2 := ((s1.new (o := .lst [.str feed]) hq1).new (o := .lst ([.str feed] ++ txs ns)) hq2).new (o := .lst ([.str feed] ++ txs ns ++ txs ns)) hq3
      have m2 : Same H' (upd (upd (upd H' q1 (.lst [.str feed])) q2 (.lst ([.str feed] ++ txs ns))) q3 (.lst ([.str feed] ++ txs ns ++ txs ns))) := same_new (same_new (same_new (Same.refl H') hq1) hq2) hq3
      refine ⟨b, q3, _, rfl, hB2, sql_new upd_same (((hB1.new (o := .lst [.str feed]) hq1).new (o := .lst ([.str feed] ++ txs ns)) hq2).ne hq3), (fun z => nomatch z), ?_, fun kn H2 hkn hB3 s3 => ?_⟩
      · rw [List.length_append, List.length_append]
        show 1 + _ + _ ≤ _
        omega
      obtain ⟨kx, hkx, rfl⟩ : ∃ kx, kx ∈ feed :: ns ∧ kn = .str kx := by
        rcases List.mem_append.mp hkn with z | z
        · rcases List.mem_append.mp z with z | z
          · exact ⟨feed, List.mem_cons_self, List.mem_singleton.mp z⟩
          · obtain ⟨u, hu, rfl⟩ := List.mem_map.mp z
            exact ⟨u, List.mem_cons_of_mem _ hu, rfl⟩
        · obtain ⟨u, hu, rfl⟩ := List.mem_map.mp z
          exact ⟨u, List.mem_cons_of_mem _ hu, rfl⟩
      have s03 := s2.trans s3
      have b5 := s3
      -- the rate
      refine ⟨_, rfl, _, rfl, _, rfl, b, most, rfl, hB3, by omega, by omega, fun v H3 v0 v1 hB4 s4 => ⟨by show 4 ≤ sizeLine; decide, fun q4 hq4 => ⟨b, q4, _, rfl, hB4.new hq4, sql_new upd_same (hB4.ne hq4), (fun z => nomatch z), by show 4 ≤ 1000000; decide, fun x H4 hx hB5 s5 => ?_⟩⟩⟩
      obtain ⟨r0, rfl, r1, r2⟩ : ∃ r : Int, x = .int r ∧ 0 ≤ r ∧ r ≤ 10 ^ 12 := by
        simp only [List.mem_cons, List.not_mem_nil, or_false] at hx
        rcases hx with rfl | rfl | rfl | rfl
        · exact ⟨1, rfl, by decide, by decide⟩
        · exact ⟨2, rfl, by decide, by decide⟩
        · exact ⟨v, rfl, v0, by omega⟩
        · exact ⟨3, rfl, by decide, by decide⟩
      refine ⟨1, r0, rfl, ?_⟩
      obtain ⟨R, hR, R1, R2⟩ : ∃ R : Int, (if r0 > 1 then r0 else 1) = R ∧ 1 ≤ R ∧ R ≤ 10 ^ 12 := ⟨_, rfl, by split <;> omega, by split <;> omega⟩
      rw [hR]
      have s05 := ((s03.trans s4).new (o := .lst [.int 1, .int 2, .int v, .int 3]) hq4).trans s5
      -- the need
      refine ⟨_, rfl, _, rfl, _, rfl, b, most, rfl, hB5, by omega, by omega, fun v' H5 v0' v1' hB6 s6 => ⟨1, v', rfl, rfl, _, rfl, _, rfl, 2, R, rfl, rfl, .inl ⟨by decide, by decide⟩, _, 1, rfl, rfl, _, rfl, 3, R, rfl, rfl, .inl ⟨by decide, by decide⟩, _, rfl, _, rfl, most, 1, rfl, rfl, b, _, rfl, hB6, by omega, Nat.lt_of_le_of_lt (show (most + 1).natAbs ≤ (10 ^ 13 : Nat) by omega) (by decide +kernel), fun u H6 u0 u1 hB7 s7 => ?_⟩⟩
      refine ⟨by show 7 ≤ sizeLine; decide, fun q5 hq5 => ⟨b, q5, _, rfl, hB7.new hq5, sql_new upd_same (hB7.ne hq5), (fun z => nomatch z), by show 7 ≤ 1000000; decide, fun x H7 hx hB8 s8 => ?_⟩⟩
      obtain ⟨w', rfl, w0⟩ : ∃ r : Int, x = .int r ∧ 0 ≤ r := by
        simp only [List.mem_cons, List.not_mem_nil, or_false] at hx
        rcases hx with rfl | rfl | rfl | rfl | rfl | rfl | rfl
        · exact ⟨_, rfl, by omega⟩
        · exact ⟨_, rfl, by omega⟩
        · exact ⟨_, rfl, by omega⟩
        · exact ⟨_, rfl, by omega⟩
        · exact ⟨_, rfl, by omega⟩
        · exact ⟨_, rfl, by omega⟩
        · exact ⟨_, rfl, by omega⟩
      have s08 := (((s05.trans s6).trans s7).new (o := .lst [.int (1 + v'), .int R, .int (2 * R + 1), .int 0, .int 3, .int (3 * R), .int u]) hq5).trans s8
      -- what stood
      have sk : Sb b H' H7 := ((((((((Sb.refl b H').same m2).trans s3).trans s4).new (o := .lst [.int 1, .int 2, .int v, .int 3]) hq4).trans s5).trans s6).trans s7).new (o := .lst [.int (1 + v'), .int R, .int (2 * R + 1), .int 0, .int 3, .int (3 * R), .int u]) hq5 |>.trans s8
      have e1 := sk.get g1 ndb
      have e5 := sk.get g5 npb
      refine ⟨_, rfl, .inl ⟨rfl, _, SqL.of e1⟩, _, rfl, _, rfl, _, rfl, _, rfl, 10, 12, rfl, rfl, ⟨by decide, by decide, by decide⟩, _, 1, rfl, rfl, w', _, rfl, by show 4 ≤ sizeLine; decide, fun t ht => ?_⟩
      have ntb : t ≠ b := hB8.ne ht
      have ntd : t ≠ d := fun z => by rw [z, e1] at ht; cases ht
      have hz : zs.length ≤ 30 := by
        have h1 := paired_len g4
        have h2 := congrArg List.length g2
        rw [List.length_map, List.length_take] at h2
        omega
      refine ⟨d, zs, .ref t, rfl, rfl, s3u ht e1, small1000 (by omega), _, _, _, _, zs ++ [.ref t], cs ++ [(y, kx, R, if 10 ^ 12 - 1 < w' then 10 ^ 12 - 1 else w')], rfl, upd_same, ?_, fun cc hcc => ?_, ?_, ?_, ?_, ?_⟩
      · rw [List.map_append, g2, List.take_succ, hy]
        rfl
      · rcases List.mem_append.mp hcc with z | z
        · exact g3 cc z
        · rw [List.mem_singleton.mp z]
          refine ⟨hkx, R1, R2, ?_, ?_⟩
          · show 0 ≤ if (10 : Int) ^ 12 - 1 < w' then (10 : Int) ^ 12 - 1 else w'
            split <;> omega
          · show (if (10 : Int) ^ 12 - 1 < w' then (10 : Int) ^ 12 - 1 else w') < _
            split <;> omega
      · refine paired_snoc ⟨t, rfl, ntb, by rw [upd_ne ntd, upd_same]; rfl⟩ (paired_imp (fun x c h => CarT.more (fun t' xs' n q => ?_) h) g4)
        have n2 : t' ≠ d := fun z => by rw [z, g1] at q; cases q
        rw [upd_ne n2]
        exact s3u ht (sk.get q n)
      · rw [upd_ne npd]
        exact s3u ht e5
      · exact hB.wr hd (s08.new (o := .tup [.str y, .str kx, .int R, .int (if (10 : Int) ^ 12 - 1 < w' then 10 ^ 12 - 1 else w')]) ht) (hB8.new ht)
      · exact (s08.new (o := .tup [.str y, .str kx, .int R, .int (if (10 : Int) ^ 12 - 1 < w' then 10 ^ 12 - 1 else w')]) ht).wr hd
    · rintro σ H' ⟨v5, v6, v7, v8, zs, cs, rfl, g1, g2, g3, g4, g5, hB1, s1⟩
      rw [List.length_map, List.take_length] at g2
      refine ⟨_, rfl, d, zs, rfl, .inl ⟨SqL.of g1, fun l hl => ?_⟩⟩
      have nlb : l ≠ b := hB1.ne hl
      refine k l zs cs _ ⟨by rw [g2]; exact srt, by rw [g2]; exact perm, g3⟩ upd_same ?_ (s1.free hl nlb) nlb (hB1.new hl) (s1.new hl)
      refine paired_imp (fun x c h => ?_) g4
      obtain ⟨t', e, n, q⟩ := h
      exact ⟨t', e, sqt_new (s3u hl q) n⟩
end
end Y

namespace Y
open PySem PySem.Spec PyProof.Rows L2 Ns
open C8 (pss_cut)
theorem Cabs.mono {ns : List Str} {m m' : Int} {k k' : Nat} {cs : List Cab} (h : Cabs ns m k cs) (hm : m ≤ m') (hk : k ≤ k') : Cabs ns m' k' cs :=
  ⟨Nat.le_trans h.len hk, h.nodup, fun c hc => by
    obtain ⟨h1, h2, h3, h4, h5⟩ := h.each c hc
    exact ⟨h1, h2, h3, h4, by omega⟩, h.srt⟩
/-- what a drawn yard is -/
structure YardF (most : Int) (cs : List Cab) (rs : List Car) : Prop where
  ex : ∃ ns nm : List Str, Nms [] ns ∧ ns.length ≤ 8 ∧ Nms [] nm ∧ nm.length ≤ 24 ∧ Cabs ns most 40 cs ∧ Cars ns nm rs
theorem YardF.mono {m m' : Int} {cs : List Cab} {rs : List Car} (h : YardF m cs rs) (hm : m ≤ m') : YardF m' cs rs := by
  obtain ⟨ns, nm, h1, h2, h3, h4, h5, h6⟩ := h.ex
  exact ⟨ns, nm, h1, h2, h3, h4, h5.mono hm (Nat.le_refl _), h6⟩
/-- a yard as a value -/
def YardV (K : PySem.W.Frag) (H : Hp) (y : V) (cs : List Cab) (rs : List Car) : Prop := ∃ (t a b : Addr) (xs zs : List V), y = .ref t ∧ SqT K H t [.ref a, .ref b] ∧ SqT K H a xs ∧ SqT K H b zs ∧ Paired (CabV K H) xs cs ∧ Paired (CarV K H) zs rs
theorem YardV.more {K : PySem.W.Frag} {H H' : Hp} (m : Same H H') {y : V} {cs : List Cab} {rs : List Car} (h : YardV K H y cs rs) : YardV K H' y cs rs := by
  obtain ⟨t, a, b, xs, zs, e, h1, h2, h3, h4, h5⟩ := h
  exact ⟨t, a, b, xs, zs, e, sqt_more m h1, sqt_more m h2, sqt_more m h3, paired_imp (fun _ _ => CabV.more m) h4, paired_imp (fun _ _ => CarV.more m) h5⟩
def spYardOf (K : PySem.W.Frag) : Sp := fun as H Q _ => ∃ (b : Addr) (cars knots cables : Nat) (most : Int), as = [.ref b, .int cars, .int knots, .int cables, .int most] ∧ Bag H b ∧ 2 ≤ cars ∧ cars ≤ 24 ∧ knots ≤ 8 ∧ cables ≤ 40 ∧ 2 ≤ most ∧ most < 10 ^ 12 ∧
  ∀ (y : V) (cs : List Cab) (rs : List Car) (H' : Hp), YardF most cs rs → YardV K (wo H' b) y cs rs → Bag H' b → Sb b H H' → Q y H'
/-- a yard drawn, numbers up to most -/
def spYard (K : PySem.W.Frag) (most : Int) : Sp := fun as H Q _ => ∃ (b : Addr), as = [.ref b] ∧ Bag H b ∧ ∀ (y : V) (cs : List Cab) (rs : List Car) (H' : Hp), YardF most cs rs → YardV K (wo H' b) y cs rs → Bag H' b → Sb b H H' → Q y H'
/-- the yards' defs -/
structure Gen (P : Program) (w : World) (K : PySem.W.Frag) (mg : Str → Option Value) (base : Heap) (fT fS fN fNs fC fR : Addr) (dT dS dN dNs dC dR : FuncData) : Prop where
  T : Fun K "_law_take" "_law_take" sTake fT dT
  mT : mg "_law_take" = some (.ref fT)
  bT : Binds K dT ["bag", "many"] []
  S : Fun K "_law_some" "_law_some" sSome fS dS
  mS : mg "_law_some" = some (.ref fS)
  bS : Binds K dS ["bag", "things"] []
  N : Fun K "_law_names" "_law_names" sNames fNs dNs
  mN : mg "_law_names" = some (.ref fNs)
  bN : Binds K dNs ["bag", "many", "taken"] []
  gN : FnOk P w K mg base CX0 4 fNs dNs ["bag", "many", "taken"] (spNames K)
  C : Fun K "_law_cables" "_law_cables" sCables fC dC
  mC : mg "_law_cables" = some (.ref fC)
  bC : Binds K dC ["bag", "knots", "many", "most"] []
  gC : FnOk P w K mg base CX0 5 fC dC ["bag", "knots", "many", "most"] (spCables K)
  R : Fun K "_law_cars" "_law_cars" sCars fR dR
  mR : mg "_law_cars" = some (.ref fR)
  bR : Binds K dR ["bag", "names", "knots", "most"] []
  gR : FnOk P w K mg base CX0 5 fR dR ["bag", "names", "knots", "most"] (spCars K)
section
variable {P : Program} {w : World} {K : PySem.W.Frag} {mg : Str → Option Value} {base : Heap} {fT fS fN fNs fC fR : Addr} {dT dS dN dNs dC dR : FuncData}
theorem scY : FnScope ["bag", "cars", "knots", "cables", "most", "many", "some"] ["bag", "cars", "knots", "cables", "most"] (defScope sYardOf) := ⟨rfl, rfl, rfl, by decide +kernel, rfl, by decide +kernel, by decide +kernel⟩
theorem ok_yardOf {f : Addr} {fd : FuncData} (F : Fun K "_law_yard_of" "_law_yard_of" sYardOf f fd) (T : Nat0 mg) (G : Gen P w K mg base fT fS fN fNs fC fR dT dS dN dNs dC dR) : FnOk P w K mg base CX0 6 f fd ["bag", "cars", "knots", "cables", "most"] (spYardOf K) := by
  have GT : FnOk P w K mg base CX0 1 fT dT ["bag", "many"] spTake := ok_take G.T T
  have GS : FnOk P w K mg base CX0 2 fS dS ["bag", "things"] (spSome K) := ok_some G.S T G.T G.mT G.bT
  refine F.ok scY (fun as H Q E h => ?_) (fun cdv A outer s H as Q E hr h => ?_)
  · obtain ⟨b, cars, knots, cables, most, rfl, _⟩ := h
    rfl
  · obtain ⟨b, cars, knots, cables, most, rfl, hB, hc1, hc2, hk, hb, hmo, hmo2, k⟩ := h
    have hr1 : Room 1 _ := hr.mono (by decide)
    have hr2 : Room 2 _ := hr.mono (by decide)
    have hr4 : Room 4 _ := hr.mono (by decide)
    have hr5 : Room 5 _ := hr
    refine ⟨_, pss_cons (ps_set (i := 5) scY.nd rfl (.inl rfl) (pe_call GS hr2 rfl G.mS G.S.kp G.bS .nil pass0 (pa_cons (pv 0) (pa_cons (pe_lst (pa_cons (pv 1) (pa_cons (pe_op op_add pe_int (pe_call GT hr1 rfl G.mT G.T.kp G.bT .nil pass0 (pa_cons (pv 0) (pa_cons (pv 1) pa_nil)))) (pa_cons (pv 1)
        (pa_cons (pe_callB (call_max2 rfl) (by rfl) T.max (by decide +kernel) (pa_cons pe_int (pa_cons (pe_op op_sub (pv 1) pe_int) pa_nil))) (pa_cons (pe_call GT hr1 rfl G.mT G.T.kp G.bT .nil pass0 (pa_cons (pv 0) (pa_cons (pe_op op_add (pv 1) pe_int) pa_nil))) pa_nil)))))) pa_nil))))
      (pss_cons (ps_set (i := 6) scY.nd rfl (.inl rfl) (pe_call G.gN hr4 rfl G.mN G.N.kp G.bN .nil pass0 (pa_cons (pv 0) (pa_cons (pe_call GT hr1 rfl G.mT G.T.kp G.bT .nil pass0 (pa_cons (pv 0) (pa_cons (pe_op op_add (pv 2) pe_int) pa_nil))) (pa_cons (pe_lst pa_nil) pa_nil)))))
      (pss_one (ps_ret (pe_tup (pa_cons (pe_call G.gC hr5 rfl G.mC G.C.kp G.bC .nil pass0 (pa_cons (pv 0) (pa_cons (pv 6) (pa_cons (pv 3) (pa_cons (pv 4) pa_nil)))))
        (pa_cons (pe_call G.gR hr5 rfl G.mR G.R.kp G.bR .nil pass0 (pa_cons (pv 0) (pa_cons (pe_call G.gN hr4 rfl G.mN G.N.kp G.bN .nil pass0 (pa_cons (pv 0) (pa_cons (pv 5) (pa_cons (pe_lst pa_nil) pa_nil)))) (pa_cons (pv 6) (pa_cons (pv 4) pa_nil))))) pa_nil)))))), ?_⟩
    have big : (2000 : Nat) < 2 ^ 200 := by decide +kernel
    refine ⟨_, rfl, _, rfl, _, rfl, _, rfl, b, cars, rfl, hB, by omega, by omega, fun v H1 v0 v1 hB1 s1 => ⟨1, v, rfl, rfl, _, rfl, _, rfl, cars, 1, rfl, rfl, 1, _, rfl, _, rfl, _, rfl, cars, 1, rfl, rfl, b, _, rfl, hB1, by omega, by omega, fun u H2 u0 u1 hB2 s2 => ?_⟩⟩
    refine ⟨by show 5 ≤ sizeLine; decide, fun q hq => ⟨b, q, _, rfl, hB2.new hq, sql_new upd_same (hB2.ne hq), (fun z => nomatch z), by show 5 ≤ 1000000; decide, fun x H3 hx hB3 s3 => ?_⟩⟩
    obtain ⟨m, rfl, hm⟩ : ∃ m : Nat, x = .int m ∧ m ≤ 24 := by
      have key : ∀ i : Int, 0 ≤ i → i ≤ 24 → ∃ m : Nat, V.int i = .int m ∧ m ≤ 24 := fun i h0 h1 => ⟨i.toNat, by rw [Int.toNat_of_nonneg h0], by omega⟩
      simp only [List.mem_cons, List.not_mem_nil, or_false] at hx
      rcases hx with rfl | rfl | rfl | rfl | rfl
      · exact key _ (by omega) (by omega)
      · exact key _ (by omega) (by omega)
      · exact key _ (by omega) (by omega)
      · exact key _ (by split <;> omega) (by split <;> omega)
      · exact key _ (by omega) (by omega)
    have s03 := ((s1.trans s2).new (o := .lst [.int cars, .int (1 + v), .int cars, .int (if (cars : Int) - 1 > 1 then (cars : Int) - 1 else 1), .int u]) hq).trans s3
    refine ⟨_, rfl, _, rfl, _, rfl, knots, 1, rfl, rfl, b, _, rfl, hB3, by omega, by omega, fun kn H4 k0 k1 hB4 s4 => ⟨by show 0 ≤ sizeLine; decide, fun q2 hq2 => ?_⟩⟩
    obtain ⟨kn', rfl⟩ : ∃ n : Nat, kn = n := ⟨kn.toNat, by omega⟩
    refine ⟨b, q2, kn', [], rfl, hB4.new hq2, sql_new upd_same (hB4.ne hq2), by show 0 + kn' ≤ 100; omega, (fun _ z => nomatch z), fun p ns H5 hns N5 e5 f5 hB5 s5 => ?_⟩
    have s05 := ((s03.trans s4).new (o := .lst []) hq2).trans s5
    have npb : p ≠ b := (hB4.new (o := .lst []) hq2).ne f5
    refine ⟨_, rfl, _, rfl, _, rfl, _, rfl, b, p, ns, cables, most, rfl, hB5, e5, N5, by omega, by omega, hmo, by omega, fun pc xs cs H6 C6 e6 p6 f6 n6 hB6 s6 => ?_⟩
    refine ⟨_, rfl, _, rfl, _, rfl, by show 0 ≤ sizeLine; decide, fun q3 hq3 => ⟨b, q3, m, [], rfl, hB6.new hq3, sql_new upd_same (hB6.ne hq3), by show 0 + m ≤ 100; omega, (fun _ z => nomatch z), fun pn nm H7 hnm N7 e7 f7 hB7 s7 => ?_⟩⟩
    have npn : pn ≠ b := (hB6.new (o := .lst []) hq3).ne f7
    have s67 := ((Sb.refl b H6).new (o := .lst []) hq3).trans s7
    refine ⟨_, rfl, _, rfl, b, pn, p, nm, ns, most, rfl, hB7, sql_new e7 npn, s67.get (s6.get e5 npb) npb, npb, by omega, by omega, hmo, hmo2, fun pr zs rs H8 R8 e8 p8 f8 n8 hB8 s8 => ?_⟩
    have s68 := s67.trans s8
    refine ⟨by show 2 ≤ sizeLine; decide, fun t ht => ?_⟩
    have sT : Same (wo H8 b) (wo (upd H8 t (.tup [.ref pc, .ref pr])) b) := wo_same (same_new (Same.refl H8) ht)
    refine k (.ref t) cs rs _ ⟨ns, nm, N5, by omega, N7, by omega, C6.mono (Int.le_refl _) hb, R8⟩ ⟨t, pc, pr, xs, zs, rfl, sqt_new upd_same (hB8.ne ht), ?_, ?_, ?_, ?_⟩ (hB8.new ht) (((s05.trans s6).trans s68).new ht)
    · exact sqt_new (s3u ht (s68.get e6 n6)) n6
    · exact sqt_new (s3u ht e8) n8
    · exact paired_imp (fun _ _ h => (h.more s68.1).more sT) p6
    · exact paired_imp (fun _ _ h => h.more sT) p8
end
end Y

namespace Y
open PySem PySem.Spec PyProof.Rows L2 Ns
open C8 (pss_cut)
section
variable {P : Program} {w : World} {K : PySem.W.Frag} {mg : Str → Option Value} {base : Heap} {fT fS fN fNs fC fR : Addr} {dT dS dN dNs dC dR : FuncData}
theorem scSm : FnScope ["bag"] ["bag"] (defScope sSmall) := ⟨rfl, rfl, rfl, by decide +kernel, rfl, by decide +kernel, by decide +kernel⟩
theorem scW : FnScope ["bag", "most"] ["bag"] (defScope sWide) := ⟨rfl, rfl, rfl, by decide +kernel, rfl, by decide +kernel, by decide +kernel⟩
theorem ok_small {f fY : Addr} {fd dY : FuncData} (F : Fun K "_law_small_yard" "_law_small_yard" sSmall f fd) (T : Nat0 mg) (G : Gen P w K mg base fT fS fN fNs fC fR dT dS dN dNs dC dR)
    (FY : Fun K "_law_yard_of" "_law_yard_of" sYardOf fY dY) (mY : mg "_law_yard_of" = some (.ref fY)) (bY : Binds K dY ["bag", "cars", "knots", "cables", "most"] []) : FnOk P w K mg base CX0 7 f fd ["bag"] (spYard K 7) := by
  have GS : FnOk P w K mg base CX0 2 fS dS ["bag", "things"] (spSome K) := ok_some G.S T G.T G.mT G.bT
  have GY : FnOk P w K mg base CX0 6 fY dY ["bag", "cars", "knots", "cables", "most"] (spYardOf K) := ok_yardOf FY T G
  refine F.ok scSm (fun as H Q E h => ?_) (fun cdv A outer s H as Q E hr h => ?_)
  · obtain ⟨b, rfl, _⟩ := h
    rfl
  · obtain ⟨b, rfl, hB, k⟩ := h
    have hr2 : Room 2 _ := hr.mono (by decide)
    refine ⟨_, pss_one (ps_ret (pe_call GY hr rfl mY FY.kp bY .nil pass0 (pa_cons (pv 0) (pa_cons (pe_call GS hr2 rfl G.mS G.S.kp G.bS .nil pass0 (pa_cons (pv 0) (pa_cons (pe_lst (pa_cons pe_int (pa_cons pe_int (pa_cons pe_int (pa_cons pe_int pa_nil))))) pa_nil)))
      (pa_cons pe_int (pa_cons (pe_call GS hr2 rfl G.mS G.S.kp G.bS .nil pass0 (pa_cons (pv 0) (pa_cons (pe_lst (pa_cons pe_int (pa_cons pe_int (pa_cons pe_int pa_nil)))) pa_nil)))
      (pa_cons (pe_call GS hr2 rfl G.mS G.S.kp G.bS .nil pass0 (pa_cons (pv 0) (pa_cons (pe_lst (pa_cons pe_int (pa_cons pe_int (pa_cons pe_int pa_nil)))) pa_nil))) pa_nil))))))), ?_⟩
    refine ⟨_, rfl, _, rfl, by show 4 ≤ sizeLine; decide, fun q1 hq1 => ⟨b, q1, _, rfl, hB.new hq1, sql_new upd_same (hB.ne hq1), (fun z => nomatch z), by show 4 ≤ 1000000; decide, fun x H1 hx hB1 s1 => ?_⟩⟩
    obtain ⟨m1, rfl, a1, a2⟩ : ∃ m : Nat, x = .int m ∧ 2 ≤ m ∧ m ≤ 24 := by
      simp only [List.mem_cons, List.not_mem_nil, or_false] at hx
      rcases hx with rfl | rfl | rfl | rfl
      · exact ⟨3, rfl, by decide, by decide⟩
      · exact ⟨4, rfl, by decide, by decide⟩
      · exact ⟨5, rfl, by decide, by decide⟩
      · exact ⟨2, rfl, by decide, by decide⟩
    refine ⟨_, rfl, by show 3 ≤ sizeLine; decide, fun q2 hq2 => ⟨b, q2, _, rfl, hB1.new hq2, sql_new upd_same (hB1.ne hq2), (fun z => nomatch z), by show 3 ≤ 1000000; decide, fun x H2 hx hB2 s2 => ?_⟩⟩
    obtain ⟨m2, rfl, a3⟩ : ∃ m : Nat, x = .int m ∧ m ≤ 40 := by
      simp only [List.mem_cons, List.not_mem_nil, or_false] at hx
      rcases hx with rfl | rfl | rfl
      · exact ⟨4, rfl, by decide⟩
      · exact ⟨6, rfl, by decide⟩
      · exact ⟨3, rfl, by decide⟩
    refine ⟨_, rfl, by show 3 ≤ sizeLine; decide, fun q3 hq3 => ⟨b, q3, _, rfl, hB2.new hq3, sql_new upd_same (hB2.ne hq3), (fun z => nomatch z), by show 3 ≤ 1000000; decide, fun x H3 hx hB3 s3 => ?_⟩⟩
    obtain ⟨m3, rfl, a4, a5⟩ : ∃ m : Int, x = .int m ∧ 2 ≤ m ∧ m ≤ 7 := by
      simp only [List.mem_cons, List.not_mem_nil, or_false] at hx
      rcases hx with rfl | rfl | rfl
      · exact ⟨3, rfl, by decide, by decide⟩
      · exact ⟨7, rfl, by decide, by decide⟩
      · exact ⟨2, rfl, by decide, by decide⟩
    have s03 := ((((((Sb.refl b H).new (o := .lst [.int 3, .int 4, .int 5, .int 2]) hq1).trans s1).new (o := .lst [.int 4, .int 6, .int 3]) hq2).trans s2).new (o := .lst [.int 3, .int 7, .int 2]) hq3).trans s3
    exact ⟨b, m1, 4, m2, m3, rfl, hB3, a1, a2, by decide, a3, a4, by omega, fun y cs rs H' hY hV hB' s' => k y cs rs H' (hY.mono a5) hV hB' (s03.trans s')⟩
theorem ok_wide {f fY : Addr} {fd dY : FuncData} (F : Fun K "_law_wide_yard" "_law_wide_yard" sWide f fd) (T : Nat0 mg) (G : Gen P w K mg base fT fS fN fNs fC fR dT dS dN dNs dC dR)
    (FY : Fun K "_law_yard_of" "_law_yard_of" sYardOf fY dY) (mY : mg "_law_yard_of" = some (.ref fY)) (bY : Binds K dY ["bag", "cars", "knots", "cables", "most"] []) : FnOk P w K mg base CX0 7 f fd ["bag"] (spYard K (10 ^ 12)) := by
  have GS : FnOk P w K mg base CX0 2 fS dS ["bag", "things"] (spSome K) := ok_some G.S T G.T G.mT G.bT
  have GY : FnOk P w K mg base CX0 6 fY dY ["bag", "cars", "knots", "cables", "most"] (spYardOf K) := ok_yardOf FY T G
  refine F.ok scW (fun as H Q E h => ?_) (fun cdv A outer s H as Q E hr h => ?_)
  · obtain ⟨b, rfl, _⟩ := h
    rfl
  · obtain ⟨b, rfl, hB, k⟩ := h
    have hr2 : Room 2 _ := hr.mono (by decide)
    refine ⟨_, pss_cons (ps_set (i := 1) scW.nd rfl (.inl rfl) (pe_call GS hr2 rfl G.mS G.S.kp G.bS .nil pass0 (pa_cons (pv 0) (pa_cons (pe_lst (pa_cons pe_int (pa_cons pe_int (pa_cons (pe_op op_sub (pe_op op_pow pe_int pe_int) pe_int) (pa_cons (pe_op op_pow pe_int pe_int) pa_nil))))) pa_nil))))
      (pss_one (ps_ret (pe_call GY hr rfl mY FY.kp bY .nil pass0 (pa_cons (pv 0) (pa_cons (pe_call GS hr2 rfl G.mS G.S.kp G.bS .nil pass0 (pa_cons (pv 0) (pa_cons (pe_lst (pa_cons pe_int (pa_cons pe_int (pa_cons pe_int pa_nil)))) pa_nil)))
      (pa_cons pe_int (pa_cons (pe_call GS hr2 rfl G.mS G.S.kp G.bS .nil pass0 (pa_cons (pv 0) (pa_cons (pe_lst (pa_cons pe_int (pa_cons pe_int (pa_cons pe_int pa_nil)))) pa_nil)))
      (pa_cons (pv 1) pa_nil)))))))), ?_⟩
    refine ⟨_, rfl, 10, 12, rfl, rfl, ⟨by decide, by decide, by decide⟩, _, 1, rfl, rfl, 10, 6, rfl, rfl, ⟨by decide, by decide, by decide⟩, by show 4 ≤ sizeLine; decide, fun q1 hq1 => ⟨b, q1, _, rfl, hB.new hq1, sql_new upd_same (hB.ne hq1), (fun z => nomatch z), by show 4 ≤ 1000000; decide, fun x H1 hx hB1 s1 => ?_⟩⟩
    obtain ⟨m3, rfl, a4, a5⟩ : ∃ m : Int, x = .int m ∧ 2 ≤ m ∧ m < 10 ^ 12 := by
      simp only [List.mem_cons, List.not_mem_nil, or_false] at hx
      rcases hx with rfl | rfl | rfl | rfl
      · exact ⟨9, rfl, by decide, by decide⟩
      · exact ⟨40, rfl, by decide, by decide⟩
      · exact ⟨_, rfl, by decide, by decide⟩
      · exact ⟨_, rfl, by decide, by decide⟩
    refine ⟨_, rfl, _, rfl, by show 3 ≤ sizeLine; decide, fun q2 hq2 => ⟨b, q2, _, rfl, hB1.new hq2, sql_new upd_same (hB1.ne hq2), (fun z => nomatch z), by show 3 ≤ 1000000; decide, fun x H2 hx hB2 s2 => ?_⟩⟩
    obtain ⟨m1, rfl, a1, a2⟩ : ∃ m : Nat, x = .int m ∧ 2 ≤ m ∧ m ≤ 24 := by
      simp only [List.mem_cons, List.not_mem_nil, or_false] at hx
      rcases hx with rfl | rfl | rfl
      · exact ⟨8, rfl, by decide, by decide⟩
      · exact ⟨12, rfl, by decide, by decide⟩
      · exact ⟨24, rfl, by decide, by decide⟩
    refine ⟨_, rfl, by show 3 ≤ sizeLine; decide, fun q3 hq3 => ⟨b, q3, _, rfl, hB2.new hq3, sql_new upd_same (hB2.ne hq3), (fun z => nomatch z), by show 3 ≤ 1000000; decide, fun x H3 hx hB3 s3 => ?_⟩⟩
    obtain ⟨m2, rfl, a3⟩ : ∃ m : Nat, x = .int m ∧ m ≤ 40 := by
      simp only [List.mem_cons, List.not_mem_nil, or_false] at hx
      rcases hx with rfl | rfl | rfl
      · exact ⟨9, rfl, by decide⟩
      · exact ⟨16, rfl, by decide⟩
      · exact ⟨40, rfl, by decide⟩
    have s03 := ((((((Sb.refl b H).new (o := .lst [.int 9, .int 40, .int (10 ^ 12 - 1), .int (10 ^ 6)]) hq1).trans s1).new (o := .lst [.int 8, .int 12, .int 24]) hq2).trans s2).new (o := .lst [.int 9, .int 16, .int 40]) hq3).trans s3
    exact ⟨_, rfl, b, m1, 8, m2, m3, rfl, hB3, a1, a2, by decide, a3, a4, a5, fun y cs rs H' hY hV hB' s' => k y cs rs H' (hY.mono (Int.le_of_lt a5)) hV hB' (s03.trans s')⟩
end
end Y

namespace Y
open PySem PySem.Spec PyProof.Rows L2 Ns
open C8 (pss_cut)
theorem min_ok {v : Int} (h : 0 ≤ v) : (1 ≤ v → 1 ≤ if (10 : Int) ^ 12 - 1 < v then (10 : Int) ^ 12 - 1 else v) ∧ 0 ≤ (if (10 : Int) ^ 12 - 1 < v then (10 : Int) ^ 12 - 1 else v) ∧ (if (10 : Int) ^ 12 - 1 < v then (10 : Int) ^ 12 - 1 else v) < 10 ^ 12 := by
  split <;> omega
section
variable {P : Program} {w : World} {K : PySem.W.Frag} {mg : Str → Option Value} {base : Heap} {fT fS fN fNs fC fR : Addr} {dT dS dN dNs dC dR : FuncData}
def NG : List Str := ["bag", "yard", "times", "cables", "cars", "most", "one", "other", "cap", "name", "knot", "rate", "need"]
theorem scG : FnScope ["bag", "yard", "times", "cables", "cars", "most", "one", "other", "cap", "name", "knot", "rate", "need"] ["bag"] (defScope sGreat) := ⟨rfl, rfl, rfl, by decide +kernel, rfl, by decide +kernel, by decide +kernel⟩
theorem ok_great {f fY : Addr} {fd dY : FuncData} (F : Fun K "_law_great_yard" "_law_great_yard" sGreat f fd) (T : Nat0 mg) (G : Gen P w K mg base fT fS fN fNs fC fR dT dS dN dNs dC dR)
    (GY : FnOk P w K mg base CX0 7 fY dY ["bag"] (spYard K 7)) (FY : Fun K "_law_small_yard" "_law_small_yard" sSmall fY dY) (mY : mg "_law_small_yard" = some (.ref fY)) (bY : Binds K dY ["bag"] []) : FnOk P w K mg base CX0 8 f fd ["bag"] (spYard K (10 ^ 12)) := by
  have GS : FnOk P w K mg base CX0 2 fS dS ["bag", "things"] (spSome K) := ok_some G.S T G.T G.mT G.bT
  refine F.ok scG (fun as H Q E h => ?_) (fun cdv A outer s H as Q E hr h => ?_)
  · obtain ⟨b, rfl, _⟩ := h
    rfl
  · obtain ⟨b, rfl, hB, k⟩ := h
    have hr2 : Room 2 _ := hr.mono (by decide)
    refine ⟨_, pss_cons (ps_asg (pe_tup (pa_cons (pe_call GY hr rfl mY FY.kp bY .nil pass0 (pa_cons (pv 0) pa_nil)) (pa_cons (pe_call GS hr2 rfl G.mS G.S.kp G.bS .nil pass0 (pa_cons (pv 0) (pa_cons (pe_lst (pa_cons (pe_op op_pow pe_int pe_int) (pa_cons (pe_op op_add (pe_op op_pow pe_int pe_int) pe_int) (pa_cons pe_int (pa_cons pe_int pa_nil))))) pa_nil))) pa_nil)))
        (pg_tup (by rfl) (pgs_cons (pg_name (i := 1) scG.nd rfl (.inl rfl)) (pgs_cons (pg_name (i := 2) scG.nd rfl (.inr rfl)) pgs_nil))))
      (pss_cons (ps_set (i := 3) scG.nd rfl (.inl rfl) (pe_callTy call_tuple_of (by rfl) T.tuple (by decide +kernel) (pa_cons
        (pe_lc (own := [("one", 6), ("other", 7), ("cap", 8)]) (g := gTup K 3 (gCons (gName 6) (gCons (gName 7) (gCons (gName 8) gNil)))) (tt := tYes) rfl scG.nd (pi_tup (pe_ix ix_tup (pv 1) pe_int (fun _ _ => rfl)))
          (blkOk_by (N := ["bag", "yard", "times", "cables", "cars", "most", "one", "other", "cap", "name", "knot", "rate", "need"]) (sc := defScope sGreat) (by decide +kernel)) (fun _ _ _ _ _ => pg_tup rfl (pgs_cons (pg_name (i := 6) scG.nd rfl (Or.inl rfl)) (pgs_cons (pg_name (i := 7) scG.nd rfl (Or.inl rfl)) (pgs_cons (pg_name (i := 8) scG.nd rfl (Or.inl rfl)) pgs_nil)))) (fun _ _ _ _ _ => pts_nil)
          (fun _ _ _ _ _ => pe_tup (pa_cons (pv 6) (pa_cons (pv 7) (pa_cons (pe_op op_mul (pv 8) (pv 2)) pa_nil))))) pa_nil)))
      (pss_cons (ps_par (i := 4) (j := 5) rfl scG.nd rfl rfl (by decide) rfl rfl (pa_cons (pe_lst pa_nil) (pa_cons (pe_op op_sub (pe_op op_pow pe_int pe_int) pe_int) pa_nil)) (by rfl))
      (pss_cons (ps_for PassesOwn.never rfl (pi_tup (pe_ix ix_tup (pv 1) pe_int (fun _ _ => rfl))) (pg_tup rfl (pgs_cons (pg_name (i := 9) scG.nd rfl (.inl rfl)) (pgs_cons (pg_name (i := 10) scG.nd rfl (.inl rfl)) (pgs_cons (pg_name (i := 11) scG.nd rfl (.inl rfl)) (pgs_cons (pg_name (i := 12) scG.nd rfl (.inl rfl)) pgs_nil)))))
        (pss_one (ps_expr (pe_bm PySem.F.plainAttrs_list PySem.F.slot_list_append PySem.F.type_list_append mt_append (pv 4) (pa_cons (pe_tup (pa_cons (pv 9) (pa_cons (pv 10) (pa_cons (pe_callB (call_min2 rfl) (by rfl) T.min (by decide +kernel) (pa_cons (pe_op op_mul (pv 11) (pv 2)) (pa_cons (pv 5) pa_nil)))
          (pa_cons (pe_callB (call_min2 rfl) (by rfl) T.min (by decide +kernel) (pa_cons (pe_op op_mul (pv 12) (pv 2)) (pa_cons (pv 5) pa_nil))) pa_nil))))) pa_nil)))))
      (pss_one (ps_ret (pe_tup (pa_cons (pv 3) (pa_cons (pe_callTy call_tuple_of (by rfl) T.tuple (by decide +kernel) (pa_cons (pv 4) pa_nil)) pa_nil)))))))), ?_⟩
    refine ⟨_, rfl, b, rfl, hB, fun y cs rs H1 hY hV hB1 s1 => ?_⟩
    refine ⟨_, rfl, 10, 11, rfl, rfl, ⟨by decide, by decide, by decide⟩, 10, 9, rfl, rfl, ⟨by decide, by decide, by decide⟩, _, 7, rfl, rfl, by show 4 ≤ sizeLine; decide, fun q1 hq1 => ⟨b, q1, _, rfl, hB1.new hq1, sql_new upd_same (hB1.ne hq1), (fun z => nomatch z), by show 4 ≤ 1000000; decide, fun x H2 hx hB2 s2 => ?_⟩⟩
    obtain ⟨m, rfl, a4, a5⟩ : ∃ m : Int, x = .int m ∧ 1 ≤ m ∧ m ≤ 10 ^ 11 := by
      simp only [List.mem_cons, List.not_mem_nil, or_false] at hx
      rcases hx with rfl | rfl | rfl | rfl
      · exact ⟨_, rfl, by decide, by decide⟩
      · exact ⟨_, rfl, by decide, by decide⟩
      · exact ⟨999, rfl, by decide, by decide⟩
      · exact ⟨1, rfl, by decide, by decide⟩
    have s02 := (s1.new (o := .lst [.int (10 ^ 11), .int (10 ^ 9 + 7), .int 999, .int 1]) hq1).trans s2
    have s12 := ((Sb.refl b H1).new (o := .lst [.int (10 ^ 11), .int (10 ^ 9 + 7), .int 999, .int 1]) hq1).trans s2
    refine ⟨by show 2 ≤ sizeLine; decide, fun t ht => ⟨t, _, rfl, SqT.of upd_same, rfl, _, _, rfl, _, _, rfl, rfl, ?_⟩⟩
    have hB3 := hB2.new (o := .tup [y, .int m]) ht
    have s3 := s02.new (o := .tup [y, .int m]) ht
    have hV3 := hV.more (s12.new (o := .tup [y, .int m]) ht).1
    generalize upd H2 t (.tup [y, .int m]) = H3 at hB3 s3 hV3 ⊢
    obtain ⟨ty, ya, yb, xs, zs, rfl, v1, v2, v3, v4, v5⟩ := hV3
    obtain ⟨ns, nm, N1, N2, N3, N4, CC, RR⟩ := hY.ex
    have m64 : (10 : Int) ^ 12 < 2 ^ 64 := by decide
    refine ⟨_, rfl, ty, _, 0, .ref ya, rfl, rfl, sqt_more (wo_sub H3 b) v1, at0, ya, rfl, ⟨_, sqt_more (wo_sub H3 b) v2⟩, fun D hD => ?_⟩
    have lx : xs.length = cs.length := paired_len v4
    refine lc_tup (K := K) (a := ya) (xs := xs) (fun i H' => ∃ (ys : List V), H' D = some (.lst ys) ∧ ys.length = i ∧ Paired (CabT H' b) ys ((cs.take i).map fun c => (c.1, c.2.1, c.2.2 * m)) ∧ Same H3 H' ∧ Bag H' b) ?_ ?_ ?_ ?_
    · exact ⟨[], upd_same, rfl, by rw [List.take_zero]; exact .nil, same_new (Same.refl H3) hD, hB3.new hD⟩
    · rintro i H' hi ⟨ys, _, _, _, sm, _⟩
      exact sqt_more sm (sqt_more (wo_sub H3 b) v2)
    · rintro i x H' hx ⟨ys, g1, g2, g3, g4, g5⟩
      obtain ⟨c, hc, t', rfl, hq⟩ := paired_at v4 hx
      obtain ⟨c1, c2, c3, c4, c5⟩ := CC.each c (List.mem_of_getElem? hc)
      refine ⟨t', _, rfl, sqt_more g4 (sqt_more (wo_sub H3 b) hq), rfl, _, _, rfl, _, _, rfl, _, _, rfl, rfl, ?_⟩
      refine ⟨rfl, _, rfl, _, rfl, _, rfl, _, rfl, c.2.2, m, rfl, rfl, .inl ⟨by omega, by omega⟩, by show 3 ≤ sizeLine; decide, fun v hv => ?_⟩
      have nvb : v ≠ b := g5.ne hv
      have q1 : upd H' v (.tup [.str c.1, .str c.2.1, .int (c.2.2 * m)]) D = some (.lst ys) := s3u hv g1
      have nvD : v ≠ D := ne_at upd_same q1 (fun z => by cases z)
      have hi' : i < cs.length := (List.getElem?_eq_some_iff.mp hc).1
      have := CC.len
      refine ⟨ys, q1, small1000 (by omega), ys ++ [.ref v], upd_same, by rw [List.length_append, g2]; rfl, ?_, ?_, ?_⟩
      · rw [List.take_succ, hc, List.map_append]
        exact paired_snoc ⟨v, rfl, nvb, by rw [upd_ne nvD, upd_same]⟩ (paired_imp (fun x c h => (CabT.more (same_new (Same.refl H') hv) h).upd q1) g3)
      · exact same_put (same_new g4 hv) hD
      · exact hB3.wr hD ((Sb.refl b H3).same (same_new g4 hv)) (g5.new hv)
    rintro H4 ⟨ys, g1, g2, g3, g4, g5⟩
    rw [lx, List.take_length] at g3
    refine ⟨D, ys, rfl, .inl ⟨SqL.of g1, fun l hl => ?_⟩⟩
    have nlb : l ≠ b := g5.ne hl
    have hB5 := g5.new (o := .tup ys) hl
    have m5 := same_new (o := .tup ys) g4 hl
    have e5 : upd H4 l (.tup ys) l = some (.tup ys) := upd_same
    have p5 : Paired (CabT (upd H4 l (.tup ys)) b) ys (cs.map fun c => (c.1, c.2.1, c.2.2 * m)) := paired_imp (fun x c h => CabT.more (same_new (Same.refl H4) hl) h) g3
    generalize upd H4 l (.tup ys) = H5 at hB5 m5 e5 p5 ⊢
    clear g1 g2 g3 g4 g5
    refine ⟨by show 0 ≤ sizeLine; decide, fun d hd => ⟨10, 12, rfl, rfl, ⟨by decide, by decide, by decide⟩, _, 1, rfl, rfl, _, _, rfl, ?_⟩⟩
    have ndb : d ≠ b := hB5.ne hd
    have nld : l ≠ d := ne_of_none e5 hd
    refine ⟨_, rfl, ty, _, 1, .ref yb, rfl, rfl, sqt_more (same_new m5 hd) (sqt_more (wo_sub H3 b) v1), at1, yb, rfl, ⟨_, sqt_more (same_new m5 hd) (sqt_more (wo_sub H3 b) v3)⟩, ?_⟩
    have lz : zs.length = rs.length := paired_len v5
    refine for_tup (K := K) (a := yb) (xs := zs) (fun i σ H' => ∃ (w9 w10 w11 w12 : Option V) (us : List V), σ = [some (.ref b), some (.ref ty), some (.int m), some (.ref l), some (.ref d), some (.int (10 ^ 12 - 1)), none, none, none, w9, w10, w11, w12] ∧ H' d = some (.lst us) ∧
      us.length = i ∧ Paired (CarT H' b) us ((rs.take i).map fun c => (c.1, c.2.1, (if 10 ^ 12 - 1 < c.2.2.1 * m then 10 ^ 12 - 1 else c.2.2.1 * m), (if 10 ^ 12 - 1 < c.2.2.2 * m then 10 ^ 12 - 1 else c.2.2.2 * m))) ∧ Same H5 H' ∧ Bag H' b) ?_ ?_ ?_ ?_
    · exact ⟨none, none, none, none, [], rfl, upd_same, rfl, by rw [List.take_zero]; exact .nil, same_new (Same.refl H5) hd, hB5.new hd⟩
    · rintro i σ H' hi ⟨w9, w10, w11, w12, us, _, _, _, _, sm, _⟩
      exact sqt_more (m5.trans sm) (sqt_more (wo_sub H3 b) v3)
    · rintro i x σ H' hx ⟨w9, w10, w11, w12, us, rfl, g1, g2, g3, g4, g5⟩
      obtain ⟨c, hc, t', rfl, hq⟩ := paired_at v5 hx
      obtain ⟨c1, c2, c3, c4, c5⟩ := RR.each c (List.mem_of_getElem? hc)
      refine ⟨t', _, rfl, sqt_more (m5.trans g4) (sqt_more (wo_sub H3 b) hq), rfl, _, _, rfl, _, _, rfl, _, _, rfl, _, _, rfl, rfl, ?_⟩
      refine ⟨_, rfl, .inl ⟨rfl, _, SqL.of g1⟩, _, rfl, _, rfl, _, rfl, _, rfl, c.2.2.1, m, rfl, rfl, .inl ⟨by omega, by omega⟩, _, rfl, _, _, rfl, _, rfl, _, rfl, c.2.2.2, m, rfl, rfl, .inl ⟨by omega, by omega⟩, _, rfl, _, _, rfl, by show 4 ≤ sizeLine; decide, fun v hv => ?_⟩
      have nvb : v ≠ b := g5.ne hv
      have nvd : v ≠ d := fun z => by rw [z, g1] at hv; cases hv
      have hi' : i < rs.length := (List.getElem?_eq_some_iff.mp hc).1
      have rl : rs.length ≤ 24 := by
        have := RR.perm.length_eq
        rw [List.length_map] at this
        omega
      refine ⟨d, us, .ref v, rfl, rfl, s3u hv g1, small1000 (by omega), _, _, _, _, us ++ [.ref v], rfl, upd_same, by rw [List.length_append, g2]; rfl, ?_, ?_, ?_⟩
      · rw [List.take_succ, hc, List.map_append]
        refine paired_snoc ⟨v, rfl, nvb, by rw [upd_ne nvd, upd_same]⟩ (paired_imp (fun x c h => CarT.more (fun t' xs' n q => ?_) h) g3)
        rw [upd_ne (fun z => by rw [z, g1] at q; cases q)]
        exact s3u hv q
      · exact same_put (same_new g4 hv) hd
      · exact hB5.wr hd ((Sb.refl b H5).same (same_new g4 hv)) (g5.new hv)
    rintro σ H6 ⟨w9, w10, w11, w12, us, rfl, g1, g2, g3, g4, g5⟩
    rw [lz, List.take_length] at g3
    refine ⟨_, rfl, _, rfl, d, us, rfl, .inl ⟨SqL.of g1, fun u hu => ⟨by show 2 ≤ sizeLine; decide, fun z hz => ?_⟩⟩⟩
    have nub : u ≠ b := g5.ne hu
    have nzb : z ≠ b := (g5.new (o := .tup us) hu).ne hz
    have mE : Same H6 (upd (upd H6 u (.tup us)) z (.tup [.ref l, .ref u])) := same_new (same_new (Same.refl H6) hu) hz
    refine k (.ref z) (cs.map fun c => (c.1, c.2.1, c.2.2 * m)) (rs.map fun c => (c.1, c.2.1, (if 10 ^ 12 - 1 < c.2.2.1 * m then 10 ^ 12 - 1 else c.2.2.1 * m), (if 10 ^ 12 - 1 < c.2.2.2 * m then 10 ^ 12 - 1 else c.2.2.2 * m))) _
      ⟨ns, nm, N1, N2, N3, N4, ⟨by rw [List.length_map]; exact CC.len, ?_, fun c hc => ?_, ?_⟩, ⟨?_, ?_, fun c hc => ?_⟩⟩ ⟨z, l, u, ys, us, rfl, sqt_new upd_same nzb, sqt_new (mE _ _ (g4 _ _ e5)) nlb, sqt_new (s3u hz upd_same) nub, ?_, ?_⟩ ((g5.new hu).new hz) (s3.same ((m5.trans g4).trans mE))
    · rw [List.map_map]
      exact CC.nodup
    · obtain ⟨c', hc', rfl⟩ := List.mem_map.mp hc
      obtain ⟨c1, c2, c3, c4, c5⟩ := CC.each c' hc'
      refine ⟨c1, c2, c3, Int.mul_nonneg c4 (by omega), ?_⟩
      have := Int.mul_le_mul c5 a5 (by omega) (by decide)
      show c'.2.2 * m ≤ _
      omega
    · rw [List.map_map]
      exact CC.srt
    · rw [List.map_map]
      exact RR.srt
    · rw [List.map_map]
      exact RR.perm
    · obtain ⟨c', hc', rfl⟩ := List.mem_map.mp hc
      obtain ⟨c1, c2, c3, c4, c5⟩ := RR.each c' hc'
      have h1 : c'.2.2.1 * 1 ≤ c'.2.2.1 * m := Int.mul_le_mul_of_nonneg_left a4 (by omega)
      have h2 : 0 ≤ c'.2.2.2 * m := Int.mul_nonneg c4 (by omega)
      obtain ⟨z1, _, z3⟩ := min_ok (v := c'.2.2.1 * m) (by omega)
      obtain ⟨_, z5, z6⟩ := min_ok (v := c'.2.2.2 * m) h2
      exact ⟨c1, z1 (by omega), Int.le_of_lt z3, z5, z6⟩
    · refine paired_imp (fun x c h => ?_) p5
      obtain ⟨t', e, n, q⟩ := h
      exact ⟨t', e, sqt_new (mE _ _ (g4 _ _ q)) n⟩
    · refine paired_imp (fun x c h => ?_) g3
      obtain ⟨t', e, n, q⟩ := h
      exact ⟨t', e, sqt_new (mE _ _ q) n⟩
end
end Y

/-! NsU: d.update(e), two dicts; the values and the items of a dict. -/
namespace Ns
open PySem PySem.Spec PyProof.Rows L2
open L2.DX (itemsO itemsO_ok takeT)
theorem mergeK_len : ∀ (more kvs : List (Key × V)), (mergeK kvs more).length ≤ kvs.length + more.length
  | [], kvs => Nat.le_refl _
  | p :: more, kvs => by
    have h1 := mergeK_len more (putK kvs p.1 p.2)
    have h2 := length_putK kvs p.1 p.2
    show (mergeK (putK kvs p.1 p.2) more).length ≤ _
    rw [List.length_cons]
    omega
section
variable {X : Cx}
def rDUpd : V → List V → Hp → VK → Prop := fun x xs H Q => ∃ (a b : Addr) (kvs more : List (Key × V)), x = .ref a ∧ xs = [.ref b] ∧ a ≠ b ∧ H a = some (.dK kvs) ∧ H b = some (.dK more) ∧ kvs.length + more.length ≤ sizeLine ∧ Q .non (upd H a (.dK (mergeK kvs more)))
theorem mt_dupd : MtR X "dict.update" rDUpd := by
  intro pins s σ H x xs v us Q I rx rxs h
  obtain ⟨a, b, kvs, more, rfl, rfl, hab, ha, hb, hz, q⟩ := h
  cases rx
  obtain ⟨u, rfl, ru⟩ := vals1 rxs
  cases ru
  obtain ⟨_, da, va, ka, oa⟩ := dk_of I.hok ha
  obtain ⟨_, db, vb, kb, ob⟩ := dk_of I.hok hb
  have lens : va.length + vb.length ≤ sizeLine := by rw [← ka.length, ← kb.length]; exact hz
  refine call_meetsIn PySem.F.slot_dict_update oa.typeIs PySem.F.entry_dict_update (PySem.F.args_dict_update_2 _ _) (meets_dict_update (mixKind X.prog X.w) a b hab db) ⟨va, vb, oa, ob, lens, fun h' m1 _ sb => ?_⟩
  have there : ∃ q, h'.get? a = some q := by
    obtain ⟨q, _, _, hq, _⟩ := m1
    exact ⟨q, hq⟩
  exact ⟨.non, _, d_write (t' := s.toks) I (by rw [ha]; trivial) sb there (dk_new (Nat.le_trans (mergeK_len more kvs) hz) da (KV.merge kb ka) m1), rfl, q⟩
/-- the view d.values() at p -/
def valsO (p d : Addr) : HO := .ext fun h => h.IsValuesView p d
theorem valsO_ok {P : Program} {w : World} {H : Hp} {h : Heap} {p d : Addr} (e : h.get? p = some { cls := .type "dict_values", data := .fields #[.ref d] }) : ObjOk P w H h p (valsO p d) :=
  ⟨⟨_, e, rfl, rfl⟩, ⟨_, e⟩, fun h1 h2 x k => by
    obtain ⟨o, ho, r⟩ := x
    exact ⟨o, k o ho, r⟩⟩
def rItemsK : V → List V → Hp → VK → Prop := fun x xs H Q => ∃ (a : Addr) (kvs : List (Key × V)), x = .ref a ∧ xs = [] ∧ H a = some (.dK kvs) ∧ ∀ p, H p = none → Q (.ref p) (upd H p (itemsO p a))
def rValsK : V → List V → Hp → VK → Prop := fun x xs H Q => ∃ (a : Addr) (kvs : List (Key × V)), x = .ref a ∧ xs = [] ∧ H a = some (.dK kvs) ∧ ∀ p, H p = none → Q (.ref p) (upd H p (valsO p a))
theorem mt_itemsK : MtR X "dict.items" rItemsK := by
  intro pins s σ H x xs v us Q I rx rxs h
  obtain ⟨a, kvs, rfl, rfl, ha, q⟩ := h
  cases rx
  cases rxs
  obtain ⟨_, da, va, ka, oa⟩ := dk_of I.hok ha
  refine call_meetsIn PySem.F.slot_dict_items oa.typeIs PySem.F.entry_dict_items (PySem.F.args_dict_items_1 _) (meets_dict_items (mixKind X.prog X.w) a da) ⟨⟨va, oa⟩, ?_⟩
  exact ⟨.ref s.heap.objs.size, upd H s.heap.objs.size (itemsO s.heap.objs.size a), I.laid (t' := s.toks) (fun b u e => Heap.get?_push_of_some _ e) (Nat.le_refl _) (itemsO_ok (Heap.get?_push_size _ rfl)), rfl, q _ (I.hok.fresh (Nat.le_refl _))⟩
theorem mt_valsK : MtR X "dict.values" rValsK := by
  intro pins s σ H x xs v us Q I rx rxs h
  obtain ⟨a, kvs, rfl, rfl, ha, q⟩ := h
  cases rx
  cases rxs
  obtain ⟨_, da, va, ka, oa⟩ := dk_of I.hok ha
  refine call_meetsIn PySem.F.slot_dict_values oa.typeIs PySem.F.entry_dict_values (PySem.F.args_dict_values_1 _) (meets_dict_values (mixKind X.prog X.w) a da) ⟨⟨va, oa⟩, ?_⟩
  exact ⟨.ref s.heap.objs.size, upd H s.heap.objs.size (valsO s.heap.objs.size a), I.laid (t' := s.toks) (fun b u e => Heap.get?_push_of_some _ e) (Nat.le_refl _) (valsO_ok (Heap.get?_push_size _ rfl)), rfl, q _ (I.hok.fresh (Nat.le_refl _))⟩
/-- sum(d.values()), whole numbers -/
def rSumVals : List V → Hp → VK → Prop := fun xs H Q => ∃ (p a : Addr) (kvs : List (Key × V)) (ns : List Int), xs = [.ref p] ∧ H p = some (valsO p a) ∧ H a = some (.dK kvs) ∧ kvs.map (·.2) = ns.map V.int ∧ Q (.int ns.sum) H
theorem preSum_eq : ∀ ns : List Int, preSum (fun i => ns.getD i 0) ns.length = ns.sum
  | [] => rfl
  | n :: ns => by
    rw [List.length_cons, PySem.W.kdu_shift]
    have ih := preSum_eq ns
    show n + preSum (fun i => ns.getD i 0) ns.length = _
    rw [ih, List.sum_cons]
theorem vals_num {ns : List Int} : ∀ {us : List Value}, Vals (ns.map V.int) us → ∀ (j : Nat) (u : Value), us[j]? = some u → ∃ t, u = .int (ns.getD j 0) t := by
  induction ns with
  | nil => intro us r j u h; cases r; cases h
  | cons n ns ih =>
    intro us r j u h
    cases r with
    | cons a b =>
      cases j with
      | zero =>
        cases h
        exact a
      | succ j => exact ih b j u h
theorem call_sumVals (hc : X.calm = true) : CallR X (.builtin "sum") rSumVals := by
  intro pins s σ H xs us Q I r h
  obtain ⟨p, a, kvs, ns, rfl, hp, ha, hn, q⟩ := h
  obtain rfl := Vals.ref1 r
  have view : s.heap.IsValuesView p a := (show ObjOk X.prog X.w H s.heap p (valsO p a) from I.hok p _ hp).1
  obtain ⟨_, da, va, ka, oa⟩ := dk_of I.hok ha
  obtain ⟨ep, hat⟩ := oa.dictAt
  have src := PySem.W.kdl_values (prog := X.prog) (w := X.w) (knd := mixKind X.prog X.w) (kvs := va) (ep := ep) (r := p) (d := a)
  have ok : s.heap.IsValuesView p a ∧ s.heap.DictAt (mixKind X.prog X.w) a va ep := ⟨view, hat⟩
  have nums := kv_vals ka
  rw [hn] at nums
  have ln : va.length = ns.length := by
    have := nums.length
    rw [List.length_map, List.length_map] at this
    exact this.symm
  refine call_sum_walkAnyS ?_
  obtain ⟨ob, St, step, W, st⟩ := src.iter X.A.in1 s (I.ok.hd hc) ok
  refine step _ _ ⟨s.heap.objs.size, _, _, _, va.length, _, _, fun i => ns.getD i 0, rfl, W.toS, st, fun b hb => ?_, fun i v hv => ?_, fun s' t' hm => ?_⟩
  · have there := src.there _ ok
    have up : s.heap.objs.size < (s.heap.push ob).objs.size := by rw [size_push']; omega
    rcases List.mem_cons.mp hb with e | e
    · rw [e]; exact up
    · rw [List.mem_singleton.mp e]
      exact Nat.lt_trans there.2 up
  · obtain ⟨k, hk⟩ := hv
    exact vals_num nums i v (by rw [List.getElem?_map, hk]; rfl)
  · have kept : ∀ b o, s.heap.get? b = some o → s'.heap.get? b = some o := fun b o e => by
      refine hm.heap b o (fun z => ?_) (Heap.get?_push_of_some _ e)
      have := Heap.lt_size e
      rw [List.mem_singleton.mp z] at this
      exact Nat.lt_irrefl _ this
    rw [Moved.eq_with hm, ln, preSum_eq]
    exact ⟨.int ns.sum, H, I.kept kept, ⟨_, rfl⟩, q⟩
/-- list(d.items()): new pairs -/
def rListItems : List V → Hp → VK → Prop := fun xs H Q => ∃ (p a : Addr) (kvs : List (Key × V)), xs = [.ref p] ∧ H p = some (itemsO p a) ∧ H a = some (.dK kvs) ∧
  ∀ (l : Addr) (ts : List Addr) (H' : Hp), H l = none → Same H H' → H' l = some (.lst (ts.map V.ref)) → Paired (fun (t : Addr) (kv : Key × V) => H' t = some (.tup [kV kv.1, kv.2]) ∧ H t = none) ts kvs → Q (.ref l) H'
theorem key_rel {P : Program} {w : World} {k : Key} {u : Value} (h : (mixKind P w).is k u = true) : RelV (kV k) u := by
  rcases keyIs_shape (show keyIs k u = true from h) with ⟨i, t, rfl, rfl⟩ | ⟨x, t, rfl, rfl⟩
  · exact ⟨t, rfl⟩
  · exact ⟨t, rfl⟩
theorem kv_at : ∀ {ks : List (Key × V)} {vs : List (Key × Value)}, KV ks vs → ∀ {j : Nat} {k : Key} {x : Value}, vs[j]? = some (k, x) → ∃ v, ks[j]? = some (k, v) ∧ RelV v x
  | _, _, .cons (a := a) h t, 0, k, x, e => by
    cases e
    obtain ⟨h1, h2⟩ := h
    have h1' : a.1 = k := h1
    exact ⟨a.2, by rw [← h1']; rfl, h2⟩
  | _, _, .cons h t, j + 1, k, x, e => kv_at t e
theorem pair_rows {R : Addr → Key × V → Prop} : ∀ {ts : List Addr} {kvs : List (Key × V)}, ts.length = kvs.length → (∀ (j : Nat) (t : Addr) (kv : Key × V), ts[j]? = some t → kvs[j]? = some kv → R t kv) → Paired R ts kvs
  | [], [], _, _ => .nil
  | t :: ts, kv :: kvs, hl, h => .cons (h 0 t kv rfl rfl) (pair_rows (Nat.succ.inj hl) fun j a b h1 h2 => h (j + 1) a b h1 h2)
theorem call_listItems (hc : X.calm = true) : CallR X (.type "list") rListItems := by
  intro pins s σ H xs us Q I r h
  obtain ⟨p, a, kvs, rfl, hp, ha, q⟩ := h
  obtain rfl := Vals.ref1 r
  have view : s.heap.IsItemsView p a := (show ObjOk X.prog X.w H s.heap p (itemsO p a) from I.hok p _ hp).1
  obtain ⟨hz, da, va, ka, oa⟩ := dk_of I.hok ha
  obtain ⟨ep, hat⟩ := oa.dictAt
  have lv : kvs.length = va.length := ka.length
  refine PySem.W.kdx_call (I.ok.hd hc) view hat (by rw [← lv]; exact hz) fun h' tk acc c ts kept hS hl hG hacc => ?_
  have nd : ts.Nodup := List.Pairwise.imp (fun h => Nat.ne_of_lt h) hG.rise
  have fr : H s.heap.objs.size = none := I.hok.fresh (Nat.le_refl _)
  have lz : (ts.map V.ref).length ≤ sizeLine := by rw [List.length_map, hl, ← lv]; exact hz
  have I1 : Inv X pins σ (upd H s.heap.objs.size (.lst (ts.map V.ref))) { s with heap := h', toks := tk } :=
    I.laid (t' := tk) kept (Nat.le_refl _) ⟨lz, acc.toList, c, by rw [hacc]; exact vals_refs ts, by rw [Array.toArray_toList]; exact hS⟩
  have made : ∀ (j : Nat) (t : Addr), ts[j]? = some t → ∃ (k : Key) (v : V), kvs[j]? = some (k, v) ∧ ∀ H2, ObjOk X.prog X.w H2 h' t (.tup [kV k, v]) := fun j t ht => by
    obtain ⟨key, k, x, e1, e2, e3⟩ := hG.pairs j t ht
    obtain ⟨v, e4, rv⟩ := kv_at ka e1
    exact ⟨k, v, e4, fun H2 => ⟨(by rw [sizeLine_eq]; show 2 ≤ 16777216; omega), [key, x], .cons (key_rel e2) (.cons rv .nil), ⟨_, e3, rfl, 0, rfl⟩⟩⟩
  obtain ⟨H2, I3, g, qt⟩ := takeT (P := fun t vs => ∃ (j : Nat) (k : Key) (v : V), ts[j]? = some t ∧ kvs[j]? = some (k, v) ∧ vs = [kV k, v]) I ts _ I1 nd fun t ht => by
    obtain ⟨j, hj⟩ := List.mem_iff_getElem?.mp ht
    obtain ⟨k, v, e1, e2⟩ := made j t hj
    have above := hG.above t ht
    exact ⟨Nat.le_of_lt above, by rw [upd_ne (Nat.ne_of_gt above)]; exact I.hok.fresh (Nat.le_of_lt above), [kV k, v], ⟨j, k, v, hj, e1, rfl⟩, e2⟩
  refine ⟨.ref s.heap.objs.size, H2, I3, rfl, q _ ts H2 fr (fun b o e => g b o (by rw [upd_ne (ne_of_none e fr)]; exact e)) (g _ _ upd_same) (pair_rows (by rw [hl, lv]) fun j t kv h1 h2 => ?_)⟩
  obtain ⟨vs, ⟨i, k, v, e1, e2, rfl⟩, e3⟩ := qt t (List.mem_of_getElem? h1)
  have ij : i = j := (List.getElem?_inj (List.getElem?_eq_some_iff.mp e1).1 nd).mp (e1.trans h1.symm)
  rw [ij, h2] at e2
  cases e2
  exact ⟨e3, I.hok.fresh (Nat.le_of_lt (hG.above t (List.mem_of_getElem? h1)))⟩
end
end Ns

namespace Y
open PySem PySem.Spec PyProof.Rows L2 Ns
open C8 (pss_cut)
/-- a dict of texts to 1 -/
def kv1 (l : List Str) : List (Key × V) := l.map fun s => ((Sum.inr s : Key), V.int 1)
def ins (l : List Str) (s : Str) : List Str := if s ∈ l then l else l ++ [s]
theorem kv1_any (s : Str) : ∀ l : List Str, ((kv1 l).any fun kv => decide (kv.1 = Sum.inr s)) = decide (s ∈ l)
  | [] => by simp [kv1]
  | t :: l => by
    have ih := kv1_any s l
    unfold kv1 at ih ⊢
    rw [List.map_cons, List.any_cons, ih]
    by_cases e : t = s
    · simp [e]
    · have e2 : ¬ s = t := fun z => e z.symm
      simp [e, e2]
theorem kv1_put (l : List Str) (s : Str) : putK (kv1 l) (Sum.inr s) (.int 1) = kv1 (ins l s) := by
  unfold putK ins
  rw [kv1_any]
  by_cases h : s ∈ l
  · rw [if_pos (decide_eq_true h), if_pos h]
    unfold kv1
    rw [List.map_map]
    apply List.map_congr_left
    intro t _
    by_cases e : t = s
    · simp [e]
    · simp [e]
  · rw [if_neg (by simp [h]), if_neg h]
    unfold kv1
    rw [List.map_append]
    rfl
theorem kv1_merge : ∀ (m l : List Str), mergeK (kv1 l) (kv1 m) = kv1 (m.foldl ins l)
  | [], _ => rfl
  | s :: m, l => by
    show mergeK (putK (kv1 l) (Sum.inr s) (.int 1)) (kv1 m) = _
    rw [kv1_put, kv1_merge m]
    rfl
theorem mem_ins {l : List Str} {s t : Str} : t ∈ ins l s ↔ t ∈ l ∨ t = s := by
  unfold ins
  by_cases h : s ∈ l
  · rw [if_pos h]
    exact ⟨.inl, fun z => z.elim id fun e => e ▸ h⟩
  · rw [if_neg h, List.mem_append, List.mem_singleton]
theorem nodup_ins {l : List Str} (h : l.Nodup) (s : Str) : (ins l s).Nodup := by
  unfold ins
  by_cases c : s ∈ l
  · rw [if_pos c]; exact h
  · rw [if_neg c, List.nodup_append]
    refine ⟨h, List.nodup_cons.mpr ⟨(fun z => nomatch z), List.nodup_nil⟩, fun y hy z hz => ?_⟩
    rw [List.mem_singleton.mp hz]
    rintro rfl
    exact c hy
theorem mem_inss {t : Str} : ∀ {m l : List Str}, t ∈ m.foldl ins l ↔ t ∈ l ∨ t ∈ m
  | [], l => by simp
  | s :: m, l => by
    rw [List.foldl_cons, mem_inss, mem_ins, List.mem_cons, or_assoc]
theorem nodup_inss : ∀ {m l : List Str}, l.Nodup → (m.foldl ins l).Nodup
  | [], _, h => h
  | s :: m, l, h => nodup_inss (m := m) (nodup_ins h s)
/-- the knots of a yard -/
def KnIn (cs : List Cab) (rs : List Car) (s : Str) : Prop := (∃ c ∈ cs, s = c.1 ∨ s = c.2.1) ∨ ∃ r ∈ rs, s = r.2.1
theorem knIn_feed {most : Int} {cs : List Cab} {rs : List Car} (h : YardF most cs rs) : ∃ ns : List Str, ns.length ≤ 8 ∧ (∀ x ∈ ns, Nm x) ∧ ∀ s, KnIn cs rs s → s ∈ feed :: ns := by
  obtain ⟨ns, nm, N1, N2, N3, N4, C, R⟩ := h.ex
  refine ⟨ns, N2, N1.nm, fun s hs => ?_⟩
  rcases hs with ⟨c, hc, e | e⟩ | ⟨r, hr, e⟩
  · rw [e]; exact (C.each c hc).2.1
  · rw [e]; exact List.mem_cons_of_mem _ (C.each c hc).2.2.1
  · rw [e]; exact (R.each r hr).1
/-- what the knots' list is: the ascending list without feed -/
def spKnots (K : PySem.W.Frag) : Sp := fun as H Q _ => ∃ (y : V) (cs : List Cab) (rs : List Car) (most : Int), as = [y] ∧ YardV K H y cs rs ∧ YardF most cs rs ∧
  ∀ (p : Addr) (ks : List Str) (H' : Hp), ks.Nodup → (∀ s, s ∈ ks ↔ KnIn cs rs s ∧ s ≠ feed) → H' p = some (.lst (txs ks)) → H p = none → Same H H' → Q (.ref p) H'
section
variable {P : Program} {w : World} {K : PySem.W.Frag} {mg : Str → Option Value} {base : Heap}
theorem scK : FnScope ["yard", "found", "one", "other", "cap", "name", "knot", "rate", "need"] ["yard"] (defScope sKnots) := ⟨rfl, rfl, rfl, by decide +kernel, rfl, by decide +kernel, by decide +kernel⟩
theorem ok_knots {f : Addr} {fd : FuncData} (F : Fun K "_law_knots" "_law_knots" sKnots f fd) (T : Nat0 mg) : FnOk P w K mg base CX0 1 f fd ["yard"] (spKnots K) := by
  refine F.ok scK (fun as H Q E h => ?_) (fun cdv A outer s H as Q E hr h => ?_)
  · obtain ⟨y, cs, rs, most, rfl, _⟩ := h
    rfl
  · obtain ⟨y, cs, rs, most, rfl, hV, hY, k⟩ := h
    have hu := hu_of hr
    refine ⟨_, pss_cons (ps_set (i := 1) scK.nd rfl (.inl rfl) pe_dnewK)
      (pss_cons (ps_for PassesOwn.never rfl (pi_tup (pe_ix ix_tup (pv 0) pe_int (fun _ _ => rfl))) (pg_tup rfl (pgs_cons (pg_name (i := 2) scK.nd rfl (.inl rfl)) (pgs_cons (pg_name (i := 3) scK.nd rfl (.inl rfl)) (pgs_cons (pg_name (i := 4) scK.nd rfl (.inl rfl)) pgs_nil))))
        (pss_one (ps_expr (pe_bm PySem.F.plainAttrs_dict PySem.F.slot_dict_update PySem.F.type_dict_update mt_dupd (pv 1) (pa_cons (pe_disp (pps_cons (pv 2) pe_int (pps_cons (pv 3) pe_int pps_nil)) (by rfl) (by rfl) (fun z => by cases z) (by decide)) pa_nil)))))
      (pss_cons (ps_for PassesOwn.never rfl (pi_tup (pe_ix ix_tup (pv 0) pe_int (fun _ _ => rfl))) (pg_tup rfl (pgs_cons (pg_name (i := 5) scK.nd rfl (.inl rfl)) (pgs_cons (pg_name (i := 6) scK.nd rfl (.inl rfl)) (pgs_cons (pg_name (i := 7) scK.nd rfl (.inl rfl)) (pgs_cons (pg_name (i := 8) scK.nd rfl (.inl rfl)) pgs_nil)))))
        (pss_one (ps_dput hu (pv 1) (pv 6) pe_int rfl)))
      (pss_one (ps_ret (pe_lc (own := [("knot", 6)]) (g := gName 6) rfl scK.nd (pi_list (pe_callB (call_sortedD rfl) (by rfl) T.sorted (by decide +kernel) (pa_cons (pv 1) pa_nil)))
        (blkOk_by (N := ["yard", "found", "one", "other", "cap", "name", "knot", "rate", "need"]) (sc := defScope sKnots) (by decide +kernel)) (fun _ _ _ _ _ => pg_name (i := 6) scK.nd rfl (Or.inl rfl)) (fun _ _ _ _ _ => pts_one (pt_cmpR op_ne (pv 6) pe_str (nomark _))) (fun _ _ _ _ _ => pv 6)))))), ?_⟩
    obtain ⟨ty, ya, yb, xs, zs, rfl, v1, v2, v3, v4, v5⟩ := hV
    refine fun d hd => ?_
    have lx : xs.length = cs.length := paired_len v4
    have lz : zs.length = rs.length := paired_len v5
    obtain ⟨ns, n8, nn, sub⟩ := knIn_feed hY
    refine ⟨_, rfl, ty, _, 0, .ref ya, rfl, rfl, sqt_more (same_new (Same.refl H) hd) v1, at0, ya, rfl, ⟨_, sqt_more (same_new (Same.refl H) hd) v2⟩, ?_⟩
    refine for_tup (K := K) (a := ya) (xs := xs) (fun i σ H' => ∃ (w2 w3 w4 : Option V) (l : List Str), σ = [some (.ref ty), some (.ref d), w2, w3, w4, none, none, none, none] ∧ H' d = some (.dK (kv1 l)) ∧ l.Nodup ∧ (∀ s, s ∈ l ↔ KnIn (cs.take i) [] s) ∧ Same H H') ?_ ?_ ?_ ?_
    · exact ⟨none, none, none, [], rfl, upd_same, List.nodup_nil, fun s => by simp [KnIn], same_new (Same.refl H) hd⟩
    · rintro i σ H' hi ⟨w2, w3, w4, l, _, _, _, _, sm⟩
      exact sqt_more sm v2
    · rintro i x σ H' hx ⟨w2, w3, w4, l, rfl, g1, g2, g3, g4⟩
      obtain ⟨c, hc, t', rfl, hq⟩ := paired_at v4 hx
      refine ⟨t', _, rfl, sqt_more g4 hq, rfl, _, _, rfl, _, _, rfl, _, _, rfl, rfl, ?_⟩
      refine ⟨_, rfl, .inr (.inr (.inl ⟨rfl, .inl ⟨_, g1⟩⟩)), fun q hq' => ⟨_, rfl, _, rfl, upd_same, [(Sum.inr c.1, .int 1), (Sum.inr c.2.1, .int 1)], rfl, by show 2 ≤ 15; decide, ?_⟩⟩
      have em : mergeK [] [((Sum.inr c.1 : Key), V.int 1), (Sum.inr c.2.1, .int 1)] = kv1 (ins (ins [] c.1) c.2.1) := kv1_merge [c.1, c.2.1] []
      have nqd : d ≠ q := ne_of_none g1 hq'
      have hi' : i < cs.length := (List.getElem?_eq_some_iff.mp hc).1
      have ll : l.length ≤ 9 := by
        have := sub_len g2 (m := feed :: ns) fun s hs => sub s (by
          rcases (g3 s).mp hs with ⟨c', hc', e⟩ | ⟨r, hr', _⟩
          · exact .inl ⟨c', List.mem_of_mem_take hc', e⟩
          · cases hr')
        rw [List.length_cons] at this
        omega
      have lm : (ins (ins [] c.1) c.2.1).length ≤ 2 := by
        unfold ins
        split
        · split <;> simp_all
        · split <;> simp_all
      rw [em]
      refine ⟨d, q, kv1 l, kv1 (ins (ins [] c.1) c.2.1), rfl, rfl, nqd, by rw [upd_ne nqd, upd_ne nqd]; exact g1, upd_same, ?_, _, _, _, (ins (ins [] c.1) c.2.1).foldl ins l, rfl, ?_, nodup_inss g2, fun s => ?_, ?_⟩
      · unfold kv1
        rw [List.length_map, List.length_map]
        exact Nat.le_of_lt (small1000 (by omega))
      · rw [upd_same, kv1_merge]
      · rw [mem_inss, g3, mem_ins, mem_ins, List.take_succ, hc]
        unfold KnIn
        constructor
        · rintro ((⟨c', h1, h2⟩ | ⟨r, h1, _⟩) | ((h1 | h1) | h1))
          · exact .inl ⟨c', List.mem_append_left _ h1, h2⟩
          · cases h1
          · cases h1
          · exact .inl ⟨c, List.mem_append_right _ List.mem_cons_self, .inl h1⟩
          · exact .inl ⟨c, List.mem_append_right _ List.mem_cons_self, .inr h1⟩
        · rintro (⟨c', h1, h2⟩ | ⟨r, h1, _⟩)
          · rcases List.mem_append.mp h1 with z | z
            · exact .inl (.inl ⟨c', z, h2⟩)
            · rw [List.mem_singleton.mp z] at h2
              rcases h2 with e | e
              · exact .inr (.inl (.inr e))
              · exact .inr (.inr e)
          · cases h1
      · exact same_put (by rw [upd_upd]; exact same_new g4 hq') hd
    rintro σ H1 ⟨w2, w3, w4, l, rfl, g1, g2, g3, g4⟩
    rw [lx, List.take_length] at g3
    refine ⟨_, rfl, ty, _, 1, .ref yb, rfl, rfl, sqt_more g4 v1, at1, yb, rfl, ⟨_, sqt_more g4 v3⟩, ?_⟩
    refine for_tup (K := K) (a := yb) (xs := zs) (fun i σ H' => ∃ (w5 w6 w7 w8 : Option V) (l : List Str), σ = [some (.ref ty), some (.ref d), w2, w3, w4, w5, w6, w7, w8] ∧ H' d = some (.dK (kv1 l)) ∧ l.Nodup ∧ (∀ s, s ∈ l ↔ KnIn cs (rs.take i) s) ∧ Same H H') ?_ ?_ ?_ ?_
    · exact ⟨none, none, none, none, l, rfl, g1, g2, fun s => by rw [g3, List.take_zero], g4⟩
    · rintro i σ H' hi ⟨w5, w6, w7, w8, l, _, _, _, _, sm⟩
      exact sqt_more sm v3
    · clear g1 g2 g3 g4
      rintro i x σ H' hx ⟨w5, w6, w7, w8, l, rfl, g1, g2, g3, g4⟩
      obtain ⟨c, hc, t', rfl, hq⟩ := paired_at v5 hx
      refine ⟨t', _, rfl, sqt_more g4 hq, rfl, _, _, rfl, _, _, rfl, _, _, rfl, _, _, rfl, rfl, ?_⟩
      have ll : l.length ≤ 9 := by
        have := sub_len g2 (m := feed :: ns) fun s hs => sub s (by
          rcases (g3 s).mp hs with h | ⟨r, hr', e⟩
          · exact .inl h
          · exact .inr ⟨r, List.mem_of_mem_take hr', e⟩)
        rw [List.length_cons] at this
        omega
      have kl : (kv1 l).length < sizeLine := by
        unfold kv1
        rw [List.length_map]
        exact small1000 (by omega)
      refine ⟨_, rfl, _, rfl, d, _, rfl, DPut.k (k := Sum.inr c.2.1) g1 kl, _, _, _, _, ins l c.2.1, rfl, by rw [upd_same, kv1_put], nodup_ins g2 _, fun s => ?_, same_put g4 hd⟩
      rw [mem_ins, g3, List.take_succ, hc]
      unfold KnIn
      constructor
      · rintro ((h | ⟨r, h1, h2⟩) | h1)
        · exact .inl h
        · exact .inr ⟨r, List.mem_append_left _ h1, h2⟩
        · exact .inr ⟨c, List.mem_append_right _ List.mem_cons_self, h1⟩
      · rintro (h | ⟨r, h1, h2⟩)
        · exact .inl (.inl h)
        · rcases List.mem_append.mp h1 with z | z
          · exact .inl (.inr ⟨r, z, h2⟩)
          · rw [List.mem_singleton.mp z] at h2
            exact .inr h2
    clear g1 g2 g3 g4
    rintro σ H2 ⟨w5, w6, w7, w8, l, rfl, g1, g2, g3, g4⟩
    rw [lz, List.take_length] at g3
    have ll : l.length ≤ 9 := by
      have := sub_len g2 (m := feed :: ns) fun s hs => sub s ((g3 s).mp hs)
      rw [List.length_cons] at this
      omega
    refine ⟨_, rfl, d, kv1 l, l, rfl, Rd.of g1, by unfold kv1; rw [List.map_map]; rfl, by omega, fun ys p perm srt hp => ⟨p, rfl, ⟨_, .inl (.inl upd_same)⟩, fun D hD => ?_⟩⟩
    have npD : p ≠ D := fun e => by rw [← e, upd_same] at hD; cases hD
    have hD2 : H2 D = none := by rw [upd_ne npD.symm] at hD; exact hD
    have yl : ys.length ≤ 9 := by rw [perm.length_eq]; exact ll
    refine lc_list (K := K) (a := p) (xs := ys.map V.str) (fun i H' => H' D = some (.lst (txs ((ys.take i).filter fun s => decide (s ≠ feed)))) ∧ H' p = some (.lst (ys.map V.str)) ∧ Same H2 H') ?_ ?_ ?_ ?_
    · exact ⟨by rw [List.take_zero, upd_same]; rfl, by rw [upd_ne npD, upd_same], same_new (same_new (Same.refl H2) hp) hD⟩
    · rintro i H' hi ⟨_, h, _⟩
      exact .inl (.inl h)
    · rintro i x H' hx ⟨h1, h2, h3⟩
      rw [List.getElem?_map] at hx
      obtain ⟨z, hz, rfl⟩ := Option.map_eq_some_iff.mp hx
      refine ⟨rfl, _, rfl, rfl, _, rfl, ?_⟩
      refine ite2 (fun ne => ?_) (fun e => ?_)
      · have nz : z ≠ feed := fun e => by rw [e] at ne; simp at ne
        refine ⟨_, rfl, _, h1, ?_, ?_, by rw [upd_ne npD]; exact h2, same_put h3 hD2⟩
        · unfold txs
          rw [List.length_map]
          have := List.length_filter_le (fun s => decide (s ≠ feed)) (ys.take i)
          rw [List.length_take] at this
          exact small1000 (by omega)
        · rw [upd_same, List.take_succ, hz, List.filter_append]
          unfold txs
          rw [List.map_append]
          simp [nz]
      · have ez : z = feed := by simpa using e
        refine ⟨?_, h2, h3⟩
        rw [h1, List.take_succ, hz, List.filter_append, ez]
        simp
    · rintro H' ⟨h1, h2, h3⟩
      rw [List.length_map, List.take_length] at h1
      refine k D _ H' ((perm.nodup_iff.mpr g2).filter _) (fun s => ?_) h1 (by cases e : H D with | none => rfl | some o => rw [g4 _ _ e] at hD2; cases hD2) (g4.trans h3)
      rw [List.mem_filter, perm.mem_iff, g3]
      simp
end
end Y

namespace Y
open PySem PySem.Spec PyProof.Rows L2 Ns
open C8 (pss_cut)
open L2.DX (itemsO)
theorem perm_map {α β : Type} {f : α → β} {ys ws : List β} (h : ys.Perm ws) : ∀ {xs : List α}, ws = xs.map f → ∃ zs : List α, zs.Perm xs ∧ ys = zs.map f := by
  induction h with
  | nil =>
    intro xs e
    have : xs = [] := List.map_eq_nil_iff.mp e.symm
    exact ⟨[], by rw [this], rfl⟩
  | @cons x l1 l2 _ ih =>
    intro xs e
    cases xs with
    | nil => cases e
    | cons a xs =>
      injection e with e1 e2
      obtain ⟨zs, p, e3⟩ := ih e2
      exact ⟨a :: zs, p.cons a, by rw [e1, e3]; rfl⟩
  | swap x y l =>
    intro xs e
    match xs, e with
    | a :: b :: xs, e =>
      injection e with e1 e2
      injection e2 with e2 e3
      exact ⟨b :: a :: xs, List.Perm.swap a b xs, by rw [e1, e2, e3]; rfl⟩
  | trans _ _ ih1 ih2 =>
    intro xs e
    obtain ⟨zs, p, e2⟩ := ih2 e
    obtain ⟨us, p2, e3⟩ := ih1 e2
    exact ⟨us, p2.trans p, e3⟩
/-- a dict of numbers by texts -/
def kvI (l : List (Str × Int)) : List (Key × V) := l.map fun p => ((Sum.inr p.1 : Key), V.int p.2)
theorem kvI_get {l : List (Str × Int)} (n : (l.map (·.1)).Nodup) {x : Str} {v : Int} (h : (x, v) ∈ l) : valV (kvI l) (Sum.inr x) = some (.int v) := by
  induction l with
  | nil => cases h
  | cons f l ih =>
    rw [List.map_cons, List.nodup_cons] at n
    show valV (((Sum.inr f.1 : Key), V.int f.2) :: kvI l) (Sum.inr x) = _
    rcases List.mem_cons.mp h with e | e
    · rw [← e]
      exact valV_pos rfl
    · rw [valV_neg (fun z => n.1 ?_)]
      · exact ih n.2 e
      · injection z with z
        rw [z]
        exact List.mem_map.mpr ⟨(x, v), e, rfl⟩
theorem kvI_none {l : List (Str × Int)} {x : Str} (h : x ∉ l.map (·.1)) : valV (kvI l) (Sum.inr x) = none := by
  induction l with
  | nil => rfl
  | cons f l ih =>
    rw [List.map_cons, List.mem_cons, not_or] at h
    show valV (((Sum.inr f.1 : Key), V.int f.2) :: kvI l) (Sum.inr x) = none
    rw [valV_neg (fun z => h.1 ?_)]
    · exact ih h.2
    · injection z with z
      exact z.symm
theorem kvI_merge : ∀ (m l : List (Str × Int)), ((l ++ m).map (·.1)).Nodup → mergeK (kvI l) (kvI m) = kvI (l ++ m)
  | [], l, _ => by rw [List.append_nil]; rfl
  | p :: m, l, h => by
    have e : l ++ p :: m = (l ++ [p]) ++ m := by rw [List.append_assoc]; rfl
    have np : p.1 ∉ l.map (·.1) := fun z => by
      rw [List.map_append, List.nodup_append] at h
      exact h.2.2 _ z _ (List.mem_map.mpr ⟨p, List.mem_cons_self, rfl⟩) rfl
    show mergeK (putK (kvI l) (Sum.inr p.1) (.int p.2)) (kvI m) = _
    rw [putK_new _ (kvI_none np), e]
    have e2 : kvI l ++ [((Sum.inr p.1 : Key), V.int p.2)] = kvI (l ++ [p]) := by
      unfold kvI
      rw [List.map_append]
      rfl
    rw [e2]
    exact kvI_merge m (l ++ [p]) (by rw [← e]; exact h)
theorem kvI_made {l : List (Str × Int)} (h : (l.map (·.1)).Nodup) : mergeK [] (kvI l) = kvI l := kvI_merge l [] h
/-- the tuple of the cars' names -/
def spNamesOf (K : PySem.W.Frag) : Sp := fun as H Q _ => ∃ (y : V) (cs : List Cab) (rs : List Car), as = [y] ∧ YardV K H y cs rs ∧ rs.length ≤ 1000 ∧
  ∀ (p : Addr) (H' : Hp), H' p = some (.tup (txs (rs.map (·.1)))) → H p = none → Same H H' → Q (.ref p) H'
def spALot (K : PySem.W.Frag) : Sp := fun as H Q _ => ∃ (b a : Addr) (ts : List Str), as = [.ref b, .ref a] ∧ Bag H b ∧ SqL K (wo H b) a (txs ts) ∧ ts.length ≤ 60 ∧ ts.Nodup ∧
  ∀ (p : Addr) (ls : List Str) (H' : Hp), sortedS ls = true → ls.Nodup → (∀ x ∈ ls, x ∈ ts) → H' p = some (.tup (txs ls)) → H p = none → p ≠ b → Bag H' b → Sb b H H' → Q (.ref p) H'
def spTurned : Sp := fun as H Q _ => ∃ (b a : Addr) (l : List (Str × Int)), as = [.ref b, .ref a] ∧ Bag H b ∧ H a = some (.dK (kvI l)) ∧ (l.map (·.1)).Nodup ∧ l.length ≤ 1000 ∧
  ∀ (p : Addr) (l' : List (Str × Int)) (H' : Hp), l'.Perm l → H' p = some (.dK (kvI l')) → H p = none → p ≠ b → Bag H' b → Sb b H H' → Q (.ref p) H'
section
variable {P : Program} {w : World} {K : PySem.W.Frag} {mg : Str → Option Value} {base : Heap}
theorem scallCars : FnScope ["yard", "car"] ["yard"] (defScope sAllCars) := ⟨rfl, rfl, rfl, by decide +kernel, rfl, by decide +kernel, by decide +kernel⟩
theorem ok_allCars {f : Addr} {fd : FuncData} (F : Fun K "_law_all_cars" "_law_all_cars" sAllCars f fd) (T : Nat0 mg) : FnOk P w K mg base CX0 1 f fd ["yard"] (spNamesOf K) := by
  refine F.ok scallCars (fun as H Q E h => ?_) (fun cdv A outer s H as Q E hr h => ?_)
  · obtain ⟨y, cs, rs, rfl, _⟩ := h
    rfl
  · obtain ⟨y, cs, rs, rfl, hV, hl, k⟩ := h
    refine ⟨_, pss_one (ps_ret (pe_callTy call_tuple_of (by rfl) T.tuple (by decide +kernel) (pa_cons
      (pe_lc (own := [("car", 1)]) (g := gName 1) (tt := tYes) (te := tOp (rIxT K) (tVar 1) (tC (V.int 0))) rfl scallCars.nd (pi_tup (pe_ix ix_tup (pv 0) pe_int (fun _ _ => rfl))) (blkOk_by (N := ["yard", "car"]) (sc := defScope sAllCars) (by decide +kernel)) (fun _ _ _ _ _ => pg_name (i := 1) scallCars.nd rfl (Or.inl rfl)) (fun _ _ _ _ _ => pts_nil)
        (fun _ _ _ _ _ => by exact pe_ix ix_tup (pv 1) pe_int (fun _ _ => rfl))) pa_nil))), ?_⟩
    obtain ⟨ty, ya, yb, xs, zs, rfl, v1, v2, v3, v4, v5⟩ := hV
    have lz : zs.length = rs.length := paired_len v5
    refine ⟨_, rfl, ty, _, 1, .ref yb, rfl, rfl, v1, at1, yb, rfl, ⟨_, v3⟩, fun D hD => ?_⟩
    refine lc_tup (K := K) (a := yb) (xs := zs) (fun i H' => H' D = some (.lst (txs ((rs.take i).map (·.1)))) ∧ Same H H') ?_ ?_ ?_ ?_
    · exact ⟨by rw [List.take_zero, upd_same]; rfl, same_new (Same.refl H) hD⟩
    · rintro i H' hi ⟨_, sm⟩
      exact sqt_more sm v3
    · rintro i x H' hx ⟨g1, g2⟩
      obtain ⟨c, hc, t', rfl, hq⟩ := paired_at v5 hx
      have hi' : i < rs.length := (List.getElem?_eq_some_iff.mp hc).1
      refine ⟨rfl, _, rfl, t', _, 0, _, rfl, rfl, sqt_more g2 hq, at0, _, g1, ?_, ?_, same_put g2 hD⟩
      · unfold txs
        rw [List.length_map, List.length_map, List.length_take]
        exact small1000 (by omega)
      · rw [upd_same, List.take_succ, hc]
        unfold txs
        simp
    · rintro H' ⟨g1, g2⟩
      rw [lz, List.take_length] at g1
      refine ⟨D, _, rfl, .inl ⟨SqL.of g1, fun l hl => ?_⟩⟩
      refine k l _ upd_same ?_ (same_new g2 hl)
      cases e : H l with
      | none => rfl
      | some o => rw [g2 _ _ e] at hl; cases hl
theorem sccarsOf : FnScope ["yard", "car"] ["yard"] (defScope sCarsOf) := ⟨rfl, rfl, rfl, by decide +kernel, rfl, by decide +kernel, by decide +kernel⟩
theorem ok_carsOf {f : Addr} {fd : FuncData} (F : Fun K "cars_of" "cars_of" sCarsOf f fd) (T : Nat0 mg) : FnOk P w K mg base CX0 1 f fd ["yard"] (spNamesOf K) := by
  refine F.ok sccarsOf (fun as H Q E h => ?_) (fun cdv A outer s H as Q E hr h => ?_)
  · obtain ⟨y, cs, rs, rfl, _⟩ := h
    rfl
  · obtain ⟨y, cs, rs, rfl, hV, hl, k⟩ := h
    refine ⟨_, pss_one (ps_ret (pe_callTy call_tuple_of (by rfl) T.tuple (by decide +kernel) (pa_cons
      (pe_lc (own := [("car", 1)]) (g := gName 1) (tt := tYes) (te := tOp (rIxT K) (tVar 1) (tC (V.int 0))) rfl sccarsOf.nd (pi_tup (pe_ix ix_tup (pv 0) pe_int (fun _ _ => rfl))) (blkOk_by (N := ["yard", "car"]) (sc := defScope sCarsOf) (by decide +kernel)) (fun _ _ _ _ _ => pg_name (i := 1) sccarsOf.nd rfl (Or.inl rfl)) (fun _ _ _ _ _ => pts_nil)
        (fun _ _ _ _ _ => by exact pe_ix ix_tup (pv 1) pe_int (fun _ _ => rfl))) pa_nil))), ?_⟩
    obtain ⟨ty, ya, yb, xs, zs, rfl, v1, v2, v3, v4, v5⟩ := hV
    have lz : zs.length = rs.length := paired_len v5
    refine ⟨_, rfl, ty, _, 1, .ref yb, rfl, rfl, v1, at1, yb, rfl, ⟨_, v3⟩, fun D hD => ?_⟩
    refine lc_tup (K := K) (a := yb) (xs := zs) (fun i H' => H' D = some (.lst (txs ((rs.take i).map (·.1)))) ∧ Same H H') ?_ ?_ ?_ ?_
    · exact ⟨by rw [List.take_zero, upd_same]; rfl, same_new (Same.refl H) hD⟩
    · rintro i H' hi ⟨_, sm⟩
      exact sqt_more sm v3
    · rintro i x H' hx ⟨g1, g2⟩
      obtain ⟨c, hc, t', rfl, hq⟩ := paired_at v5 hx
      have hi' : i < rs.length := (List.getElem?_eq_some_iff.mp hc).1
      refine ⟨rfl, _, rfl, t', _, 0, _, rfl, rfl, sqt_more g2 hq, at0, _, g1, ?_, ?_, same_put g2 hD⟩
      · unfold txs
        rw [List.length_map, List.length_map, List.length_take]
        exact small1000 (by omega)
      · rw [upd_same, List.take_succ, hc]
        unfold txs
        simp
    · rintro H' ⟨g1, g2⟩
      rw [lz, List.take_length] at g1
      refine ⟨D, _, rfl, .inl ⟨SqL.of g1, fun l hl => ?_⟩⟩
      refine k l _ upd_same ?_ (same_new g2 hl)
      cases e : H l with
      | none => rfl
      | some o => rw [g2 _ _ e] at hl; cases hl
theorem scAL : FnScope ["bag", "things"] ["bag", "things"] (defScope sALot) := ⟨rfl, rfl, rfl, by decide +kernel, rfl, by decide +kernel, by decide +kernel⟩
theorem ok_aLot {f fT fM : Addr} {fd fdT fdM : FuncData} (F : Fun K "_law_a_lot" "_law_a_lot" sALot f fd) (T : Nat0 mg) (FT : Fun K "_law_take" "_law_take" sTake fT fdT) (mT : mg "_law_take" = some (.ref fT)) (bT : Binds K fdT ["bag", "many"] [])
    (FM : Fun K "_law_mixed" "_law_mixed" sMixed fM fdM) (mM : mg "_law_mixed" = some (.ref fM)) (bM : Binds K fdM ["bag", "things"] []) : FnOk P w K mg base CX0 3 f fd ["bag", "things"] (spALot K) := by
  have GT : FnOk P w K mg base CX0 1 fT fdT ["bag", "many"] spTake := ok_take FT T
  have GM : FnOk P w K mg base CX0 2 fM fdM ["bag", "things"] (spMixed K) := ok_mixed FM T FT mT bT
  refine F.ok scAL (fun as H Q E h => ?_) (fun cdv A outer s H as Q E hr h => ?_)
  · obtain ⟨b, a, ts, rfl, _⟩ := h
    rfl
  · obtain ⟨b, a, ts, rfl, hB, hS, hl, hn, k⟩ := h
    have hr1 : Room 1 _ := hr.mono (by decide)
    refine ⟨_, pss_one (ps_ret (pe_callTy call_tuple_of (by rfl) T.tuple (by decide +kernel) (pa_cons (pe_callB cr_sortedS (by rfl) T.sorted (by decide +kernel) (pa_cons
      (pe_slice sl_list (pe_call GM hr rfl mM FM.kp bM .nil pass0 (pa_cons (pv 0) (pa_cons (pv 1) pa_nil))) po_none
        (po_some (pe_call GT hr1 rfl mT FT.kp bT .nil pass0 (pa_cons (pv 0) (pa_cons (pe_op op_add (pe_callB call_len_seq (by rfl) T.len PySem.boot_len (pa_cons (pv 1) pa_nil)) pe_int) pa_nil))))) pa_nil)) pa_nil))), ?_⟩
    have tl : (txs ts).length = ts.length := List.length_map _
    refine ⟨_, rfl, _, rfl, b, a, _, rfl, hB, hS, by omega, fun p ys H1 pm e1 f1 n1 hB1 s1 => ?_⟩
    obtain ⟨us, pu, rfl⟩ := perm_map (f := V.str) pm rfl
    refine ⟨_, rfl, _, rfl, a, _, rfl, .inl ((wo_sub H1 b).seq (s1.sl hS)), ((txs ts).length : Int), 1, rfl, rfl, b, _, rfl, hB1, by omega, Nat.lt_of_le_of_lt (show ((((txs ts).length : Nat) : Int) + 1).natAbs ≤ 100 by omega) (by decide +kernel), fun v H2 v0 v1 hB2 s2 => ?_⟩
    obtain ⟨m, rfl⟩ : ∃ m : Nat, v = m := ⟨v.toNat, by omega⟩
    refine ⟨_, rfl, p, _, rfl, SqL.of (s2.get e1 n1), fun q hq => ?_⟩
    rw [cut_upto]
    have et : (us.map V.str).take m = (us.take m).map V.str := by rw [List.map_take]
    rw [et]
    have ul : (us.take m).length ≤ 60 := by
      rw [List.length_take, pu.length_eq]
      omega
    refine ⟨q, us.take m, rfl, SqL.of upd_same, by omega, fun zs u pz srt hu => ?_⟩
    have fq := hB2.new (o := .lst ((us.take m).map V.str)) hq
    have gq := ((s1.trans s2).new (o := .lst ((us.take m).map V.str)) hq)
    have fu := fq.new (o := .lst (zs.map V.str)) hu
    have gu := gq.new (o := .lst (zs.map V.str)) hu
    refine ⟨u, zs.map V.str, rfl, .inl ⟨SqL.of upd_same, fun l hl => ?_⟩⟩
    have nlb : l ≠ b := fu.ne hl
    exact k l zs _ srt (pz.nodup_iff.mpr ((pu.nodup_iff.mpr hn).sublist (List.take_sublist m us))) (fun x hx => pu.mem_iff.mp (List.mem_of_mem_take (pz.mem_iff.mp hx))) upd_same (gu.free hl nlb) nlb (fu.new hl) (gu.new hl)
theorem scTK : FnScope ["bag", "thing"] ["bag", "thing"] (defScope sTurned) := ⟨rfl, rfl, rfl, by decide +kernel, rfl, by decide +kernel, by decide +kernel⟩
theorem ok_turned {f fT fM : Addr} {fd fdT fdM : FuncData} (F : Fun K "_law_turned_keys" "_law_turned_keys" sTurned f fd) (T : Nat0 mg) (FT : Fun K "_law_take" "_law_take" sTake fT fdT) (mT : mg "_law_take" = some (.ref fT)) (bT : Binds K fdT ["bag", "many"] [])
    (FM : Fun K "_law_mixed" "_law_mixed" sMixed fM fdM) (mM : mg "_law_mixed" = some (.ref fM)) (bM : Binds K fdM ["bag", "things"] []) : FnOk P w K mg base CX0 3 f fd ["bag", "thing"] spTurned := by
  have GM : FnOk P w K mg base CX0 2 fM fdM ["bag", "things"] (spMixed K) := ok_mixed FM T FT mT bT
  refine F.ok scTK (fun as H Q E h => ?_) (fun cdv A outer s H as Q E hr h => ?_)
  · obtain ⟨b, a, l, rfl, _⟩ := h
    rfl
  · obtain ⟨b, a, l, rfl, hB, hA, hn, hl, k⟩ := h
    refine ⟨_, pss_one (ps_ret (pe_callTy (call_dictP rfl) (by rfl) T.dict (by decide +kernel) (pa_cons (pe_call GM hr rfl mM FM.kp bM .nil pass0 (pa_cons (pv 0) (pa_cons (pe_callTy (call_listItems rfl) (by rfl) T.list_ (by decide +kernel)
      (pa_cons (pe_bm0 PySem.F.plainAttrs_dict PySem.F.slot_dict_items PySem.F.type_dict_items mt_itemsK (pv 1)) pa_nil)) pa_nil))) pa_nil))), ?_⟩
    refine ⟨_, rfl, _, rfl, .inr (.inr (.inl ⟨rfl, .inl ⟨_, hA⟩⟩)), a, _, rfl, rfl, hA, fun p hp => ?_⟩
    have hBp := hB.new (o := itemsO p a) hp
    have sp := (Sb.refl b H).new (o := itemsO p a) hp
    refine ⟨p, a, _, rfl, upd_same, s3u hp hA, fun q ts H1 fq m1 e1 pr => ?_⟩
    have s1 := sp.same m1
    have hB1 := hBp.keep m1
    have nqb : q ≠ b := hBp.ne fq
    have lt : ts.length = l.length := by
      rw [paired_len pr]
      exact List.length_map _
    refine ⟨b, q, _, rfl, hB1, sql_new e1 nqb, by rw [List.length_map, lt]; exact hl, fun u ys H2 pm e2 f2 n2 hB2 s2 => ?_⟩
    obtain ⟨zs, pz, rfl⟩ := perm_map (f := fun z : Addr × Str × Int => V.ref z.1) pm (xs := ts.zip l) (by rw [show (fun z : Addr × Str × Int => V.ref z.1) = V.ref ∘ (fun z => z.1) from rfl, ← List.map_map, List.map_fst_zip (by omega)])
    have ndz : ((zs.map (·.2)).map (·.1)).Nodup := ((pz.map (·.2)).map (·.1)).nodup_iff.mpr (by rw [List.map_snd_zip (by omega)]; exact hn)
    have pl : (zs.map (·.2)).Perm l := by
      have := pz.map (·.2)
      rw [List.map_snd_zip (by omega)] at this
      exact this
    have pz2 : ∀ z ∈ zs, H2 z.1 = some (.tup [.str z.2.1, .int z.2.2]) := fun z hz => by
      obtain ⟨j, hj⟩ := List.mem_iff_getElem?.mp (pz.mem_iff.mp hz)
      obtain ⟨j1, j2⟩ := List.getElem?_zip_eq_some.mp hj
      obtain ⟨kv, h1, h2, h3⟩ := paired_at pr j1
      unfold kvI at h1
      rw [List.getElem?_map, j2] at h1
      cases h1
      exact s2.get h2 (hBp.ne h3)
    have e2' : H2 u = some (.lst ((zs.map (·.1)).map V.ref)) := by rw [List.map_map]; exact e2
    refine ⟨u, zs.map (·.1), kvI (zs.map (·.2)), rfl, SqL.of e2', ?_, fun v hv => ?_⟩
    · unfold kvI
      rw [List.map_map]
      clear pm pz ndz pl e2 e2'
      induction zs with
      | nil => exact .nil
      | cons z zs ih => exact .cons (SqT.of (pz2 z List.mem_cons_self)) (ih fun y hy => pz2 y (List.mem_cons_of_mem _ hy))
    · have nvb : v ≠ b := hB2.ne hv
      have s12 := s1.trans s2
      exact k v (zs.map (·.2)) _ pl (by rw [upd_same, kvI_made ndz]) (s12.free hv nvb) nvb (hB2.new hv) (s12.new hv)
end
end Y

namespace Y
open PySem PySem.Spec PyProof.Rows L2 Ns
open C8 (pss_cut)
def nd (r : Car) : Str × Int := (r.1, r.2.2.2)
def spCarOf (K : PySem.W.Frag) : Sp := fun as H Q _ => ∃ (y : V) (x : Str) (cs : List Cab) (rs : List Car), as = [y, .str x] ∧ YardV K H y cs rs ∧ (∀ v c, rs.find? (fun r => decide (r.1 = x)) = some c → CarV K H v c → Q v H) ∧ (rs.find? (fun r => decide (r.1 = x)) = none → Q .non H)
def spCapOf (K : PySem.W.Frag) : Sp := fun as H Q _ => ∃ (y : V) (s e : Str) (cs : List Cab) (rs : List Car), as = [y, .str s, .str e] ∧ YardV K H y cs rs ∧ (∀ c, cs.find? (fun c => decide (ckey c = (s, e))) = some c → Q (.int c.2.2) H) ∧ (cs.find? (fun c => decide (ckey c = (s, e))) = none → Q .non H)
def spNeedsOf (K : PySem.W.Frag) : Sp := fun as H Q _ => ∃ (y : V) (cs : List Cab) (rs : List Car), as = [y] ∧ YardV K H y cs rs ∧ (rs.map (·.1)).Nodup ∧ rs.length ≤ 1000 ∧ ∀ (p : Addr) (H' : Hp), H' p = some (.dK (kvI (rs.map nd))) → H p = none → Same H H' → Q (.ref p) H'
def spNeedOf (K : PySem.W.Frag) : Sp := fun as H Q _ => ∃ (y : V) (l : Addr) (ls : List Str) (cs : List Cab) (rs : List Car), as = [y, .ref l] ∧ YardV K H y cs rs ∧ SqT K H l (txs ls) ∧ rs.length ≤ 1000 ∧ ∀ H', Same H H' → Q (.int ((rs.filter fun r => decide (r.1 ∈ ls)).map (·.2.2.2)).sum) H'
def spSumOf : Sp := fun as H Q _ => ∃ (a : Addr) (l : List (Str × Int)), as = [.ref a] ∧ H a = some (.dK (kvI l)) ∧ ∀ H', Same H H' → Q (.int (l.map (·.2)).sum) H'
theorem find_take {α : Type} {p : α → Bool} {l : List α} {i : Nat} {c : α} (hc : l[i]? = some c) (hp : p c = true) (hn : ∀ r ∈ l.take i, p r = false) : l.find? p = some c := by
  induction l generalizing i with
  | nil => cases hc
  | cons a l ih =>
    cases i with
    | zero =>
      cases hc
      exact List.find?_cons_of_pos hp
    | succ i =>
      have ha := hn a (by rw [List.take_succ_cons]; exact List.mem_cons_self)
      rw [List.find?_cons_of_neg (by rw [ha]; exact Bool.false_ne_true)]
      exact ih hc fun r hr => hn r (by rw [List.take_succ_cons]; exact List.mem_cons_of_mem _ hr)
theorem not_yet {α : Type} {p : α → Bool} {l : List α} {i : Nat} {c : α} (hc : l[i]? = some c) (hp : p c = false) (hn : ∀ r ∈ l.take i, p r = false) : ∀ r ∈ l.take (i + 1), p r = false := fun r hr => by
  rw [List.take_succ, hc] at hr
  rcases List.mem_append.mp hr with z | z
  · exact hn r z
  · rw [List.mem_singleton.mp z]; exact hp
section
variable {P : Program} {w : World} {K : PySem.W.Frag} {mg : Str → Option Value} {base : Heap}
theorem scCO : FnScope ["yard", "name", "car"] ["yard", "name"] (defScope sCarOf) := ⟨rfl, rfl, rfl, by decide +kernel, rfl, by decide +kernel, by decide +kernel⟩
theorem ok_carOf {f : Addr} {fd : FuncData} (F : Fun K "car_of" "car_of" sCarOf f fd) : FnOk P w K mg base CX0 1 f fd ["yard", "name"] (spCarOf K) := by
  refine F.ok scCO (fun as H Q E h => ?_) (fun cdv A outer s H as Q E hr h => ?_)
  · obtain ⟨y, x, cs, rs, rfl, _⟩ := h
    rfl
  · obtain ⟨y, x, cs, rs, rfl, hV, k1, k2⟩ := h
    refine ⟨_, pss_cons (ps_for PassesOwn.never rfl (pi_tup (pe_ix ix_tup (pv 0) pe_int (fun _ _ => rfl))) (pg_name (i := 2) scCO.nd rfl (.inl rfl))
        (pss_one (ps_if (pt_cmpR op_eq (pe_ix ix_tup (pv 2) pe_int (fun _ _ => rfl)) (pv 1) (nomark _)) (pss_one (ps_ret (pv 2))) pss_nil)))
      (pss_one (ps_ret pe_non)), ?_⟩
    obtain ⟨ty, ya, yb, xs, zs, rfl, v1, v2, v3, v4, v5⟩ := hV
    refine ⟨_, rfl, ty, _, 1, .ref yb, rfl, rfl, v1, at1, yb, rfl, ⟨_, v3⟩, ?_⟩
    refine for_tup (K := K) (a := yb) (xs := zs) (fun i σ H' => ∃ v : Option V, σ = [some (.ref ty), some (.str x), v] ∧ H' = H ∧ ∀ r ∈ rs.take i, decide (r.1 = x) = false) ?_ ?_ ?_ ?_
    · exact ⟨none, rfl, rfl, by rw [List.take_zero]; exact fun _ z => nomatch z⟩
    · rintro i σ H' hi ⟨v, _, rfl, _⟩
      exact v3
    · rintro i z σ H' hz ⟨v, rfl, rfl, hn⟩
      obtain ⟨c, hc, hcv⟩ := paired_at v5 hz
      obtain ⟨t', e', hq⟩ := id hcv
      subst e'
      refine ⟨_, rfl, t', _, 0, _, rfl, rfl, hq, at0, _, rfl, rfl, _, rfl, ?_⟩
      refine ite2 (fun h => ?_) (fun h => ?_)
      · have e : c.1 = x := by simpa using h
        exact ⟨_, rfl, k1 _ c (find_take hc (decide_eq_true e) hn) hcv⟩
      · have e : decide (c.1 = x) = false := by simpa using h
        exact ⟨_, rfl, rfl, not_yet hc e hn⟩
    · rintro σ H' ⟨v, rfl, rfl, hn⟩
      rw [paired_len v5, List.take_length] at hn
      exact k2 (List.find?_eq_none.mpr fun r hr => by rw [hn r hr]; exact Bool.false_ne_true)
theorem scCA : FnScope ["yard", "start", "end", "cable"] ["yard", "start", "end"] (defScope sCapOf) := ⟨rfl, rfl, rfl, by decide +kernel, rfl, by decide +kernel, by decide +kernel⟩
theorem ok_capOf {f : Addr} {fd : FuncData} (F : Fun K "cap_of" "cap_of" sCapOf f fd) : FnOk P w K mg base CX0 1 f fd ["yard", "start", "end"] (spCapOf K) := by
  refine F.ok scCA (fun as H Q E h => ?_) (fun cdv A outer s H as Q E hr h => ?_)
  · obtain ⟨y, a, e, cs, rs, rfl, _⟩ := h
    rfl
  · obtain ⟨y, a, e, cs, rs, rfl, hV, k1, k2⟩ := h
    refine ⟨_, pss_cons (ps_for PassesOwn.never rfl (pi_tup (pe_ix ix_tup (pv 0) pe_int (fun _ _ => rfl))) (pg_name (i := 3) scCA.nd rfl (.inl rfl))
        (pss_one (ps_if (PW.pt (pw_and (pt_cmpR op_eq (pe_ix ix_tup (pv 3) pe_int (fun _ _ => rfl)) (pv 1) (nomark _)) (pw_and1 (pt_cmpR op_eq (pe_ix ix_tup (pv 3) pe_int (fun _ _ => rfl)) (pv 2) (nomark _)))))
          (pss_one (ps_ret (pe_ix ix_tup (pv 3) pe_int (fun _ _ => rfl)))) pss_nil)))
      (pss_one (ps_ret pe_non)), ?_⟩
    obtain ⟨ty, ya, yb, xs, zs, rfl, v1, v2, v3, v4, v5⟩ := hV
    refine ⟨_, rfl, ty, _, 0, .ref ya, rfl, rfl, v1, at0, ya, rfl, ⟨_, v2⟩, ?_⟩
    refine for_tup (K := K) (a := ya) (xs := xs) (fun i σ H' => ∃ v : Option V, σ = [some (.ref ty), some (.str a), some (.str e), v] ∧ H' = H ∧ ∀ r ∈ cs.take i, decide (ckey r = (a, e)) = false) ?_ ?_ ?_ ?_
    · exact ⟨none, rfl, rfl, by rw [List.take_zero]; exact fun _ z => nomatch z⟩
    · rintro i σ H' hi ⟨v, _, rfl, _⟩
      exact v2
    · rintro i z σ H' hz ⟨v, rfl, rfl, hn⟩
      obtain ⟨c, hc, t', rfl, hq⟩ := paired_at v4 hz
      refine ⟨_, rfl, t', _, 0, _, rfl, rfl, hq, at0, _, rfl, rfl, _, rfl, ?_⟩
      have nextI : decide (ckey c = (a, e)) = false → ∃ v : Option V, [some (V.ref ty), some (.str a), some (.str e), some (.ref t')] = [some (.ref ty), some (.str a), some (.str e), v] ∧ H' = H' ∧ ∀ r ∈ cs.take (i + 1), decide (ckey r = (a, e)) = false := fun z => ⟨_, rfl, rfl, not_yet hc z hn⟩
      refine ite2 (fun h => ?_) (fun h => ?_)
      · have e1 : c.1 = a := by simpa using h
        refine ⟨_, rfl, t', _, 1, _, rfl, rfl, hq, at1, _, rfl, rfl, _, rfl, ?_⟩
        refine ite2 (fun h => ?_) (fun h => ?_)
        · have e2 : c.2.1 = e := by simpa using h
          exact ⟨_, rfl, t', _, 2, _, rfl, rfl, hq, at2, k1 c (find_take hc (decide_eq_true (Prod.ext e1 e2)) hn)⟩
        · refine nextI (decide_eq_false fun z => ?_)
          have e2 : ¬ c.2.1 = e := by simpa using h
          exact e2 (congrArg Prod.snd z)
      · refine nextI (decide_eq_false fun z => ?_)
        have e1 : ¬ c.1 = a := by simpa using h
        exact e1 (congrArg Prod.fst z)
    · rintro σ H' ⟨v, rfl, rfl, hn⟩
      rw [paired_len v4, List.take_length] at hn
      exact k2 (List.find?_eq_none.mpr fun r hr => by rw [hn r hr]; exact Bool.false_ne_true)
theorem scNO : FnScope ["yard", "name", "knot", "rate", "need"] ["yard"] (defScope sNeedsOf) := ⟨rfl, rfl, rfl, by decide +kernel, rfl, by decide +kernel, by decide +kernel⟩
theorem ok_needsOf {f : Addr} {fd : FuncData} (F : Fun K "needs_of" "needs_of" sNeedsOf f fd) : FnOk P w K mg base CX0 1 f fd ["yard"] (spNeedsOf K) := by
  refine F.ok scNO (fun as H Q E h => ?_) (fun cdv A outer s H as Q E hr h => ?_)
  · obtain ⟨y, cs, rs, rfl, _⟩ := h
    rfl
  · obtain ⟨y, cs, rs, rfl, hV, hn, hl, k⟩ := h
    refine ⟨_, pss_one (ps_ret (pe_dc (own := [("name", 1), ("knot", 2), ("rate", 3), ("need", 4)]) (g := gTup K 4 (gCons (gName 1) (gCons (gName 2) (gCons (gName 3) (gCons (gName 4) gNil))))) (tt := tYes) rfl scNO.nd (pi_tup (pe_ix ix_tup (pv 0) pe_int (fun _ _ => rfl)))
      (blkOk_by (N := ["yard", "name", "knot", "rate", "need"]) (sc := defScope sNeedsOf) (by decide +kernel)) (fun _ _ _ _ _ => pg_tup rfl (pgs_cons (pg_name (i := 1) scNO.nd rfl (Or.inl rfl)) (pgs_cons (pg_name (i := 2) scNO.nd rfl (Or.inl rfl)) (pgs_cons (pg_name (i := 3) scNO.nd rfl (Or.inl rfl)) (pgs_cons (pg_name (i := 4) scNO.nd rfl (Or.inl rfl)) pgs_nil)))))
      (fun _ _ _ _ _ => pts_nil) (fun _ _ _ _ _ => pv 1) (fun _ _ _ _ _ => pv 4))), ?_⟩
    obtain ⟨ty, ya, yb, xs, zs, rfl, v1, v2, v3, v4, v5⟩ := hV
    have lz : zs.length = rs.length := paired_len v5
    refine ⟨_, rfl, ty, _, 1, .ref yb, rfl, rfl, v1, at1, yb, rfl, ⟨_, v3⟩, fun D hD => ?_⟩
    refine dc_tup (K := K) (a := yb) (xs := zs) (fun i H' => H' D = some (.dK (kvI ((rs.take i).map nd))) ∧ Same H H') ?_ ?_ ?_ ?_
    · exact ⟨by rw [List.take_zero, upd_same]; rfl, same_new (Same.refl H) hD⟩
    · rintro i H' hi ⟨_, sm⟩
      exact sqt_more sm v3
    · rintro i x H' hx ⟨g1, g2⟩
      obtain ⟨c, hc, t', rfl, hq⟩ := paired_at v5 hx
      have hi' : i < rs.length := (List.getElem?_eq_some_iff.mp hc).1
      have fresh : c.1 ∉ ((rs.take i).map nd).map (·.1) := fun z => by
        rw [List.map_map] at z
        obtain ⟨r, hr, e⟩ := List.mem_map.mp z
        obtain ⟨j, hj⟩ := List.mem_iff_getElem?.mp hr
        have hji : j < i := by
          have := (List.getElem?_eq_some_iff.mp hj).1
          rw [List.length_take] at this
          omega
        rw [List.getElem?_take_of_lt hji] at hj
        refine row_ne hn (i := j) (j := i) (x := r.1) (y := c.1) (by rw [List.getElem?_map, hj]; rfl) (by rw [List.getElem?_map, hc]; rfl) (by omega) e
      refine ⟨t', _, rfl, sqt_more g2 hq, rfl, _, _, rfl, _, _, rfl, _, _, rfl, _, _, rfl, rfl, ?_⟩
      refine ⟨rfl, _, rfl, _, rfl, _, Sum.inr c.1, rfl, g1, ?_, ?_, same_put g2 hD⟩
      · unfold kvI
        rw [List.length_map, List.length_map, List.length_take]
        exact small1000 (by omega)
      · rw [upd_same, putK_new _ (kvI_none fresh), List.take_succ, hc]
        unfold kvI
        simp [nd]
    · rintro H' ⟨g1, g2⟩
      rw [lz, List.take_length] at g1
      exact k D H' g1 (by cases e : H D with | none => rfl | some o => exact absurd hD (by rw [e]; exact fun z => nomatch z)) g2
end
end Y

namespace Y
open PySem PySem.Spec PyProof.Rows L2 Ns
open C8 (pss_cut)
section
variable {P : Program} {w : World} {K : PySem.W.Frag} {mg : Str → Option Value} {base : Heap}
theorem scND : FnScope ["yard", "lot", "name", "knot", "rate", "need"] ["yard", "lot"] (defScope sNeedOf) := ⟨rfl, rfl, rfl, by decide +kernel, rfl, by decide +kernel, by decide +kernel⟩
theorem ok_needOf {f : Addr} {fd : FuncData} (F : Fun K "need_of" "need_of" sNeedOf f fd) (T : Nat0 mg) : FnOk P w K mg base CX0 1 f fd ["yard", "lot"] (spNeedOf K) := by
  refine F.ok scND (fun as H Q E h => ?_) (fun cdv A outer s H as Q E hr h => ?_)
  · obtain ⟨y, l, ls, cs, rs, rfl, _⟩ := h
    rfl
  · obtain ⟨y, l, ls, cs, rs, rfl, hV, hL, hl, k⟩ := h
    refine ⟨_, pss_one (ps_ret (pe_callB (cr_sum rfl) (by rfl) T.sum (by decide +kernel) (pa_cons (pe_lc (own := [("name", 2), ("knot", 3), ("rate", 4), ("need", 5)]) (g := gTup K 4 (gCons (gName 2) (gCons (gName 3) (gCons (gName 4) (gCons (gName 5) gNil))))) (tt := tTest (tOp (rIn K false) (tVar 2) (tVar 1))) rfl scND.nd
      (pi_tup (pe_ix ix_tup (pv 0) pe_int (fun _ _ => rfl)))
      (blkOk_by (N := ["yard", "lot", "name", "knot", "rate", "need"]) (sc := defScope sNeedOf) (by decide +kernel)) (fun _ _ _ _ _ => pg_tup rfl (pgs_cons (pg_name (i := 2) scND.nd rfl (Or.inl rfl)) (pgs_cons (pg_name (i := 3) scND.nd rfl (Or.inl rfl)) (pgs_cons (pg_name (i := 4) scND.nd rfl (Or.inl rfl)) (pgs_cons (pg_name (i := 5) scND.nd rfl (Or.inl rfl)) pgs_nil)))))
      (fun _ _ _ _ _ => by exact pts_one (pt_cmpR op_in_seq (pv 2) (pv 1) (by rfl))) (fun _ _ _ _ _ => pv 5)) pa_nil))), ?_⟩
    obtain ⟨ty, ya, yb, xs, zs, rfl, v1, v2, v3, v4, v5⟩ := hV
    have lz : zs.length = rs.length := paired_len v5
    refine ⟨_, rfl, ty, _, 1, .ref yb, rfl, rfl, v1, at1, yb, rfl, ⟨_, v3⟩, fun D hD => ?_⟩
    refine lc_tup (K := K) (a := yb) (xs := zs) (fun i H' => H' D = some (.lst ((((rs.take i).filter fun r => decide (r.1 ∈ ls)).map (·.2.2.2)).map V.int)) ∧ Same H H') ?_ ?_ ?_ ?_
    · exact ⟨by rw [List.take_zero, upd_same]; rfl, same_new (Same.refl H) hD⟩
    · rintro i H' hi ⟨_, sm⟩
      exact sqt_more sm v3
    · rintro i x H' hx ⟨g1, g2⟩
      obtain ⟨c, hc, t', rfl, hq⟩ := paired_at v5 hx
      refine ⟨t', _, rfl, sqt_more g2 hq, rfl, _, _, rfl, _, _, rfl, _, _, rfl, _, _, rfl, rfl, ?_⟩
      refine ⟨rfl, _, rfl, _, rfl, l, _, rfl, .inr (sqt_more g2 hL), rfl, flat_txs ls, _, rfl, ?_⟩
      refine ite2 (fun h => ?_) (fun h => ?_)
      · have m : c.1 ∈ ls := in_txs.mp h
        refine ⟨_, rfl, _, g1, ?_, ?_, same_put g2 hD⟩
        · rw [List.length_map, List.length_map]
          have := List.length_filter_le (fun r : Car => decide (r.1 ∈ ls)) (rs.take i)
          rw [List.length_take] at this
          exact small1000 (by omega)
        · rw [upd_same, List.take_succ, hc]
          simp [m]
      · have m : ¬ c.1 ∈ ls := fun z => h (in_txs.mpr z)
        refine ⟨?_, g2⟩
        rw [g1, List.take_succ, hc]
        simp [m]
    · rintro H' ⟨g1, g2⟩
      rw [lz, List.take_length] at g1
      exact ⟨D, _, rfl, SqL.of g1, k H' g2⟩
theorem scSO : FnScope ["amounts"] ["amounts"] (defScope sSumOf) := ⟨rfl, rfl, rfl, by decide +kernel, rfl, by decide +kernel, by decide +kernel⟩
theorem ok_sumOf {f : Addr} {fd : FuncData} (F : Fun K "sum_of" "sum_of" sSumOf f fd) (T : Nat0 mg) : FnOk P w K mg base CX0 1 f fd ["amounts"] spSumOf := by
  refine F.ok scSO (fun as H Q E h => ?_) (fun cdv A outer s H as Q E hr h => ?_)
  · obtain ⟨a, l, rfl, _⟩ := h
    rfl
  · obtain ⟨a, l, rfl, hA, k⟩ := h
    refine ⟨_, pss_one (ps_ret (pe_callB (call_sumVals rfl) (by rfl) T.sum (by decide +kernel) (pa_cons (pe_bm0 PySem.F.plainAttrs_dict PySem.F.slot_dict_values PySem.F.type_dict_values mt_valsK (pv 0)) pa_nil))), ?_⟩
    refine ⟨_, rfl, .inr (.inr (.inl ⟨rfl, .inl ⟨_, hA⟩⟩)), a, _, rfl, rfl, hA, fun p hp => ?_⟩
    refine ⟨p, a, _, l.map (·.2), rfl, upd_same, s3u hp hA, ?_, k _ (same_new (Same.refl H) hp)⟩
    unfold kvI
    rw [List.map_map, List.map_map]
    rfl
end
end Y

/-! NsZ: set(xs) of texts, and sorted of it. -/
namespace Ns
open PySem PySem.Spec PyProof.Rows L2
open PySem.Froz (SD sObj tailTx addTx TxOk)
/-- the set at a holds the texts l, once each, and can be walked -/
def SetX (P : Program) (w : World) (h : Heap) (a : Addr) (l : List Str) : Prop :=
  ∃ D : SD, h.get? a = some (sObj "set" D) ∧ TxOk P w D l ∧ l.Nodup ∧ Ris D.2.2.place.toList ∧ (w.params.followText "set-order" = true ∨ D.2.2.led = true)
theorem ris_tail {ep : Nat} {es : Array (Int × Value)} {t : SetTable} {b : Bool} (r : Ris t.place.toList) : Ris (tailTx ep es t b).2.2.place.toList ∧ (tailTx ep es t b).2.2.led = t.led := by
  unfold tailTx
  split
  · exact ⟨relayAll_ris _ _ _, relayAll_led _ _ _⟩
  · exact ⟨r, rfl⟩
theorem ris_add {h : Int} {v : Value} {D : SD} (r : Ris D.2.2.place.toList) : Ris (addTx h v D).2.2.place.toList ∧ (addTx h v D).2.2.led = D.2.2.led := by
  have r1 := layNew_ris D.2.2 D.1 h v r
  have l1 := layNew_led D.2.2 D.1 h v
  unfold addTx
  split
  · obtain ⟨g1, g2⟩ := ris_tail (ep := D.2.1) (es := (layNew D.2.2 D.1 h v).1) (t := { (layNew D.2.2 D.1 h v).2.1 with plain := false }) (b := (layNew D.2.2 D.1 h v).2.2.1) r1
    exact ⟨g1, g2.trans l1⟩
  · obtain ⟨g1, g2⟩ := ris_tail (ep := D.2.1) (es := (layNew D.2.2 D.1 h v).1) (t := (layNew D.2.2 D.1 h v).2.1) (b := (layNew D.2.2 D.1 h v).2.2.1) r1
    exact ⟨g1, g2.trans l1⟩
section
variable {P : Program} {w : World} {A : Around} {E : Value → Shared → Prop} {s : Shared}
theorem SetX.keep {h h' : Heap} {a : Addr} {l : List Str} (X : SetX P w h a l) (k : ∀ o, h.get? a = some o → h'.get? a = some o) : SetX P w h' a l := by
  obtain ⟨D, hD, r⟩ := X
  exact ⟨D, k _ hD, r⟩
/-- a text that is there: nothing changes -/
theorem add_there {a : Addr} {l : List Str} {k : Str} {u : Tok} {D : SD} {Q : Bool → Shared → Prop} (ho : s.heap.get? a = some (sObj "set" D)) (F : TxOk P w D l) (hk : k ∈ l) (hb : l.length < scanBound) (q : Q false s) :
    wpAny (model P w) A (setAddHashed a (.str k u) (hashStr w k)) Q E s := by
  have isk : (strKind P w).is k (.str k u) = true := PySem.Froz.is_str k u
  have small : D.1.size < scanBound := by rw [F.sz]; exact hb
  obtain ⟨j, hj⟩ : ∃ j, List.findIdx? (fun e => (strKind P w).is k e.2) D.1.toList = some j := by
    cases e : List.findIdx? (fun e => (strKind P w).is k e.2) D.1.toList with
    | some j => exact ⟨j, rfl⟩
    | none =>
      obtain ⟨x, hx, hy⟩ := (F.mem k).mp hk
      have := List.findIdx?_eq_none_iff.mp e x hx
      rw [hy] at this
      cases this
  unfold setAddHashed setAddHashedIn
  refine wpAny_holding (wpAny_bind (wpAny_setState_of ho rfl F.fit ?_))
  dsimp only
  rw [byScan_of (knd := strKind P w) rfl small F.el]
  simp only [↓reduceIte]
  unfold setAddByScan
  refine wpAny_bind (wpAny_bind (wpAny_rule (wpAny_bind (wpAny_setScan_of (knd := strKind P w) (k := k) isk ho rfl F.fit F.el ?_))))
  rw [hj]
  exact wpAny_pure (wpAny_pure q)
/-- one more text -/
theorem setX_add {a : Addr} {l : List Str} {k : Str} {u : Tok} {Q : Bool → Shared → Prop} (X : SetX P w s.heap a l) (hb : l.length + 1 < scanBound)
    (q : ∀ (b : Bool) (h' : Heap) (l' : List Str), SetX P w h' a l' → (∀ m, m ∈ l' ↔ m ∈ l ∨ m = k) → l'.length ≤ l.length + 1 → (∀ c o, c ≠ a → s.heap.get? c = some o → h'.get? c = some o) → Q b { s with heap := h' }) :
    wpAny (model P w) A (setAddHashed a (.str k u) (hashStr w k)) Q E s := by
  obtain ⟨D, hD, F, n, r, led⟩ := id X
  by_cases hk : k ∈ l
  · exact add_there hD F hk (by omega) (q false s.heap l X (fun m => ⟨.inl, fun z => z.elim id fun e => e ▸ hk⟩) (Nat.le_succ _) fun c o _ e => e)
  · refine PySem.Froz.add_x hD F hk hb (q true _ (k :: l) ⟨_, PySem.Froz.get_upd _ hD rfl, PySem.Froz.add_ok u F, List.nodup_cons.mpr ⟨hk, n⟩, (ris_add r).1, led.imp id fun z => (ris_add r).2.trans z⟩ (fun m => ?_) (Nat.le_refl _) fun c o nc e => ?_)
    · rw [List.mem_cons]
      exact Or.comm
    · exact (Heap.get?_update_other _ _ (Ne.symm nc)).trans e
/-- a row of texts goes into the set -/
theorem set_fill {I L S : Addr} {xs : List Str} {items : Array Value} (hh : A.in1.handled = none) (hL : L ≠ I) (hS : S ≠ I) (hSL : S ≠ L) (rel : Vals (xs.map V.str) items.toList) (room : items.size + 1 < scanBound) {R : Result → Shared → Prop} :
    ∀ (k i : Nat) (s : Shared) (l : List Str), items.size - i = k → i ≤ items.size → s.heap.IsListIter I L i → s.heap.IsList L items → SetX P w s.heap S l → l.length ≤ i → (∀ m, m ∈ l ↔ m ∈ xs.take i) →
      (∀ s' l', (∀ c o, c ≠ S → c ≠ I → s.heap.get? c = some o → s'.heap.get? c = some o) → s'.gens = s.gens → s'.drawn = s.drawn → s'.os = s.os → SetX P w s'.heap S l' → (∀ m, m ∈ l' ↔ m ∈ xs) → R (.ok (.ret .none)) s') →
      codeAny (model P w) A (.builtin "set.update.loop" ⟨[.ref S, .ref I], []⟩) R s := by
  have W := Walks.list (prog := P) (w := w) (A := A.in1) hh I L hL items
  have lx : xs.length = items.size := by
    have := rel.length
    rw [List.length_map, Array.length_toList] at this
    exact this
  intro k
  induction k with
  | zero =>
    intro i s l hk hi i1 i2 X hl hm q
    have e : i = items.size := by omega
    rw [e] at hm i1
    refine codeAny_builtin F.entry_set_update_loop ?_
    rw [Around.under_plainId F.plain_set_update_loop _]
    refine wpAny_bind (W.done s _ _ ⟨i1, i2⟩ fun h' tk kp => ?_)
    rw [← lx, List.take_length] at hm
    exact wpAny_pure (q _ l (fun c o _ n2 e => kp c o (by rw [List.mem_singleton]; exact n2) e) rfl rfl rfl (X.keep fun o => kp S o (by rw [List.mem_singleton]; exact hS)) hm)
  | succ k ih =>
    intro i s l hk hi i1 i2 X hl hm q
    have lt : i < items.size := by omega
    refine codeAny_builtin F.entry_set_update_loop ?_
    rw [Around.under_plainId F.plain_set_update_loop _]
    refine wpAny_bind (W.item i s _ _ lt ⟨i1, i2⟩ fun v h' tk hv st kp => ?_)
    obtain ⟨x, hx, rx⟩ : ∃ x, xs[i]? = some x ∧ RelV (.str x) v := by
      have hx : xs[i]? = some xs[i] := List.getElem?_eq_getElem (by omega)
      obtain ⟨u, hu, ru⟩ := rel.get (i := i) (x := .str xs[i]) (by rw [List.getElem?_map, hx]; rfl)
      rw [Array.getElem?_toList] at hu
      rw [hv] at hu
      cases hu
      exact ⟨_, hx, ru⟩
    obtain ⟨t, rfl⟩ := rx
    refine wpAny_bind (wpAny_holding ?_)
    unfold setAdd
    refine wpAny_holding (wpAny_bind ((strKind P w).pyHash (PySem.Froz.is_str x t) ?_))
    have X1 : SetX P w h' S l := X.keep fun o => kp S o (by rw [List.mem_singleton]; exact hS)
    refine setX_add X1 (by omega) fun b h2 l2 X2 m2 n2 k2 => ?_
    have i3 : h2.IsListIter I L (i + 1) := st.1.at fun o e => k2 I o (Ne.symm hS) e
    have i4 : h2.IsList L items := st.2.at fun o e => k2 L o (Ne.symm hSL) e
    refine wpAny_pure ⟨plainId_quiet F.plain_set_update_loop _, ih (i + 1) _ l2 (by omega) lt i3 i4 X2 (by omega) (fun m => ?_) fun s' l' k3 g1 g2 g3 X3 m3 => ?_⟩
    · rw [m2, hm, List.take_succ, hx, List.mem_append]
      simp
    · exact q s' l' (fun c o c1 c2 e => k3 c o c1 c2 (k2 c o c1 (kp c o (by rw [List.mem_singleton]; exact c2) e))) g1 g2 g3 X3 m3
end
end Ns

/-! NsZ2: the calls set(xs), sorted(set). -/
namespace Ns
open PySem PySem.Spec PyProof.Rows L2
open PySem.Froz (SD sObj TxOk)
/-- a set as it is made -/
abbrev set0 (w : World) : Obj := { cls := .type "set", dict := none, data := .set #[] 0 (.fresh 0 0 (!w.params.followText "set-order")) }
theorem setX_new {P : Program} {w : World} {h : Heap} {a : Addr} (e : h.get? a = some (set0 w)) : SetX P w h a [] := by
  refine ⟨(#[], 0, .fresh 0 0 (!w.params.followText "set-order")), e, PySem.Froz.TxOk.nil (by rfl), List.nodup_nil, List.Pairwise.nil, ?_⟩
  show _ ∨ (!w.params.followText "set-order") = true
  cases w.params.followText "set-order" <;> simp
section
variable {P : Program} {w : World} {A : Around} {E : Value → Shared → Prop} {s : Shared}
set_option maxHeartbeats 3200000 in
theorem set_of {l : Addr} {items : Array Value} {xs : List Str} {Q : Value → Shared → Prop} (hh : A.handled = none) (hl : s.heap.IsList l items) (rel : Vals (xs.map V.str) items.toList) (room : items.size + 1 < scanBound)
    (q : ∀ (h' : Heap) (tk : Nat) (ls : List Str), (∀ c o, s.heap.get? c = some o → h'.get? c = some o) → SetX P w h' s.heap.objs.size ls → (∀ m, m ∈ ls ↔ m ∈ xs) → Q (.ref s.heap.objs.size) { s with heap := h', toks := tk }) :
    wpAny (model P w) A (call (.type "set") [.ref l]) Q E s := by
  obtain ⟨c, tl, hmro⟩ := F.called_set.mro
  have f1 := F.called_set.made
  have f2 := F.called_set.sub
  have f3 := F.called_set.notType
  have f4 := F.called_set.canCreate
  have f5 := F.typeCall_set_1 (.ref l)
  refine wpAny_call (codeAny_of_tree ?_)
  show wpAny _ _ (callAny (.type "set") _) _ _ _
  refine wpAny_pure ⟨Code.quiet_builtin _ (by decide +kernel), codeAny_builtin F.entry_type_call ?_⟩
  rw [Around.under_plain (weight_type_call_type "set" [.ref l] []) rfl]
  repeat (any_goals (first | assumption | wp_step))
  refine codeAny_mono (code_set_led1 (.ref l) (E := E) (Q₁ := fun obj s₁ => obj = .ref s.heap.objs.size ∧ s₁ = { s with heap := s.heap.push (set0 w) }) ⟨rfl, rfl⟩) fun r s₁ hr => ?_
  rcases r with e | fl
  · exact hr
  cases fl with
  | ret obj =>
    obtain ⟨rfl, rfl⟩ := hr
    have at0 : (s.heap.push (set0 w)).get? s.heap.objs.size = some (set0 w) := Heap.get?_push_size _ rfl
    have ty0 : Shared.TypeIs { s with heap := s.heap.push (set0 w) } (.ref s.heap.objs.size) "set" := ⟨_, at0, rfl⟩
    have f6 := F.called_set.init.lookup
    have f7 := F.called_set.init.bind (.ref s.heap.objs.size)
    repeat (any_goals (first | assumption | wp_step))
    refine codeAny_mono (codeAny_call_builtin (R := wants (fun r s₂ => r = .none ∧ ∃ h' tk ls, s₂ = { s with heap := h', toks := tk } ∧ (∀ c o, s.heap.get? c = some o → h'.get? c = some o) ∧ SetX P w h' s.heap.objs.size ls ∧ ∀ m, m ∈ ls ↔ m ∈ xs) E)
      F.called_set.init.plain F.entry_set_init (check_set_init_1 ty0 ?_)) fun r₂ s₂ hr₂ => ?_
    · obtain ⟨⟨ocls, odict, odata, oslots⟩, hol, hcl, nl, hdl⟩ := hl
      simp only at hcl hdl
      subst hcl; subst hdl
      have lS : l < s.heap.objs.size := Heap.lt_size hol
      have hol' : (s.heap.push (set0 w)).get? l = some { cls := .type "list", dict := odict, data := .seq items nl, slots := oslots } := Heap.get?_push_of_some _ hol
      have g1 := F.sub_list_set
      have g2 := F.sub_list_frozenset
      have g3 : (Value.type "list" == Value.type "dict") = false := by decide
      have isl : (s.heap.push (set0 w)).IsList l items := ⟨_, hol', rfl, nl, rfl⟩
      unfold Builtin.«set.__init__» noKeywords Builtin.Frozenset.updateFrom
      generalize keep : pyIter = PI
      wp_walk
      subst keep
      refine wpAny_pyIter_list isl (wpAny_bind (wpAny_runValue ?_))
      have up : (s.heap.push (set0 w)).objs.size = s.heap.objs.size + 1 := size_push' _ _
      refine set_fill (xs := xs) (by simp [hh]) (by rw [up]; exact Nat.ne_of_lt (Nat.lt_succ_of_lt lS)) (by rw [up]; exact Nat.ne_of_lt (Nat.lt_succ_self _)) (Nat.ne_of_gt lS) rel room items.size 0 _ [] (Nat.sub_zero _) (Nat.zero_le _) ⟨_, Heap.get?_push_size _ rfl, rfl, rfl⟩ (isl.push _)
        (setX_new (Heap.get?_push_of_some _ at0)) (Nat.le_refl _) (fun m => by rw [List.take_zero]) fun s' ls kp e1 e2 e3 X m => ?_
      obtain ⟨h', g', d', tk', os'⟩ := s'
      cases e1
      cases e2
      cases e3
      refine wpAny_pure (wpAny_pure ⟨rfl, h', tk', ls, rfl, fun c o e => ?_, X, m⟩)
      have cl : c < s.heap.objs.size := Heap.lt_size e
      exact kp c o (Nat.ne_of_lt cl) (by rw [up]; exact Nat.ne_of_lt (Nat.lt_succ_of_lt cl)) (Heap.get?_push_of_some _ (Heap.get?_push_of_some _ e))
    · rcases r₂ with e | fl₂
      · exact hr₂
      cases fl₂ with
      | ret r =>
        obtain ⟨rfl, h', tk, ls, rfl, kp, X, m⟩ := hr₂
        repeat (any_goals (first | assumption | wp_step))
        exact q h' tk ls kp X m
      | _ => exact hr₂.elim
  | _ => exact hr.elim
end
end Ns

/-! NsZ3: sorted of a set of texts. -/
namespace Ns
open PySem PySem.Spec PyProof.Rows L2
open PySem.Froz (SD sObj TxOk)
section
variable {P : Program} {w : World} {A : Around} {E : Value → Shared → Prop} {s : Shared}
theorem texts_of {l : List Value} (h : ∀ v ∈ l, ∃ x t, v = Value.str x t) : ∃ xs, StrsAre l xs := by
  induction l with
  | nil => exact ⟨[], .nil⟩
  | cons v l ih =>
    obtain ⟨x, t, rfl⟩ := h v List.mem_cons_self
    obtain ⟨xs, r⟩ := ih fun u hu => h u (List.mem_cons_of_mem _ hu)
    exact ⟨x :: xs, .cons x t r⟩
theorem strs_mem {vs : List Value} {xs : List Str} (r : StrsAre vs xs) : ∀ m, m ∈ xs ↔ ∃ t, Value.str m t ∈ vs := by
  induction r with
  | nil => simp
  | cons y t _ ih =>
    intro m
    rw [List.mem_cons, ih]
    constructor
    · rintro (rfl | ⟨u, hu⟩)
      · exact ⟨t, List.mem_cons_self⟩
      · exact ⟨u, List.mem_cons_of_mem _ hu⟩
    · rintro ⟨u, hu⟩
      rcases List.mem_cons.mp hu with e | e
      · injection e with e1 _
        exact .inl e1
      · exact .inr ⟨u, e⟩
theorem sorted_setX {a : Addr} {ls : List Str} {Q : Value → Shared → Prop} (X : SetX P w s.heap a ls) (hh : A.handled = none) (few : ls.length < 64)
    (q : ∀ s' p (out : Array Value) (c : Nat) (ys : List Str), (∀ b o, s.heap.get? b = some o → s'.heap.get? b = some o) → s'.gens = s.gens → s'.os = s.os → s.heap.objs.size ≤ p → s'.heap.get? p = some (seqObj "list" out c) →
      StrsAre out.toList ys → sortedS ys = true → ys.length = ls.length → (∀ m, m ∈ ys ↔ m ∈ ls) → Q (.ref p) s') :
    wpAny (model P w) A (call (.builtin "sorted") [.ref a]) Q E s := by
  obtain ⟨D, hD, F, n, r, led⟩ := X
  have sz := F.sz
  refine Calls.call_function_entry kind_sorted plain_sorted entry_sorted (args_sorted1 _) ?_
  unfold Builtin.«sorted»
  refine wpAny_bind (m := checkCount "sorted" 1 1 _) (wpAny_pure ?_)
  refine wpAny_bind (collect_set (A := A.in1) hh ⟨_, hD, rfl, rfl⟩ F.fit (by rw [sz]; exact Nat.lt_trans few (by decide)) r led fun s1 vs k1 z1 g1 o1 pm => ?_)
  have vl : vs.length = ls.length := by rw [pm.length_eq, List.length_map, Array.length_toList]; exact sz
  have isS : ∀ v ∈ vs, ∃ x t, v = Value.str x t := fun v hv => by
    obtain ⟨e, he, rfl⟩ := List.mem_map.mp (pm.mem_iff.mp hv)
    obtain ⟨⟨k, hk, _⟩, _⟩ := F.el e he
    obtain ⟨t, ht⟩ := Value.isStrOf_shape (x := k) (v := e.2) hk
    exact ⟨k, t, ht⟩
  obtain ⟨us, hS⟩ := texts_of isS
  have um : ∀ m, m ∈ us ↔ m ∈ ls := fun m => by
    rw [strs_mem hS, F.mem m]
    constructor
    · rintro ⟨t, ht⟩
      obtain ⟨e, he, ee⟩ := List.mem_map.mp (pm.mem_iff.mp ht)
      exact ⟨e, he, by rw [show e.2 = Value.str m t from ee]; exact PySem.Froz.is_str m t⟩
    · rintro ⟨e, he, ee⟩
      obtain ⟨t, ht⟩ := Value.isStrOf_shape (x := m) (v := e.2) ee
      exact ⟨t, by rw [← ht]; exact pm.mem_iff.mpr (List.mem_map.mpr ⟨e, he, rfl⟩)⟩
  refine wpAny_bind (wpAny_newList ?_ (by rw [vl, sizeLine_eq]; omega))
  have hoL : (s1.heap.push (seqObj "list" vs.toArray 0)).get? s1.heap.objs.size = some (seqObj "list" vs.toArray 0) := Heap.get?_push_size _ rfl
  refine wpAny_bind (wpAny_holding (wpAny_call_entry slot_list_sort ⟨_, hoL, rfl⟩ entry_list_sort
    (list_sort_treeK strKind_oneLt (s := { s1 with heap := s1.heap.push (seqObj "list" vs.toArray 0) }) hoL hS.keysOf (fun v₁ v₂ rest e => keyKind_strs (by rw [← e]; exact hS)) (by rw [vl]; exact few) fun st' hp hs => ⟨_, rfl, ?_⟩) (args_list_sort _)))
  obtain ⟨ys, y1, y2, y3⟩ := sorted_out_str hS hp hs
  obtain ⟨c, hc⟩ := sortedHeap_at (vs := vs) (out := (arrOf st').map (·.2)) hoL
  refine wpAny_pure ⟨_, rfl, q _ s1.heap.objs.size _ c ys (fun b u e => ?_) g1 o1 z1 hc y1 y3 ?_ fun m => (y2.mem_iff).trans (um m)⟩
  · have k := k1 b u e
    have lt := Heap.lt_size k
    have top : b < (s1.heap.push (seqObj "list" vs.toArray 0)).objs.size := by rw [size_push']; exact Nat.lt_succ_of_lt lt
    have k2 : (s1.heap.push (seqObj "list" vs.toArray 0)).get? b = some u := Heap.get?_push_of_some _ k
    have same := sortedHeap_old (h := s1.heap.push (seqObj "list" vs.toArray 0)) (vs := vs) (out := (arrOf st').map (·.2)) (Nat.ne_of_lt lt) top
    rw [k2] at same
    exact same
  · rw [y2.length_eq, ← vl]
    exact hS.len_eq.symm
end
/-- a set of texts -/
def SetS (P : Program) (w : World) (a : Addr) (ls : List Str) : HO := .ext fun h => SetX P w h a ls
theorem setS_ok {P : Program} {w : World} {H : Hp} {h : Heap} {a : Addr} {ls : List Str} (X : SetX P w h a ls) : ObjOk P w H h a (SetS P w a ls) :=
  ⟨X, (by obtain ⟨D, hD, _⟩ := X; exact ⟨_, hD⟩), fun h1 h2 x k => x.keep k⟩
section
variable {X : Cx}
def rSetTx (K : PySem.W.Frag) (P : Program) (w : World) : List V → Hp → VK → Prop := fun xs H Q => ∃ (a : Addr) (ts : List Str), xs = [.ref a] ∧ SqL K H a (ts.map V.str) ∧ ts.length ≤ 1000 ∧ ∀ (p : Addr) (ls : List Str), H p = none → (∀ m, m ∈ ls ↔ m ∈ ts) → Q (.ref p) (upd H p (SetS P w p ls))
theorem call_setTx (hc : X.calm = true) : CallR X (.type "set") (rSetTx X.K X.prog X.w) := by
  intro pins s σ H xs us Q I r h
  obtain ⟨a, ts, rfl, hs, hz, q⟩ := h
  obtain ⟨its, rv, hl, _⟩ := I.list hs
  rw [Vals.ref1 r]
  have il : its.length = ts.length := by rw [← rv.length, List.length_map]
  refine set_of (xs := ts) (I.ok.hd hc) hl.isList (by simpa using rv) (by rw [List.size_toArray, il]; exact Nat.lt_of_le_of_lt (show ts.length + 1 ≤ 1001 by omega) (by decide)) fun h' tk ls kp XX m => ?_
  exact ⟨.ref s.heap.objs.size, upd H s.heap.objs.size (SetS X.prog X.w s.heap.objs.size ls), I.laid (t' := tk) kp (Nat.le_refl _) (setS_ok XX), rfl, q _ ls (I.hok.fresh (Nat.le_refl _)) m⟩
def rSortSet (P : Program) (w : World) : List V → Hp → VK → Prop := fun xs H Q => ∃ (a : Addr) (ls : List Str), xs = [.ref a] ∧ H a = some (SetS P w a ls) ∧ (∀ l : List Str, l.Nodup → (∀ m, m ∈ l ↔ m ∈ ls) → l.length < 64) ∧
  ∀ (p : Addr) (ys : List Str), H p = none → sortedS ys = true → ys.Nodup → (∀ m, m ∈ ys ↔ m ∈ ls) → Q (.ref p) (upd H p (.lst (ys.map V.str)))
theorem perm_of {α : Type} [DecidableEq α] : ∀ {l ys : List α}, l.Nodup → (∀ m ∈ l, m ∈ ys) → ys.length = l.length → ys.Perm l
  | [], ys, _, _, e => by rw [List.length_eq_zero_iff.mp e]
  | x :: l, ys, n, h, e => by
    obtain ⟨n1, n2⟩ := List.nodup_cons.mp n
    have hx : x ∈ ys := h x List.mem_cons_self
    have le : (ys.erase x).length = l.length := by
      rw [List.length_erase_of_mem hx, e, List.length_cons, Nat.add_sub_cancel]
    exact (List.perm_cons_erase hx).trans ((perm_of n2 (fun m hm => (List.mem_erase_of_ne (fun z : m = x => n1 (by rw [← z]; exact hm))).mpr (h m (List.mem_cons_of_mem _ hm))) le).cons x)
theorem cr_sortSet (hc : X.calm = true) : CallR X (.builtin "sorted") (rSortSet X.prog X.w) := by
  intro pins s σ H xs us Q I r h
  obtain ⟨a, ls, rfl, ha, few, q⟩ := h
  obtain rfl := Vals.ref1 r
  have XX : SetX X.prog X.w s.heap a ls := (show ObjOk X.prog X.w H s.heap a (SetS X.prog X.w a ls) from I.hok a _ ha).1
  have nls : ls.Nodup := by
    obtain ⟨_, _, _, n, _⟩ := XX
    exact n
  refine sorted_setX XX (I.ok.hd hc) (few ls nls fun _ => Iff.rfl) fun s' p out c ys kp eg eo hp hat r1 r2 r3 r4 => ?_
  have yl : (ys.map V.str).length ≤ sizeLine := by
    rw [List.length_map, r3, sizeLine_eq]
    have := few ls nls fun _ => Iff.rfl
    omega
  have fr : H p = none := I.hok.fresh hp
  have nys : ys.Nodup := (perm_of nls (fun m hm => (r4 m).mpr hm) r3).nodup_iff.mpr nls
  obtain ⟨h', g', d', tk', os'⟩ := s'
  cases eo
  have J : Inv X pins σ (upd H p (.lst (ys.map V.str))) { s with heap := h', gens := g', drawn := d', toks := tk' } :=
    I.call (ch := []) (Un.laid kp hp fr) (I.hok.laid kp hp ⟨yl, out.toList, c, vals_of_strs r1, hat⟩) (by rw [show g' = s.gens from eg]; exact I.bare) fun _ z => nomatch z
  exact ⟨.ref p, _, J, rfl, q p ys fr r2 nys r4⟩
end
end Ns

namespace Y
open PySem PySem.Spec PyProof.Rows L2 Ns
open C8 (pss_cut)
def spKin (K : PySem.W.Frag) : Sp := fun as H Q _ => ∃ (y : V) (cs : List Cab) (rs : List Car) (most : Int), as = [y] ∧ YardV K H y cs rs ∧ YardF most cs rs ∧
  ∀ (p : Addr) (ws : List Str) (H' : Hp), sortedS ws = true → ws.Nodup → (∀ s, s ∈ ws ↔ s = feed ∨ KnIn cs rs s) → H' p = some (.tup (txs ws)) → H p = none → Same H H' → Q (.ref p) H'
section
variable {P : Program} {w : World} {K : PySem.W.Frag} {mg : Str → Option Value} {base : Heap}
theorem scKI : FnScope ["yard", "starts", "ends", "stands", "start", "end", "cap", "name", "knot", "rate", "need"] ["yard"] (defScope sKnotsIn) := ⟨rfl, rfl, rfl, by decide +kernel, rfl, by decide +kernel, by decide +kernel⟩
theorem fr_same {H H' : Hp} {p : Addr} (m : Same H H') (h : H' p = none) : H p = none := by
  cases e : H p with
  | none => rfl
  | some o => rw [m _ _ e] at h; cases h
set_option maxHeartbeats 8000000 in
theorem ok_knotsIn {f : Addr} {fd : FuncData} (F : Fun K "knots_in" "knots_in" sKnotsIn f fd) (T : Nat0 mg) : FnOk P w K mg base CX0 1 f fd ["yard"] (spKin K) := by
  refine F.ok scKI (fun as H Q E h => ?_) (fun cdv A outer s H as Q E hr h => ?_)
  · obtain ⟨y, cs, rs, most, rfl, _⟩ := h
    rfl
  · obtain ⟨y, cs, rs, most, rfl, hV, hY, k⟩ := h
    refine ⟨_, pss_cons (ps_setLc (i := 1) (own := [("start", 4), ("end", 5), ("cap", 6)]) (g := gTup K 3 (gCons (gName 4) (gCons (gName 5) (gCons (gName 6) gNil)))) (tt := tYes) rfl scKI.nd rfl rfl (sw_true rfl rfl rfl (by decide +kernel)) (pi_tup (pe_ix ix_tup (pv 0) pe_int (fun _ _ => rfl)))
        (blkOk_by (N := ["yard", "starts", "ends", "stands", "start", "end", "cap", "name", "knot", "rate", "need"]) (sc := defScope sKnotsIn) (by decide +kernel)) (fun _ _ _ _ _ => pg_tup rfl (pgs_cons (pg_name (i := 4) scKI.nd rfl (Or.inl rfl)) (pgs_cons (pg_name (i := 5) scKI.nd rfl (Or.inl rfl)) (pgs_cons (pg_name (i := 6) scKI.nd rfl (Or.inl rfl)) pgs_nil)))) (fun _ _ _ _ _ => pts_nil) (fun _ _ _ _ _ => pv 4))
      (pss_cons (ps_setLc (i := 2) (own := [("start", 4), ("end", 5), ("cap", 6)]) (g := gTup K 3 (gCons (gName 4) (gCons (gName 5) (gCons (gName 6) gNil)))) (tt := tYes) rfl scKI.nd rfl rfl (sw_true rfl rfl rfl (by decide +kernel)) (pi_tup (pe_ix ix_tup (pv 0) pe_int (fun _ _ => rfl)))
        (blkOk_by (N := ["yard", "starts", "ends", "stands", "start", "end", "cap", "name", "knot", "rate", "need"]) (sc := defScope sKnotsIn) (by decide +kernel)) (fun _ _ _ _ _ => pg_tup rfl (pgs_cons (pg_name (i := 4) scKI.nd rfl (Or.inl rfl)) (pgs_cons (pg_name (i := 5) scKI.nd rfl (Or.inl rfl)) (pgs_cons (pg_name (i := 6) scKI.nd rfl (Or.inl rfl)) pgs_nil)))) (fun _ _ _ _ _ => pts_nil) (fun _ _ _ _ _ => pv 5))
      (pss_cons (ps_setLc (i := 3) (own := [("name", 7), ("knot", 8), ("rate", 9), ("need", 10)]) (g := gTup K 4 (gCons (gName 7) (gCons (gName 8) (gCons (gName 9) (gCons (gName 10) gNil))))) (tt := tYes) rfl scKI.nd rfl rfl (sw_true rfl rfl rfl (by decide +kernel)) (pi_tup (pe_ix ix_tup (pv 0) pe_int (fun _ _ => rfl)))
        (blkOk_by (N := ["yard", "starts", "ends", "stands", "start", "end", "cap", "name", "knot", "rate", "need"]) (sc := defScope sKnotsIn) (by decide +kernel)) (fun _ _ _ _ _ => pg_tup rfl (pgs_cons (pg_name (i := 7) scKI.nd rfl (Or.inl rfl)) (pgs_cons (pg_name (i := 8) scKI.nd rfl (Or.inl rfl)) (pgs_cons (pg_name (i := 9) scKI.nd rfl (Or.inl rfl)) (pgs_cons (pg_name (i := 10) scKI.nd rfl (Or.inl rfl)) pgs_nil))))) (fun _ _ _ _ _ => pts_nil) (fun _ _ _ _ _ => pv 8))
      (pss_one (ps_ret (pe_callTy call_tuple_of (by rfl) T.tuple (by decide +kernel) (pa_cons (pe_callB (cr_sortSet rfl) (by rfl) T.sorted (by decide +kernel) (pa_cons (pe_callTy (call_setTx rfl) (by rfl) T.set_ (by decide +kernel)
        (pa_cons (pe_op op_cat (pe_op op_cat (pe_op op_cat (pe_lst (pa_cons pe_str pa_nil)) (pv 1)) (pv 2)) (pv 3)) pa_nil)) pa_nil)) pa_nil)))))), ?_⟩
    obtain ⟨ns, n8, nn, sub⟩ := knIn_feed hY
    obtain ⟨ns', nm', N1, N2, N3, N4, CC, RR⟩ := hY.ex
    have rl : rs.length ≤ 24 := by
      have := RR.perm.length_eq
      rw [List.length_map] at this
      omega
    have cl := CC.len
    obtain ⟨ty, ya, yb, xs, zs, rfl, v1, v2, v3, v4, v5⟩ := hV
    have lx : xs.length = cs.length := paired_len v4
    have lz : zs.length = rs.length := paired_len v5
    refine ⟨_, rfl, ty, _, 0, .ref ya, rfl, rfl, v1, at0, ya, rfl, ⟨_, v2⟩, fun D1 hD1 => ?_⟩
    refine lc_tup (K := K) (a := ya) (xs := xs) (fun i H' => H' D1 = some (.lst (txs ((cs.take i).map (·.1)))) ∧ Same H H') ?_ ?_ ?_ ?_
    · exact ⟨by rw [List.take_zero, upd_same]; rfl, same_new (Same.refl H) hD1⟩
    · rintro i H' hi ⟨_, sm⟩
      exact sqt_more sm v2
    · rintro i x H' hx ⟨g1, g2⟩
      obtain ⟨c, hc, t', rfl, hq⟩ := paired_at v4 hx
      have hi' : i < cs.length := (List.getElem?_eq_some_iff.mp hc).1
      refine ⟨t', _, rfl, sqt_more g2 hq, rfl, _, _, rfl, _, _, rfl, _, _, rfl, rfl, rfl, _, rfl, _, g1, ?_, ?_, same_put g2 hD1⟩
      · unfold txs
        rw [List.length_map, List.length_map, List.length_take]
        exact small1000 (by omega)
      · rw [upd_same, List.take_succ, hc]
        unfold txs
        simp
    rintro H1 ⟨a1, m1⟩
    rw [lx, List.take_length] at a1
    refine ⟨_, rfl, ty, _, 0, .ref ya, rfl, rfl, sqt_more m1 v1, at0, ya, rfl, ⟨_, sqt_more m1 v2⟩, fun D2 hD2 => ?_⟩
    refine lc_tup (K := K) (a := ya) (xs := xs) (fun i H' => H' D2 = some (.lst (txs ((cs.take i).map (·.2.1)))) ∧ Same H1 H') ?_ ?_ ?_ ?_
    · exact ⟨by rw [List.take_zero, upd_same]; rfl, same_new (Same.refl H1) hD2⟩
    · rintro i H' hi ⟨_, sm⟩
      exact sqt_more (m1.trans sm) v2
    · rintro i x H' hx ⟨g1, g2⟩
      obtain ⟨c, hc, t', rfl, hq⟩ := paired_at v4 hx
      have hi' : i < cs.length := (List.getElem?_eq_some_iff.mp hc).1
      refine ⟨t', _, rfl, sqt_more (m1.trans g2) hq, rfl, _, _, rfl, _, _, rfl, _, _, rfl, rfl, rfl, _, rfl, _, g1, ?_, ?_, same_put g2 hD2⟩
      · unfold txs
        rw [List.length_map, List.length_map, List.length_take]
        exact small1000 (by omega)
      · rw [upd_same, List.take_succ, hc]
        unfold txs
        simp
    rintro H2 ⟨a2, m2⟩
    rw [lx, List.take_length] at a2
    have m02 := m1.trans m2
    refine ⟨_, rfl, ty, _, 1, .ref yb, rfl, rfl, sqt_more m02 v1, at1, yb, rfl, ⟨_, sqt_more m02 v3⟩, fun D3 hD3 => ?_⟩
    refine lc_tup (K := K) (a := yb) (xs := zs) (fun i H' => H' D3 = some (.lst (txs ((rs.take i).map (·.2.1)))) ∧ Same H2 H') ?_ ?_ ?_ ?_
    · exact ⟨by rw [List.take_zero, upd_same]; rfl, same_new (Same.refl H2) hD3⟩
    · rintro i H' hi ⟨_, sm⟩
      exact sqt_more (m02.trans sm) v3
    · rintro i x H' hx ⟨g1, g2⟩
      obtain ⟨c, hc, t', rfl, hq⟩ := paired_at v5 hx
      have hi' : i < rs.length := (List.getElem?_eq_some_iff.mp hc).1
      refine ⟨t', _, rfl, sqt_more (m02.trans g2) hq, rfl, _, _, rfl, _, _, rfl, _, _, rfl, _, _, rfl, rfl, rfl, _, rfl, _, g1, ?_, ?_, same_put g2 hD3⟩
      · unfold txs
        rw [List.length_map, List.length_map, List.length_take]
        exact small1000 (by omega)
      · rw [upd_same, List.take_succ, hc]
        unfold txs
        simp
    rintro H3 ⟨a3, m3⟩
    rw [lz, List.take_length] at a3
    have m03 := m02.trans m3
    have L1 : (txs (cs.map (·.1))).length = cs.length := by unfold txs; rw [List.length_map, List.length_map]
    have L2 : (txs (cs.map (·.2.1))).length = cs.length := by unfold txs; rw [List.length_map, List.length_map]
    have L3 : (txs (rs.map (·.2.1))).length = rs.length := by unfold txs; rw [List.length_map, List.length_map]
    refine ⟨by show 1 ≤ sizeLine; decide, fun q1 hq1 => ⟨_, rfl, q1, D1, [.str feed], _, rfl, rfl, upd_same, s3u hq1 (m3 _ _ (m2 _ _ a1)), ?_, fun q2 hq2 => ⟨_, rfl, q2, D2, _, _, rfl, rfl, upd_same, s3u hq2 (s3u hq1 (m3 _ _ a2)), ?_, fun q3 hq3 => ⟨_, rfl, q3, D3, _, _, rfl, rfl, upd_same, s3u hq3 (s3u hq2 (s3u hq1 a3)), ?_, fun q4 hq4 => ?_⟩⟩⟩⟩
    · exact Nat.le_of_lt (small1000 (show 1 + _ ≤ 1000 by omega))
    · rw [List.length_append]
      exact Nat.le_of_lt (small1000 (show 1 + _ + _ ≤ 1000 by omega))
    · rw [List.length_append, List.length_append]
      exact Nat.le_of_lt (small1000 (show 1 + _ + _ + _ ≤ 1000 by omega))
    have et : ([.str feed] ++ txs (cs.map (·.1)) ++ txs (cs.map (·.2.1)) ++ txs (rs.map (·.2.1)) : List V) = (feed :: (cs.map (·.1) ++ cs.map (·.2.1) ++ rs.map (·.2.1))).map V.str := by
      unfold txs
      simp
    have mem : ∀ s, s ∈ feed :: (cs.map (·.1) ++ cs.map (·.2.1) ++ rs.map (·.2.1)) ↔ s = feed ∨ KnIn cs rs s := fun s => by
      rw [List.mem_cons, List.mem_append, List.mem_append, List.mem_map, List.mem_map, List.mem_map]
      unfold KnIn
      constructor
      · rintro (h | ((⟨c, h1, h2⟩ | ⟨c, h1, h2⟩) | ⟨r, h1, h2⟩))
        · exact .inl h
        · exact .inr (.inl ⟨c, h1, .inl h2.symm⟩)
        · exact .inr (.inl ⟨c, h1, .inr h2.symm⟩)
        · exact .inr (.inr ⟨r, h1, h2.symm⟩)
      · rintro (h | ⟨c, h1, h2 | h2⟩ | ⟨r, h1, h2⟩)
        · exact .inl h
        · exact .inr (.inl (.inl ⟨c, h1, h2.symm⟩))
        · exact .inr (.inl (.inr ⟨c, h1, h2.symm⟩))
        · exact .inr (.inr ⟨r, h1, h2.symm⟩)
    refine ⟨q4, feed :: (cs.map (·.1) ++ cs.map (·.2.1) ++ rs.map (·.2.1)), rfl, by rw [← et]; exact SqL.of upd_same, ?_, fun p ls hp hm => ?_⟩
    · rw [List.length_cons, List.length_append, List.length_append, List.length_map, List.length_map, List.length_map]
      omega
    refine ⟨p, ls, rfl, upd_same, fun l nl hl => ?_, fun u ys hu srt ny hy => ⟨u, ys.map V.str, rfl, .inl ⟨SqL.of upd_same, fun v hv => ?_⟩⟩⟩
    · have := sub_len nl (m := feed :: ns) fun s hs => by
        rcases (mem s).mp ((hm s).mp ((hl s).mp hs)) with e | e
        · rw [e]; exact List.mem_cons_self
        · exact sub s e
      rw [List.length_cons] at this
      omega
    · have mE := same_new (o := .tup (ys.map V.str)) (same_new (o := .lst (ys.map V.str)) (same_new (o := SetS P w p ls) (same_new (o := .lst ([.str feed] ++ txs (cs.map (·.1)) ++ txs (cs.map (·.2.1)) ++ txs (rs.map (·.2.1)))) (same_new (o := .lst ([.str feed] ++ txs (cs.map (·.1)) ++ txs (cs.map (·.2.1)))) (same_new (o := .lst ([.str feed] ++ txs (cs.map (·.1)))) (same_new (o := .lst [.str feed]) m03 hq1) hq2) hq3) hq4) hp) hu) hv
      have mF := same_new (o := .lst (ys.map V.str)) (same_new (o := SetS P w p ls) (same_new (o := .lst ([.str feed] ++ txs (cs.map (·.1)) ++ txs (cs.map (·.2.1)) ++ txs (rs.map (·.2.1)))) (same_new (o := .lst ([.str feed] ++ txs (cs.map (·.1)) ++ txs (cs.map (·.2.1)))) (same_new (o := .lst ([.str feed] ++ txs (cs.map (·.1)))) (same_new (o := .lst [.str feed]) m03 hq1) hq2) hq3) hq4) hp) hu
      exact k v ys _ srt ny (fun s => by rw [hy, hm, mem]) upd_same (fr_same mF hv) mE
theorem scKO : FnScope ["yard"] ["yard"] (defScope sKnotsOf) := ⟨rfl, rfl, rfl, by decide +kernel, rfl, by decide +kernel, by decide +kernel⟩
theorem ok_knotsOf {f fI : Addr} {fd dI : FuncData} (F : Fun K "knots_of" "knots_of" sKnotsOf f fd) (T : Nat0 mg) (FI : Fun K "knots_in" "knots_in" sKnotsIn fI dI) (mI : mg "knots_in" = some (.ref fI)) (bI : Binds K dI ["yard"] []) : FnOk P w K mg base CX0 2 f fd ["yard"] (spKin K) := by
  have GI : FnOk P w K mg base CX0 1 fI dI ["yard"] (spKin K) := ok_knotsIn FI T
  refine F.ok scKO (fun as H Q E h => ?_) (fun cdv A outer s H as Q E hr h => ?_)
  · obtain ⟨y, cs, rs, most, rfl, _⟩ := h
    rfl
  · obtain ⟨y, cs, rs, most, rfl, hV, hY, k⟩ := h
    refine ⟨_, pss_one (ps_ret (pe_call GI hr rfl mI FI.kp bI .nil pass0 (pa_cons (pv 0) pa_nil))), ?_⟩
    exact ⟨_, rfl, y, cs, rs, most, rfl, hV, hY, fun p ws H' h1 h2 h3 h4 h5 h6 => k p ws H' h1 h2 h3 h4 h5 h6⟩
end
end Y

/-! sizes of yards' texts; equal data; ascending texts are one -/
namespace Y
open PySem PySem.Spec PyProof.Rows L2 Ns
theorem not_lt_trans {a b c : List Nat} (h1 : ¬ b < a) (h2 : ¬ c < b) : ¬ c < a := by
  rw [List.not_lt] at h1 h2 ⊢
  exact List.le_trans h1 h2
theorem rising_all : ∀ {r : List Str} {p : Str}, risingS p r = true → ∀ y ∈ r, ¬ y.cps.toList < p.cps.toList
  | [], _, _, y, hy => nomatch hy
  | x :: r, p, h, y, hy => by
    unfold risingS at h
    rw [Bool.and_eq_true, ltCps_eq] at h
    have h1 : ¬ x.cps.toList < p.cps.toList := by simpa using h.1
    rcases List.mem_cons.mp hy with e | e
    · rw [e]; exact h1
    · exact not_lt_trans h1 (rising_all h.2 y e)
theorem rising_tail {x : Str} {r : List Str} (h : sortedS (x :: r) = true) : sortedS r = true := by
  cases r with
  | nil => rfl
  | cons y r =>
    have h' : risingS x (y :: r) = true := h
    unfold risingS at h'
    exact (Bool.and_eq_true_iff.mp h').2
theorem sorted_one : ∀ {xs ys : List Str}, sortedS xs = true → sortedS ys = true → xs.Perm ys → xs = ys
  | [], ys, _, _, p => (List.nil_perm.mp p).symm
  | x :: xs, [], _, _, p => by cases List.perm_nil.mp p
  | x :: xs, y :: ys, h1, h2, p => by
    have e : x = y := by
      have mx := p.mem_iff.mp (List.mem_cons_self (a := x) (l := xs))
      have my := p.mem_iff.mpr (List.mem_cons_self (a := y) (l := ys))
      rcases List.mem_cons.mp mx with e | hx
      · exact e
      · rcases List.mem_cons.mp my with e | hy
        · exact e.symm
        · have a1 := rising_all h2 x hx
          have a2 := rising_all h1 y hy
          rw [List.not_lt] at a1 a2
          exact str_ext (List.le_antisymm a2 a1)
    subst e
    rw [sorted_one (rising_tail h1) (rising_tail h2) (List.perm_cons x |>.mp p)]
theorem perm_of_mem {xs ys : List Str} (n1 : xs.Nodup) (n2 : ys.Nodup) (h : ∀ s, s ∈ xs ↔ s ∈ ys) : xs.Perm ys := by
  have l1 := sub_len n1 (m := ys) fun s hs => (h s).mp hs
  have l2 := sub_len n2 (m := xs) fun s hs => (h s).mpr hs
  exact perm_of n2 (fun m hm => (h m).mpr hm) (by omega)
/-- a name, or feed -/
def Nf (x : Str) : Prop := Nm x ∨ x = feed
theorem nm_codes {x : Str} (h : Nf x) : (∀ c ∈ x.cps.toList, c < 200) ∧ x.length ≤ 20 := by
  rcases h with h | rfl
  · obtain ⟨c, r, e, h1, h2, h3⟩ := id h
    refine ⟨fun d hd => ?_, h.len.2⟩
    rw [e] at hd
    rcases List.mem_cons.mp hd with z | z
    · rw [z]; unfold isL at h1; omega
    · rcases h2 d z with y | y
      · unfold isL at y; omega
      · unfold isD at y; omega
  · exact ⟨by decide +kernel, by decide +kernel⟩
theorem fit_name {x : Str} (h : Nf x) : Fit 300 0 (.str x) := by
  obtain ⟨h1, h2⟩ := nm_codes h
  refine ⟨by simp [PyData.showable], ?_, by simp [PyData.depth]⟩
  rw [PyData.shown_str]
  have := PySem.StrLaws.reprText_len x fun c hc => Nat.lt_trans (h1 c hc) (by decide)
  omega
theorem fit_num {i : Int} (h0 : 0 ≤ i) (h : i ≤ 10 ^ 12) : Fit 300 0 (.int i) :=
  (fit_int (n := 13) (by decide) (by omega) (by decide)).mono (by decide) (Nat.le_refl _)
def cabD (c : Cab) : PyData := .tuple [.str c.1, .str c.2.1, .int c.2.2]
def carD (c : Car) : PyData := .tuple [.str c.1, .str c.2.1, .int c.2.2.1, .int c.2.2.2]
theorem fit_cab {c : Cab} (h1 : Nf c.1) (h2 : Nf c.2.1) (h3 : 0 ≤ c.2.2) (h4 : c.2.2 ≤ 10 ^ 12) : Fit 1300 1 (cabD c) := by
  refine (fit_tuple (m := 300) (k := 0) fun d hd => ?_).mono (show 3 * (300 + 2) + 3 ≤ 1300 by decide) (by decide)
  simp only [List.mem_cons, List.not_mem_nil, or_false] at hd
  rcases hd with rfl | rfl | rfl
  · exact fit_name h1
  · exact fit_name h2
  · exact fit_num h3 h4
theorem fit_car {c : Car} (h1 : Nf c.1) (h2 : Nf c.2.1) (h3 : 0 ≤ c.2.2.1) (h4 : c.2.2.1 ≤ 10 ^ 12) (h5 : 0 ≤ c.2.2.2) (h6 : c.2.2.2 ≤ 10 ^ 12) : Fit 1300 1 (carD c) := by
  refine (fit_tuple (m := 300) (k := 0) fun d hd => ?_).mono (show 4 * (300 + 2) + 3 ≤ 1300 by decide) (by decide)
  simp only [List.mem_cons, List.not_mem_nil, or_false] at hd
  rcases hd with rfl | rfl | rfl | rfl
  · exact fit_name h1
  · exact fit_name h2
  · exact fit_num h3 h4
  · exact fit_num h5 h6
/-- the facts of a yard's parts, plainly -/
structure YardP (cs : List Cab) (rs : List Car) : Prop where
  lc : cs.length ≤ 40
  lr : rs.length ≤ 24
  cab : ∀ c ∈ cs, Nf c.1 ∧ Nf c.2.1 ∧ 0 ≤ c.2.2 ∧ c.2.2 ≤ 10 ^ 12
  car : ∀ r ∈ rs, Nm r.1 ∧ Nf r.2.1 ∧ 1 ≤ r.2.2.1 ∧ r.2.2.1 ≤ 10 ^ 12 ∧ 0 ≤ r.2.2.2 ∧ r.2.2.2 ≤ 10 ^ 12
  keys : (cs.map ckey).Nodup
  names : (rs.map (·.1)).Nodup
theorem YardF.plain {most : Int} {cs : List Cab} {rs : List Car} (h : YardF most cs rs) (hm : most ≤ 10 ^ 12) : YardP cs rs := by
  obtain ⟨ns, nm, N1, N2, N3, N4, C, R⟩ := h.ex
  have nf : ∀ s, s ∈ feed :: ns → Nf s := fun s hs => by
    rcases List.mem_cons.mp hs with e | e
    · exact .inr e
    · exact .inl (N1.nm s e)
  refine ⟨C.len, ?_, fun c hc => ?_, fun r hr => ?_, C.nodup, R.perm.nodup_iff.mpr N3.nodup⟩
  · have := R.perm.length_eq
    rw [List.length_map] at this
    omega
  · obtain ⟨c1, c2, c3, c4, c5⟩ := C.each c hc
    exact ⟨nf _ c2, .inl (N1.nm _ c3), c4, by omega⟩
  · obtain ⟨r1, r2, r3, r4, r5⟩ := R.each r hr
    exact ⟨N3.nm _ (R.perm.mem_iff.mp (List.mem_map.mpr ⟨r, hr, rfl⟩)), nf _ r1, r2, r3, r4, by omega⟩
def yardD (cs : List Cab) (rs : List Car) : PyData := .tuple [.tuple (cs.map cabD), .tuple (rs.map carD)]
theorem fit_yard {cs : List Cab} {rs : List Car} (h : YardP cs rs) : Fit 130000 3 (yardD cs rs) := by
  have f1 : Fit 60000 2 (.tuple (cs.map cabD)) := by
    refine (fit_tuple (m := 1300) (k := 1) fun d hd => ?_).mono ?_ (by decide)
    · obtain ⟨c, hc, rfl⟩ := List.mem_map.mp hd
      obtain ⟨h1, h2, h3, h4⟩ := h.cab c hc
      exact fit_cab h1 h2 h3 h4
    · rw [List.length_map]
      have := h.lc
      omega
  have f2 : Fit 60000 2 (.tuple (rs.map carD)) := by
    refine (fit_tuple (m := 1300) (k := 1) fun d hd => ?_).mono ?_ (by decide)
    · obtain ⟨c, hc, rfl⟩ := List.mem_map.mp hd
      obtain ⟨h1, h2, h3, h4, h5, h6⟩ := h.car c hc
      exact fit_car (.inl h1) h2 (by omega) h4 h5 h6
    · rw [List.length_map]
      have := h.lr
      omega
  refine (fit_tuple (m := 60000) (k := 2) fun d hd => ?_).mono (show 2 * (60000 + 2) + 3 ≤ 130000 by decide) (by decide)
  simp only [List.mem_cons, List.not_mem_nil, or_false] at hd
  rcases hd with rfl | rfl
  · exact f1
  · exact f2
theorem big_ok {n : Nat} (h : n ≤ 1000000) : n ≤ sizeLine := by rw [sizeLine_eq]; omega
section
variable {K : PySem.W.Frag} {H : Hp}
theorem dat_cabs : ∀ {xs : List V} {cs : List Cab}, Paired (CabV K H) xs cs → DatA K H xs (cs.map cabD)
  | _, _, .nil => .nil
  | _, _, .cons ⟨t, e, h⟩ r => by
    subst e
    exact .cons (.tup h (.cons (.str _) (.cons (.str _) (.cons (.int _) .nil)))) (dat_cabs r)
theorem dat_cars : ∀ {xs : List V} {cs : List Car}, Paired (CarV K H) xs cs → DatA K H xs (cs.map carD)
  | _, _, .nil => .nil
  | _, _, .cons ⟨t, e, h⟩ r => by
    subst e
    exact .cons (.tup h (.cons (.str _) (.cons (.str _) (.cons (.int _) (.cons (.int _) .nil))))) (dat_cars r)
theorem dat_yard {y : V} {cs : List Cab} {rs : List Car} (h : YardV K H y cs rs) : DatV K H y (yardD cs rs) := by
  obtain ⟨t, a, b, xs, zs, rfl, h1, h2, h3, h4, h5⟩ := h
  exact .tup h1 (.cons (.tup h2 (dat_cabs h4)) (.cons (.tup h3 (dat_cars h5)) .nil))
theorem dat_txs : ∀ ls : List Str, DatA K H (txs ls) (ls.map PyData.str)
  | [] => .nil
  | _ :: ls => .cons (.str _) (dat_txs ls)
theorem dat_ints : ∀ ls : List Int, DatA K H (ls.map V.int) (ls.map PyData.int)
  | [] => .nil
  | _ :: ls => .cons (.int _) (dat_ints ls)
theorem same_rows {E : V → V → Prop} : ∀ {xs : List V}, (∀ x ∈ xs, E x x) → Paired E xs xs
  | [], _ => .nil
  | x :: xs, h => .cons (h x List.mem_cons_self) (same_rows fun y hy => h y (List.mem_cons_of_mem _ hy))
theorem eqT_flat {x : V} (n : Nat) (h : flatB x = true) : EqT K H (n + 1) x x := .inl ⟨rfl, h⟩
theorem eqT_tup {a b : Addr} {xs : List V} (n : Nat) (ha : SqT K H a xs) (hb : SqT K H b xs) (h : ∀ x ∈ xs, flatB x = true) : EqT K H (n + 2) (.ref a) (.ref b) :=
  .inr (.inr (.inr ⟨a, b, xs, xs, rfl, rfl, ha, hb, same_rows fun x hx => eqT_flat n (h x hx)⟩))
theorem flat_str {l : List Str} : ∀ x ∈ txs l, flatB x = true := fun x hx => by
  obtain ⟨t, _, rfl⟩ := List.mem_map.mp hx
  rfl
theorem eqT_dict {a b : Addr} {l : List (Str × Int)} (n : Nat) (nd : (l.map (·.1)).Nodup) (ha : H a = some (.dK (kvI l))) (hb : H b = some (.dK (kvI l))) : EqT K H (n + 2) (.ref a) (.ref b) :=
  .inr (.inr (.inl (.inr ⟨a, b, kvI l, kvI l, rfl, rfl, ha, hb, rfl, fun p hp => by
    obtain ⟨q, hq, rfl⟩ := List.mem_map.mp hp
    exact ⟨_, kvI_get nd hq, eqT_flat n rfl⟩⟩)))
end
end Y

namespace Y
open PySem PySem.Spec PyProof.Rows L2 Ns
open C8 (pss_cut)
theorem dp_cars {K : PySem.W.Frag} {H : Hp} : ∀ {ys : List V} {fl : List Car}, Paired (CarV K H) ys fl → DpAll K H ys (fl.map carD)
  | _, _, .nil => .nil
  | _, _, .cons ⟨t, e, h⟩ r => by
    subst e
    exact .cons (.tup h (.cons (.str _) (.cons (.str _) (.cons (.int _) (.cons (.int _) .nil))))) (dp_cars r)
theorem nf_ok {t : Str} (h : Nf t) : PyData.strOk t = true := by
  rcases h with h | rfl
  · exact nm_ok h
  · decide +kernel
theorem lay_cars : ∀ {fl : List Car}, (∀ r ∈ fl, Nm r.1 ∧ Nf r.2.1 ∧ 1 ≤ r.2.2.1 ∧ r.2.2.1 ≤ 10 ^ 12 ∧ 0 ≤ r.2.2.2 ∧ r.2.2.2 ≤ 10 ^ 12) → PyData.canLayAll0 (fl.map carD) = true ∧ PyData.depthAll (fl.map carD) ≤ 1
  | [], _ => ⟨rfl, by simp [PyData.depthAll]⟩
  | r :: fl, h => by
    obtain ⟨h1, h2⟩ := lay_cars fun r hr => h r (List.mem_cons_of_mem _ hr)
    obtain ⟨g1, g2, _⟩ := h r List.mem_cons_self
    refine ⟨by simp [carD, PyData.canLayAll0, PyData.canLay0, h1, nm_ok g1, nf_ok g2], ?_⟩
    simp only [List.map_cons, PyData.depthAll, carD, PyData.depth]
    omega
theorem shaped_cars {fl : List Car} (h : ∀ r ∈ fl, Nm r.1 ∧ Nf r.2.1 ∧ 1 ≤ r.2.2.1 ∧ r.2.2.1 ≤ 10 ^ 12 ∧ 0 ≤ r.2.2.2 ∧ r.2.2.2 ≤ 10 ^ 12) : SeqAt.shaped (.list (fl.map carD)) = true := by
  obtain ⟨h1, h2⟩ := lay_cars h
  unfold SeqAt.shaped
  rw [Bool.and_eq_true]
  refine ⟨by simp [PyData.canLay0, h1], decide_eq_true ?_⟩
  simp only [PyData.depth]
  omega
theorem dp_ints {K : PySem.W.Frag} {H : Hp} : ∀ l : List Int, DpAll K H (l.map V.int) (l.map PyData.int)
  | [] => .nil
  | i :: l => .cons (.int i) (dp_ints l)
theorem lay_ints : ∀ l : List Int, PyData.canLayAll0 (l.map PyData.int) = true ∧ PyData.depthAll (l.map PyData.int) = 0
  | [] => ⟨rfl, by simp [PyData.depthAll]⟩
  | i :: l => by
    obtain ⟨h1, h2⟩ := lay_ints l
    exact ⟨by simp [PyData.canLayAll0, PyData.canLay0, h1], by simp [PyData.depthAll, PyData.depth, h2]⟩
theorem shaped_ints (l : List Int) : SeqAt.shaped (.list (l.map PyData.int)) = true := by
  obtain ⟨h1, h2⟩ := lay_ints l
  unfold SeqAt.shaped
  rw [Bool.and_eq_true]
  refine ⟨by simp [PyData.canLay0, h1], decide_eq_true ?_⟩
  simp only [PyData.depth, h2]
  decide
structure D1 (P : Program) (w : World) (K : PySem.W.Frag) (mg : Str → Option Value) (base : Heap) (fS fN fAC fKn fCO fCP fA : Addr) (dS dN dAC dKn dCO dCP dA : FuncData) : Prop where
  S : Fun K "_law_some" "_law_some" sSome fS dS
  mS : mg "_law_some" = some (.ref fS)
  bS : Binds K dS ["bag", "things"] []
  gS : FnOk P w K mg base CX0 2 fS dS ["bag", "things"] (spSome K)
  N : Fun K "_law_name" "_law_name" sName fN dN
  mN : mg "_law_name" = some (.ref fN)
  bN : Binds K dN ["bag", "taken"] []
  gN : FnOk P w K mg base CX0 3 fN dN ["bag", "taken"] (spName K)
  AC : Fun K "_law_all_cars" "_law_all_cars" sAllCars fAC dAC
  mAC : mg "_law_all_cars" = some (.ref fAC)
  bAC : Binds K dAC ["yard"] []
  gAC : FnOk P w K mg base CX0 1 fAC dAC ["yard"] (spNamesOf K)
  Kn : Fun K "_law_knots" "_law_knots" sKnots fKn dKn
  mKn : mg "_law_knots" = some (.ref fKn)
  bKn : Binds K dKn ["yard"] []
  gKn : FnOk P w K mg base CX0 1 fKn dKn ["yard"] (spKnots K)
  CO : Fun K "car_of" "car_of" sCarOf fCO dCO
  mCO : mg "car_of" = some (.ref fCO)
  bCO : Binds K dCO ["yard", "name"] []
  gCO : FnOk P w K mg base CX0 1 fCO dCO ["yard", "name"] (spCarOf K)
  CP : Fun K "cap_of" "cap_of" sCapOf fCP dCP
  mCP : mg "cap_of" = some (.ref fCP)
  bCP : Binds K dCP ["yard", "start", "end"] []
  gCP : FnOk P w K mg base CX0 1 fCP dCP ["yard", "start", "end"] (spCapOf K)
  A : Fun K "_law_alike" "_law_alike" sAlike fA dA
  mA : mg "_law_alike" = some (.ref fA)
  bA : Binds K dA ["found", "due"] []
  gA : GnOk P w K mg base 1 fA dA ["found", "due"] (spAlike K)
def spRows (K : PySem.W.Frag) : Sp := fun as H Q _ => ∃ (b : Addr) (y : V) (cs : List Cab) (rs : List Car) (most : Int), as = [.ref b, y] ∧ Bag H b ∧ YardV K (wo H b) y cs rs ∧ YardF most cs rs ∧ most ≤ 10 ^ 12 ∧ ∀ H', Bag H' b → Sb b H H' → Q (.bl true) H'
section
variable {P : Program} {w : World} {K : PySem.W.Frag} {mg : Str → Option Value} {base : Heap} {fS fN fAC fKn fCO fCP fA : Addr} {dS dN dAC dKn dCO dCP dA : FuncData}
theorem scRR : FnScope ["bag", "yard", "names", "knots", "name", "due", "turn", "one", "other", "start", "end", "cap", "car"] ["bag", "yard"] (defScope sRowsRight) := ⟨rfl, rfl, rfl, by decide +kernel, rfl, by decide +kernel, by decide +kernel⟩
set_option maxHeartbeats 8000000 in
theorem ok_rows {f : Addr} {fd : FuncData} (F : Fun K "_law_rows_right" "_law_rows_right" sRowsRight f fd) (T : Nat0 mg) (D : D1 P w K mg base fS fN fAC fKn fCO fCP fA dS dN dAC dKn dCO dCP dA) : GnOk P w K mg base 4 f fd ["bag", "yard"] (spRows K) := by
  refine Fun.okG F scRR (fun as H Q E h => ?_) (fun cdv A outer s H as Q E hr hgd h => ?_)
  · obtain ⟨b, y, cs, rs, most, rfl, _⟩ := h
    rfl
  · obtain ⟨b, y, cs, rs, most, rfl, hB, hV, hY, hm, k⟩ := h
    have hr1 : Room 1 _ := hr.mono (by decide)
    have hr2 : Room 2 _ := hr.mono (by decide)
    have hr3 : Room 3 _ := hr
    refine ⟨_, pss_cons (ps_par (i := 2) (j := 3) rfl scRR.nd rfl rfl (by decide) rfl rfl (pa_cons (pe_callTy call_list_of (by rfl) T.list_ (by decide +kernel) (pa_cons (pe_call D.gAC hr1 rfl D.mAC D.AC.kp D.bAC .nil pass0 (pa_cons (pv 1) pa_nil)) pa_nil))
        (pa_cons (pe_op op_cat (pe_lst (pa_cons pe_str pa_nil)) (pe_call D.gKn hr1 rfl D.mKn D.Kn.kp D.bKn .nil pass0 (pa_cons (pv 1) pa_nil))) pa_nil)) (by rfl))
      (pss_cons (ps_for PassesOwn.never rfl (pi_list (pe_op op_cat (pv 2) (pe_lst (pa_cons (pe_call D.gN hr3 rfl D.mN D.N.kp D.bN .nil pass0 (pa_cons (pv 0) (pa_cons (pv 2) pa_nil))) (pa_cons pe_str pa_nil))))) (pg_name (i := 4) scRR.nd rfl (.inr rfl))
        (pss_cons (ps_setLc (i := 5) (own := [("car", 12)]) (g := gName 12) (tt := tTest (tOp rEq (tOp (rIxT K) (tVar 12) (tC (V.int 0))) (tVar 4))) rfl scRR.nd rfl rfl (sw_true rfl rfl rfl (by decide +kernel)) (pi_tup (pe_ix ix_tup (pv 1) pe_int (fun _ _ => rfl)))
          (blkOk_by (N := ["bag", "yard", "names", "knots", "name", "due", "turn", "one", "other", "start", "end", "cap", "car"]) (sc := defScope sRowsRight) (by decide +kernel)) (fun _ _ _ _ _ => pg_name (i := 12) scRR.nd rfl (Or.inl rfl)) (fun _ _ _ _ _ => by exact pts_one (pt_cmpR op_eq (pe_ix ix_tup (pv 12) pe_int (fun _ _ => rfl)) (pv 4) (nomark _))) (fun _ _ _ _ _ => pv 12))
        (pss_one (ps_if (pt_not (pt_val (pe_callG D.gA hr1 hgd rfl D.mA D.A.kp D.bA (pa_cons (pe_call D.gCO hr1 rfl D.mCO D.CO.kp D.bCO .nil pass0 (pa_cons (pv 1) (pa_cons (pv 4) pa_nil))) (pa_cons (pe_ifExp (pt_cmpR (op_neD hr.units) (pv 5) (pe_lst pa_nil) (nomark _)) (pe_ix ix_list (pv 5) pe_int (fun _ _ => rfl)) pe_non) pa_nil)))))
          (pss_one (ps_ret pe_bl)) pss_nil))))
      (pss_cons (ps_for PassesOwn.never rfl (pi_range1 (by rfl) T.range (pa_cons pe_int pa_nil)) (pg_name (i := 6) scRR.nd rfl (.inl rfl))
        (pss_cons (ps_asg (pe_tup (pa_cons (pe_call D.gS hr2 rfl D.mS D.S.kp D.bS .nil pass0 (pa_cons (pv 0) (pa_cons (pv 3) pa_nil))) (pa_cons (pe_call D.gS hr2 rfl D.mS D.S.kp D.bS .nil pass0 (pa_cons (pv 0) (pa_cons (pe_op op_cat (pv 3) (pe_lst (pa_cons pe_str pa_nil))) pa_nil))) pa_nil)))
          (pg_tup (by rfl) (pgs_cons (pg_name (i := 7) scRR.nd rfl (.inr rfl)) (pgs_cons (pg_name (i := 8) scRR.nd rfl (.inr rfl)) pgs_nil))))
        (pss_cons (ps_setLc (i := 5) (own := [("start", 9), ("end", 10), ("cap", 11)]) (g := gTup K 3 (gCons (gName 9) (gCons (gName 10) (gCons (gName 11) gNil)))) (tt := tTest (tOp (rEqD K) (tTup (tCons (tVar 9) (tCons (tVar 10) tNil))) (tTup (tCons (tVar 7) (tCons (tVar 8) tNil))))) rfl scRR.nd rfl rfl (sw_true rfl rfl rfl (by decide +kernel))
          (pi_tup (pe_ix ix_tup (pv 1) pe_int (fun _ _ => rfl)))
          (blkOk_by (N := ["bag", "yard", "names", "knots", "name", "due", "turn", "one", "other", "start", "end", "cap", "car"]) (sc := defScope sRowsRight) (by decide +kernel)) (fun _ _ _ _ _ => pg_tup rfl (pgs_cons (pg_name (i := 9) scRR.nd rfl (Or.inl rfl)) (pgs_cons (pg_name (i := 10) scRR.nd rfl (Or.inl rfl)) (pgs_cons (pg_name (i := 11) scRR.nd rfl (Or.inl rfl)) pgs_nil))))
          (fun _ _ _ _ _ => by exact pts_one (pt_cmpR (op_eqD hr.units) (pe_tup (pa_cons (pv 9) (pa_cons (pv 10) pa_nil))) (pe_tup (pa_cons (pv 7) (pa_cons (pv 8) pa_nil))) (nomark _))) (fun _ _ _ _ _ => pv 11))
        (pss_one (ps_if (pt_not (pt_val (pe_callG D.gA hr1 hgd rfl D.mA D.A.kp D.bA (pa_cons (pe_call D.gCP hr1 rfl D.mCP D.CP.kp D.bCP .nil pass0 (pa_cons (pv 1) (pa_cons (pv 7) (pa_cons (pv 8) pa_nil)))) (pa_cons (pe_ifExp (pt_cmpR (op_neD hr.units) (pv 5) (pe_lst pa_nil) (nomark _)) (pe_ix ix_list (pv 5) pe_int (fun _ _ => rfl)) pe_non) pa_nil)))))
          (pss_one (ps_ret pe_bl)) pss_nil)))))
      (pss_cons (ps_for PassesOwn.never rfl (pi_tup (pe_ix ix_tup (pv 1) pe_int (fun _ _ => rfl))) (pg_tup rfl (pgs_cons (pg_name (i := 9) scRR.nd rfl (.inl rfl)) (pgs_cons (pg_name (i := 10) scRR.nd rfl (.inl rfl)) (pgs_cons (pg_name (i := 11) scRR.nd rfl (.inl rfl)) pgs_nil))))
        (pss_one (ps_if (pt_not (pt_val (pe_callG D.gA hr1 hgd rfl D.mA D.A.kp D.bA (pa_cons (pe_call D.gCP hr1 rfl D.mCP D.CP.kp D.bCP .nil pass0 (pa_cons (pv 1) (pa_cons (pv 9) (pa_cons (pv 10) pa_nil)))) (pa_cons (pv 11) pa_nil)))))
          (pss_one (ps_ret pe_bl)) pss_nil)))
      (pss_one (ps_ret pe_bl))))), ?_⟩
    have hP := hY.plain hm
    have big100 : ∀ n : Nat, n ≤ 100 → n ≤ sizeLine := fun n h => Nat.le_of_lt (small1000 (by omega))
    obtain ⟨nsY, n8, nn, sub⟩ := knIn_feed hY
    refine ⟨_, rfl, y, cs, rs, rfl, hV.more (wo_sub H b), by have := hP.lr; omega, fun p1 H1 e1 f1 m1 => ⟨p1, _, rfl, .inr (SqT.of e1), fun p2 hp2 => ?_⟩⟩
    have s1 : Sb b H (upd H1 p2 (.lst (txs (rs.map (·.1))))) := ((Sb.refl b H).same m1).new hp2
    have b1 : Bag (upd H1 p2 (.lst (txs (rs.map (·.1))))) b := (hB.keep m1).new hp2
    have np2 : p2 ≠ b := (hB.keep m1).ne hp2
    have a1 : upd H1 p2 (.lst (txs (rs.map (·.1)))) p2 = some (.lst (txs (rs.map (·.1)))) := upd_same
    generalize upd H1 p2 (.lst (txs (rs.map (·.1)))) = Ha at s1 b1 a1 ⊢
    refine ⟨by show 1 ≤ sizeLine; decide, fun q hq => ⟨_, rfl, y, cs, rs, most, rfl, (hV.more (s1.new (o := .lst [.str feed]) hq).1).more (wo_sub _ b), hY, fun p3 ks H2 nk mk e3 f3 m3 => ?_⟩⟩
    have kl9 : ks.length ≤ 9 := by
      have := sub_len nk (m := feed :: nsY) fun s hs => sub s ((mk s).mp hs).1
      rw [List.length_cons] at this
      omega
    have tkl : (txs ks).length = ks.length := List.length_map _
    refine ⟨q, p3, [.str feed], txs ks, rfl, rfl, m3 _ _ upd_same, e3, by rw [tkl]; exact big100 _ (show 1 + ks.length ≤ 100 by omega), fun kl hkl => ⟨_, _, rfl, ?_⟩⟩
    have s2 := ((s1.new (o := .lst [.str feed]) hq).same m3).new (o := .lst ([.str feed] ++ txs ks)) hkl
    have b2 := ((b1.new (o := .lst [.str feed]) hq).keep m3).new (o := .lst ([.str feed] ++ txs ks)) hkl
    have nkl : kl ≠ b := ((b1.new (o := .lst [.str feed]) hq).keep m3).ne hkl
    have a2 : upd H2 kl (.lst ([.str feed] ++ txs ks)) kl = some (.lst (txs (feed :: ks))) := upd_same
    have a3 : upd H2 kl (.lst ([.str feed] ++ txs ks)) p2 = some (.lst (txs (rs.map (·.1)))) := s3u hkl (m3 _ _ (s3u hq a1))
    generalize upd H2 kl (.lst ([.str feed] ++ txs ks)) = Hc at s2 b2 a2 a3 ⊢
    clear m3 e3 f3 m1 e1 f1 hq hkl hp2 s1 b1 a1
    -- the names
    have nl24 : (rs.map (·.1)).length ≤ 24 := by rw [List.length_map]; exact hP.lr
    refine ⟨_, rfl, _, rfl, _, rfl, b, p2, rs.map (·.1), rfl, b2, sql_new a3 np2, by omega, fun t ht => by obtain ⟨r, hr', rfl⟩ := List.mem_map.mp ht; exact (hP.car r hr').1, fun x H3 nx n1 n2 b3 s3 => ⟨by show 2 ≤ sizeLine; decide, fun q hq => ?_⟩⟩
    have tnl : (txs (rs.map (·.1))).length = (rs.map (·.1)).length := List.length_map _
    refine ⟨p2, q, txs (rs.map (·.1)), [.str x, .str feed], rfl, rfl, s3u hq (s3.get a3 np2), upd_same, by rw [tnl]; exact big100 _ (show _ + 2 ≤ 100 by omega), fun rl hrl => ⟨rl, rfl, ⟨_, SqL.of upd_same⟩, ?_⟩⟩
    have s4 := ((s2.trans s3).new (o := .lst [.str x, .str feed]) hq).new (o := .lst (txs (rs.map (·.1)) ++ [.str x, .str feed])) hrl
    have b4 := (b3.new (o := .lst [.str x, .str feed]) hq).new (o := .lst (txs (rs.map (·.1)) ++ [.str x, .str feed])) hrl
    have a4 : upd (upd H3 q (.lst [.str x, .str feed])) rl (.lst (txs (rs.map (·.1)) ++ [.str x, .str feed])) rl = some (.lst (txs (rs.map (·.1)) ++ [.str x, .str feed])) := upd_same
    have a5 : upd (upd H3 q (.lst [.str x, .str feed])) rl (.lst (txs (rs.map (·.1)) ++ [.str x, .str feed])) kl = some (.lst (txs (feed :: ks))) := s3u hrl (s3u hq (s3.get a2 nkl))
    generalize upd (upd H3 q (.lst [.str x, .str feed])) rl (.lst (txs (rs.map (·.1)) ++ [.str x, .str feed])) = H4 at s4 b4 a4 a5 ⊢
    have strs_only : ∀ v ∈ txs (rs.map (·.1)) ++ [.str x, .str feed], ∃ z, v = .str z := fun v hv => by
      rcases List.mem_append.mp hv with h | h
      · obtain ⟨z, _, rfl⟩ := List.mem_map.mp h
        exact ⟨z, rfl⟩
      · simp only [List.mem_cons, List.not_mem_nil, or_false] at h
        rcases h with rfl | rfl
        · exact ⟨_, rfl⟩
        · exact ⟨_, rfl⟩
    refine for_list (K := K) (a := rl) (xs := txs (rs.map (·.1)) ++ [.str x, .str feed]) (fun i σ H' => ∃ w4 w5 : Option V, σ = [some (.ref b), some y, some (.ref p2), some (.ref kl), w4, w5, none, none, none, none, none, none, none] ∧ H' rl = some (.lst (txs (rs.map (·.1)) ++ [.str x, .str feed])) ∧ H' kl = some (.lst (txs (feed :: ks))) ∧ Bag H' b ∧ Sb b H H') ?_ ?_ ?_ ?_
    · exact ⟨none, none, rfl, a4, a5, b4, s4⟩
    · rintro i σ H' _ ⟨w4, w5, _, e, _⟩
      exact .inl (.inl e)
    · rintro i v σ H' hv ⟨w4, w5, rfl, g1, g2, g3, g4⟩
      obtain ⟨z, rfl⟩ := strs_only v (List.mem_of_getElem? hv)
      obtain ⟨ty, ya, yb, xs, zs, e, v1, v2, v3, v4, v5⟩ := hV.more g4.1
      subst e
      refine ⟨_, rfl, ty, _, 1, .ref yb, rfl, rfl, sqt_more (wo_sub H' b) v1, at1, yb, rfl, ⟨_, sqt_more (wo_sub H' b) v3⟩, fun L hL => ?_⟩
      have lz : zs.length = rs.length := paired_len v5
      have lr := hP.lr
      refine lc_tup (K := K) (a := yb) (xs := zs) (fun j H'' => ∃ ys : List V, H'' L = some (.lst ys) ∧ Paired (CarV K (wo H' b)) ys ((rs.take j).filter fun r => decide (r.1 = z)) ∧ Same H' H'') ?_ ?_ ?_ ?_
      · exact ⟨[], upd_same, by rw [List.take_zero]; exact .nil, same_new (Same.refl H') hL⟩
      · rintro j H'' hj ⟨_, _, _, sm⟩
        exact sqt_more sm (sqt_more (wo_sub H' b) v3)
      · rintro j u H'' hu ⟨ys, q1, q2, q3⟩
        obtain ⟨c, hc, hcv⟩ := paired_at v5 hu
        obtain ⟨t', e', hq⟩ := id hcv
        subst e'
        have hj' : j < rs.length := (List.getElem?_eq_some_iff.mp hc).1
        refine ⟨rfl, _, rfl, t', _, 0, _, rfl, rfl, sqt_more q3 (sqt_more (wo_sub H' b) hq), at0, _, rfl, rfl, _, rfl, ?_⟩
        refine ite2 (fun h => ?_) (fun h => ?_)
        · have ec : c.1 = z := by simpa using h
          refine ⟨_, rfl, ys, q1, ?_, ys ++ [.ref t'], upd_same, ?_, same_put q3 hL⟩
          · rw [paired_len q2]
            have := List.length_filter_le (fun r : Car => decide (r.1 = z)) (rs.take j)
            rw [List.length_take] at this
            exact small1000 (by omega)
          · rw [List.take_succ, hc, List.filter_append]
            have e1 : ([c].filter fun r => decide (r.1 = z)) = [c] := by simp [ec]
            show Paired _ _ (_ ++ List.filter _ [c])
            rw [e1]
            exact paired_snoc hcv q2
        · have ec : ¬ c.1 = z := by simpa using h
          refine ⟨ys, q1, ?_, q3⟩
          rw [List.take_succ, hc, List.filter_append]
          have e1 : ([c].filter fun r => decide (r.1 = z)) = [] := by simp [ec]
          show Paired _ _ (_ ++ List.filter _ [c])
          rw [e1, List.append_nil]
          exact q2
      rintro H5 ⟨ys, q1, q2, q3⟩
      rw [lz, List.take_length] at q2
      have s5 := g4.same q3
      have b5 := g3.keep q3
      have hV5 : YardV K H5 (.ref ty) cs rs := (hV.more s5.1).more (wo_sub H5 b)
      have q4 : Paired (CarV K H5) ys (rs.filter fun r => decide (r.1 = z)) := paired_imp (fun _ _ h => (h.more (wo_sub H' b)).more q3) q2
      have inP : ∀ c ∈ rs.filter fun r => decide (r.1 = z), c ∈ rs := fun c hc => (List.mem_filter.mp hc).1
      have hd : (rs.filter fun r => decide (r.1 = z)).head? = rs.find? fun r => decide (r.1 = z) := List.head?_filter
      have endI : ∀ Hn : Hp, Same H5 Hn → ∃ w4 w5 : Option V, [some (V.ref b), some (V.ref ty), some (.ref p2), some (.ref kl), some (V.str z), some (.ref L), none, none, none, none, none, none, none] = [some (.ref b), some (V.ref ty), some (.ref p2), some (.ref kl), w4, w5, none, none, none, none, none, none, none] ∧
          Hn rl = some (.lst (txs (rs.map (·.1)) ++ [.str x, .str feed])) ∧ Hn kl = some (.lst (txs (feed :: ks))) ∧ Bag Hn b ∧ Sb b H Hn := fun Hn mm => ⟨_, _, rfl, mm _ _ (q3 _ _ g1), mm _ _ (q3 _ _ g2), b5.keep mm, s5.same mm⟩
      generalize hfl : (rs.filter fun r => decide (r.1 = z)) = fl at q4 inP hd
      cases fl with
      | nil =>
        have yn : ys = [] := List.length_eq_zero_iff.mp (paired_len q4)
        subst yn
        refine ⟨_, rfl, _, rfl, .ref ty, z, cs, rs, rfl, hV5, (fun v c hf _ => by rw [← hd] at hf; cases hf), fun _ => ?_⟩
        refine ⟨_, rfl, by show 0 ≤ sizeLine; decide, fun q hq => ⟨.list [], .list [], .lst (SqL.of (s3u hq q1)) .nil, .lst (SqL.of upd_same) .nil, by decide +kernel, by decide +kernel, _, rfl, ?_⟩⟩
        refine ite2 (fun h => absurd h (by decide)) (fun _ => ?_)
        refine ⟨.non, .non, .none, rfl, .inl ⟨rfl, .inr (.inr (.inl rfl))⟩, .non, .non, by decide +kernel, by decide +kernel, by decide +kernel, ?_⟩
        refine ⟨_, rfl, ?_⟩
        refine ite2 (fun h => by cases h) (fun _ => ?_)
        exact endI _ (same_new (Same.refl H5) hq)
      | cons c fl =>
        have hc : c ∈ rs := inP c List.mem_cons_self
        obtain ⟨h1, h2, h3, h4, h5, h6⟩ := hP.car c hc
        cases q4 with
        | @cons v0 _ ys' _ hv0 hys =>
        refine ⟨_, rfl, _, rfl, .ref ty, z, cs, rs, rfl, hV5, (fun v c' hf hv => ?_), (fun hf => by rw [← hd] at hf; cases hf)⟩
        have ec : c' = c := by
          rw [← hd] at hf
          exact (Option.some.inj hf).symm
        subst ec
        refine ⟨_, rfl, by show 0 ≤ sizeLine; decide, fun q hq => ⟨.list ((c' :: fl).map carD), .list [], .lst (SqL.of (s3u hq q1)) (dp_cars (.cons (hv0.more (same_new (Same.refl H5) hq)) (paired_imp (fun _ _ h => h.more (same_new (Same.refl H5) hq)) hys))), .lst (SqL.of upd_same) .nil, shaped_cars fun r hr' => hP.car r (inP r hr'), by decide +kernel, _, rfl, ?_⟩⟩
        refine ite2 (fun _ => ?_) (fun h => absurd rfl h)
        have mq := same_new (o := .lst []) (Same.refl H5) hq
        obtain ⟨t1, rfl, k1⟩ := hv.more mq
        obtain ⟨t2, rfl, k2⟩ := hv0.more mq
        refine ⟨_, rfl, L, _, 0, .ref t2, rfl, rfl, SqL.of (s3u hq q1), at0, ?_⟩
        have fit := fit_car (.inl h1) h2 (by omega) h4 h5 h6
        refine ⟨.ref t1, .ref t2, carD c', rfl, .inr ⟨2, by decide, .inr ⟨t1, t2, _, _, rfl, rfl, k1, k2, same_rows fun y hy => eqT_flat 1 ?_⟩⟩, .tup k1 (.cons (.str _) (.cons (.str _) (.cons (.int _) (.cons (.int _) .nil)))), .tup k2 (.cons (.str _) (.cons (.str _) (.cons (.int _) (.cons (.int _) .nil)))), fit.1, Nat.le_trans fit.2.1 (big_ok (by decide)), Nat.le_trans fit.2.2 (by decide), ?_⟩
        · simp only [List.mem_cons, List.not_mem_nil, or_false] at hy
          rcases hy with rfl | rfl | rfl | rfl <;> rfl
        · refine ⟨_, rfl, ?_⟩
          refine ite2 (fun h => by cases h) (fun _ => ?_)
          exact endI _ mq
    clear a2 a3 a4 a5 b2 b3 b4 s2 s3 s4 strs_only
    rintro σ H5 ⟨w4, w5, rfl, _, g2, g3, g4⟩
    have nfk : ∀ t ∈ feed :: ks, Nf t := fun t ht => by
      rcases List.mem_cons.mp ht with e | e
      · exact .inr e
      · rcases List.mem_cons.mp (sub t ((mk t).mp e).1) with e | e
        · exact .inr e
        · exact .inl (nn t e)
    have tkf : (txs (feed :: ks)).length = ks.length + 1 := by unfold txs; rw [List.length_map]; rfl
    refine ⟨6, rfl, by decide, by decide, for_range (n := 6) (fun i σ H' => ∃ w4 w5 w6 w7 w8 : Option V, σ = [some (.ref b), some y, some (.ref p2), some (.ref kl), w4, w5, w6, w7, w8, none, none, none, none] ∧ H' kl = some (.lst (txs (feed :: ks))) ∧ Bag H' b ∧ Sb b H H') ?_ ?_ ?_⟩
    · exact ⟨w4, w5, none, none, none, rfl, g2, g3, g4⟩
    · clear g2 g3 g4
      rintro i σ H6 hi ⟨w4, w5, w6, w7, w8, rfl, g2, g3, g4⟩
      refine ⟨_, rfl, _, rfl, b, kl, _, rfl, g3, sql_new g2 nkl, (fun z => nomatch z), by omega, fun v1 H7 hv1 b7 s7 => ?_⟩
      obtain ⟨o1, ho1, rfl⟩ := List.mem_map.mp hv1
      refine ⟨_, rfl, _, rfl, by show 1 ≤ sizeLine; decide, fun q hq => ⟨kl, q, txs (feed :: ks), [.str "zz"], rfl, rfl, s3u hq (s7.get g2 nkl), upd_same, by rw [tkf]; exact big100 _ (show ks.length + 1 + 1 ≤ 100 by omega), fun r hr' => ?_⟩⟩
      have b8 := (b7.new (o := .lst [.str "zz"]) hq).new (o := .lst (txs (feed :: ks) ++ [.str "zz"])) hr'
      have s8 := ((g4.trans s7).new (o := .lst [.str "zz"]) hq).new (o := .lst (txs (feed :: ks) ++ [.str "zz"])) hr'
      have k8 : upd (upd H7 q (.lst [.str "zz"])) r (.lst (txs (feed :: ks) ++ [.str "zz"])) kl = some (.lst (txs (feed :: ks))) := s3u hr' (s3u hq (s7.get g2 nkl))
      refine ⟨b, r, _, rfl, b8, sql_new upd_same ((b7.new (o := .lst [.str "zz"]) hq).ne hr'), (fun z => nomatch z), ?_, fun v2 H8 hv2 b9 s9 => ?_⟩
      · rw [List.length_append, tkf]
        show ks.length + 1 + 1 ≤ _
        omega
      obtain ⟨o2, ho2, rfl⟩ : ∃ o, PyData.strOk o = true ∧ v2 = .str o := by
        rcases List.mem_append.mp hv2 with h | h
        · obtain ⟨t, ht, rfl⟩ := List.mem_map.mp h
          exact ⟨t, nf_ok (nfk t ht), rfl⟩
        · exact ⟨"zz", by decide +kernel, List.mem_singleton.mp h⟩
      have ok1 := nf_ok (nfk o1 ho1)
      refine ⟨by show 2 ≤ sizeLine; decide, fun t ht => ⟨t, _, rfl, SqT.of upd_same, rfl, _, _, rfl, _, _, rfl, rfl, ?_⟩⟩
      have b10 := b9.new (o := .tup [.str o1, .str o2]) ht
      have s10 := (s8.trans s9).new (o := .tup [.str o1, .str o2]) ht
      have k10 : upd H8 t (.tup [.str o1, .str o2]) kl = some (.lst (txs (feed :: ks))) := s3u ht (s9.get k8 nkl)
      generalize upd H8 t (.tup [.str o1, .str o2]) = H9 at b10 s10 k10 ⊢
      clear k8 s8 b8 hr' hq
      obtain ⟨ty, ya, yb, xs, zs, e, v1, v2, v3, v4, v5⟩ := hV.more s10.1
      subst e
      have lx : xs.length = cs.length := paired_len v4
      have lc := hP.lc
      refine ⟨_, rfl, ty, _, 0, .ref ya, rfl, rfl, sqt_more (wo_sub H9 b) v1, at0, ya, rfl, ⟨_, sqt_more (wo_sub H9 b) v2⟩, fun L hL => ?_⟩
      refine lc_tup (K := K) (a := ya) (xs := xs) (fun j H'' => H'' L = some (.lst ((((cs.take j).filter fun c => decide (ckey c = (o1, o2))).map (·.2.2)).map V.int)) ∧ Same H9 H'') ?_ ?_ ?_ ?_
      · exact ⟨by rw [List.take_zero, upd_same]; rfl, same_new (Same.refl H9) hL⟩
      · rintro j H'' hj ⟨_, sm⟩
        exact sqt_more sm (sqt_more (wo_sub H9 b) v2)
      · rintro j u H'' hu ⟨q1, q3⟩
        obtain ⟨c, hc, t', rfl, hq⟩ := paired_at v4 hu
        have hj' : j < cs.length := (List.getElem?_eq_some_iff.mp hc).1
        obtain ⟨n1, n2, _⟩ := hP.cab c (List.mem_of_getElem? hc)
        refine ⟨t', _, rfl, sqt_more q3 (sqt_more (wo_sub H9 b) hq), rfl, _, _, rfl, _, _, rfl, _, _, rfl, rfl, ?_⟩
        refine ⟨rfl, _, rfl, _, rfl, by show 2 ≤ sizeLine; decide, fun p hp => ⟨_, rfl, _, rfl, by show 2 ≤ sizeLine; decide, fun p' hp' => ?_⟩⟩
        refine ⟨.tuple [.str c.1, .str c.2.1], .tuple [.str o1, .str o2], .tup (SqT.of (s3u hp' upd_same)) (.cons (.str _) (.cons (.str _) .nil)), .tup (SqT.of upd_same) (.cons (.str _) (.cons (.str _) .nil)),
          by simp [SeqAt.shaped, PyData.canLay0, PyData.canLayAll0, PyData.depth, PyData.depthAll, nf_ok n1, nf_ok n2], by simp [SeqAt.shaped, PyData.canLay0, PyData.canLayAll0, PyData.depth, PyData.depthAll, ok1, ho2], _, rfl, ?_⟩
        have q1' := s3u (o := .tup [.str o1, .str o2]) hp' (s3u (o := .tup [.str c.1, .str c.2.1]) hp q1)
        have q3' := same_new (o := .tup [.str o1, .str o2]) (same_new (o := .tup [.str c.1, .str c.2.1]) q3 hp) hp'
        have same : (PyData.eqv (.tuple [.str c.1, .str c.2.1]) (.tuple [.str o1, .str o2]) = true) ↔ ckey c = (o1, o2) := by
          simp [PyData.eqv, PyData.eqvAll, ckey]
        refine ite2 (fun h => ?_) (fun h => ?_)
        · have ek := same.mp h
          refine ⟨_, rfl, _, q1', ?_, ?_, same_put q3' hL⟩
          · rw [List.length_map, List.length_map]
            have := List.length_filter_le (fun c : Cab => decide (ckey c = (o1, o2))) (cs.take j)
            rw [List.length_take] at this
            exact small1000 (by omega)
          · rw [upd_same, List.take_succ, hc]
            simp [ek]
        · have ek : ¬ ckey c = (o1, o2) := fun z => h (same.mpr z)
          refine ⟨?_, q3'⟩
          rw [q1', List.take_succ, hc]
          simp [ek]
      rintro H10 ⟨q1, q3⟩
      rw [lx, List.take_length] at q1
      have sE := s10.same q3
      have bE := b10.keep q3
      have hVE : YardV K H10 (.ref ty) cs rs := (hV.more sE.1).more (wo_sub H10 b)
      have hd : (cs.filter fun c => decide (ckey c = (o1, o2))).head? = cs.find? fun c => decide (ckey c = (o1, o2)) := List.head?_filter
      have endI : ∀ Hn : Hp, Same H10 Hn → ∃ w4' w5' w6' w7' w8' : Option V, [some (V.ref b), some (V.ref ty), some (.ref p2), some (.ref kl), w4, some (.ref L), some (V.int (0 + (i : Int))), some (V.str o1), some (V.str o2), none, none, none, none] = [some (V.ref b), some (V.ref ty), some (.ref p2), some (.ref kl), w4', w5', w6', w7', w8', none, none, none, none] ∧
          Hn kl = some (.lst (txs (feed :: ks))) ∧ Bag Hn b ∧ Sb b H Hn := fun Hn mm => ⟨_, _, _, _, _, rfl, mm _ _ (q3 _ _ k10), bE.keep mm, sE.same mm⟩
      have small : (cs.filter fun c => decide (ckey c = (o1, o2))).length ≤ 40 := Nat.le_trans (List.length_filter_le _ _) lc
      have inC : ∀ c ∈ cs.filter fun c => decide (ckey c = (o1, o2)), c ∈ cs := fun c hc => (List.mem_filter.mp hc).1
      generalize (cs.filter fun c => decide (ckey c = (o1, o2))) = fl at q1 hd small inC
      cases fl with
      | nil =>
        refine ⟨_, rfl, _, rfl, _, rfl, .ref ty, o1, o2, cs, rs, rfl, hVE, (fun c hf => by rw [← hd] at hf; cases hf), fun _ => ?_⟩
        refine ⟨_, rfl, by show 0 ≤ sizeLine; decide, fun q hq => ⟨.list [], .list [], .lst (SqL.of (s3u hq q1)) .nil, .lst (SqL.of upd_same) .nil, by decide +kernel, by decide +kernel, _, rfl, ?_⟩⟩
        refine ite2 (fun h => absurd h (by decide)) (fun _ => ?_)
        refine ⟨.non, .non, .none, rfl, .inl ⟨rfl, .inr (.inr (.inl rfl))⟩, .non, .non, by decide +kernel, by decide +kernel, by decide +kernel, ?_⟩
        refine ⟨_, rfl, ?_⟩
        refine ite2 (fun h => by cases h) (fun _ => ?_)
        exact endI _ (same_new (Same.refl H10) hq)
      | cons c fl =>
        obtain ⟨h1, h2, h3, h4⟩ := hP.cab c (inC c List.mem_cons_self)
        refine ⟨_, rfl, _, rfl, _, rfl, .ref ty, o1, o2, cs, rs, rfl, hVE, (fun c' hf => ?_), (fun hf => by rw [← hd] at hf; cases hf)⟩
        have ec : c' = c := by
          rw [← hd] at hf
          exact (Option.some.inj hf).symm
        subst ec
        refine ⟨_, rfl, by show 0 ≤ sizeLine; decide, fun q hq => ⟨.list (((c' :: fl).map (·.2.2)).map PyData.int), .list [], .lst (SqL.of (s3u hq q1)) (dp_ints _), .lst (SqL.of upd_same) .nil, shaped_ints _, by decide +kernel, _, rfl, ?_⟩⟩
        refine ite2 (fun _ => ?_) (fun h => absurd rfl h)
        have fit := fit_num h3 h4
        refine ⟨_, rfl, L, _, 0, .int c'.2.2, rfl, rfl, SqL.of (s3u hq q1), at0, ?_⟩
        refine ⟨.int c'.2.2, .int c'.2.2, .int c'.2.2, rfl, .inl ⟨rfl, .inl ⟨_, rfl⟩⟩, .int _, .int _, fit.1, Nat.le_trans fit.2.1 (big_ok (by decide)), Nat.le_trans fit.2.2 (by decide), ?_⟩
        refine ⟨_, rfl, ?_⟩
        refine ite2 (fun h => by cases h) (fun _ => ?_)
        exact endI _ (same_new (Same.refl H10) hq)
    clear g2 g3 g4
    rintro σ H6 ⟨w4, w5, w6, w7, w8, rfl, _, g3, g4⟩
    obtain ⟨ty, ya, yb, xs, zs, e, v1, v2, v3, v4, v5⟩ := hV.more g4.1
    subst e
    have lx : xs.length = cs.length := paired_len v4
    refine ⟨_, rfl, ty, _, 0, .ref ya, rfl, rfl, sqt_more (wo_sub H6 b) v1, at0, ya, rfl, ⟨_, sqt_more (wo_sub H6 b) v2⟩, ?_⟩
    refine for_tup (K := K) (a := ya) (xs := xs) (fun i σ H' => ∃ w9 w10 w11 : Option V, σ = [some (.ref b), some (.ref ty), some (.ref p2), some (.ref kl), w4, w5, w6, w7, w8, w9, w10, w11, none] ∧ H' = H6) ?_ ?_ ?_ ?_
    · exact ⟨none, none, none, rfl, rfl⟩
    · rintro i σ H' _ ⟨_, _, _, _, rfl⟩
      exact sqt_more (wo_sub H' b) v2
    · rintro i u σ H' hu ⟨w9, w10, w11, rfl, rfl⟩
      obtain ⟨c, hc, t', rfl, hq⟩ := paired_at v4 hu
      have mc := List.mem_of_getElem? hc
      obtain ⟨h1, h2, h3, h4⟩ := hP.cab c mc
      refine ⟨t', _, rfl, sqt_more (wo_sub H' b) hq, rfl, _, _, rfl, _, _, rfl, _, _, rfl, rfl, ?_⟩
      refine ⟨_, rfl, _, rfl, _, rfl, .ref ty, c.1, c.2.1, cs, rs, rfl, (hV.more g4.1).more (wo_sub H' b), (fun c' hf => ?_), (fun hf => ?_)⟩
      · have k1 : ckey c' = (c.1, c.2.1) := by simpa using List.find?_some hf
        have ec : c' = c := by
          obtain ⟨j, hj⟩ := List.mem_iff_getElem?.mp (List.mem_of_find?_eq_some hf)
          by_cases ij : j = i
          · rw [ij, hc] at hj
            exact (Option.some.inj hj).symm
          · exact absurd (show ckey c' = ckey c from k1) (row_ne hP.keys (by rw [List.getElem?_map, hj]; rfl) (by rw [List.getElem?_map, hc]; rfl) ij)
        subst ec
        have fit := fit_num h3 h4
        refine ⟨_, rfl, .int c'.2.2, .int c'.2.2, .int c'.2.2, rfl, .inl ⟨rfl, .inl ⟨_, rfl⟩⟩, .int _, .int _, fit.1, Nat.le_trans fit.2.1 (big_ok (by decide)), Nat.le_trans fit.2.2 (by decide), ?_⟩
        refine ⟨_, rfl, ?_⟩
        refine ite2 (fun h => by cases h) (fun _ => ?_)
        exact ⟨_, _, _, rfl, rfl⟩
      · have := List.find?_eq_none.mp hf c mc
        exact absurd (decide_eq_true (show ckey c = (c.1, c.2.1) from rfl)) this
    rintro σ H' ⟨w9, w10, w11, rfl, rfl⟩
    exact k H' g3 g4
end
end Y

/-! what the law of looked-at yards sums up -/
namespace Y
open PySem PySem.Spec PyProof.Rows L2 Ns
theorem paired_dict {K : PySem.W.Frag} {H : Hp} : ∀ {ts : List Addr} {rs : List Car}, Paired (fun t (r : Car) => SqT K H t [.str r.1, .int r.2.2.2]) ts rs → Paired (fun (p : Addr) (kv : Key × V) => SqT K H p [kV kv.1, kv.2]) ts (kvI (rs.map nd))
  | _, _, .nil => .nil
  | _, _, .cons h t => .cons h (paired_dict t)
/-- a dict of numbers as a datum -/
def dicD (l : List (Str × Int)) : PyData := .dict (((kvI l).map fun p => kD p.1).zip (l.map fun p => PyData.int p.2))
theorem dat_dict {K : PySem.W.Frag} {H : Hp} {a : Addr} {l : List (Str × Int)} (h : H a = some (.dK (kvI l))) : DatV K H (.ref a) (dicD l) := by
  refine .dic h ?_
  have e1 : (kvI l).map (·.2) = (l.map (·.2)).map V.int := by unfold kvI; rw [List.map_map, List.map_map]; rfl
  have e2 : (l.map fun p => PyData.int p.2) = (l.map (·.2)).map PyData.int := by rw [List.map_map]; rfl
  rw [e1, e2]
  exact dat_ints _
theorem fit_dic {l : List (Str × Int)} (hl : l.length ≤ 24) (h : ∀ p ∈ l, Nf p.1 ∧ 0 ≤ p.2 ∧ p.2 ≤ 10 ^ 12) : Fit 20000 1 (dicD l) := by
  refine (fit_dict (m := 300) (k := 0) fun p hp => ?_).mono ?_ (by decide)
  · obtain ⟨j, hj⟩ := List.mem_iff_getElem?.mp hp
    obtain ⟨j1, j2⟩ := List.getElem?_zip_eq_some.mp hj
    unfold kvI at j1
    rw [List.map_map, List.getElem?_map] at j1
    rw [List.getElem?_map] at j2
    cases hq : l[j]? with
    | none => rw [hq] at j1; cases j1
    | some q =>
      rw [hq] at j1 j2
      obtain ⟨h1, h2, h3⟩ := h q (List.mem_of_getElem? hq)
      have e1 : p.1 = .str q.1 := (Option.some.inj j1).symm
      have e2 : p.2 = .int q.2 := (Option.some.inj j2).symm
      rw [e1, e2]
      exact ⟨fit_name h1, fit_num h2 h3⟩
  · unfold kvI
    rw [List.length_zip, List.length_map, List.length_map, List.length_map, Nat.min_self]
    omega
theorem fit_txs {l : List Str} (hl : l.length ≤ 50) (h : ∀ x ∈ l, Nf x) : Fit 20000 1 (.tuple (l.map PyData.str)) := by
  refine (fit_tuple (m := 300) (k := 0) fun d hd => ?_).mono ?_ (by decide)
  · obtain ⟨x, hx, rfl⟩ := List.mem_map.mp hd
    exact fit_name (h x hx)
  · rw [List.length_map]
    omega
theorem sum_bd {m : Int} (hm : 0 ≤ m) : ∀ {l : List Int}, (∀ i ∈ l, 0 ≤ i ∧ i ≤ m) → 0 ≤ l.sum ∧ l.sum ≤ l.length * m
  | [], _ => by simp
  | i :: l, h => by
    obtain ⟨h1, h2⟩ := sum_bd hm (l := l) fun j hj => h j (List.mem_cons_of_mem _ hj)
    obtain ⟨h3, h4⟩ := h i List.mem_cons_self
    rw [List.sum_cons, List.length_cons]
    refine ⟨by omega, ?_⟩
    have e : ((l.length + 1 : Nat) : Int) * m = l.length * m + m := by
      rw [show ((l.length + 1 : Nat) : Int) = (l.length : Int) + 1 by omega, Int.add_mul, Int.one_mul]
    rw [e]
    omega
theorem perm_sum {l m : List Int} (h : l.Perm m) : l.sum = m.sum := by
  induction h with
  | nil => rfl
  | cons x _ ih => rw [List.sum_cons, List.sum_cons, ih]
  | swap x y l => simp only [List.sum_cons]; omega
  | trans _ _ h1 h2 => rw [h1, h2]
theorem fit_sum {l : List Int} (hl : l.length ≤ 100) (h : ∀ i ∈ l, 0 ≤ i ∧ i ≤ 10 ^ 12) : Fit 300 0 (.int l.sum) := by
  obtain ⟨h1, h2⟩ := sum_bd (by decide) h
  have h3 : (l.length : Int) * 10 ^ 12 ≤ 100 * 10 ^ 12 := Int.mul_le_mul_of_nonneg_right (by omega) (by decide)
  exact (fit_int (n := 16) (by decide) (by omega) (by decide)).mono (by decide) (Nat.le_refl _)
/-- the need of a name -/
def nv (rs : List Car) (x : Str) : Int := ((rs.find? fun r => decide (r.1 = x)).map (·.2.2.2)).getD 0
theorem nv_at {rs : List Car} (n : (rs.map (·.1)).Nodup) {r : Car} (h : r ∈ rs) : nv rs r.1 = r.2.2.2 := by
  unfold nv
  cases e : rs.find? fun q => decide (q.1 = r.1) with
  | none => exact absurd (decide_eq_true rfl) (List.find?_eq_none.mp e r h)
  | some q =>
    have k : q.1 = r.1 := by simpa using List.find?_some e
    have hq := List.mem_of_find?_eq_some e
    obtain ⟨i, hi⟩ := List.mem_iff_getElem?.mp hq
    obtain ⟨j, hj⟩ := List.mem_iff_getElem?.mp h
    by_cases ij : i = j
    · rw [ij, hj] at hi
      cases hi
      rfl
    · exact absurd k (row_ne n (by rw [List.getElem?_map, hi]; rfl) (by rw [List.getElem?_map, hj]; rfl) ij)
theorem nv_mem {rs : List Car} (n : (rs.map (·.1)).Nodup) {x : Str} (h : x ∈ rs.map (·.1)) : (x, nv rs x) ∈ rs.map nd ∧ ∃ r ∈ rs, r.1 = x ∧ nv rs x = r.2.2.2 := by
  obtain ⟨r, hr, rfl⟩ := List.mem_map.mp h
  have e := nv_at n hr
  exact ⟨List.mem_map.mpr ⟨r, hr, by unfold nd; rw [e]⟩, r, hr, rfl, e⟩
theorem need_sum {rs : List Car} {ls : List Str} (n : (rs.map (·.1)).Nodup) (nl : ls.Nodup) (sub : ∀ x ∈ ls, x ∈ rs.map (·.1)) : ((rs.filter fun r => decide (r.1 ∈ ls)).map (·.2.2.2)).sum = (ls.map (nv rs)).sum := by
  have e1 : (rs.filter fun r => decide (r.1 ∈ ls)).map (·.2.2.2) = ((rs.filter fun r => decide (r.1 ∈ ls)).map (·.1)).map (nv rs) := by
    rw [List.map_map]
    apply List.map_congr_left
    intro r hr
    exact (nv_at n (List.mem_filter.mp hr).1).symm
  rw [e1]
  refine perm_sum (List.Perm.map _ (perm_of_mem ?_ nl fun s => ?_))
  · exact n.sublist (List.Sublist.map _ List.filter_sublist)
  · rw [List.mem_map]
    constructor
    · rintro ⟨r, hr, rfl⟩
      exact of_decide_eq_true (List.mem_filter.mp hr).2
    · intro hs
      obtain ⟨r, hr, e⟩ := List.mem_map.mp (sub s hs)
      exact ⟨r, List.mem_filter.mpr ⟨hr, decide_eq_true (by rw [e]; exact hs)⟩, e⟩
/-- what is told of a yard, as a datum -/
def toldD (ws ns : List Str) (l : List (Str × Int)) : PyData := .list [.tuple (ws.map PyData.str), .tuple (ns.map PyData.str), dicD l]
theorem fit_told {ws ns : List Str} {l : List (Str × Int)} (h1 : ws.length ≤ 50) (h2 : ∀ x ∈ ws, Nf x) (h3 : ns.length ≤ 50) (h4 : ∀ x ∈ ns, Nf x) (h5 : l.length ≤ 24) (h6 : ∀ p ∈ l, Nf p.1 ∧ 0 ≤ p.2 ∧ p.2 ≤ 10 ^ 12) : Fit 100000 2 (toldD ws ns l) := by
  refine (fit_list (m := 20000) (k := 1) fun d hd => ?_).mono (show 3 * (20000 + 2) + 3 ≤ 100000 by decide) (by decide)
  simp only [List.mem_cons, List.not_mem_nil, or_false] at hd
  rcases hd with rfl | rfl | rfl
  · exact fit_txs h1 h2
  · exact fit_txs h3 h4
  · exact fit_dic h5 h6
section
variable {K : PySem.W.Frag} {H : Hp}
theorem told_due {a b p q r u v w : Addr} {ws ns : List Str} {l : List (Str × Int)} {n : Nat} (t1 : H a = some (.lst [.ref p, .ref q, .ref r])) (c1 : H b = some (.lst [.ref u, .ref v, .ref w])) (t2 : H p = some (.tup (txs ws))) (c2 : H u = some (.tup (txs ws)))
    (t3 : H q = some (.tup (txs ns))) (c3 : H v = some (.tup (txs ns))) (t4 : H r = some (.dK (kvI l))) (c4 : H w = some (.dK (kvI l))) (nd : (l.map (·.1)).Nodup) : EqS K H (n + 2) (.ref a) (.ref b) :=
  .inl (.inl ⟨a, b, _, _, rfl, rfl, SqL.of t1, SqL.of c1, .cons (eqT_tup n (SqT.of t2) (SqT.of c2) flat_str) (.cons (eqT_tup n (SqT.of t3) (SqT.of c3) flat_str) (.cons (eqT_dict n nd t4 c4) .nil))⟩)
theorem dat_told {a p q r : Addr} {ws ns : List Str} {l : List (Str × Int)} (t1 : H a = some (.lst [.ref p, .ref q, .ref r])) (t2 : H p = some (.tup (txs ws))) (t3 : H q = some (.tup (txs ns))) (t4 : H r = some (.dK (kvI l))) : DatV K H (.ref a) (toldD ws ns l) :=
  .lst (SqL.of t1) (.cons (.tup (SqT.of t2) (dat_txs ws)) (.cons (.tup (SqT.of t3) (dat_txs ns)) (.cons (dat_dict t4) .nil)))
end
structure D2 (P : Program) (w : World) (K : PySem.W.Frag) (mg : Str → Option Value) (base : Heap) (fB fSm fW fG fAL fTK fKO fCs fNs fNd fSu fRR : Addr) (dB dSm dW dG dAL dTK dKO dCs dNs dNd dSu dRR : FuncData) : Prop where
  B : Fun K "_law_bag" "_law_bag" sBag fB dB
  mB : mg "_law_bag" = some (.ref fB)
  bB : Binds K dB ["script"] []
  gB : FnOk P w K mg base CX0 1 fB dB ["script"] (spBag K)
  Sm : Fun K "_law_small_yard" "_law_small_yard" sSmall fSm dSm
  mSm : mg "_law_small_yard" = some (.ref fSm)
  bSm : Binds K dSm ["bag"] []
  gSm : FnOk P w K mg base CX0 7 fSm dSm ["bag"] (spYard K 7)
  W : Fun K "_law_wide_yard" "_law_wide_yard" sWide fW dW
  mW : mg "_law_wide_yard" = some (.ref fW)
  bW : Binds K dW ["bag"] []
  gW : FnOk P w K mg base CX0 7 fW dW ["bag"] (spYard K (10 ^ 12))
  G : Fun K "_law_great_yard" "_law_great_yard" sGreat fG dG
  mG : mg "_law_great_yard" = some (.ref fG)
  bG : Binds K dG ["bag"] []
  gG : FnOk P w K mg base CX0 8 fG dG ["bag"] (spYard K (10 ^ 12))
  AL : Fun K "_law_a_lot" "_law_a_lot" sALot fAL dAL
  mAL : mg "_law_a_lot" = some (.ref fAL)
  bAL : Binds K dAL ["bag", "things"] []
  gAL : FnOk P w K mg base CX0 3 fAL dAL ["bag", "things"] (spALot K)
  TK : Fun K "_law_turned_keys" "_law_turned_keys" sTurned fTK dTK
  mTK : mg "_law_turned_keys" = some (.ref fTK)
  bTK : Binds K dTK ["bag", "thing"] []
  gTK : FnOk P w K mg base CX0 3 fTK dTK ["bag", "thing"] spTurned
  KO : Fun K "knots_of" "knots_of" sKnotsOf fKO dKO
  mKO : mg "knots_of" = some (.ref fKO)
  bKO : Binds K dKO ["yard"] []
  gKO : FnOk P w K mg base CX0 2 fKO dKO ["yard"] (spKin K)
  Cs : Fun K "cars_of" "cars_of" sCarsOf fCs dCs
  mCs : mg "cars_of" = some (.ref fCs)
  bCs : Binds K dCs ["yard"] []
  gCs : FnOk P w K mg base CX0 1 fCs dCs ["yard"] (spNamesOf K)
  Ns : Fun K "needs_of" "needs_of" sNeedsOf fNs dNs
  mNs : mg "needs_of" = some (.ref fNs)
  bNs : Binds K dNs ["yard"] []
  gNs : FnOk P w K mg base CX0 1 fNs dNs ["yard"] (spNeedsOf K)
  Nd : Fun K "need_of" "need_of" sNeedOf fNd dNd
  mNd : mg "need_of" = some (.ref fNd)
  bNd : Binds K dNd ["yard", "lot"] []
  gNd : FnOk P w K mg base CX0 1 fNd dNd ["yard", "lot"] (spNeedOf K)
  Su : Fun K "sum_of" "sum_of" sSumOf fSu dSu
  mSu : mg "sum_of" = some (.ref fSu)
  bSu : Binds K dSu ["amounts"] []
  gSu : FnOk P w K mg base CX0 1 fSu dSu ["amounts"] spSumOf
  RR : Fun K "_law_rows_right" "_law_rows_right" sRowsRight fRR dRR
  mRR : mg "_law_rows_right" = some (.ref fRR)
  bRR : Binds K dRR ["bag", "yard"] []
  gRR : GnOk P w K mg base 4 fRR dRR ["bag", "yard"] (spRows K)
end Y

namespace Y
open PySem PySem.Spec PyProof.Rows L2 Ns
theorem paired_dictS {K : PySem.W.Frag} {H : Hp} {f : Str → Int} : ∀ {ts : List Addr} {ls : List Str}, Paired (fun t (s : Str) => H t = some (.tup [.str s, .int (f s)])) ts ls → Paired (fun (p : Addr) (kv : Key × V) => SqT K H p [kV kv.1, kv.2]) ts (kvI (ls.map fun s => (s, f s)))
  | _, _, .nil => .nil
  | _, _, .cons h t => .cons (SqT.of h) (paired_dictS t)
theorem txs_get {ls : List Str} {j : Nat} {u : V} (h : (txs ls)[j]? = some u) : ∃ x, ls[j]? = some x ∧ u = .str x := by
  unfold txs at h
  rw [List.getElem?_map] at h
  obtain ⟨x, e1, e2⟩ := Option.map_eq_some_iff.mp h
  exact ⟨x, e1, e2.symm⟩
/-- the greater one of 1 and a need -/
def mx (z : Int) : Int := if z > 1 then z else 1
theorem mx_bd {z : Int} (h0 : 0 ≤ z) (h : z ≤ 10 ^ 12) : 0 ≤ mx z ∧ mx z ≤ 10 ^ 12 := by
  unfold mx
  split <;> omega
theorem int_row {l : List Int} {j : Nat} {x : Int} : ((l.map V.int) ++ [V.int x]) = ((l ++ [x]).map V.int) := by rw [List.map_append]; rfl
end Y

namespace Y
open PySem PySem.Spec PyProof.Rows L2 Ns
open C8 (pss_cut)
section
variable {P : Program} {w : World} {K : PySem.W.Frag} {mg : Str → Option Value} {base : Heap} {fS fN fAC fKn fCO fCP fA : Addr} {dS dN dAC dKn dCO dCP dA : FuncData} {fB fSm fW fG fAL fTK fKO fCs fNs fNd fSu fRR : Addr} {dB dSm dW dG dAL dTK dKO dCs dNs dNd dSu dRR : FuncData}
theorem scL : FnScope ["script", "bag", "turn", "yard", "text", "lot", "needs", "due", "again", "told", "amounts", "name", "knot", "rate", "need"] ["script"] (defScope sLaw) := ⟨rfl, rfl, rfl, by decide +kernel, rfl, by decide +kernel, by decide +kernel⟩
set_option maxHeartbeats 16000000 in
theorem ok_law {f : Addr} {fd : FuncData} (F : Fun K "law" "law" sLaw f fd) (T : Nat0 mg) (D : D1 P w K mg base fS fN fAC fKn fCO fCP fA dS dN dAC dKn dCO dCP dA) (L : D2 P w K mg base fB fSm fW fG fAL fTK fKO fCs fNs fNd fSu fRR dB dSm dW dG dAL dTK dKO dCs dNs dNd dSu dRR) :
    GnOk P w K mg base 9 f fd ["script"] (spTop K) := by
  refine Fun.okG F scL (fun as H Q E h => ?_) (fun cdv A outer s H as Q E hr hgd h => ?_)
  · obtain ⟨a, ns, rfl, _⟩ := h
    rfl
  · obtain ⟨a, ns, rfl, hS, hl, k⟩ := h
    have hr1 : Room 1 _ := hr.mono (by decide)
    have hr2 : Room 2 _ := hr.mono (by decide)
    have hr3 : Room 3 _ := hr.mono (by decide)
    have hr4 : Room 4 _ := hr.mono (by decide)
    have hr7 : Room 7 _ := hr.mono (by decide)
    have hu := hu_of hr
    have hun := hr.units
    refine ⟨_, pss_cons (ps_set (i := 1) scL.nd rfl (.inl rfl) (pe_call L.gB hr1 rfl L.mB L.B.kp L.bB .nil pass0 (pa_cons (pv 0) pa_nil)))
      (pss_cons (ps_for PassesOwn.never rfl (pi_range1 (by rfl) T.range (pa_cons pe_int pa_nil)) (pg_name (i := 2) scL.nd rfl (.inl rfl))
        (pss_cons (ps_set (i := 3) scL.nd rfl (.inl rfl) (pe_call D.gS hr2 rfl D.mS D.S.kp D.bS .nil pass0 (pa_cons (pv 1) (pa_cons (pe_lst (pa_cons (pe_call L.gSm hr7 rfl L.mSm L.Sm.kp L.bSm .nil pass0 (pa_cons (pv 1) pa_nil))
          (pa_cons (pe_call L.gW hr7 rfl L.mW L.W.kp L.bW .nil pass0 (pa_cons (pv 1) pa_nil)) (pa_cons (pe_call L.gG hr rfl L.mG L.G.kp L.bG .nil pass0 (pa_cons (pv 1) pa_nil)) (pa_cons (pe_tup (pa_cons (pe_tup pa_nil) (pa_cons (pe_tup pa_nil) pa_nil))) pa_nil))))) pa_nil))))
        (pss_cons (ps_par (i := 4) (j := 5) rfl scL.nd rfl rfl (by decide) rfl rfl (pa_cons (pe_callB (call_reprD hgd hun) (by rfl) T.repr (by decide +kernel) (pa_cons (pv 3) pa_nil))
          (pa_cons (pe_call L.gAL hr3 rfl L.mAL L.AL.kp L.bAL .nil pass0 (pa_cons (pv 1) (pa_cons (pe_callTy call_list_of (by rfl) T.list_ (by decide +kernel) (pa_cons (pe_call D.gAC hr1 rfl D.mAC D.AC.kp D.bAC .nil pass0 (pa_cons (pv 3) pa_nil)) pa_nil)) pa_nil))) pa_nil)) (by rfl))
        (pss_cons (ps_set (i := 6) scL.nd rfl (.inr rfl) (pe_callTy (call_dictP rfl) (by rfl) T.dict (by decide +kernel) (pa_cons (pe_lc (own := [("name", 11), ("knot", 12), ("rate", 13), ("need", 14)]) (g := gTup K 4 (gCons (gName 11) (gCons (gName 12) (gCons (gName 13) (gCons (gName 14) gNil))))) (tt := tYes) rfl scL.nd
          (pi_tup (pe_ix ix_tup (pv 3) pe_int (fun _ _ => rfl))) (blkOk_by (N := ["script", "bag", "turn", "yard", "text", "lot", "needs", "due", "again", "told", "amounts", "name", "knot", "rate", "need"]) (sc := defScope sLaw) (by decide +kernel))
          (fun _ _ _ _ _ => pg_tup rfl (pgs_cons (pg_name (i := 11) scL.nd rfl (Or.inl rfl)) (pgs_cons (pg_name (i := 12) scL.nd rfl (Or.inl rfl)) (pgs_cons (pg_name (i := 13) scL.nd rfl (Or.inl rfl)) (pgs_cons (pg_name (i := 14) scL.nd rfl (Or.inl rfl)) pgs_nil))))) (fun _ _ _ _ _ => pts_nil)
          (fun _ _ _ _ _ => pe_tup (pa_cons (pv 11) (pa_cons (pv 14) pa_nil)))) pa_nil)))
        (pss_cons (ps_set (i := 7) scL.nd rfl (.inl rfl) (pe_lst (pa_cons (pe_callTy call_tuple_of (by rfl) T.tuple (by decide +kernel) (pa_cons (pe_callB cr_sortedS (by rfl) T.sorted (by decide +kernel) (pa_cons (pe_op op_cat (pe_call D.gKn hr1 rfl D.mKn D.Kn.kp D.bKn .nil pass0 (pa_cons (pv 3) pa_nil)) (pe_lst (pa_cons pe_str pa_nil))) pa_nil)) pa_nil))
          (pa_cons (pe_call D.gAC hr1 rfl D.mAC D.AC.kp D.bAC .nil pass0 (pa_cons (pv 3) pa_nil)) (pa_cons (pv 6) pa_nil)))))
        (pss_cons (ps_for PassesOwn.never rfl (pi_range1 (by rfl) T.range (pa_cons pe_int pa_nil)) (pg_name (i := 8) scL.nd rfl (.inl rfl))
          (pss_cons (ps_set (i := 9) scL.nd rfl (.inl rfl) (pe_lst (pa_cons (pe_call L.gKO hr2 rfl L.mKO L.KO.kp L.bKO .nil pass0 (pa_cons (pv 3) pa_nil)) (pa_cons (pe_call L.gCs hr1 rfl L.mCs L.Cs.kp L.bCs .nil pass0 (pa_cons (pv 3) pa_nil)) (pa_cons (pe_call L.gNs hr1 rfl L.mNs L.Ns.kp L.bNs .nil pass0 (pa_cons (pv 3) pa_nil)) pa_nil)))))
          (pss_cons (ps_if (pt_not (pt_val (pe_callG D.gA hr1 hgd rfl D.mA D.A.kp D.bA (pa_cons (pv 9) (pa_cons (pv 7) pa_nil))))) (pss_one (ps_ret pe_bl)) pss_nil)
          (pss_one (ps_dput hu (pe_ix ix_list (pv 9) pe_int (fun _ _ => rfl)) pe_str (pv 8) rfl)))))
        (pss_cons (ps_if (pt_not (pt_val (pe_callG D.gA hr1 hgd rfl D.mA D.A.kp D.bA (pa_cons (pe_call L.gNd hr1 rfl L.mNd L.Nd.kp L.bNd .nil pass0 (pa_cons (pv 3) (pa_cons (pv 5) pa_nil)))
          (pa_cons (pe_callB (cr_sum rfl) (by rfl) T.sum (by decide +kernel) (pa_cons (pe_lc (own := [("name", 11)]) (g := gName 11) (tt := tYes) rfl scL.nd (pi_tup (pv 5)) (blkOk_by (N := ["script", "bag", "turn", "yard", "text", "lot", "needs", "due", "again", "told", "amounts", "name", "knot", "rate", "need"]) (sc := defScope sLaw) (by decide +kernel))
            (fun _ _ _ _ _ => pg_name (i := 11) scL.nd rfl (Or.inl rfl)) (fun _ _ _ _ _ => pts_nil) (fun _ _ _ _ _ => pe_dget hu (pv 6) (pv 11) (fun _ _ => rfl))) pa_nil)) pa_nil))))) (pss_one (ps_ret pe_bl)) pss_nil)
        (pss_cons (ps_set (i := 10) scL.nd rfl (.inl rfl) (pe_call L.gTK hr3 rfl L.mTK L.TK.kp L.bTK .nil pass0 (pa_cons (pv 1) (pa_cons (pe_callTy (call_dictP rfl) (by rfl) T.dict (by decide +kernel) (pa_cons (pe_lc (own := [("name", 11)]) (g := gName 11) (tt := tYes) rfl scL.nd (pi_tup (pv 5))
            (blkOk_by (N := ["script", "bag", "turn", "yard", "text", "lot", "needs", "due", "again", "told", "amounts", "name", "knot", "rate", "need"]) (sc := defScope sLaw) (by decide +kernel)) (fun _ _ _ _ _ => pg_name (i := 11) scL.nd rfl (Or.inl rfl)) (fun _ _ _ _ _ => pts_nil)
            (fun _ _ _ _ _ => pe_tup (pa_cons (pv 11) (pa_cons (pe_callB (call_max2 rfl) (by rfl) T.max (by decide +kernel) (pa_cons pe_int (pa_cons (pe_dget hu (pv 6) (pv 11) (fun _ _ => rfl)) pa_nil))) pa_nil)))) pa_nil)) pa_nil))))
        (pss_cons (ps_if (PW.pt (pw_or (pt_not (pt_val (pe_callG D.gA hr1 hgd rfl D.mA D.A.kp D.bA (pa_cons (pe_call L.gSu hr1 rfl L.mSu L.Su.kp L.bSu .nil pass0 (pa_cons (pv 10) pa_nil))
          (pa_cons (pe_callB (cr_sum rfl) (by rfl) T.sum (by decide +kernel) (pa_cons (pe_lc (own := [("name", 11)]) (g := gName 11) (tt := tYes) rfl scL.nd (pi_tup (pv 5)) (blkOk_by (N := ["script", "bag", "turn", "yard", "text", "lot", "needs", "due", "again", "told", "amounts", "name", "knot", "rate", "need"]) (sc := defScope sLaw) (by decide +kernel))
            (fun _ _ _ _ _ => pg_name (i := 11) scL.nd rfl (Or.inl rfl)) (fun _ _ _ _ _ => pts_nil) (fun _ _ _ _ _ => pe_callB (call_max2 rfl) (by rfl) T.max (by decide +kernel) (pa_cons pe_int (pa_cons (pe_dget hu (pv 6) (pv 11) (fun _ _ => rfl)) pa_nil)))) pa_nil)) pa_nil)))))
          (pw_or1 (pt_cmpR op_ne (pe_call L.gSu hr1 rfl L.mSu L.Su.kp L.bSu .nil pass0 (pa_cons pe_dnewK pa_nil)) pe_int (nomark _))))) (pss_one (ps_ret pe_bl)) pss_nil)
        (pss_one (ps_if (PW.pt (pw_or (pt_not (pt_val (pe_callG L.gRR hr4 hgd rfl L.mRR L.RR.kp L.bRR (pa_cons (pv 1) (pa_cons (pv 3) pa_nil))))) (pw_or1 (pt_cmpR op_ne (pe_callB (call_reprD hgd hun) (by rfl) T.repr (by decide +kernel) (pa_cons (pv 3) pa_nil)) (pv 4) (nomark _)))))
          (pss_one (ps_ret pe_bl)) pss_nil)))))))))))
      (pss_one (ps_ret pe_bl))), ?_⟩
    refine ⟨_, rfl, a, ns, rfl, hS, hl, fun b H1 hB1 _ _ => ?_⟩
    refine ⟨4, rfl, by decide, by decide, for_range (n := 4) (fun i σ H' => ∃ v2 v3 v4 v5 v6 v7 v8 v9 v10 : Option V, σ = [some (.ref a), some (.ref b), v2, v3, v4, v5, v6, v7, v8, v9, v10, none, none, none, none] ∧ Bag H' b) ?_ ?_ ?_⟩
    · exact ⟨none, none, none, none, none, none, none, none, none, rfl, hB1⟩
    · clear hB1
      rintro i σ H0 hi ⟨v2, v3, v4, v5, v6, v7, v8, v9, v10, rfl, hB⟩
      refine ⟨_, rfl, _, rfl, b, rfl, hB, fun y1 c1 r1 H1 Y1 V1 b1 s1 => ⟨_, rfl, b, rfl, b1, fun y2 c2 r2 H2 Y2 V2 b2 s2 => ⟨_, rfl, b, rfl, b2, fun y3 c3 r3 H3 Y3 V3 b3 s3 => ?_⟩⟩⟩
      refine ⟨by show 0 ≤ sizeLine; decide, fun q1 hq1 => ⟨by show 0 ≤ sizeLine; decide, fun q2 hq2 => ⟨by show 2 ≤ sizeLine; decide, fun q3 hq3 => ⟨by show 4 ≤ sizeLine; decide, fun q4 hq4 => ?_⟩⟩⟩⟩
      have bb1 := b3.new (o := .tup []) hq1
      have bb2 := bb1.new (o := .tup []) hq2
      have bb3 := bb2.new (o := .tup [.ref q1, .ref q2]) hq3
      have bb4 := bb3.new (o := .lst [y1, y2, y3, .ref q3]) hq4
      have ss := ((((Sb.refl b H3).new (o := .tup []) hq1).new (o := .tup []) hq2).new (o := .tup [.ref q1, .ref q2]) hq3).new (o := .lst [y1, y2, y3, .ref q3]) hq4
      have g1 := s3u (o := .lst [y1, y2, y3, .ref q3]) hq4 (s3u (o := .tup [.ref q1, .ref q2]) hq3 (s3u (o := .tup []) hq2 (upd_same (H := H3) (a := q1) (o := .tup []))))
      have g2 := s3u (o := .lst [y1, y2, y3, .ref q3]) hq4 (s3u (o := .tup [.ref q1, .ref q2]) hq3 (upd_same (H := upd H3 q1 (.tup [])) (a := q2) (o := .tup [])))
      have g3 := s3u (o := .lst [y1, y2, y3, .ref q3]) hq4 (upd_same (H := upd (upd H3 q1 (.tup [])) q2 (.tup [])) (a := q3) (o := .tup [.ref q1, .ref q2]))
      refine ⟨b, q4, _, rfl, bb4, sql_new upd_same (bb3.ne hq4), (fun z => nomatch z), by show 4 ≤ 1000000; decide, fun y H5 hy hB5 s5 => ?_⟩
      obtain ⟨cs, rs, hY, hV⟩ : ∃ (cs : List Cab) (rs : List Car), YardF (10 ^ 12) cs rs ∧ YardV K (wo H5 b) y cs rs := by
        simp only [List.mem_cons, List.not_mem_nil, or_false] at hy
        rcases hy with rfl | rfl | rfl | rfl
        · exact ⟨c1, r1, Y1.mono (by decide), (((V1.more s2.1).more s3.1).more ss.1).more s5.1⟩
        · exact ⟨c2, r2, Y2, ((V2.more s3.1).more ss.1).more s5.1⟩
        · exact ⟨c3, r3, Y3, (V3.more ss.1).more s5.1⟩
        · refine ⟨[], [], ⟨[], [], ⟨(fun _ z => nomatch z), List.nodup_nil, (fun _ z => nomatch z)⟩, by decide, ⟨(fun _ z => nomatch z), List.nodup_nil, (fun _ z => nomatch z)⟩, by decide, ⟨by decide, List.nodup_nil, (fun _ z => nomatch z), ⟨[], by simp⟩⟩, ⟨rfl, .refl _, (fun _ z => nomatch z)⟩⟩, ?_⟩
          exact ⟨q3, q1, q2, [], [], rfl, sqt_new (s5.get g3 (bb2.ne hq3)) (bb2.ne hq3), sqt_new (s5.get g1 (b3.ne hq1)) (b3.ne hq1), sqt_new (s5.get g2 (bb1.ne hq2)) (bb1.ne hq2), .nil, .nil⟩
      clear g1 g2 g3 ss bb1 bb2 bb3 bb4 s5 hy Y1 Y2 Y3 V1 V2 V3 s1 s2 s3 b1 b2 b3 hB hq1 hq2 hq3 hq4
      have hP := hY.plain (Int.le_refl _)
      have lr := hP.lr
      have nn := hP.names
      have nl : (rs.map (·.1)).length ≤ 24 := by rw [List.length_map]; exact lr
      have hVH : YardV K H5 y cs rs := hV.more (wo_sub H5 b)
      have fy := fit_yard hP
      -- the text, the lot
      refine ⟨_, rfl, y, yardD cs rs, rfl, dat_yard hVH, fy.1, Nat.le_trans fy.2.1 (big_ok (by decide)), Nat.le_trans fy.2.2 (by decide), ?_⟩
      refine ⟨_, rfl, _, rfl, y, cs, rs, rfl, hVH, by omega, fun p1 H6 e1 f1 m1 => ⟨p1, _, rfl, .inr (SqT.of e1), fun p2 hp2 => ?_⟩⟩
      have b6 := (hB5.keep m1).new (o := .lst (txs (rs.map (·.1)))) hp2
      have s6 := ((Sb.refl b H5).same m1).new (o := .lst (txs (rs.map (·.1)))) hp2
      refine ⟨b, p2, rs.map (·.1), rfl, b6, sql_new upd_same ((hB5.keep m1).ne hp2), by omega, nn, fun lo ls H7 srt nls subl e7 f7 n7 b7 s7 => ⟨_, _, rfl, ?_⟩⟩
      have hV7 : YardV K H7 y cs rs := ((hV.more s6.1).more s7.1).more (wo_sub H7 b)
      have hVb : YardV K (wo H7 b) y cs rs := (hV.more s6.1).more s7.1
      clear hVH m1 e1 f1 hp2 b6 s6 s7
      obtain ⟨ty, ya, yb, xs, zs, e, v1, w2, v3, w4, v5⟩ := id hV7
      subst e
      have lz : zs.length = rs.length := paired_len v5
      refine ⟨_, rfl, ty, _, 1, .ref yb, rfl, rfl, v1, at1, yb, rfl, ⟨_, v3⟩, fun D1' hD => ?_⟩
      refine lc_tup (K := K) (a := yb) (xs := zs) (fun j H'' => ∃ ts : List Addr, H'' D1' = some (.lst (ts.map V.ref)) ∧ Paired (fun t (r : Car) => H'' t = some (.tup [.str r.1, .int r.2.2.2])) ts (rs.take j) ∧ Same H7 H'') ?_ ?_ ?_ ?_
      · exact ⟨[], upd_same, by rw [List.take_zero]; exact .nil, same_new (Same.refl H7) hD⟩
      · rintro j H'' _ ⟨_, _, _, sm⟩
        exact sqt_more sm v3
      · rintro j u H'' hu ⟨ts, q1, q2, q3⟩
        obtain ⟨c, hc, t', rfl, hq⟩ := paired_at v5 hu
        have hj' : j < rs.length := (List.getElem?_eq_some_iff.mp hc).1
        refine ⟨t', _, rfl, sqt_more q3 hq, rfl, _, _, rfl, _, _, rfl, _, _, rfl, _, _, rfl, rfl, ?_⟩
        refine ⟨rfl, _, rfl, _, rfl, by show 2 ≤ sizeLine; decide, fun t ht => ?_⟩
        have nt : t ≠ D1' := fun z => by rw [z, q1] at ht; cases ht
        have tl : ts.length ≤ 24 := by
          rw [paired_len q2, List.length_take]
          omega
        refine ⟨ts.map V.ref, s3u ht q1, by rw [List.length_map]; exact small1000 (by omega), ts ++ [t], by rw [upd_same, List.map_append]; rfl, ?_, same_put (same_new q3 ht) hD⟩
        rw [List.take_succ, hc]
        refine paired_snoc (by rw [upd_ne nt, upd_same]) (paired_imp (fun t0 r h => ?_) q2)
        have n0 : t0 ≠ D1' := fun z => by rw [z, q1] at h; cases h
        rw [upd_ne n0]
        exact s3u ht h
      rintro H8 ⟨ts, q1, q2, m8⟩
      rw [lz, List.take_length] at q2
      have ndk : ((rs.map nd).map (·.1)).Nodup := by rw [List.map_map]; exact nn
      refine ⟨D1', ts, kvI (rs.map nd), rfl, SqL.of q1, ?_, fun ne hne => ?_⟩
      · exact paired_dict (paired_imp (fun t r h => SqT.of h) q2)
      rw [kvI_made ndk]
      have m9 := same_new (o := .dK (kvI (rs.map nd))) m8 hne
      have e9 : upd H8 ne (.dK (kvI (rs.map nd))) ne = some (.dK (kvI (rs.map nd))) := upd_same
      generalize upd H8 ne (.dK (kvI (rs.map nd))) = H9 at m9 e9 ⊢
      have nneb : ne ≠ b := (b7.keep m8).ne hne
      clear q1 q2 m8 hD hne
      have V9 : YardV K H9 (.ref ty) cs rs := hV7.more m9
      -- what is due
      obtain ⟨nsY, n8, nn8, subK⟩ := knIn_feed hY
      refine ⟨_, rfl, .ref ty, cs, rs, 10 ^ 12, rfl, V9, hY, fun p4 ks H10 nk mk e10 f10 m10 => ⟨by show 1 ≤ sizeLine; decide, fun q hq => ?_⟩⟩
      have kl9 : ks.length ≤ 9 := by
        have := sub_len nk (m := feed :: nsY) fun s hs => subK s ((mk s).mp hs).1
        rw [List.length_cons] at this
        omega
      have tkl : (txs ks).length = ks.length := List.length_map _
      refine ⟨p4, q, txs ks, [.str feed], rfl, rfl, s3u hq e10, upd_same, by rw [tkl]; exact Nat.le_of_lt (small1000 (show ks.length + 1 ≤ 1000 by omega)), fun r hr' => ?_⟩
      have ea : (txs ks ++ [.str feed] : List V) = (ks ++ [feed]).map V.str := by unfold txs; rw [List.map_append]; rfl
      refine ⟨r, ks ++ [feed], rfl, by rw [← ea]; exact SqL.of upd_same, by rw [List.length_append]; show ks.length + 1 < 64; omega, fun zs2 u pz srtz hu' => ⟨u, zs2.map V.str, rfl, .inl ⟨SqL.of upd_same, fun u2 hu2 => ?_⟩⟩⟩
      have m11 := same_new (o := .tup (zs2.map V.str)) (same_new (o := .lst (zs2.map V.str)) (same_new (o := .lst (txs ks ++ [.str feed])) (same_new (o := .lst [.str feed]) m10 hq) hr') hu') hu2
      have e11 := upd_same (H := upd (upd (upd H10 q (.lst [.str feed])) r (.lst (txs ks ++ [.str feed]))) u (.lst (zs2.map V.str))) (a := u2) (o := .tup (zs2.map V.str))
      generalize upd (upd (upd (upd H10 q (.lst [.str feed])) r (.lst (txs ks ++ [.str feed]))) u (.lst (zs2.map V.str))) u2 (.tup (zs2.map V.str)) = H11 at m11 e11 ⊢
      clear hq hr' hu' hu2 e10 f10 m10
      refine ⟨_, rfl, .ref ty, cs, rs, rfl, V9.more m11, by omega, fun p5 H12 e12 f12 m12 => ⟨_, rfl, by show 3 ≤ sizeLine; decide, fun du hdu => ?_⟩⟩
      have m13 := same_new (o := .lst [.ref u2, .ref p5, .ref ne]) (m11.trans m12) hdu
      have d1 : upd H12 du (.lst [.ref u2, .ref p5, .ref ne]) du = some (.lst [.ref u2, .ref p5, .ref ne]) := upd_same
      have d2 : upd H12 du (.lst [.ref u2, .ref p5, .ref ne]) u2 = some (.tup (zs2.map V.str)) := s3u hdu (m12 _ _ e11)
      have d3 : upd H12 du (.lst [.ref u2, .ref p5, .ref ne]) p5 = some (.tup (txs (rs.map (·.1)))) := s3u hdu e12
      generalize upd H12 du (.lst [.ref u2, .ref p5, .ref ne]) = H13 at m13 d1 d2 d3 ⊢
      clear hdu e12 f12 m12 e11 m11
      have d4 : H13 ne = some (.dK (kvI (rs.map nd))) := m13 _ _ e9
      have V13 : YardV K H13 (.ref ty) cs rs := V9.more m13
      have m713 := m9.trans m13
      have b13 := b7.keep m713
      have lo13 : H13 lo = some (.tup (txs ls)) := m713 _ _ e7
      have nz : zs2.Nodup := pz.nodup_iff.mpr (by
        rw [List.nodup_append]
        refine ⟨nk, List.nodup_cons.mpr ⟨(fun z => nomatch z), List.nodup_nil⟩, fun s hs t ht => ?_⟩
        rw [List.mem_singleton.mp ht]
        exact ((mk s).mp hs).2)
      have mz : ∀ s, s ∈ zs2 ↔ s = feed ∨ KnIn cs rs s := fun s => by
        rw [pz.mem_iff, List.mem_append, mk, List.mem_singleton]
        constructor
        · rintro (h | h)
          · exact .inr h.1
          · exact .inl h
        · rintro (h | h)
          · exact .inr h
          · by_cases e : s = feed
            · exact .inr e
            · exact .inl ⟨h, e⟩
      have nfz : ∀ s ∈ zs2, Nf s := fun s hs => by
        rcases (mz s).mp hs with e | e
        · exact .inr e
        · rcases List.mem_cons.mp (subK s e) with e | e
          · exact .inr e
          · exact .inl (nn8 s e)
      have lz2 : zs2.length ≤ 10 := by
        rw [pz.length_eq, List.length_append]
        show ks.length + 1 ≤ 10
        omega
      have fitD : Fit 100000 2 (toldD zs2 (rs.map (·.1)) (rs.map nd)) := fit_told (by omega) nfz (by omega) (fun x hx => by obtain ⟨r, hr', rfl⟩ := List.mem_map.mp hx; exact .inl (hP.car r hr').1) (by rw [List.length_map]; exact lr) fun p hp => by
        obtain ⟨r, hr', rfl⟩ := List.mem_map.mp hp
        obtain ⟨h1, h2, h3, h4, h5, h6⟩ := hP.car r hr'
        exact ⟨.inl h1, h5, h6⟩
      have fd1 : (toldD zs2 (rs.map (·.1)) (rs.map nd)).showable = true := fitD.1
      have fd2 : (toldD zs2 (rs.map (·.1)) (rs.map nd)).shown.length ≤ sizeLine := Nat.le_trans fitD.2.1 (big_ok (n := 100000) (by decide))
      have fd3 : (toldD zs2 (rs.map (·.1)) (rs.map nd)).depth ≤ 60 := Nat.le_trans fitD.2.2 (show 2 ≤ 60 by decide)
      clear fitD
      -- told again
      refine ⟨3, rfl, by decide, by decide, for_range (n := 3) (fun i' σ H' => ∃ v8' v9' : Option V, σ = [some (.ref a), some (.ref b), some (.int (0 + (i : Int))), some (.ref ty), some (.str (yardD cs rs).shown), some (.ref lo), some (.ref ne), some (.ref du), v8', v9', v10, none, none, none, none] ∧ Same H13 H') ?_ ?_ ?_⟩
      · exact ⟨v8, v9, rfl, Same.refl H13⟩
      · rintro i' σ H' _ ⟨v8', v9', rfl, mm⟩
        have VV := V13.more mm
        refine ⟨_, rfl, .ref ty, cs, rs, 10 ^ 12, rfl, VV, hY, fun p6 ws G1 srtw nw mw x1 y1 z1 => ⟨_, rfl, .ref ty, cs, rs, rfl, VV.more z1, by omega, fun p7 G2 x2 y2 z2 => ⟨_, rfl, .ref ty, cs, rs, rfl, (VV.more z1).more z2, nn, by omega, fun p8 G3 x3 y3 z3 => ⟨by show 3 ≤ sizeLine; decide, fun to hto => ?_⟩⟩⟩⟩
        have ew : ws = zs2 := sorted_one srtw srtz (perm_of_mem nw nz fun s => by rw [mw, mz])
        subst ew
        have mA := (mm.trans z1).trans z2
        have mB := mA.trans z3
        have mC := same_new (o := .lst [.ref p6, .ref p7, .ref p8]) mB hto
        have t1 : upd G3 to (.lst [.ref p6, .ref p7, .ref p8]) to = some (.lst [.ref p6, .ref p7, .ref p8]) := upd_same
        have t2 : upd G3 to (.lst [.ref p6, .ref p7, .ref p8]) p6 = some (.tup (txs ws)) := s3u hto (z3 _ _ (z2 _ _ x1))
        have t3 : upd G3 to (.lst [.ref p6, .ref p7, .ref p8]) p7 = some (.tup (txs (rs.map (·.1)))) := s3u hto (z3 _ _ x2)
        have t4 : upd G3 to (.lst [.ref p6, .ref p7, .ref p8]) p8 = some (.dK (kvI (rs.map nd))) := s3u hto x3
        have t5 : H13 p8 = none := fr_same mA y3
        generalize upd G3 to (.lst [.ref p6, .ref p7, .ref p8]) = G4 at mC t1 t2 t3 t4 ⊢
        have c1 := mC _ _ d1
        have c2 := mC _ _ d2
        have c3 := mC _ _ d3
        have c4 := mC _ _ d4
        have he : EqS K G4 4 (.ref to) (.ref du) := told_due (n := 2) t1 c1 t2 c2 t3 c3 t4 c4 ndk
        have hd1 : DatV K G4 (.ref to) (toldD ws (rs.map (·.1)) (rs.map nd)) := dat_told t1 t2 t3 t4
        have hd2 : DatV K G4 (.ref du) (toldD ws (rs.map (·.1)) (rs.map nd)) := dat_told c1 c2 c3 c4
        generalize toldD ws (rs.map (·.1)) (rs.map nd) = dd at hd1 hd2 fd1 fd2 fd3
        refine ⟨.ref to, rfl, .ref du, rfl, .ref to, .ref du, dd, rfl, .inr ⟨4, by decide, he⟩, hd1, hd2, ?_⟩
        refine ⟨fd1, fd2, fd3, ?_⟩
        refine ⟨_, rfl, ?_⟩
        refine ite2 (fun h => by cases h) (fun _ => ?_)
        refine ⟨_, rfl, _, rfl, to, _, 2, .ref p8, rfl, rfl, SqL.of t1, at2, p8, _, rfl, DPut.k (k := Sum.inr "zz") t4 ?_, _, _, rfl, same_put mC t5⟩
        unfold kvI
        rw [List.length_map, List.length_map]
        exact small1000 (by omega)
      rintro σ H14 ⟨v8', v9', rfl, m14⟩
      have V14 := V13.more m14
      have lo14 : H14 lo = some (.tup (txs ls)) := m14 _ _ lo13
      have ne14 : H14 ne = some (.dK (kvI (rs.map nd))) := m14 _ _ d4
      have b14 := b13.keep m14
      have ll : ls.length ≤ 24 := by
        have := sub_len nls (m := rs.map (·.1)) subl
        omega
      have tll : (txs ls).length = ls.length := List.length_map _
      have nvm : ∀ x ∈ ls, (x, nv rs x) ∈ rs.map nd ∧ 0 ≤ nv rs x ∧ nv rs x ≤ 10 ^ 12 := fun x hx => by
        obtain ⟨h1, r, h2, h3, h4⟩ := nv_mem nn (subl x hx)
        obtain ⟨_, _, _, _, h5, h6⟩ := hP.car r h2
        exact ⟨h1, by omega, by omega⟩
      have dg : ∀ (Hn : Hp) (x : Str), Same H14 Hn → x ∈ ls → DGet Hn ne (.str x) (some (.int (nv rs x))) := fun Hn x m hx => by
        have g := DGet.k (k := Sum.inr x) (m _ _ ne14)
        rw [kvI_get ndk (nvm x hx).1] at g
        exact g
      have es := need_sum nn nls subl
      have fs : Fit 300 0 (.int (ls.map (nv rs)).sum) := fit_sum (by rw [List.length_map]; omega) fun i hi => by
        obtain ⟨x, hx, rfl⟩ := List.mem_map.mp hi
        exact (nvm x hx).2
      have fs1 := fs.1
      have fs2 := Nat.le_trans fs.2.1 (big_ok (n := 300) (by decide))
      have fs3 : (PyData.int (ls.map (nv rs)).sum).depth ≤ 60 := Nat.le_trans fs.2.2 (show 0 ≤ 60 by decide)
      -- the needs of the lot
      refine ⟨_, rfl, _, rfl, .ref ty, lo, ls, cs, rs, rfl, V14, SqT.of lo14, by omega, fun H15 m15 => ⟨_, rfl, lo, rfl, ⟨_, SqT.of (m15 _ _ lo14)⟩, fun D hD => ?_⟩⟩
      refine lc_tup (K := K) (a := lo) (xs := txs ls) (fun j H' => H' D = some (.lst (((ls.take j).map (nv rs)).map V.int)) ∧ Same H15 H') ?_ ?_ ?_ ?_
      · exact ⟨by rw [List.take_zero, upd_same]; rfl, same_new (Same.refl H15) hD⟩
      · rintro j H' _ ⟨_, sm⟩
        exact sqt_more sm (SqT.of (m15 _ _ lo14))
      · rintro j u H' hu ⟨q1, q2⟩
        obtain ⟨x, hx, rfl⟩ := txs_get hu
        have mx1 := List.mem_of_getElem? hx
        refine ⟨rfl, _, rfl, _, rfl, ne, _, rfl, dg H' x (m15.trans q2) mx1, _, q1, ?_, ?_, same_put q2 hD⟩
        · rw [List.length_map, List.length_map, List.length_take]
          exact small1000 (by omega)
        · rw [upd_same, List.take_succ, hx]
          simp
      rintro H16 ⟨q1, q2⟩
      rw [tll, List.take_length] at q1
      have m16 := m15.trans q2
      refine ⟨D, _, rfl, SqL.of q1, ?_⟩
      refine ⟨_, _, .int (ls.map (nv rs)).sum, rfl, .inl ⟨by rw [es], .inl ⟨_, rfl⟩⟩, by rw [es]; exact .int _, .int _, ?_⟩
      refine ⟨fs1, fs2, fs3, ?_⟩
      refine ⟨_, rfl, ?_⟩
      refine ite2 (fun h => by cases h) (fun _ => ?_)
      -- amounts, turned
      refine ⟨_, rfl, _, rfl, lo, rfl, ⟨_, SqT.of (m16 _ _ lo14)⟩, fun D2 hD2 => ?_⟩
      refine lc_tup (K := K) (a := lo) (xs := txs ls) (fun j H' => ∃ ts : List Addr, H' D2 = some (.lst (ts.map V.ref)) ∧ Paired (fun t (s : Str) => H' t = some (.tup [.str s, .int (mx (nv rs s))])) ts (ls.take j) ∧ Same H16 H') ?_ ?_ ?_ ?_
      · exact ⟨[], upd_same, by rw [List.take_zero]; exact .nil, same_new (Same.refl H16) hD2⟩
      · rintro j H' _ ⟨_, _, _, sm⟩
        exact sqt_more sm (SqT.of (m16 _ _ lo14))
      · rintro j u H' hu ⟨ts, q3, q4, q5⟩
        obtain ⟨x, hx, rfl⟩ := txs_get hu
        have hj : j < ls.length := (List.getElem?_eq_some_iff.mp hx).1
        have mx1 := List.mem_of_getElem? hx
        refine ⟨rfl, _, rfl, _, rfl, _, rfl, ne, _, rfl, dg H' x (m16.trans q5) mx1, 1, nv rs x, rfl, by show 2 ≤ sizeLine; decide, fun t ht => ?_⟩
        have nt : t ≠ D2 := fun z => by rw [z, q3] at ht; cases ht
        have tl : ts.length ≤ 24 := by
          rw [paired_len q4, List.length_take]
          omega
        refine ⟨ts.map V.ref, s3u ht q3, by rw [List.length_map]; exact small1000 (by omega), ts ++ [t], by rw [upd_same, List.map_append]; rfl, ?_, same_put (same_new q5 ht) hD2⟩
        rw [List.take_succ, hx]
        refine paired_snoc (by rw [upd_ne nt, upd_same]; rfl) (paired_imp (fun t0 r h => ?_) q4)
        have n0 : t0 ≠ D2 := fun z => by rw [z, q3] at h; cases h
        rw [upd_ne n0]
        exact s3u ht h
      rintro H17 ⟨ts, q3, q4, m17⟩
      rw [tll, List.take_length] at q4
      have ndl : ((ls.map fun s => (s, mx (nv rs s))).map (·.1)).Nodup := by
        have e : (ls.map fun s => (s, mx (nv rs s))).map (·.1) = ls := by rw [List.map_map]; exact List.map_id ls
        rw [e]
        exact nls
      have amD := paired_dictS (K := K) (f := fun s => mx (nv rs s)) q4
      refine ⟨D2, ts, kvI (ls.map fun s => (s, mx (nv rs s))), rfl, SqL.of q3, amD, fun am ham => ?_⟩
      rw [kvI_made ndl]
      have m1417 := m16.trans m17
      have b18 := (b14.keep m1417).new (o := .dK (kvI (ls.map fun s => (s, mx (nv rs s))))) ham
      have m18 := same_new (o := .dK (kvI (ls.map fun s => (s, mx (nv rs s))))) m1417 ham
      refine ⟨b, am, _, rfl, b18, upd_same, ndl, by rw [List.length_map]; omega, fun p9 l9 H19 pm9 e9' f9 n9 b19 s19 => ?_⟩
      have m718 := (m713.trans m14).trans m18
      have VB19 : YardV K (wo H19 b) (.ref ty) cs rs := (hVb.more (wo_same m718)).more s19.1
      have lo19 : H19 lo = some (.tup (txs ls)) := s19.get (m18 _ _ lo14) n7
      have ne19 : H19 ne = some (.dK (kvI (rs.map nd))) := s19.get (m18 _ _ ne14) nneb
      clear m18 m1417 m17 q3 q4 amD ham b18 m718 hD2 m16 q1 q2 hD m15
      -- their sum
      have dh : ∀ (Hn : Hp) (x : Str), Same H19 Hn → x ∈ ls → DGet Hn ne (.str x) (some (.int (nv rs x))) := fun Hn x m hx => by
        have g := DGet.k (k := Sum.inr x) (m _ _ ne19)
        rw [kvI_get ndk (nvm x hx).1] at g
        exact g
      have e9s : (l9.map (·.2)).sum = (ls.map fun s => mx (nv rs s)).sum := by
        have := perm_sum (pm9.map (·.2))
        rw [List.map_map] at this
        exact this
      have gs : Fit 300 0 (.int (ls.map fun s => mx (nv rs s)).sum) := fit_sum (by rw [List.length_map]; omega) fun i hi => by
        obtain ⟨x, hx, rfl⟩ := List.mem_map.mp hi
        exact mx_bd (nvm x hx).2.1 (nvm x hx).2.2
      have gs1 := gs.1
      have gs2 := Nat.le_trans gs.2.1 (big_ok (n := 300) (by decide))
      have gs3 : (PyData.int (ls.map fun s => mx (nv rs s)).sum).depth ≤ 60 := Nat.le_trans gs.2.2 (show 0 ≤ 60 by decide)
      refine ⟨_, rfl, p9, l9, rfl, e9', fun H20 m20 => ⟨_, rfl, lo, rfl, ⟨_, SqT.of (m20 _ _ lo19)⟩, fun D3 hD3 => ?_⟩⟩
      refine lc_tup (K := K) (a := lo) (xs := txs ls) (fun j H' => H' D3 = some (.lst (((ls.take j).map fun s => mx (nv rs s)).map V.int)) ∧ Same H20 H') ?_ ?_ ?_ ?_
      · exact ⟨by rw [List.take_zero, upd_same]; rfl, same_new (Same.refl H20) hD3⟩
      · rintro j H' _ ⟨_, sm⟩
        exact sqt_more sm (SqT.of (m20 _ _ lo19))
      · rintro j u H' hu ⟨q1, q2⟩
        obtain ⟨x, hx, rfl⟩ := txs_get hu
        have mx1 := List.mem_of_getElem? hx
        refine ⟨rfl, _, rfl, _, rfl, ne, _, rfl, dh H' x (m20.trans q2) mx1, 1, nv rs x, rfl, _, q1, ?_, ?_, same_put q2 hD3⟩
        · rw [List.length_map, List.length_map, List.length_take]
          exact small1000 (by omega)
        · rw [upd_same, List.take_succ, hx]
          simp [mx]
      rintro H21 ⟨q1, q2⟩
      rw [tll, List.take_length] at q1
      have m21 := m20.trans q2
      refine ⟨D3, _, rfl, SqL.of q1, ?_⟩
      refine ⟨_, _, .int (ls.map fun s => mx (nv rs s)).sum, rfl, .inl ⟨by rw [e9s], .inl ⟨_, rfl⟩⟩, by rw [e9s]; exact .int _, .int _, ?_⟩
      refine ⟨gs1, gs2, gs3, ?_⟩
      refine ⟨_, rfl, ?_⟩
      refine ite2 (fun h => by cases h) (fun _ => ?_)
      refine fun p10 hp10 => ⟨p10, [], rfl, upd_same, fun H22 m22 => ?_⟩
      refine ⟨rfl, _, rfl, ?_⟩
      refine ite2 (fun h => by cases h) (fun _ => ?_)
      have m23 := same_new (o := .dK (kvI [])) m21 hp10
      have m24 := m23.trans m22
      have b24 := b19.keep m24
      have VB24 : YardV K (wo H22 b) (.ref ty) cs rs := VB19.more (wo_same m24)
      -- the rows
      refine ⟨_, rfl, _, rfl, b, .ref ty, cs, rs, 10 ^ 12, rfl, b24, VB24, hY, Int.le_refl _, fun H25 b25 s25 => ?_⟩
      refine ⟨_, rfl, ?_⟩
      refine ite2 (fun h => by cases h) (fun _ => ?_)
      have V25 : YardV K H25 (.ref ty) cs rs := (VB24.more s25.1).more (wo_sub H25 b)
      refine ⟨_, rfl, .ref ty, yardD cs rs, rfl, dat_yard V25, fy.1, Nat.le_trans fy.2.1 (big_ok (by decide)), Nat.le_trans fy.2.2 (by decide), ?_⟩
      refine ⟨_, rfl, rfl, _, rfl, ?_⟩
      refine ite2 (fun h => by simp at h) (fun _ => ?_)
      exact ⟨_, _, _, _, _, _, _, _, _, rfl, b25⟩
    · rintro σ H' ⟨v2, v3, v4, v5, v6, v7, v8, v9, v10, rfl, _⟩
      exact k H'
end
end Y

namespace Y
open PySem PySem.Spec PyProof.Rows L2 Ns
/-- the def's data -/
def fdOf {K : PySem.W.Frag} {x q : Str} {st : Stmt} {f : Addr} {fd : FuncData} (_ : Fun K x q st f fd) : FuncData := fd
set_option maxHeartbeats 4000000 in
theorem all_mk {l : PySem.W.OpenLaw} {w : World} {K : PySem.W.Frag} {h : Heap} {mg : Str → Option Value} {fa : Addr} (X : K.In h) (G : h.Ns mainGlobals mg) (hfa : mg "law" = some (.ref fa))
    {fKI fKO fCs fCO fCP fNs fNd fSu fB fT fS fM fA fN fNN fZ fC fR fY fSm fW fG fKn fAC fAL fTK fRR fL : Addr}
    {oddKI andKI : Option Addr} {sldKI : Array (Option Value)} {ocdKI kVdKI dcdKI pmdKI cddKI ctdKI : Value}
    {oddKO andKO : Option Addr} {sldKO : Array (Option Value)} {ocdKO kVdKO dcdKO pmdKO cddKO ctdKO : Value}
    {oddCs andCs : Option Addr} {sldCs : Array (Option Value)} {ocdCs kVdCs dcdCs pmdCs cddCs ctdCs : Value}
    {oddCO andCO : Option Addr} {sldCO : Array (Option Value)} {ocdCO kVdCO dcdCO pmdCO cddCO ctdCO : Value}
    {oddCP andCP : Option Addr} {sldCP : Array (Option Value)} {ocdCP kVdCP dcdCP pmdCP cddCP ctdCP : Value}
    {oddNs andNs : Option Addr} {sldNs : Array (Option Value)} {ocdNs kVdNs dcdNs pmdNs cddNs ctdNs : Value}
    {oddNd andNd : Option Addr} {sldNd : Array (Option Value)} {ocdNd kVdNd dcdNd pmdNd cddNd ctdNd : Value}
    {oddSu andSu : Option Addr} {sldSu : Array (Option Value)} {ocdSu kVdSu dcdSu pmdSu cddSu ctdSu : Value}
    {oddB andB : Option Addr} {sldB : Array (Option Value)} {ocdB kVdB dcdB pmdB cddB ctdB : Value}
    {oddT andT : Option Addr} {sldT : Array (Option Value)} {ocdT kVdT dcdT pmdT cddT ctdT : Value}
    {oddS andS : Option Addr} {sldS : Array (Option Value)} {ocdS kVdS dcdS pmdS cddS ctdS : Value}
    {oddM andM : Option Addr} {sldM : Array (Option Value)} {ocdM kVdM dcdM pmdM cddM ctdM : Value}
    {oddA andA : Option Addr} {sldA : Array (Option Value)} {ocdA kVdA dcdA pmdA cddA ctdA : Value}
    {oddN andN : Option Addr} {sldN : Array (Option Value)} {ocdN kVdN dcdN pmdN cddN ctdN : Value}
    {oddNN andNN : Option Addr} {sldNN : Array (Option Value)} {ocdNN kVdNN dcdNN pmdNN cddNN ctdNN : Value}
    {oddZ andZ : Option Addr} {sldZ : Array (Option Value)} {ocdZ kVdZ dcdZ pmdZ cddZ ctdZ : Value}
    {oddC andC : Option Addr} {sldC : Array (Option Value)} {ocdC kVdC dcdC pmdC cddC ctdC : Value}
    {oddR andR : Option Addr} {sldR : Array (Option Value)} {ocdR kVdR dcdR pmdR cddR ctdR : Value}
    {oddY andY : Option Addr} {sldY : Array (Option Value)} {ocdY kVdY dcdY pmdY cddY ctdY : Value}
    {oddSm andSm : Option Addr} {sldSm : Array (Option Value)} {ocdSm kVdSm dcdSm pmdSm cddSm ctdSm : Value}
    {oddW andW : Option Addr} {sldW : Array (Option Value)} {ocdW kVdW dcdW pmdW cddW ctdW : Value}
    {oddG andG : Option Addr} {sldG : Array (Option Value)} {ocdG kVdG dcdG pmdG cddG ctdG : Value}
    {oddKn andKn : Option Addr} {sldKn : Array (Option Value)} {ocdKn kVdKn dcdKn pmdKn cddKn ctdKn : Value}
    {oddAC andAC : Option Addr} {sldAC : Array (Option Value)} {ocdAC kVdAC dcdAC pmdAC cddAC ctdAC : Value}
    {oddAL andAL : Option Addr} {sldAL : Array (Option Value)} {ocdAL kVdAL dcdAL pmdAL cddAL ctdAL : Value}
    {oddTK andTK : Option Addr} {sldTK : Array (Option Value)} {ocdTK kVdTK dcdTK pmdTK cddTK ctdTK : Value}
    {oddRR andRR : Option Addr} {sldRR : Array (Option Value)} {ocdRR kVdRR dcdRR pmdRR cddRR ctdRR : Value}
    {oddL andL : Option Addr} {sldL : Array (Option Value)} {ocdL kVdL dcdL pmdL cddL ctdL : Value}
    (adKI : PySem.W.nsIn K mainGlobals "knots_in" = some (some (.ref fKI)))
    (ldKI : K.lookup fKI = some ⟨ocdKI, oddKI, .func (PySem.W.fnOf "knots_in" "knots_in" (defArgs sKnotsIn) (defBody sKnotsIn) (defScope sKnotsIn) .none kVdKI dcdKI pmdKI andKI cddKI ctdKI), sldKI⟩)
    (cdKI : PySem.W.codeIn K cddKI "knots_in" = true)
    (kdKI : PySem.W.keepIn K (.ref fKI) = true)
    (adKO : PySem.W.nsIn K mainGlobals "knots_of" = some (some (.ref fKO)))
    (ldKO : K.lookup fKO = some ⟨ocdKO, oddKO, .func (PySem.W.fnOf "knots_of" "knots_of" (defArgs sKnotsOf) (defBody sKnotsOf) (defScope sKnotsOf) .none kVdKO dcdKO pmdKO andKO cddKO ctdKO), sldKO⟩)
    (cdKO : PySem.W.codeIn K cddKO "knots_of" = true)
    (kdKO : PySem.W.keepIn K (.ref fKO) = true)
    (adCs : PySem.W.nsIn K mainGlobals "cars_of" = some (some (.ref fCs)))
    (ldCs : K.lookup fCs = some ⟨ocdCs, oddCs, .func (PySem.W.fnOf "cars_of" "cars_of" (defArgs sCarsOf) (defBody sCarsOf) (defScope sCarsOf) .none kVdCs dcdCs pmdCs andCs cddCs ctdCs), sldCs⟩)
    (cdCs : PySem.W.codeIn K cddCs "cars_of" = true)
    (kdCs : PySem.W.keepIn K (.ref fCs) = true)
    (adCO : PySem.W.nsIn K mainGlobals "car_of" = some (some (.ref fCO)))
    (ldCO : K.lookup fCO = some ⟨ocdCO, oddCO, .func (PySem.W.fnOf "car_of" "car_of" (defArgs sCarOf) (defBody sCarOf) (defScope sCarOf) .none kVdCO dcdCO pmdCO andCO cddCO ctdCO), sldCO⟩)
    (cdCO : PySem.W.codeIn K cddCO "car_of" = true)
    (kdCO : PySem.W.keepIn K (.ref fCO) = true)
    (adCP : PySem.W.nsIn K mainGlobals "cap_of" = some (some (.ref fCP)))
    (ldCP : K.lookup fCP = some ⟨ocdCP, oddCP, .func (PySem.W.fnOf "cap_of" "cap_of" (defArgs sCapOf) (defBody sCapOf) (defScope sCapOf) .none kVdCP dcdCP pmdCP andCP cddCP ctdCP), sldCP⟩)
    (cdCP : PySem.W.codeIn K cddCP "cap_of" = true)
    (kdCP : PySem.W.keepIn K (.ref fCP) = true)
    (adNs : PySem.W.nsIn K mainGlobals "needs_of" = some (some (.ref fNs)))
    (ldNs : K.lookup fNs = some ⟨ocdNs, oddNs, .func (PySem.W.fnOf "needs_of" "needs_of" (defArgs sNeedsOf) (defBody sNeedsOf) (defScope sNeedsOf) .none kVdNs dcdNs pmdNs andNs cddNs ctdNs), sldNs⟩)
    (cdNs : PySem.W.codeIn K cddNs "needs_of" = true)
    (kdNs : PySem.W.keepIn K (.ref fNs) = true)
    (adNd : PySem.W.nsIn K mainGlobals "need_of" = some (some (.ref fNd)))
    (ldNd : K.lookup fNd = some ⟨ocdNd, oddNd, .func (PySem.W.fnOf "need_of" "need_of" (defArgs sNeedOf) (defBody sNeedOf) (defScope sNeedOf) .none kVdNd dcdNd pmdNd andNd cddNd ctdNd), sldNd⟩)
    (cdNd : PySem.W.codeIn K cddNd "need_of" = true)
    (kdNd : PySem.W.keepIn K (.ref fNd) = true)
    (adSu : PySem.W.nsIn K mainGlobals "sum_of" = some (some (.ref fSu)))
    (ldSu : K.lookup fSu = some ⟨ocdSu, oddSu, .func (PySem.W.fnOf "sum_of" "sum_of" (defArgs sSumOf) (defBody sSumOf) (defScope sSumOf) .none kVdSu dcdSu pmdSu andSu cddSu ctdSu), sldSu⟩)
    (cdSu : PySem.W.codeIn K cddSu "sum_of" = true)
    (kdSu : PySem.W.keepIn K (.ref fSu) = true)
    (adB : PySem.W.nsIn K mainGlobals "_law_bag" = some (some (.ref fB)))
    (ldB : K.lookup fB = some ⟨ocdB, oddB, .func (PySem.W.fnOf "_law_bag" "_law_bag" (defArgs sBag) (defBody sBag) (defScope sBag) .none kVdB dcdB pmdB andB cddB ctdB), sldB⟩)
    (cdB : PySem.W.codeIn K cddB "_law_bag" = true)
    (kdB : PySem.W.keepIn K (.ref fB) = true)
    (adT : PySem.W.nsIn K mainGlobals "_law_take" = some (some (.ref fT)))
    (ldT : K.lookup fT = some ⟨ocdT, oddT, .func (PySem.W.fnOf "_law_take" "_law_take" (defArgs sTake) (defBody sTake) (defScope sTake) .none kVdT dcdT pmdT andT cddT ctdT), sldT⟩)
    (cdT : PySem.W.codeIn K cddT "_law_take" = true)
    (kdT : PySem.W.keepIn K (.ref fT) = true)
    (adS : PySem.W.nsIn K mainGlobals "_law_some" = some (some (.ref fS)))
    (ldS : K.lookup fS = some ⟨ocdS, oddS, .func (PySem.W.fnOf "_law_some" "_law_some" (defArgs sSome) (defBody sSome) (defScope sSome) .none kVdS dcdS pmdS andS cddS ctdS), sldS⟩)
    (cdS : PySem.W.codeIn K cddS "_law_some" = true)
    (kdS : PySem.W.keepIn K (.ref fS) = true)
    (adM : PySem.W.nsIn K mainGlobals "_law_mixed" = some (some (.ref fM)))
    (ldM : K.lookup fM = some ⟨ocdM, oddM, .func (PySem.W.fnOf "_law_mixed" "_law_mixed" (defArgs sMixed) (defBody sMixed) (defScope sMixed) .none kVdM dcdM pmdM andM cddM ctdM), sldM⟩)
    (cdM : PySem.W.codeIn K cddM "_law_mixed" = true)
    (kdM : PySem.W.keepIn K (.ref fM) = true)
    (adA : PySem.W.nsIn K mainGlobals "_law_alike" = some (some (.ref fA)))
    (ldA : K.lookup fA = some ⟨ocdA, oddA, .func (PySem.W.fnOf "_law_alike" "_law_alike" (defArgs sAlike) (defBody sAlike) (defScope sAlike) .none kVdA dcdA pmdA andA cddA ctdA), sldA⟩)
    (cdA : PySem.W.codeIn K cddA "_law_alike" = true)
    (kdA : PySem.W.keepIn K (.ref fA) = true)
    (adN : PySem.W.nsIn K mainGlobals "_law_name" = some (some (.ref fN)))
    (ldN : K.lookup fN = some ⟨ocdN, oddN, .func (PySem.W.fnOf "_law_name" "_law_name" (defArgs sName) (defBody sName) (defScope sName) .none kVdN dcdN pmdN andN cddN ctdN), sldN⟩)
    (cdN : PySem.W.codeIn K cddN "_law_name" = true)
    (kdN : PySem.W.keepIn K (.ref fN) = true)
    (adNN : PySem.W.nsIn K mainGlobals "_law_names" = some (some (.ref fNN)))
    (ldNN : K.lookup fNN = some ⟨ocdNN, oddNN, .func (PySem.W.fnOf "_law_names" "_law_names" (defArgs sNames) (defBody sNames) (defScope sNames) .none kVdNN dcdNN pmdNN andNN cddNN ctdNN), sldNN⟩)
    (cdNN : PySem.W.codeIn K cddNN "_law_names" = true)
    (kdNN : PySem.W.keepIn K (.ref fNN) = true)
    (adZ : PySem.W.nsIn K mainGlobals "_law_size" = some (some (.ref fZ)))
    (ldZ : K.lookup fZ = some ⟨ocdZ, oddZ, .func (PySem.W.fnOf "_law_size" "_law_size" (defArgs sSize) (defBody sSize) (defScope sSize) .none kVdZ dcdZ pmdZ andZ cddZ ctdZ), sldZ⟩)
    (cdZ : PySem.W.codeIn K cddZ "_law_size" = true)
    (kdZ : PySem.W.keepIn K (.ref fZ) = true)
    (adC : PySem.W.nsIn K mainGlobals "_law_cables" = some (some (.ref fC)))
    (ldC : K.lookup fC = some ⟨ocdC, oddC, .func (PySem.W.fnOf "_law_cables" "_law_cables" (defArgs sCables) (defBody sCables) (defScope sCables) .none kVdC dcdC pmdC andC cddC ctdC), sldC⟩)
    (cdC : PySem.W.codeIn K cddC "_law_cables" = true)
    (kdC : PySem.W.keepIn K (.ref fC) = true)
    (adR : PySem.W.nsIn K mainGlobals "_law_cars" = some (some (.ref fR)))
    (ldR : K.lookup fR = some ⟨ocdR, oddR, .func (PySem.W.fnOf "_law_cars" "_law_cars" (defArgs sCars) (defBody sCars) (defScope sCars) .none kVdR dcdR pmdR andR cddR ctdR), sldR⟩)
    (cdR : PySem.W.codeIn K cddR "_law_cars" = true)
    (kdR : PySem.W.keepIn K (.ref fR) = true)
    (adY : PySem.W.nsIn K mainGlobals "_law_yard_of" = some (some (.ref fY)))
    (ldY : K.lookup fY = some ⟨ocdY, oddY, .func (PySem.W.fnOf "_law_yard_of" "_law_yard_of" (defArgs sYardOf) (defBody sYardOf) (defScope sYardOf) .none kVdY dcdY pmdY andY cddY ctdY), sldY⟩)
    (cdY : PySem.W.codeIn K cddY "_law_yard_of" = true)
    (kdY : PySem.W.keepIn K (.ref fY) = true)
    (adSm : PySem.W.nsIn K mainGlobals "_law_small_yard" = some (some (.ref fSm)))
    (ldSm : K.lookup fSm = some ⟨ocdSm, oddSm, .func (PySem.W.fnOf "_law_small_yard" "_law_small_yard" (defArgs sSmall) (defBody sSmall) (defScope sSmall) .none kVdSm dcdSm pmdSm andSm cddSm ctdSm), sldSm⟩)
    (cdSm : PySem.W.codeIn K cddSm "_law_small_yard" = true)
    (kdSm : PySem.W.keepIn K (.ref fSm) = true)
    (adW : PySem.W.nsIn K mainGlobals "_law_wide_yard" = some (some (.ref fW)))
    (ldW : K.lookup fW = some ⟨ocdW, oddW, .func (PySem.W.fnOf "_law_wide_yard" "_law_wide_yard" (defArgs sWide) (defBody sWide) (defScope sWide) .none kVdW dcdW pmdW andW cddW ctdW), sldW⟩)
    (cdW : PySem.W.codeIn K cddW "_law_wide_yard" = true)
    (kdW : PySem.W.keepIn K (.ref fW) = true)
    (adG : PySem.W.nsIn K mainGlobals "_law_great_yard" = some (some (.ref fG)))
    (ldG : K.lookup fG = some ⟨ocdG, oddG, .func (PySem.W.fnOf "_law_great_yard" "_law_great_yard" (defArgs sGreat) (defBody sGreat) (defScope sGreat) .none kVdG dcdG pmdG andG cddG ctdG), sldG⟩)
    (cdG : PySem.W.codeIn K cddG "_law_great_yard" = true)
    (kdG : PySem.W.keepIn K (.ref fG) = true)
    (adKn : PySem.W.nsIn K mainGlobals "_law_knots" = some (some (.ref fKn)))
    (ldKn : K.lookup fKn = some ⟨ocdKn, oddKn, .func (PySem.W.fnOf "_law_knots" "_law_knots" (defArgs sKnots) (defBody sKnots) (defScope sKnots) .none kVdKn dcdKn pmdKn andKn cddKn ctdKn), sldKn⟩)
    (cdKn : PySem.W.codeIn K cddKn "_law_knots" = true)
    (kdKn : PySem.W.keepIn K (.ref fKn) = true)
    (adAC : PySem.W.nsIn K mainGlobals "_law_all_cars" = some (some (.ref fAC)))
    (ldAC : K.lookup fAC = some ⟨ocdAC, oddAC, .func (PySem.W.fnOf "_law_all_cars" "_law_all_cars" (defArgs sAllCars) (defBody sAllCars) (defScope sAllCars) .none kVdAC dcdAC pmdAC andAC cddAC ctdAC), sldAC⟩)
    (cdAC : PySem.W.codeIn K cddAC "_law_all_cars" = true)
    (kdAC : PySem.W.keepIn K (.ref fAC) = true)
    (adAL : PySem.W.nsIn K mainGlobals "_law_a_lot" = some (some (.ref fAL)))
    (ldAL : K.lookup fAL = some ⟨ocdAL, oddAL, .func (PySem.W.fnOf "_law_a_lot" "_law_a_lot" (defArgs sALot) (defBody sALot) (defScope sALot) .none kVdAL dcdAL pmdAL andAL cddAL ctdAL), sldAL⟩)
    (cdAL : PySem.W.codeIn K cddAL "_law_a_lot" = true)
    (kdAL : PySem.W.keepIn K (.ref fAL) = true)
    (adTK : PySem.W.nsIn K mainGlobals "_law_turned_keys" = some (some (.ref fTK)))
    (ldTK : K.lookup fTK = some ⟨ocdTK, oddTK, .func (PySem.W.fnOf "_law_turned_keys" "_law_turned_keys" (defArgs sTurned) (defBody sTurned) (defScope sTurned) .none kVdTK dcdTK pmdTK andTK cddTK ctdTK), sldTK⟩)
    (cdTK : PySem.W.codeIn K cddTK "_law_turned_keys" = true)
    (kdTK : PySem.W.keepIn K (.ref fTK) = true)
    (adRR : PySem.W.nsIn K mainGlobals "_law_rows_right" = some (some (.ref fRR)))
    (ldRR : K.lookup fRR = some ⟨ocdRR, oddRR, .func (PySem.W.fnOf "_law_rows_right" "_law_rows_right" (defArgs sRowsRight) (defBody sRowsRight) (defScope sRowsRight) .none kVdRR dcdRR pmdRR andRR cddRR ctdRR), sldRR⟩)
    (cdRR : PySem.W.codeIn K cddRR "_law_rows_right" = true)
    (kdRR : PySem.W.keepIn K (.ref fRR) = true)
    (adL : PySem.W.nsIn K mainGlobals "law" = some (some (.ref fL)))
    (ldL : K.lookup fL = some ⟨ocdL, oddL, .func (PySem.W.fnOf "law" "law" (defArgs sLaw) (defBody sLaw) (defScope sLaw) .none kVdL dcdL pmdL andL cddL ctdL), sldL⟩)
    (cdL : PySem.W.codeIn K cddL "law" = true)
    (kdL : PySem.W.keepIn K (.ref fL) = true)
    (zabs : PySem.W.nsIn K mainGlobals "abs" = some none)
    (zint : PySem.W.nsIn K mainGlobals "int" = some none)
    (zlen : PySem.W.nsIn K mainGlobals "len" = some none)
    (zrepr : PySem.W.nsIn K mainGlobals "repr" = some none)
    (zisinstance : PySem.W.nsIn K mainGlobals "isinstance" = some none)
    (zrange : PySem.W.nsIn K mainGlobals "range" = some none)
    (zsorted : PySem.W.nsIn K mainGlobals "sorted" = some none)
    (ztuple : PySem.W.nsIn K mainGlobals "tuple" = some none)
    (zlist : PySem.W.nsIn K mainGlobals "list" = some none)
    (zdict : PySem.W.nsIn K mainGlobals "dict" = some none)
    (zset : PySem.W.nsIn K mainGlobals "set" = some none)
    (zsum : PySem.W.nsIn K mainGlobals "sum" = some none)
    (zmax : PySem.W.nsIn K mainGlobals "max" = some none)
    (zmin : PySem.W.nsIn K mainGlobals "min" = some none)
    (zstr : PySem.W.nsIn K mainGlobals "str" = some none)
    (zall : PySem.W.nsIn K mainGlobals "all" = some none)
    (zany : PySem.W.nsIn K mainGlobals "any" = some none)
    (zzip : PySem.W.nsIn K mainGlobals "zip" = some none) :
    ∃ fd : FuncData, (∀ (s : Shared) (v : Value), BindsTo s fd ⟨[v], []⟩ [("script", v)]) ∧ ∀ base : Heap, K.In base → base.Ns mainGlobals mg → GnOk l.prog w K mg base 9 fa fd ["script"] (spTop K) := by
  have e := hfa.symm.trans (PySem.W.mg_of X G adL)
  cases e
  have T : Nat0 mg := ⟨PySem.W.mg_none_of X G zabs, PySem.W.mg_none_of X G zint, PySem.W.mg_none_of X G zlen, PySem.W.mg_none_of X G zrepr, PySem.W.mg_none_of X G zisinstance, PySem.W.mg_none_of X G zrange, PySem.W.mg_none_of X G zsorted, PySem.W.mg_none_of X G ztuple, PySem.W.mg_none_of X G zlist, PySem.W.mg_none_of X G zdict, PySem.W.mg_none_of X G zset, PySem.W.mg_none_of X G zsum, PySem.W.mg_none_of X G zmax, PySem.W.mg_none_of X G zmin, PySem.W.mg_none_of X G zstr, PySem.W.mg_none_of X G zall, PySem.W.mg_none_of X G zany, PySem.W.mg_none_of X G zzip⟩
  have FKI := fun_mk (st := sKnotsIn) ldKI cdKI kdKI
  have bKI := FKI.binds (ps := ["yard"]) fun _ _ _ _ _ _ us hl => match us, hl with | [_], _ => rfl
  have mKI := PySem.W.mg_of X G adKI
  have FKO := fun_mk (st := sKnotsOf) ldKO cdKO kdKO
  have bKO := FKO.binds (ps := ["yard"]) fun _ _ _ _ _ _ us hl => match us, hl with | [_], _ => rfl
  have mKO := PySem.W.mg_of X G adKO
  have FCs := fun_mk (st := sCarsOf) ldCs cdCs kdCs
  have bCs := FCs.binds (ps := ["yard"]) fun _ _ _ _ _ _ us hl => match us, hl with | [_], _ => rfl
  have mCs := PySem.W.mg_of X G adCs
  have FCO := fun_mk (st := sCarOf) ldCO cdCO kdCO
  have bCO := FCO.binds (ps := ["yard", "name"]) fun _ _ _ _ _ _ us hl => match us, hl with | [_, _], _ => rfl
  have mCO := PySem.W.mg_of X G adCO
  have FCP := fun_mk (st := sCapOf) ldCP cdCP kdCP
  have bCP := FCP.binds (ps := ["yard", "start", "end"]) fun _ _ _ _ _ _ us hl => match us, hl with | [_, _, _], _ => rfl
  have mCP := PySem.W.mg_of X G adCP
  have FNs := fun_mk (st := sNeedsOf) ldNs cdNs kdNs
  have bNs := FNs.binds (ps := ["yard"]) fun _ _ _ _ _ _ us hl => match us, hl with | [_], _ => rfl
  have mNs := PySem.W.mg_of X G adNs
  have FNd := fun_mk (st := sNeedOf) ldNd cdNd kdNd
  have bNd := FNd.binds (ps := ["yard", "lot"]) fun _ _ _ _ _ _ us hl => match us, hl with | [_, _], _ => rfl
  have mNd := PySem.W.mg_of X G adNd
  have FSu := fun_mk (st := sSumOf) ldSu cdSu kdSu
  have bSu := FSu.binds (ps := ["amounts"]) fun _ _ _ _ _ _ us hl => match us, hl with | [_], _ => rfl
  have mSu := PySem.W.mg_of X G adSu
  have FB := fun_mk (st := sBag) ldB cdB kdB
  have bB := FB.binds (ps := ["script"]) fun _ _ _ _ _ _ us hl => match us, hl with | [_], _ => rfl
  have mB := PySem.W.mg_of X G adB
  have FT := fun_mk (st := sTake) ldT cdT kdT
  have bT := FT.binds (ps := ["bag", "many"]) fun _ _ _ _ _ _ us hl => match us, hl with | [_, _], _ => rfl
  have mT := PySem.W.mg_of X G adT
  have FS := fun_mk (st := sSome) ldS cdS kdS
  have bS := FS.binds (ps := ["bag", "things"]) fun _ _ _ _ _ _ us hl => match us, hl with | [_, _], _ => rfl
  have mS := PySem.W.mg_of X G adS
  have FM := fun_mk (st := sMixed) ldM cdM kdM
  have bM := FM.binds (ps := ["bag", "things"]) fun _ _ _ _ _ _ us hl => match us, hl with | [_, _], _ => rfl
  have mM := PySem.W.mg_of X G adM
  have FA := fun_mk (st := sAlike) ldA cdA kdA
  have bA := FA.binds (ps := ["found", "due"]) fun _ _ _ _ _ _ us hl => match us, hl with | [_, _], _ => rfl
  have mA := PySem.W.mg_of X G adA
  have FN := fun_mk (st := sName) ldN cdN kdN
  have bN := FN.binds (ps := ["bag", "taken"]) fun _ _ _ _ _ _ us hl => match us, hl with | [_, _], _ => rfl
  have mN := PySem.W.mg_of X G adN
  have FNN := fun_mk (st := sNames) ldNN cdNN kdNN
  have bNN := FNN.binds (ps := ["bag", "many", "taken"]) fun _ _ _ _ _ _ us hl => match us, hl with | [_, _, _], _ => rfl
  have mNN := PySem.W.mg_of X G adNN
  have FZ := fun_mk (st := sSize) ldZ cdZ kdZ
  have bZ := FZ.binds (ps := ["bag", "most"]) fun _ _ _ _ _ _ us hl => match us, hl with | [_, _], _ => rfl
  have mZ := PySem.W.mg_of X G adZ
  have FC := fun_mk (st := sCables) ldC cdC kdC
  have bC := FC.binds (ps := ["bag", "knots", "many", "most"]) fun _ _ _ _ _ _ us hl => match us, hl with | [_, _, _, _], _ => rfl
  have mC := PySem.W.mg_of X G adC
  have FR := fun_mk (st := sCars) ldR cdR kdR
  have bR := FR.binds (ps := ["bag", "names", "knots", "most"]) fun _ _ _ _ _ _ us hl => match us, hl with | [_, _, _, _], _ => rfl
  have mR := PySem.W.mg_of X G adR
  have FY := fun_mk (st := sYardOf) ldY cdY kdY
  have bY := FY.binds (ps := ["bag", "cars", "knots", "cables", "most"]) fun _ _ _ _ _ _ us hl => match us, hl with | [_, _, _, _, _], _ => rfl
  have mY := PySem.W.mg_of X G adY
  have FSm := fun_mk (st := sSmall) ldSm cdSm kdSm
  have bSm := FSm.binds (ps := ["bag"]) fun _ _ _ _ _ _ us hl => match us, hl with | [_], _ => rfl
  have mSm := PySem.W.mg_of X G adSm
  have FW := fun_mk (st := sWide) ldW cdW kdW
  have bW := FW.binds (ps := ["bag"]) fun _ _ _ _ _ _ us hl => match us, hl with | [_], _ => rfl
  have mW := PySem.W.mg_of X G adW
  have FG := fun_mk (st := sGreat) ldG cdG kdG
  have bG := FG.binds (ps := ["bag"]) fun _ _ _ _ _ _ us hl => match us, hl with | [_], _ => rfl
  have mG := PySem.W.mg_of X G adG
  have FKn := fun_mk (st := sKnots) ldKn cdKn kdKn
  have bKn := FKn.binds (ps := ["yard"]) fun _ _ _ _ _ _ us hl => match us, hl with | [_], _ => rfl
  have mKn := PySem.W.mg_of X G adKn
  have FAC := fun_mk (st := sAllCars) ldAC cdAC kdAC
  have bAC := FAC.binds (ps := ["yard"]) fun _ _ _ _ _ _ us hl => match us, hl with | [_], _ => rfl
  have mAC := PySem.W.mg_of X G adAC
  have FAL := fun_mk (st := sALot) ldAL cdAL kdAL
  have bAL := FAL.binds (ps := ["bag", "things"]) fun _ _ _ _ _ _ us hl => match us, hl with | [_, _], _ => rfl
  have mAL := PySem.W.mg_of X G adAL
  have FTK := fun_mk (st := sTurned) ldTK cdTK kdTK
  have bTK := FTK.binds (ps := ["bag", "thing"]) fun _ _ _ _ _ _ us hl => match us, hl with | [_, _], _ => rfl
  have mTK := PySem.W.mg_of X G adTK
  have FRR := fun_mk (st := sRowsRight) ldRR cdRR kdRR
  have bRR := FRR.binds (ps := ["bag", "yard"]) fun _ _ _ _ _ _ us hl => match us, hl with | [_, _], _ => rfl
  have mRR := PySem.W.mg_of X G adRR
  have FL := fun_mk (st := sLaw) ldL cdL kdL
  exact ⟨_, fun s v => .of_eq rfl, fun base _ _ =>
    have gN : FnOk l.prog w K mg base CX0 3 fN _ ["bag", "taken"] (spName K) := ok_name FN T FT mT bT FS mS bS
    have gNN : FnOk l.prog w K mg base CX0 4 fNN _ ["bag", "many", "taken"] (spNames K) := ok_names FNN T gN FN mN bN
    have gZ : FnOk l.prog w K mg base CX0 3 fZ _ ["bag", "most"] spSize := ok_size FZ T FT mT bT FS mS bS
    have gC : FnOk l.prog w K mg base CX0 4 fC _ ["bag", "knots", "many", "most"] (spCables K) := ok_cables FC T FT mT bT FS mS bS gZ FZ mZ bZ
    have gR : FnOk l.prog w K mg base CX0 4 fR _ ["bag", "names", "knots", "most"] (spCars K) := ok_cars FR T FT mT bT FS mS bS gZ FZ mZ bZ
    have Gg : Gen l.prog w K mg base fT fS fN fNN fC fR _ _ (fdOf FN) _ _ _ := { T := FT, mT := mT, bT := bT, S := FS, mS := mS, bS := bS, N := FNN, mN := mNN, bN := bNN, gN := gNN, C := FC, mC := mC, bC := bC, gC := gC.mono (by decide), R := FR, mR := mR, bR := bR, gR := gR.mono (by decide) }
    have gSm : FnOk l.prog w K mg base CX0 7 fSm _ ["bag"] (spYard K 7) := ok_small FSm T Gg FY mY bY
    have gW : FnOk l.prog w K mg base CX0 7 fW _ ["bag"] (spYard K (10 ^ 12)) := ok_wide FW T Gg FY mY bY
    have gG : FnOk l.prog w K mg base CX0 8 fG _ ["bag"] (spYard K (10 ^ 12)) := ok_great FG T Gg gSm FSm mSm bSm
    have gS : FnOk l.prog w K mg base CX0 2 fS _ ["bag", "things"] (spSome K) := ok_some FS T FT mT bT
    have D : D1 l.prog w K mg base fS fN fAC fKn fCO fCP fA _ _ _ _ _ _ _ := { S := FS, mS := mS, bS := bS, gS := gS, N := FN, mN := mN, bN := bN, gN := gN, AC := FAC, mAC := mAC, bAC := bAC, gAC := ok_allCars FAC T, Kn := FKn, mKn := mKn, bKn := bKn, gKn := ok_knots FKn T, CO := FCO, mCO := mCO, bCO := bCO, gCO := ok_carOf FCO, CP := FCP, mCP := mCP, bCP := bCP, gCP := ok_capOf FCP, A := FA, mA := mA, bA := bA, gA := ok_alike FA T }
    have E : D2 l.prog w K mg base fB fSm fW fG fAL fTK fKO fCs fNs fNd fSu fRR _ _ _ _ _ _ _ _ _ _ _ _ := { B := FB, mB := mB, bB := bB, gB := ok_bag FB T, Sm := FSm, mSm := mSm, bSm := bSm, gSm := gSm, W := FW, mW := mW, bW := bW, gW := gW, G := FG, mG := mG, bG := bG, gG := gG, AL := FAL, mAL := mAL, bAL := bAL, gAL := ok_aLot FAL T FT mT bT FM mM bM, TK := FTK, mTK := mTK, bTK := bTK, gTK := ok_turned FTK T FT mT bT FM mM bM, KO := FKO, mKO := mKO, bKO := bKO, gKO := ok_knotsOf FKO T FKI mKI bKI, Cs := FCs, mCs := mCs, bCs := bCs, gCs := ok_carsOf FCs T, Ns := FNs, mNs := mNs, bNs := bNs, gNs := ok_needsOf FNs, Nd := FNd, mNd := mNd, bNd := bNd, gNd := ok_needOf FNd T, Su := FSu, mSu := mSu, bSu := bSu, gSu := ok_sumOf FSu T, RR := FRR, mRR := mRR, bRR := bRR, gRR := ok_rows FRR T D }
    ok_law FL T D E⟩
end Y
open PySem PySem.W PyProof.Rows in
set_option maxRecDepth 100000 in
set_option maxHeartbeats 0 in
theorem PySem.Challenge.cw_nightstairs_k04_yards_looked_at_holds : PySem.Challenge.rw_nightstairs_k04_yards_looked_at.Holds := by
  w_on; o_law; k_head; (case hw => w_witness2)
  k_fill
  refine Ns.walk_ofG (l := PySem.Challenge.rw_nightstairs_k04_yards_looked_at) (k := 9) rfl rfl ⟨rfl, by decide, by decide⟩ (fun w h Y => PySem.W.kIn_of Y) ?F
  case F =>
    intro w mg fa h KX G hmg
    refine' Y.all_mk KX G hmg ?adKI ?ldKI ?cdKI ?kdKI ?adKO ?ldKO ?cdKO ?kdKO ?adCs ?ldCs ?cdCs ?kdCs ?adCO ?ldCO ?cdCO ?kdCO ?adCP ?ldCP ?cdCP ?kdCP ?adNs ?ldNs ?cdNs ?kdNs ?adNd ?ldNd ?cdNd ?kdNd ?adSu ?ldSu ?cdSu ?kdSu ?adB ?ldB ?cdB ?kdB ?adT ?ldT ?cdT ?kdT ?adS ?ldS ?cdS ?kdS ?adM ?ldM ?cdM ?kdM ?adA ?ldA ?cdA ?kdA ?adN ?ldN ?cdN ?kdN ?adNN ?ldNN ?cdNN ?kdNN ?adZ ?ldZ ?cdZ ?kdZ ?adC ?ldC ?cdC ?kdC ?adR ?ldR ?cdR ?kdR ?adY ?ldY ?cdY ?kdY ?adSm ?ldSm ?cdSm ?kdSm ?adW ?ldW ?cdW ?kdW ?adG ?ldG ?cdG ?kdG ?adKn ?ldKn ?cdKn ?kdKn ?adAC ?ldAC ?cdAC ?kdAC ?adAL ?ldAL ?cdAL ?kdAL ?adTK ?ldTK ?cdTK ?kdTK ?adRR ?ldRR ?cdRR ?kdRR ?adL ?ldL ?cdL ?kdL ?zabs ?zint ?zlen ?zrepr ?zisinstance ?zrange ?zsorted ?ztuple ?zlist ?zdict ?zset ?zsum ?zmax ?zmin ?zstr ?zall ?zany ?zzip
    (case adKI => k_is)
    (case ldKI => k_is)
    (case cdKI => k_is)
    (case kdKI => k_is)
    (case adKO => k_is)
    (case ldKO => k_is)
    (case cdKO => k_is)
    (case kdKO => k_is)
    (case adCs => k_is)
    (case ldCs => k_is)
    (case cdCs => k_is)
    (case kdCs => k_is)
    (case adCO => k_is)
    (case ldCO => k_is)
    (case cdCO => k_is)
    (case kdCO => k_is)
    (case adCP => k_is)
    (case ldCP => k_is)
    (case cdCP => k_is)
    (case kdCP => k_is)
    (case adNs => k_is)
    (case ldNs => k_is)
    (case cdNs => k_is)
    (case kdNs => k_is)
    (case adNd => k_is)
    (case ldNd => k_is)
    (case cdNd => k_is)
    (case kdNd => k_is)
    (case adSu => k_is)
    (case ldSu => k_is)
    (case cdSu => k_is)
    (case kdSu => k_is)
    (case adB => k_is)
    (case ldB => k_is)
    (case cdB => k_is)
    (case kdB => k_is)
    (case adT => k_is)
    (case ldT => k_is)
    (case cdT => k_is)
    (case kdT => k_is)
    (case adS => k_is)
    (case ldS => k_is)
    (case cdS => k_is)
    (case kdS => k_is)
    (case adM => k_is)
    (case ldM => k_is)
    (case cdM => k_is)
    (case kdM => k_is)
    (case adA => k_is)
    (case ldA => k_is)
    (case cdA => k_is)
    (case kdA => k_is)
    (case adN => k_is)
    (case ldN => k_is)
    (case cdN => k_is)
    (case kdN => k_is)
    (case adNN => k_is)
    (case ldNN => k_is)
    (case cdNN => k_is)
    (case kdNN => k_is)
    (case adZ => k_is)
    (case ldZ => k_is)
    (case cdZ => k_is)
    (case kdZ => k_is)
    (case adC => k_is)
    (case ldC => k_is)
    (case cdC => k_is)
    (case kdC => k_is)
    (case adR => k_is)
    (case ldR => k_is)
    (case cdR => k_is)
    (case kdR => k_is)
    (case adY => k_is)
    (case ldY => k_is)
    (case cdY => k_is)
    (case kdY => k_is)
    (case adSm => k_is)
    (case ldSm => k_is)
    (case cdSm => k_is)
    (case kdSm => k_is)
    (case adW => k_is)
    (case ldW => k_is)
    (case cdW => k_is)
    (case kdW => k_is)
    (case adG => k_is)
    (case ldG => k_is)
    (case cdG => k_is)
    (case kdG => k_is)
    (case adKn => k_is)
    (case ldKn => k_is)
    (case cdKn => k_is)
    (case kdKn => k_is)
    (case adAC => k_is)
    (case ldAC => k_is)
    (case cdAC => k_is)
    (case kdAC => k_is)
    (case adAL => k_is)
    (case ldAL => k_is)
    (case cdAL => k_is)
    (case kdAL => k_is)
    (case adTK => k_is)
    (case ldTK => k_is)
    (case cdTK => k_is)
    (case kdTK => k_is)
    (case adRR => k_is)
    (case ldRR => k_is)
    (case cdRR => k_is)
    (case kdRR => k_is)
    (case adL => k_is)
    (case ldL => k_is)
    (case cdL => k_is)
    (case kdL => k_is)
    (case zabs => k_is)
    (case zint => k_is)
    (case zlen => k_is)
    (case zrepr => k_is)
    (case zisinstance => k_is)
    (case zrange => k_is)
    (case zsorted => k_is)
    (case ztuple => k_is)
    (case zlist => k_is)
    (case zdict => k_is)
    (case zset => k_is)
    (case zsum => k_is)
    (case zmax => k_is)
    (case zmin => k_is)
    (case zstr => k_is)
    (case zall => k_is)
    (case zany => k_is)
    (case zzip => k_is)

