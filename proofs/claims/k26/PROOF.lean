import PyProof.Rows.All
import Wide.All
import OpenK.AllK
import Wide.FinOn
import PyProof.ReprRoads
import HandS.ForMost
import HandS.DeepEq
import HandS.Ends
import HandS.Wide
import HandS.Codes
import KE.KEqNest
import HandS.Conv
import KE.SortData
import HandS.DictTup
import PyProof.DictUpdate
import KE.KItemsList
import KE.KDictSum
import HandS.Strs
import HandS.SetFor
import HandS.Style
import PySem.Challenge.RW_nightstairs_k26_numbers_of_rows
set_option Elab.async false
set_option linter.all false
set_option maxRecDepth 100000
set_option pp.maxSteps 150
set_option pp.deepTerms false
/-! NsA: data as a whole over the abstract heap; its repr; its ==. -/
namespace Ns
open PySem PySem.Spec PyProof.Rows L2

/-- a key as data -/
def kD : Key → PyData
  | .inl i => .int i
  | .inr x => .str x

mutual
/-- the value x is the datum d -/
inductive DatV (K : PySem.W.Frag) (H : Hp) : V → PyData → Prop
  | non : DatV K H .non .none
  | bl (b : Bool) : DatV K H (.bl b) (.bool b)
  | int (i : Int) : DatV K H (.int i) (.int i)
  | str (x : Str) : DatV K H (.str x) (.str x)
  | lst {a : Addr} {xs : List V} {ds : List PyData} : SqL K H a xs → DatA K H xs ds → DatV K H (.ref a) (.list ds)
  | tup {a : Addr} {xs : List V} {ds : List PyData} : SqT K H a xs → DatA K H xs ds → DatV K H (.ref a) (.tuple ds)
  | dic {a : Addr} {kvs : List (Key × V)} {ds : List PyData} : H a = some (.dK kvs) → DatA K H (kvs.map (·.2)) ds → DatV K H (.ref a) (.dict ((kvs.map fun p => kD p.1).zip ds))
inductive DatA (K : PySem.W.Frag) (H : Hp) : List V → List PyData → Prop
  | nil : DatA K H [] []
  | cons {x : V} {d : PyData} {xs : List V} {ds : List PyData} : DatV K H x d → DatA K H xs ds → DatA K H (x :: xs) (d :: ds)
end

theorem DatA.len {K : PySem.W.Frag} {H : Hp} : ∀ {xs : List V} {ds : List PyData}, DatA K H xs ds → xs.length = ds.length
  | _, _, .nil => rfl
  | _, _, .cons _ t => by rw [List.length_cons, List.length_cons, t.len]

mutual
/-- what stood stands: the datum too -/
theorem DatV.more {K : PySem.W.Frag} {H H' : Hp} (m : Same H H') : ∀ {x : V} {d : PyData}, DatV K H x d → DatV K H' x d
  | _, _, .non => .non
  | _, _, .bl b => .bl b
  | _, _, .int i => .int i
  | _, _, .str x => .str x
  | _, _, .lst h t => .lst (m.seq h) (t.more m)
  | _, _, .tup h t => .tup (h.elim (fun z => .inl (z.elim (fun z => .inl (m _ _ z)) fun ⟨o, z⟩ => .inr ⟨o, m _ _ z⟩)) .inr) (t.more m)
  | _, _, .dic h t => .dic (m _ _ h) (t.more m)
theorem DatA.more {K : PySem.W.Frag} {H H' : Hp} (m : Same H H') : ∀ {xs : List V} {ds : List PyData}, DatA K H xs ds → DatA K H' xs ds
  | _, _, .nil => .nil
  | _, _, .cons h t => .cons (h.more m) (t.more m)
end

theorem map_fst_zip {α β : Type} : ∀ {as : List α} {bs : List β}, as.length = bs.length → (as.zip bs).map (·.1) = as
  | [], [], _ => rfl
  | a :: as, b :: bs, h => by
    have h' : as.length = bs.length := by simpa using h
    simp [map_fst_zip h']
theorem map_snd_zip {α β : Type} : ∀ {as : List α} {bs : List β}, as.length = bs.length → (as.zip bs).map (·.2) = bs
  | [], [], _ => rfl
  | a :: as, b :: bs, h => by
    have h' : as.length = bs.length := by simpa using h
    simp [map_snd_zip h']

section
variable {X : Cx} {pins : List (Addr × Obj)} {σ : L2.St} {H : Hp} {s : Shared}

/-- the keys of a dict's entries are read -/
theorem keys_read {h : Heap} {P : Program} {w : World} : ∀ {es : List DictEntry} {vs : List (Key × Value)}, Pairs (mixKind P w) es vs → ReadsAll h (es.map (·.key)) (vs.map fun p => kD p.1) []
  | _, _, .nil => .nil
  | e :: es, kv :: vs, .cons h1 _ t => by
    have q : Reads h e.key (kD kv.1) [] := by
      rcases keyIs_shape (show keyIs kv.1 e.key = true from h1) with ⟨i, t, ek, ev⟩ | ⟨x, t, ek, ev⟩
      · rw [ek, ev]; exact .int i t
      · rw [ek, ev]; exact .str x t
    exact ReadsAll.cons (as := []) (bs := []) q (keys_read t)
theorem pairs_vals {P : Program} {w : World} : ∀ {es : List DictEntry} {vs : List (Key × Value)}, Pairs (mixKind P w) es vs → es.map (·.val) = vs.map (·.2)
  | _, _, .nil => rfl
  | e :: es, kv :: vs, .cons _ h2 t => by
    rw [List.map_cons, List.map_cons, h2, pairs_vals t]
theorem kv_fst : ∀ {ks : List (Key × V)} {vs : List (Key × Value)}, KV ks vs → vs.map (fun p => kD p.1) = ks.map fun p => kD p.1
  | _, _, .nil => rfl
  | _, _, .cons h t => by rw [List.map_cons, List.map_cons, h.1, kv_fst t]
theorem kv_vals : ∀ {ks : List (Key × V)} {vs : List (Key × Value)}, KV ks vs → Vals (ks.map (·.2)) (vs.map (·.2))
  | _, _, .nil => .nil
  | _, _, .cons h t => .cons h.2 (kv_vals t)

mutual
/-- what the heap reads of it -/
theorem reads_of (I : Inv X pins σ H s) : ∀ {x : V} {d : PyData}, DatV X.K H x d → ∀ {v : Value}, RelV x v → ∃ as, Reads s.heap v d as
  | _, _, .non, v, r => by cases (show v = Value.none from r); exact ⟨_, .none⟩
  | _, _, .bl b, v, r => by cases (show v = Value.bool b from r); exact ⟨_, .bool b⟩
  | _, _, .int i, v, r => by obtain ⟨t, rfl⟩ := (show ∃ t, v = Value.int i t from r); exact ⟨_, .int i t⟩
  | _, _, .str x, v, r => by obtain ⟨t, rfl⟩ := (show ∃ t, v = Value.str x t from r); exact ⟨_, .str x t⟩
  | _, _, .lst (a := a) h t, v, r => by
    cases (show v = Value.ref a from r)
    obtain ⟨its, rv, ⟨o, n, h1, h2, h3, h4⟩, _⟩ := I.list h
    obtain ⟨as, q⟩ := readsA_of I t rv
    exact ⟨_, .list h1 h2 (by first | exact h3 | exact h4) (by simpa using q)⟩
  | _, _, .tup (a := a) h t, v, r => by
    cases (show v = Value.ref a from r)
    obtain ⟨its, rv, ⟨o, h1, h2, n, h3⟩, _⟩ := I.tuple h
    obtain ⟨as, q⟩ := readsA_of I t rv
    exact ⟨_, .tuple h1 h2 h3 (by simpa using q)⟩
  | _, _, .dic (a := a) (kvs := kvs) (ds := ds) h t, v, r => by
    cases (show v = Value.ref a from r)
    obtain ⟨_, _, vs, rv, o, es, ep, h1, h2, h3, _, h5, _⟩ := (show ObjOk X.prog X.w H s.heap a (.dK kvs) from I.hok a _ h)
    obtain ⟨as, q⟩ := readsA_of I t (kv_vals rv)
    have hl : (kvs.map fun p => kD p.1).length = ds.length := by
      have z := t.len
      rw [List.length_map] at z ⊢
      exact z
    refine ⟨_, Reads.dict (as := []) (bs := as) h1 h2.1 h3 ?_ ?_⟩
    · rw [map_fst_zip hl, ← kv_fst rv]
      exact keys_read h5
    · rw [map_snd_zip hl, pairs_vals h5]
      exact q
theorem readsA_of (I : Inv X pins σ H s) : ∀ {xs : List V} {ds : List PyData}, DatA X.K H xs ds → ∀ {us : List Value}, Vals xs us → ∃ as, ReadsAll s.heap us ds as
  | _, _, .nil, us, r => by cases r; exact ⟨_, .nil⟩
  | _, _, .cons h t, us, r => by
    cases r with
    | cons r1 r2 =>
      obtain ⟨as, q⟩ := reads_of I h r1
      obtain ⟨bs, q2⟩ := readsA_of I t r2
      exact ⟨_, .cons q q2⟩
end
end
end Ns

/-! NsB: repr of data. -/
namespace Ns
open PySem PySem.Spec PyProof.Rows L2
section
variable {X : Cx} {pins : List (Addr × Obj)} {σ : L2.St} {H : Hp} {s : Shared}

theorem zip_kv : ∀ {as : List Key} {ds : List PyData}, as.length = ds.length → ((as.map kD).zip ds).map (·.1) = as.map kD := fun {as ds} h => map_fst_zip (by rw [List.length_map]; exact h)

theorem kv_of_zip {α : Type} {f : α → PyData} {l : List α} {ds : List PyData} (h : l.length = ds.length) : (((l.map f).zip ds).map (·.1) = l.map f) ∧ (((l.map f).zip ds).map (·.2) = ds) :=
  ⟨map_fst_zip (by rw [List.length_map]; exact h), map_snd_zip (by rw [List.length_map]; exact h)⟩

/-- keys show themselves, whatever stands -/
theorem keys_shown {P : Program} {w : World} {h : Heap} {n : Nat} : ∀ {es : List DictEntry} {vs : List (Key × Value)}, Pairs (mixKind P w) es vs → (∀ p ∈ vs, (kD p.1).showable = true ∧ (kD p.1).shown.length ≤ sizeLine) →
    ReprAllK P w [] h n (es.map (·.key)) (PyData.shownAll (vs.map fun p => kD p.1))
  | _, _, .nil, _ => by simp only [List.map_nil, PyData.shownAll]; exact .nil
  | e :: es, kv :: vs, .cons h1 _ t, hz => by
    rw [List.map_cons, List.map_cons, PyData.shownAll_cons]
    obtain ⟨z1, z2⟩ := hz kv List.mem_cons_self
    refine .cons (ReprK.of_is ?_ _ _ _) (keys_shown t fun p hp => hz p (List.mem_cons_of_mem _ hp))
    rcases keyIs_shape (show keyIs kv.1 e.key = true from h1) with ⟨i, tk, ek, ev⟩ | ⟨x, tk, ek, ev⟩
    · rw [ek] at z1 ⊢
      rw [ev]
      show ReprIs P w _ (PyData.int i).shown
      rw [PyData.shown_int]
      exact ReprIs.int tk (of_decide_eq_true (by simpa [kD, PyData.showable] using z1))
    · rw [ek] at z2 ⊢
      rw [ev]
      show ReprIs P w _ (PyData.str x).shown
      have z2' : (PyData.str x).shown.length ≤ sizeLine := z2
      rw [PyData.shown_str] at z2' ⊢
      exact ReprIs.str x tk z2'

theorem all_of : ∀ {l : List PyData}, PyData.showableAll l = true → ∀ d ∈ l, d.showable = true
  | [], _, _, hd => nomatch hd
  | x :: l, h, d, hd => by
    have h' : x.showable = true ∧ PyData.showableAll l = true := by simpa [PyData.showableAll] using h
    rcases List.mem_cons.mp hd with e | e
    · rw [e]; exact h'.1
    · exact all_of h'.2 d e
theorem shown_mem : ∀ {l : List PyData} {d : PyData}, d ∈ l → d.shown ∈ PyData.shownAll l
  | [], _, h => nomatch h
  | x :: l, d, h => by
    rw [PyData.shownAll_cons]
    rcases List.mem_cons.mp h with e | e
    · rw [e]; exact List.mem_cons_self
    · exact List.mem_cons_of_mem _ (shown_mem e)

mutual
theorem reprK_of (I : Inv X pins σ H s) : ∀ {x : V} {d : PyData}, DatV X.K H x d → ∀ {v : Value}, RelV x v → d.showable = true → d.shown.length ≤ sizeLine →
    ∃ bs, ReadAtMost s.heap d.depth bs ∧ ReprK X.prog X.w bs s.heap d.depth v d.shown
  | _, _, .non, v, r, _, _ => by
    cases (show v = Value.none from r)
    exact ⟨[], (fun _ z => nomatch z), by rw [PyData.shown_none]; exact .of_is ReprIs.none _ _ _⟩
  | _, _, .bl b, v, r, _, _ => by
    cases (show v = Value.bool b from r)
    refine ⟨[], (fun _ z => nomatch z), ?_⟩
    simp only [PyData.shown]
    exact .of_is (ReprIs.bool b) _ _ _
  | _, _, .int i, v, r, hs, _ => by
    obtain ⟨t, rfl⟩ := (show ∃ t, v = Value.int i t from r)
    refine ⟨[], (fun _ z => nomatch z), ?_⟩
    rw [PyData.shown_int]
    exact .of_is (ReprIs.int t (by simpa [PyData.showable] using hs)) _ _ _
  | _, _, .str x, v, r, _, hz => by
    obtain ⟨t, rfl⟩ := (show ∃ t, v = Value.str x t from r)
    refine ⟨[], (fun _ z => nomatch z), ?_⟩
    rw [PyData.shown_str] at hz ⊢
    exact .of_is (ReprIs.str x t hz) _ _ _
  | _, _, .lst (a := a) (ds := ds) h t, v, r, hs, hz => by
    cases (show v = Value.ref a from r)
    have hz1 : (listText (PyData.shownAll ds)).length ≤ sizeLine := by simpa only [PyData.shown] using hz
    have hs1 : PyData.showableAll ds = true := by simpa [PyData.showable] using hs
    obtain ⟨as, rd⟩ := reads_of I (.lst h t) (v := .ref a) rfl
    obtain ⟨its, rv, ⟨o, n, h1, h2, h3, h4⟩, _⟩ := I.list h
    have h5 : o.data = .seq its.toArray n := by first | exact h3 | exact h4
    obtain ⟨bs, hb, hk⟩ := reprA_of I t rv hs1 fun u hu => Nat.le_trans (listText_mem_le hu) hz1
    have dp : (PyData.list ds).depth = PyData.depthAll ds + 1 := by simp only [PyData.depth] <;> omega
    have hna : a ∉ bs := not_mem_of_deeper rd (by rw [dp]; omega) hb
    refine ⟨a :: bs, ReadAtMost.cons rd (by rw [dp]; omega) hb, ?_⟩
    rw [dp]
    simp only [PyData.shown]
    cases its with
    | nil =>
      have e0 : PyData.shownAll ds = [] := List.length_eq_zero_iff.mp (by simpa using hk.length_eq)
      rw [e0, listText_nil]
      exact ReprK.listEmpty h1 h2 h5
    | cons y l => exact ReprK.list h1 h2 h5 hna (by simpa using hk.length_eq) fun i u e => hk.item i u (by simpa using e)
  | _, _, .tup (a := a) (ds := ds) h t, v, r, hs, hz => by
    cases (show v = Value.ref a from r)
    have hz1 : (tupleText (PyData.shownAll ds)).length ≤ sizeLine := by simpa only [PyData.shown] using hz
    have hs1 : PyData.showableAll ds = true := by simpa [PyData.showable] using hs
    obtain ⟨as, rd⟩ := reads_of I (.tup h t) (v := .ref a) rfl
    obtain ⟨its, rv, ⟨o, h1, h2, n, h3⟩, _⟩ := I.tuple h
    obtain ⟨bs, hb, hk⟩ := reprA_of I t rv hs1 fun u hu => Nat.le_trans (tupleText_mem_le hu) hz1
    have dp : (PyData.tuple ds).depth = PyData.depthAll ds + 1 := by simp only [PyData.depth] <;> omega
    have hna : a ∉ bs := not_mem_of_deeper rd (by rw [dp]; omega) hb
    refine ⟨a :: bs, ReadAtMost.cons rd (by rw [dp]; omega) hb, ?_⟩
    rw [dp]
    simp only [PyData.shown]
    exact ReprK.tuple h1 h2 h3 hna (by simpa using hk)
  | _, _, .dic (a := a) (kvs := kvs) (ds := ds) h t, v, r, hs, hz => by
    cases (show v = Value.ref a from r)
    have hl : kvs.length = ds.length := by
      have z := t.len
      rw [List.length_map] at z
      exact z
    obtain ⟨e1, e2⟩ := kv_of_zip (f := fun p : Key × V => kD p.1) (l := kvs) hl
    have hz1 : (dictText (PyData.shownKv ((kvs.map fun p => kD p.1).zip ds))).length ≤ sizeLine := by simpa only [PyData.shown] using hz
    have hs1 : PyData.showableKv ((kvs.map fun p => kD p.1).zip ds) = true := by simpa [PyData.showable] using hs
    obtain ⟨s1, s2⟩ := PyData.showableKv_split _ hs1
    rw [e1] at s1
    rw [e2] at s2
    obtain ⟨as, rd⟩ := reads_of I (.dic h t) (v := .ref a) rfl
    obtain ⟨_, hsy, vs, rv, o, es, ep, h1, h2, h3, _, h5, _⟩ := (show ObjOk X.prog X.w H s.heap a (.dK kvs) from I.hok a _ h)
    have vl : ∀ u ∈ PyData.shownAll ds, u.length ≤ sizeLine := fun u hu => by
      obtain ⟨p, hp, hq⟩ := PyData.shownKv_val_le _ u (by rw [e2]; exact hu)
      exact Nat.le_trans hq (Nat.le_trans (dictText_mem_le hp) hz1)
    have kl : ∀ u ∈ PyData.shownAll (kvs.map fun p => kD p.1), u.length ≤ sizeLine := fun u hu => by
      obtain ⟨p, hp, hq⟩ := PyData.shownKv_key_le _ u (by rw [e1]; exact hu)
      exact Nat.le_trans hq (Nat.le_trans (dictText_mem_le hp) hz1)
    obtain ⟨bs, hb, hk⟩ := reprA_of I t (kv_vals rv) s2 vl
    have kk : ReprAllK X.prog X.w [] s.heap (PyData.depthKv ((kvs.map fun p => kD p.1).zip ds)) (es.toList.map (·.key)) (PyData.shownAll (kvs.map fun p => kD p.1)) := by
      rw [← kv_fst rv]
      refine keys_shown h5 fun p hp => ?_
      have hm : kD p.1 ∈ kvs.map fun p => kD p.1 := by
        rw [← kv_fst rv]
        exact List.mem_map.mpr ⟨p, hp, rfl⟩
      exact ⟨all_of s1 _ hm, kl _ (shown_mem hm)⟩
    have dv : PyData.depthAll ds ≤ PyData.depthKv ((kvs.map fun p => kD p.1).zip ds) := by
      have z := PyData.depthAll_vals_le ((kvs.map fun p => kD p.1).zip ds)
      rw [e2] at z
      exact z
    have hb2 : ReadAtMost s.heap (PyData.depthKv ((kvs.map fun p => kD p.1).zip ds)) bs := hb.mono dv
    have dp : (PyData.dict ((kvs.map fun p => kD p.1).zip ds)).depth = PyData.depthKv ((kvs.map fun p => kD p.1).zip ds) + 1 := by simp only [PyData.depth] <;> omega
    have hna : a ∉ bs := not_mem_of_deeper rd (by rw [dp]; omega) hb2
    refine ⟨a :: bs, ReadAtMost.cons rd (by rw [dp]; omega) hb2, ?_⟩
    rw [dp]
    simp only [PyData.shown, PyData.shownKv_eq]
    rw [e1, e2]
    refine ReprK.dict h1 h2.1 h3 hsy hna (ReprEntriesK.of_two es.toList _ _ (kk.more_le (fun b z => absurd z List.not_mem_nil) (Nat.le_refl _)) ?_)
    rw [pairs_vals h5]
    exact hk.more_le (fun b z => z) dv
theorem reprA_of (I : Inv X pins σ H s) : ∀ {xs : List V} {ds : List PyData}, DatA X.K H xs ds → ∀ {us : List Value}, Vals xs us → PyData.showableAll ds = true → (∀ t ∈ PyData.shownAll ds, t.length ≤ sizeLine) →
    ∃ bs, ReadAtMost s.heap (PyData.depthAll ds) bs ∧ ReprAllK X.prog X.w bs s.heap (PyData.depthAll ds) us (PyData.shownAll ds)
  | _, _, .nil, us, r, _, _ => by
    cases r
    exact ⟨[], (fun _ z => nomatch z), by simp only [PyData.shownAll]; exact .nil⟩
  | _, _, .cons (d := d) (ds := ds) h t, us, r, hs, hz => by
    cases r with
    | cons r1 r2 =>
      have hs1 : d.showable = true ∧ PyData.showableAll ds = true := by simpa [PyData.showableAll] using hs
      rw [PyData.shownAll_cons] at hz ⊢
      obtain ⟨b1, g1, k1⟩ := reprK_of I h r1 hs1.1 (hz _ List.mem_cons_self)
      obtain ⟨b2, g2, k2⟩ := reprA_of I t r2 hs1.2 fun u hu => hz u (List.mem_cons_of_mem _ hu)
      have dp : PyData.depthAll (d :: ds) = max d.depth (PyData.depthAll ds) := by simp only [PyData.depthAll]
      refine ⟨b1 ++ b2, ?_, ?_⟩
      · rw [dp]
        exact (g1.mono (Nat.le_max_left _ _)).append (g2.mono (Nat.le_max_right _ _))
      · rw [dp]
        exact .cons ((k1.more fun b z => List.mem_append_left _ z).level_le (Nat.le_max_left _ _)) (k2.more_le (fun b z => List.mem_append_right _ z) (Nat.le_max_right _ _))
end
theorem dict_entries (I : Inv X pins σ H s) {a : Addr} {kvs : List (Key × V)} {ds : List PyData} {vs : List (Key × Value)} {o : Obj} {es : Array DictEntry} {ep : Nat} (h : H a = some (.dK kvs)) (t : DatA X.K H (kvs.map (·.2)) ds)
    (hs : (PyData.dict ((kvs.map fun p => kD p.1).zip ds)).showable = true) (hz : (PyData.dict ((kvs.map fun p => kD p.1).zip ds)).shown.length ≤ sizeLine) (h1 : s.heap.get? a = some o) (h3 : o.data = .dict es ep)
    (h5 : Pairs (mixKind X.prog X.w) es.toList vs) (rv : KV kvs vs) :
    ∃ n bs, a ∉ bs ∧ ReprEntriesK X.prog X.w bs s.heap n es.toList (PyData.shownKv ((kvs.map fun p => kD p.1).zip ds)) ∧ n + 1 ≤ (PyData.dict ((kvs.map fun p => kD p.1).zip ds)).depth := by
  have hl : kvs.length = ds.length := by
    have z := t.len
    rw [List.length_map] at z
    exact z
  obtain ⟨e1, e2⟩ := kv_of_zip (f := fun p : Key × V => kD p.1) (l := kvs) hl
  have hz1 : (dictText (PyData.shownKv ((kvs.map fun p => kD p.1).zip ds))).length ≤ sizeLine := by simpa only [PyData.shown] using hz
  have hs1 : PyData.showableKv ((kvs.map fun p => kD p.1).zip ds) = true := by simpa [PyData.showable] using hs
  obtain ⟨s1, s2⟩ := PyData.showableKv_split _ hs1
  rw [e1] at s1
  rw [e2] at s2
  obtain ⟨as, rd⟩ := reads_of I (.dic h t) (v := .ref a) rfl
  obtain ⟨bs, hb, hk⟩ := reprA_of I t (kv_vals rv) s2 fun u hu => by
    obtain ⟨p, hp, hq⟩ := PyData.shownKv_val_le _ u (by rw [e2]; exact hu)
    exact Nat.le_trans hq (Nat.le_trans (dictText_mem_le hp) hz1)
  have kk : ReprAllK X.prog X.w [] s.heap (PyData.depthKv ((kvs.map fun p => kD p.1).zip ds)) (es.toList.map (·.key)) (PyData.shownAll (kvs.map fun p => kD p.1)) := by
    rw [← kv_fst rv]
    refine keys_shown h5 fun p hp => ?_
    have hm : kD p.1 ∈ kvs.map fun p => kD p.1 := by
      rw [← kv_fst rv]
      exact List.mem_map.mpr ⟨p, hp, rfl⟩
    obtain ⟨y, hy, hq⟩ := PyData.shownKv_key_le _ _ (by rw [e1]; exact shown_mem hm)
    exact ⟨all_of s1 _ hm, Nat.le_trans hq (Nat.le_trans (dictText_mem_le hy) hz1)⟩
  have dv : PyData.depthAll ds ≤ PyData.depthKv ((kvs.map fun p => kD p.1).zip ds) := by
    have z := PyData.depthAll_vals_le ((kvs.map fun p => kD p.1).zip ds)
    rw [e2] at z
    exact z
  have dp : (PyData.dict ((kvs.map fun p => kD p.1).zip ds)).depth = PyData.depthKv ((kvs.map fun p => kD p.1).zip ds) + 1 := by simp only [PyData.depth] <;> omega
  have hna : a ∉ bs := not_mem_of_deeper rd (by rw [dp]; omega) (hb.mono dv)
  refine ⟨_, bs, hna, ?_, Nat.le_of_eq dp.symm⟩
  rw [PyData.shownKv_eq, e1, e2]
  refine ReprEntriesK.of_two es.toList _ _ (kk.more_le (fun b z => absurd z List.not_mem_nil) (Nat.le_refl _)) ?_
  rw [pairs_vals h5]
  exact hk.more_le (fun b z => z) dv
end
end Ns

/-! NsC: the call of repr; == of equal data. -/
namespace Ns
open PySem PySem.Spec PyProof.Rows L2
section
variable {X : Cx} {pins : List (Addr × Obj)} {σ : L2.St} {H : Hp} {s : Shared}

theorem repr_run (I : Inv X pins σ H s) {A : Around} (hg : A.guards = some []) {x : V} {d : PyData} (D : DatV X.K H x d) {v : Value} (r : RelV x v) (hs : d.showable = true) (hz : d.shown.length ≤ sizeLine) (hu : A.units + (d.depth + 2) < cLine)
    {E Q : Value → Shared → Prop} (q : ∀ h' u tk, (∀ b o, s.heap.get? b = some o → h'.get? b = some o) → Q (.str d.shown u) { s with heap := h', toks := tk }) :
    wpAny (model X.prog X.w) A (call (.builtin "repr") [v]) Q E s := by
  cases D with
  | non =>
    cases (show v = Value.none from r)
    rw [PyData.shown_none] at q
    exact PySem.P.repr_of_none (q s.heap _ _ fun _ _ e => e)
  | bl b =>
    cases (show v = Value.bool b from r)
    rw [PyData.shown_bool] at q
    exact PySem.P.repr_of_bool (q s.heap _ _ fun _ _ e => e)
  | int i =>
    obtain ⟨t, rfl⟩ := (show ∃ t, v = Value.int i t from r)
    rw [PyData.shown_int] at q
    exact PySem.P.repr_of_int (of_decide_eq_true (by simpa [PyData.showable] using hs)) (q s.heap _ _ fun _ _ e => e)
  | str y =>
    obtain ⟨t, rfl⟩ := (show ∃ t, v = Value.str y t from r)
    rw [PyData.shown_str] at q hz
    exact PySem.P.repr_of_str (q s.heap _ _ fun _ _ e => e) hz
  | @lst a xs ds h t =>
    cases (show v = Value.ref a from r)
    have hz1 : (listText (PyData.shownAll ds)).length ≤ sizeLine := by simpa only [PyData.shown] using hz
    have hs1 : PyData.showableAll ds = true := by simpa [PyData.showable] using hs
    obtain ⟨as, rd⟩ := reads_of I (.lst h t) (v := .ref a) rfl
    obtain ⟨its, rv, ⟨o, n, h1, h2, h3, h4⟩, _⟩ := I.list h
    have h5 : o.data = .seq its.toArray n := by first | exact h3 | exact h4
    obtain ⟨bs, hb, hk⟩ := reprA_of I t rv hs1 fun u hu => Nat.le_trans (listText_mem_le hu) hz1
    have dp : (PyData.list ds).depth = PyData.depthAll ds + 1 := by simp only [PyData.depth] <;> omega
    have hna : a ∉ bs := not_mem_of_deeper rd (by rw [dp]; omega) hb
    simp only [PyData.shown] at q
    rw [dp] at hu
    refine call_repr_slot (by omega) ⟨o, h1, h2⟩ F.slot_list_repr.toG ?_
    cases its with
    | nil =>
      have e0 : PyData.shownAll ds = [] := List.length_eq_zero_iff.mp (by simpa using hk.length_eq)
      rw [e0, listText_nil] at q
      exact call_list_repr_empty ⟨o, h1, h2⟩ h1 h5 ⟨_, _, rfl, q s.heap _ _ fun _ _ e => e⟩
    | cons y l =>
      exact call_list_reprK (A := A.in1) (g := []) h1 h2 h5 hna (by simpa using hk.length_eq) (fun i u e => hk.item i u (by simpa using e)) hg (fun b _ => Clear.nil b) (by show A.units + 1 + _ < _; omega) (fun _ _ e => e)
        (fun h' u tk k => ⟨_, _, rfl, q h' u tk k⟩) hz1
  | @tup a xs ds h t =>
    cases (show v = Value.ref a from r)
    have hz1 : (tupleText (PyData.shownAll ds)).length ≤ sizeLine := by simpa only [PyData.shown] using hz
    have hs1 : PyData.showableAll ds = true := by simpa [PyData.showable] using hs
    obtain ⟨as, rd⟩ := reads_of I (.tup h t) (v := .ref a) rfl
    obtain ⟨its, rv, ⟨o, h1, h2, n, h3⟩, _⟩ := I.tuple h
    obtain ⟨bs, hb, hk⟩ := reprA_of I t rv hs1 fun u hu => Nat.le_trans (tupleText_mem_le hu) hz1
    have dp : (PyData.tuple ds).depth = PyData.depthAll ds + 1 := by simp only [PyData.depth] <;> omega
    have hna : a ∉ bs := not_mem_of_deeper rd (by rw [dp]; omega) hb
    simp only [PyData.shown] at q
    rw [dp] at hu
    refine call_repr_slot (by omega) ⟨o, h1, h2⟩ F.slot_tuple_repr ?_
    exact call_tuple_reprK (A := A.in1) (g := []) h1 h2 h3 hna (by simpa using hk) hg (fun b _ => Clear.nil b) (by show A.units + 1 + _ < _; omega) (fun _ _ e => e)
      (fun h' u tk k => ⟨_, _, rfl, q h' u tk k⟩) hz1
  | @dic a kvs ds h t =>
    cases (show v = Value.ref a from r)
    obtain ⟨_, hsy, vs, rv, o, es, ep, h1, h2, h3, _, h5, _⟩ := (show ObjOk X.prog X.w H s.heap a (.dK kvs) from I.hok a _ h)
    obtain ⟨n, bs, hna, hE, hd⟩ := dict_entries I h t hs hz h1 h3 h5 rv
    simp only [PyData.shown] at q hz
    refine call_repr_slot (by omega) ⟨o, h1, h2.1⟩ F.slot_dict_repr ?_
    exact call_dict_reprK (A := A.in1) (g := []) h1 h2.1 h3 hsy hna hE hg (fun b _ => Clear.nil b) (by show A.units + 1 + _ < _; omega) (fun _ _ e => e)
      (fun h' u tk k => ⟨_, _, rfl, q h' u tk k⟩) hz

/-- repr(x), x data -/
def rRep (K : PySem.W.Frag) : List V → Hp → VK → Prop := fun xs H Q => ∃ x d, xs = [x] ∧ DatV K H x d ∧ d.showable = true ∧ d.shown.length ≤ sizeLine ∧ d.depth ≤ 60 ∧ Q (.str d.shown) H
theorem call_reprD (hg : X.A.guards = some []) (hu : X.A.units + 64 < cLine) : CallR X (.builtin "repr") (rRep X.K) := by
  intro pins s σ H xs us Q I r h
  obtain ⟨x, d, rfl, D, hs, hz, hd, q⟩ := h
  obtain ⟨u, rfl, r1⟩ := vals1 r
  exact repr_run I hg D r1 hs hz (by omega) fun h' u tk k => ⟨.str d.shown, H, I.kept (t' := tk) k, ⟨u, rfl⟩, q⟩
end
end Ns

/-! NsG: defs that are called where no repr is under way (the guards are known to be none); xs[i] op= e of a list; the end of a law over such a def. -/
namespace Ns
open PySem PySem.Spec PyProof.Rows L2

/-- as FnOk, for calls with no guard around -/
structure GnOk (P : Program) (w : World) (K : PySem.W.Frag) (mg : Str → Option Value) (base : Heap) (k : Nat) (f : Addr) (fd : FuncData) (ps : List Str) (sp : Sp) : Prop where
  glen : ∀ as H Q E, sp as H Q E → as.length = ps.length
  grun : ∀ (A : Around) (outer : List Env) (s : Shared) (H : Hp) (args : Args) (us : List Value) (as : List V) (Q : VK) (E : XK), Room k A → A.guards = some [] → Env0 P w K mg base A outer s H →
    BindsTo s fd args (ps.zip us) → Vals as us → sp as H Q E → codeAny (model P w) A (.call (.ref f) args) (CR CX0 outer P w H s Q E) s
theorem FnOk.guarded {P : Program} {w : World} {K : PySem.W.Frag} {mg : Str → Option Value} {base : Heap} {k : Nat} {f : Addr} {fd : FuncData} {ps : List Str} {sp : Sp} (F : FnOk P w K mg base CX0 k f fd ps sp) : GnOk P w K mg base k f fd ps sp :=
  ⟨F.len, fun A outer s H args us as Q E hr _ e b v h => F.run A outer s H args us as Q E hr e b v h⟩

section
variable {X : Cx} {k : Nat} {f : Addr} {fd : FuncData} {ps : List Str} {sp : Sp} {x : Str} {p pos : Pos} {e : Expr} {es : List Expr} {t : TA}
theorem run_g {pins : List (Addr × Obj)} {σ : L2.St} {H : Hp} {s : Shared} {Q : VK} {us : List Value} {as : List V} (F : GnOk X.prog X.w X.K X.mg X.base k f fd ps sp) (hr : Room k X.A) (hgd : X.A.guards = some []) (hb : Binds X.K fd ps [])
    (I : Inv X pins σ H s) (r : Vals as us) (h : sp as H Q E0) : wpAny (model X.prog X.w) X.A (call (.ref f) us) (EP X pins σ Q) X.xe s := by
  have hl : us.length = ps.length := r.length.symm.trans (F.glen _ _ _ _ h)
  have bb := hb s us I.kIn (by rw [List.append_nil]; exact hl)
  rw [List.append_nil] at bb
  refine wpAny_call (codeAny_mono (F.grun X.A X.stack s H ⟨us, []⟩ us as Q E0 hr hgd I.env0 bb r h) fun z s' hz => ?_)
  match z, hz with
  | .error _, hz => exact (show False from hz).elim
  | .ok (.ret u), hz => exact I.after hz
  | .ok .next, hz => exact (show False from hz).elim
  | .ok .brk, hz => exact (show False from hz).elim
  | .ok .cont, hz => exact (show False from hz).elim
theorem pe_callG (F : GnOk X.prog X.w X.K X.mg X.base k f fd ps sp) (hr : Room k X.A) (hgd : X.A.guards = some []) (hg : Gl X x) (hm : X.mg x = some (.ref f)) (hk : PySem.W.keepIn X.K (.ref f) = true) (hb : Binds X.K fd ps [])
    (ha : PA X (e :: es) t) (hdb : (x == ("__debug__" : Str)) = false := by decide) (he : starEach (e :: es) X.env = (false, eval e X.env) :: starEach es X.env := by rfl) (hpl : (backTo pos (starEach es X.env)).any (·.1) = false := by rfl) :
    PE X (.Call (.Name x p) (e :: es) [] pos) (tCall sp [] E0 t) :=
  ⟨fun pins s σ H Q I h => wpAny_Call_Name_kw (ld_glob I hg hm (PySem.W.callWith_K (h₀ := X.base) I.ok.mod.kin hk (thn (ha.run pos pins s σ H _ I h) fun us s1 ⟨as, H1, I1, r, q⟩ => ⟨I1.kIn, run_g F hr hgd hb I1 r (by have q' : sp (as ++ []) H1 Q E0 := q; rw [List.append_nil] at q'; exact q')⟩) he hpl) hdb)⟩
end

/-- the def by its body: the guards are known within -/
theorem Fun.okG {P : Program} {w : World} {K : PySem.W.Frag} {mg : Str → Option Value} {base : Heap} {x qual : Str} {st : Stmt} {f : Addr} {fd : FuncData} {N ps : List Str} {k : Nat} {sp : Sp} (F : Fun K x qual st f fd) (S : FnScope N ps (defScope st))
    (len : ∀ as H Q E, sp as H Q E → as.length = ps.length)
    (body : ∀ (cdv : Value) (A : Around) (outer : List Env) (s : Shared) (H : Hp) (as : List V) (Q : VK) (E : XK), Room k (A.deeper (envOfC qual (defScope st) s.heap.objs.size f cdv)) → (A.deeper (envOfC qual (defScope st) s.heap.objs.size f cdv)).guards = some [] → sp as H Q E →
      ∃ t, PSs (cxOf CX0 P w K mg base N qual (defScope st) f cdv A outer s H E).nox (defBody st) t ∧ t { nx := fun _ H' => Q .non H', rt := Q } (start N as) H) : GnOk P w K mg base (k + 1) f fd ps sp := by
  obtain ⟨oc, od, kV, doc, pm, an, cdv, ct, osl, rfl, lk, hcd⟩ := F.ex
  refine ⟨len, fun A outer s H args us as Q E hr hgd e0 hb r hsp => ?_⟩
  have old : ∀ b o, base.get? b = some o → s.heap.get? b = some o := fun b o z => (e0.bs b o z).1
  have kin : K.In s.heap := e0.mod.kin.keeps old
  refine codeAny_call_function hr.depth (kin _ _ lk) rfl S.co S.gen rfl (PySem.W.codeRec_of kin hcd) (hb _ _ _ _ (wpAny_newFunctionEnv_cells S.kind (fun y hy => ?_) fun env he s1 x => ?_))
  · have hm := (List.of_mem_zip (show (y.1, y.2) ∈ ps.zip us from hy)).1
    exact (S.par y.1 hm).imp (fun z => z) fun z => ⟨z, PySem.W.cellsFrom_some _ _ _ (.inl z)⟩
  · cases he
    refine ⟨(e0.mod.nolimit.keeps old).keeps x.toInCall.keep, codeAny_func ?_⟩
    obtain ⟨t, ht, hq⟩ := body cdv A outer s H as Q E (hr.deeper _) hgd hsp
    have J := inv_start (CX := CX0) (E := E) S hr.hd e0 (len _ _ _ _ hsp) r x
    refine wpAny_mono (ht.nox.run [] s1 (start N as) H _ J hq) (fun fl s' hs => ?_) fun e s' hs => hs
    match fl, hs with
    | .ret u, ⟨v, _, H', J', rv, q⟩ => exact ⟨v, H', J'.os, J'.bare, J'.base, J'.hok, rv, q⟩
    | .next, ⟨_, H', J', q⟩ => exact ⟨V.non, H', J'.os, J'.bare, J'.base, J'.hok, rfl, q⟩
    | .brk, ⟨_, _, _, q⟩ => exact (show False from q).elim
    | .cont, ⟨_, _, _, q⟩ => exact (show False from q).elim
end Ns

/-! NsH: the end of a law over a guarded def; xs[i] op= e. -/
namespace Ns
open PySem PySem.Spec PyProof.Rows L2

/-- what a law's def promises: of a list of ints, True -/
def spTop (K : PySem.W.Frag) : Sp := fun as H Q _ => ∃ (a : Addr) (ns : List Int), as = [.ref a] ∧ SqL K H a (ns.map V.int) ∧ ns.length ≤ 63 ∧ ∀ H', Q (.bl true) H'

/-- the abstract heap at the entry: the script at a alone, unless it is a written object -/
theorem entry_core {P : Program} {w : World} {K : PySem.W.Frag} {mg mb : Str → Option Value} {k : Nat} {fa a : Addr} {fd : FuncData} {s : Shared} {vs : List Value} {ns : List Int} (kin : K.In s.heap) (gl : s.heap.Ns mainGlobals mg)
    (bl : s.heap.Ns builtinsNs mb) (bb : ∀ x : Str, x ≠ "__name__" → mb x = bootBuiltins x) (nl : s.heap.NoLimit) (ge : s.gens = #[]) (sc : s.heap.get? a = some { cls := .type "list", data := .seq vs.toArray }) (l63 : ns.length ≤ 63)
    (hr : Room k callerA) (F : ∀ base : Heap, K.In base → base.Ns mainGlobals mg → GnOk P w K mg base k fa fd ["script"] (spTop K)) (bd : ∀ (z : Shared) (u : Value), BindsTo z fd ⟨[u], []⟩ [("script", u)])
    (H : Hp) (only : ∀ b o, H b = some o → b = a ∧ ∃ ob xs, o = .frz ob (.lst xs)) (free : H a ≠ none → K.lookup a = none) (hok : HOk P w H s.heap) (sq : SqL K H a (ns.map V.int)) :
    codeAny (model P w) callerA (.call (.ref fa) ⟨[.ref a], []⟩) (fun r s' => r = .ok (.ret (.bool true)) ∧ OldK s.heap s'.heap ∧ s'.os = s.os ∧ AllBare s'.gens) s := by
  have noD : ∀ {b : Addr} {o : Obj} {es : Array DictEntry} {n : Nat}, s.heap.get? b = some o → o.data = .dict es n → H b = none := by
    intro b o es n e d
    cases q : H b with
    | none => rfl
    | some u =>
      obtain ⟨rfl, _⟩ := only b u q
      rw [sc] at e
      cases e
      cases d
  have ns' : ∀ {b : Addr} {m : Str → Option Value}, s.heap.Ns b m → (hidT s.heap H).Ns b m := by
    rintro b m ⟨o, es, n, e, d, r⟩
    exact ⟨o, es, n, hidT_get e (noD e d), d, r⟩
  have kin' : K.In (hidT s.heap H) := by
    intro b o e
    refine hidT_get (kin b o e) ?_
    cases q : H b with
    | none => rfl
    | some u =>
      obtain ⟨rfl, _⟩ := only b u q
      rw [free (by rw [q]; exact fun z => nomatch z)] at e
      cases e
  have md : Mod K mg (hidT s.heap H) := by
    obtain ⟨mc, n1, n2⟩ := nl
    exact { kin := kin', glob := ns' gl, blt := ⟨mb, ns' bl, bb⟩, nolimit := ⟨mc, ns' n1, n2⟩ }
  have e0 : Env0 P w K mg (hidT s.heap H) callerA [] s H :=
    { frames := rfl, mod := md, bs := fun b o e => of_hidT e, bsz := Nat.le_of_eq (hidT_size _ _), funs := trivial, frf := fun b hb => (List.not_mem_nil hb).elim, hok := hok, bare := .of_eq ge }
  have run := (F _ kin' (ns' gl)).grun callerA [] s H ⟨[.ref a], []⟩ [.ref a] [.ref a] (fun v _ => v = .bl true) E0 hr rfl e0 (bd s (.ref a)) (.cons rfl .nil) ⟨a, ns, rfl, sq, l63, fun _ => rfl⟩
  refine codeAny_mono run fun r s' h => ?_
  match r, h with
  | .error _, h => exact (show False from h).elim
  | .ok .next, h => exact (show False from h).elim
  | .ok .brk, h => exact (show False from h).elim
  | .ok .cont, h => exact (show False from h).elim
  | .ok (.ret u), ⟨v, H', o', bare, un, hok', rv, q⟩ =>
    have q' : v = .bl true := q
    rw [q'] at rv
    have eu : u = Value.bool true := rv
    rw [eu]
    refine ⟨rfl, OldK.of_keep fun b o e => ?_, o', bare⟩
    cases z : H b with
    | none => exact un.keep b o e z (fun y => List.not_mem_nil y) List.not_mem_nil
    | some u' =>
      obtain ⟨_, ob, xs, rfl⟩ := only b u' z
      have h1 : s.heap.get? b = some ob := (hok b _ z).1
      have h2 : s'.heap.get? b = some ob := (hok' b _ (un.frzs b ob _ z)).1
      rw [e] at h1
      cases h1
      exact h2

theorem walk_ofG {l : PySem.W.OpenLaw} {k : Nat} {q : Program} {loose : List Str} {XP : (Str → Option Value) → Heap → Prop} {YP : World → Heap → Prop} {d : DefRec} {K : Params → PySem.W.Frag} (hn : l.most = some 63) (hdf : d.params.defaults = []) (hr : Room k callerA)
    (hY : ∀ (w : World) (h : Heap), YP w h → (K w.params).In h)
    (F : ∀ (w : World) (mg : Str → Option Value) (fa : Addr) (h : Heap), (K w.params).In h → h.Ns mainGlobals mg → mg d.name = some (.ref fa) →
      ∃ fd : FuncData, (∀ (z : Shared) (u : Value), BindsTo z fd ⟨[u], []⟩ [("script", u)]) ∧ ∀ base : Heap, (K w.params).In base → base.Ns mainGlobals mg → GnOk l.prog w (K w.params) mg base k fa fd ["script"] (spTop (K w.params))) :
    PySem.W.WalkO q loose XP YP l.row.toRowW d [] (fun f vs => PySem.call f vs) := by
  refine Att.attach_call hn hdf ?_
  intro w s0 s mg mb fa o pm cd doc a vs ns G Y ho hd hcd hmg hobj hints hlen hg
  obtain ⟨fd, bd, hF⟩ := F w mg fa _ (hY w _ Y) G.T.g hmg
  have rv := vals_ints hints
  have hz : (ns.map V.int).length ≤ sizeLine := by
    rw [List.length_map]
    exact Nat.le_trans hlen (by decide)
  have go := entry_core (P := l.prog) (w := w) (a := a) (ns := ns) (hY w _ Y) G.T.g G.T.b G.T.builtins G.T.nolimit hg hobj hlen hr hF bd
  cases hk : (K w.params).lookup a with
  | some ok =>
    have e := hY w _ Y a ok hk
    rw [hobj] at e
    cases e
    refine go (fun _ => none) (fun b o z => nomatch z) (fun z => absurd rfl z) (fun b u z => nomatch z) (.inr ⟨_, vs.toArray, _, hk, rfl, rfl, rfl, ?_, by simpa using rv⟩)
    rw [List.size_toArray, ← rv.length]
    exact hz
  | none =>
    have at_a : (fun b => if b = a then some (HO.frz { cls := .type "list", data := .seq vs.toArray } (.lst (ns.map V.int))) else none) a = some (HO.frz { cls := .type "list", data := .seq vs.toArray } (.lst (ns.map V.int))) := if_pos rfl
    have un_a : ∀ (b : Addr) (u : HO), (if b = a then some (HO.frz { cls := .type "list", data := .seq vs.toArray } (.lst (ns.map V.int))) else none) = some u → b = a ∧ u = HO.frz { cls := .type "list", data := .seq vs.toArray } (.lst (ns.map V.int)) := by
      intro b u z
      by_cases hb : b = a
      · rw [if_pos hb] at z
        exact ⟨hb, (Option.some.inj z).symm⟩
      · rw [if_neg hb] at z
        cases z
    refine go (fun b => if b = a then some (HO.frz { cls := .type "list", data := .seq vs.toArray } (.lst (ns.map V.int))) else none) (fun b u z => ?_) (fun _ => hk) (fun b u z => ?_) (.inl (.inr ⟨_, at_a⟩))
    · obtain ⟨e1, e2⟩ := un_a b u z
      exact ⟨e1, _, _, e2⟩
    · obtain ⟨e1, e2⟩ := un_a b u z
      subst e1
      subst e2
      exact ⟨hobj, hz, vs, _, rv, hobj⟩

/-- o[i] of a list, by values -/
theorem get_list {X : Cx} : PGet X (rIxL X.K) := by
  intro pins s σ H o i ov iv Q I ro ri h
  obtain ⟨p, xs, j, v, rfl, rfl, hS, hat, q⟩ := h
  cases (show ov = Value.ref p from ro)
  obtain ⟨t, rfl⟩ := (show ∃ t, iv = Value.int j t from ri)
  obtain ⟨its, rv, pl, hz⟩ := I.list hS
  obtain ⟨n, h1, h2, h3, h4, h5⟩ := atI_get hat
  obtain ⟨u, eu, ru⟩ := rv.get h2
  have ln := rv.length
  have l63 := line63
  have done : EP X pins σ Q u s := ⟨v, H, I, ru, q⟩
  rcases Int.lt_or_le j 0 with c | c
  · refine wpAny_getItem_list_neg pl.isList (by omega) (by rw [List.size_toArray]; omega) (by omega) ?_ done
    have e : (j + (its.toArray.size : Int)).toNat = n := by
      rw [seqIndex_neg (by omega) h4] at h1
      rw [List.size_toArray, ← ln]
      exact Option.some.inj h1
    rw [e]
    simpa using eu
  · refine wpAny_getItem_list pl.isList c (by omega) ?_ done
    have e : j.toNat = n := by
      rw [seqIndex_of c h5] at h1
      exact Option.some.inj h1
    rw [e]
    simpa using eu
end Ns

/-! the tops of the text -/
namespace Y
open PySem PySem.Spec PyProof.Rows L2 Ns
def top (i : Nat) : Stmt := PySem.Challenge.pw_nightstairs_k26_numbers_of_rows.main.body.getD i (.Pass ⟨0, 0, 0, 0⟩)
abbrev sReachIn : Stmt := top 1
abbrev sStepIn : Stmt := top 2
abbrev sWholeOf : Stmt := top 3
abbrev sHoursOf : Stmt := top 4
abbrev sEndsOf : Stmt := top 5
abbrev sBag : Stmt := top 7
abbrev sTake : Stmt := top 8
abbrev sSome : Stmt := top 9
abbrev sAlike : Stmt := top 10
abbrev sRowReach : Stmt := top 11
abbrev sStepsMany : Stmt := top 12
abbrev sSomeRow : Stmt := top 13
abbrev sLaid : Stmt := top 14
abbrev sLaw : Stmt := top 15
end Y

/-! the bag over the heap -/
namespace Y
open PySem PySem.Spec PyProof.Rows L2 Ns
/-- the heap but for b -/
def wo (H : Hp) (b : Addr) : Hp := fun c => if c = b then none else H c
theorem wo_ne {H : Hp} {b c : Addr} (h : c ≠ b) : wo H b c = H c := if_neg h
theorem wo_at {H : Hp} {b : Addr} : wo H b b = none := if_pos rfl
theorem wo_of {H : Hp} {b c : Addr} {o : HO} (h : wo H b c = some o) : c ≠ b ∧ H c = some o := by
  by_cases e : c = b
  · rw [e, wo_at] at h
    cases h
  · exact ⟨e, (wo_ne e).symm.trans h⟩
theorem wo_sub (H : Hp) (b : Addr) : Same (wo H b) H := fun _ _ h => (wo_of h).2
/-- all but b stands; b keeps its row of numbers -/
def Sb (b : Addr) (H H' : Hp) : Prop := Same (wo H b) (wo H' b) ∧ ∀ (n0 n1 n2 : Int) (l : Addr), H b = some (.lst [.int n0, .int n1, .int n2, .ref l]) → ∃ m0 m1 m2 : Int, H' b = some (.lst [.int m0, .int m1, .int m2, .ref l])
theorem Sb.refl (b : Addr) (H : Hp) : Sb b H H := ⟨Same.refl _, fun n0 n1 n2 _ h => ⟨n0, n1, n2, h⟩⟩
theorem Sb.trans {b : Addr} {H H1 H2 : Hp} (h : Sb b H H1) (g : Sb b H1 H2) : Sb b H H2 := ⟨Same.trans h.1 g.1, fun n0 n1 n2 l e => by
  obtain ⟨m0, m1, m2, e1⟩ := h.2 n0 n1 n2 l e
  exact g.2 _ _ _ _ e1⟩
theorem Sb.get {b c : Addr} {H H' : Hp} {o : HO} (h : Sb b H H') (e : H c = some o) (n : c ≠ b) : H' c = some o := (wo_of (h.1 c o ((wo_ne n).trans e))).2
theorem Sb.new {b p : Addr} {H H' : Hp} {o : HO} (h : Sb b H H') (n : H' p = none) : Sb b H (upd H' p o) := ⟨fun c u e => by
  have q := h.1 c u e
  obtain ⟨q1, q2⟩ := wo_of q
  rw [wo_ne q1, upd_ne (ne_of_none q2 n)]
  exact q2, fun n0 n1 n2 l e => by
  obtain ⟨m0, m1, m2, e1⟩ := h.2 n0 n1 n2 l e
  exact ⟨m0, m1, m2, by rw [upd_ne (ne_of_none e1 n)]; exact e1⟩⟩
theorem Sb.put {b l : Addr} {H H' : Hp} {n0 n1 n2 m0 m1 m2 : Int} (h : Sb b H H') (e0 : H' b = some (.lst [.int n0, .int n1, .int n2, .ref l])) : Sb b H (upd H' b (.lst [.int m0, .int m1, .int m2, .ref l])) := ⟨fun c u e => by
  obtain ⟨q1, q2⟩ := wo_of (h.1 c u e)
  rw [wo_ne q1, upd_ne q1]
  exact q2, fun k0 k1 k2 l' e => by
  obtain ⟨j0, j1, j2, e1⟩ := h.2 _ _ _ _ e
  rw [e0] at e1
  cases e1
  exact ⟨m0, m1, m2, upd_same⟩⟩
theorem Sb.same {b : Addr} {H H' H2 : Hp} (h : Sb b H H') (m : Same H' H2) : Sb b H H2 := ⟨fun c u e => by
  obtain ⟨q1, q2⟩ := wo_of (h.1 c u e)
  rw [wo_ne q1]
  exact m _ _ q2, fun n0 n1 n2 l e => by
  obtain ⟨m0, m1, m2, e1⟩ := h.2 n0 n1 n2 l e
  exact ⟨m0, m1, m2, m _ _ e1⟩⟩
/-- the bag at b -/
def Bag (H : Hp) (b : Addr) : Prop := ∃ (n0 n1 n2 : Int) (l : Addr) (ns : List Int), H b = some (.lst [.int n0, .int n1, .int n2, .ref l]) ∧ H l = some (.lst (ns.map V.int)) ∧ l ≠ b ∧ 0 ≤ n0 ∧ 0 ≤ n1 ∧ n1 < 2147483647 ∧ 0 ≤ n2 ∧ (∀ n ∈ ns, 0 ≤ n) ∧ ns.length ≤ 63
theorem Bag.new {H : Hp} {b p : Addr} {o : HO} (h : Bag H b) (n : H p = none) : Bag (upd H p o) b := by
  obtain ⟨n0, n1, n2, l, ns, h1, h2, r⟩ := h
  exact ⟨n0, n1, n2, l, ns, by rw [upd_ne (ne_of_none h1 n)]; exact h1, by rw [upd_ne (ne_of_none h2 n)]; exact h2, r⟩
theorem Bag.keep {H H' : Hp} {b : Addr} (h : Bag H b) (m : Same H H') : Bag H' b := by
  obtain ⟨n0, n1, n2, l, ns, h1, h2, r⟩ := h
  exact ⟨n0, n1, n2, l, ns, m _ _ h1, m _ _ h2, r⟩
theorem Bag.ne {H : Hp} {b p : Addr} (h : Bag H b) (n : H p = none) : p ≠ b := fun e => by
  obtain ⟨_, _, _, _, _, h1, _⟩ := h
  rw [e, h1] at n
  cases n
/-- a place that was free at first is written: the bag stands -/
theorem Bag.wr {H H' : Hp} {b p : Addr} {o : HO} (h : Bag H b) (n : H p = none) (s : Sb b H H') (g : Bag H' b) : Bag (upd H' p o) b := by
  obtain ⟨n0, n1, n2, l, ns, h1, h2, h3, _⟩ := id h
  obtain ⟨k0, k1, k2, l', ns', g1, g2, r⟩ := g
  obtain ⟨m0, m1, m2, e⟩ := s.2 _ _ _ _ h1
  rw [g1] at e
  cases e
  exact ⟨_, _, _, _, ns', by rw [upd_ne (h.ne n).symm]; exact g1, by rw [upd_ne (ne_of_none h2 n)]; exact g2, r⟩
theorem Sb.wr {b p : Addr} {H H' : Hp} {o : HO} (s : Sb b H H') (n : H p = none) : Sb b H (upd H' p o) := ⟨fun c u e => by
  obtain ⟨q1, q2⟩ := wo_of (s.1 c u e)
  rw [wo_ne q1, upd_ne (ne_of_none (wo_of e).2 n)]
  exact q2, fun n0 n1 n2 l e => by
  obtain ⟨m0, m1, m2, e1⟩ := s.2 n0 n1 n2 l e
  exact ⟨m0, m1, m2, by rw [upd_ne (ne_of_none e n)]; exact e1⟩⟩
theorem Sb.free {b p : Addr} {H H' : Hp} (h : Sb b H H') (hp : H' p = none) (n : p ≠ b) : H p = none := by
  cases e : H p with
  | none => rfl
  | some o => rw [h.get e n] at hp; cases hp
/-- what stood but for the bag: lists, tuples -/
theorem Sb.sl {K : PySem.W.Frag} {b a : Addr} {H H' : Hp} {xs : List V} (s : Sb b H H') (h : SqL K (wo H b) a xs) : SqL K (wo H' b) a xs := Same.seq s.1 h
theorem wo_same {H H' : Hp} {b : Addr} (m : Same H H') : Same (wo H b) (wo H' b) := fun c o e => by
  obtain ⟨q1, q2⟩ := wo_of e
  rw [wo_ne q1]
  exact m _ _ q2
theorem ints_at {ns : List Int} {i : Nat} {v : V} (h : (ns.map V.int)[i]? = some v) : ∃ z, ns[i]? = some z ∧ v = .int z := by
  rw [List.getElem?_map] at h
  obtain ⟨z, e, q⟩ := Option.map_eq_some_iff.mp h
  exact ⟨z, e, q.symm⟩
theorem cut_ints (ns : List Int) (lo hi : Option Int) : ∃ ms : List Int, cutV (ns.map V.int) lo hi = ms.map V.int ∧ (∀ n ∈ ms, n ∈ ns) ∧ ms.length ≤ ns.length := by
  refine ⟨(ns.drop (HT.sIx (ns.map V.int).length 0 lo)).take (HT.sIx (ns.map V.int).length (ns.map V.int).length hi - HT.sIx (ns.map V.int).length 0 lo), ?_, fun n h => List.mem_of_mem_drop (List.mem_of_mem_take h), ?_⟩
  · unfold cutV
    rw [List.map_take, List.map_drop]
  · rw [List.length_take, List.length_drop]
    omega
theorem same_new {H H' : Hp} {p : Addr} {o : HO} (h : Same H H') (n : H' p = none) : Same H (upd H' p o) := fun c u e => by
  rw [upd_ne (ne_of_none (h c u e) n)]
  exact h c u e
theorem same_put {H H' : Hp} {p : Addr} {o : HO} (h : Same H H') (n : H p = none) : Same H (upd H' p o) := fun c u e => by
  rw [upd_ne (ne_of_none e n)]
  exact h c u e
/-- a thing put amid is among -/
theorem put_perm {α : Type} {xs ys : List α} {x : α} {i j : Nat} (h : ys.Perm (xs.take i)) (hx : xs[i]? = some x) : (ys.take j ++ [x] ++ ys.drop j).Perm (xs.take (i + 1)) := by
  have e : xs.take (i + 1) = xs.take i ++ [x] := by rw [List.take_succ, hx]; rfl
  rw [e]
  have p1 : (ys.take j ++ [x] ++ ys.drop j).Perm (x :: ys) := by
    rw [List.append_assoc, List.singleton_append]
    refine List.perm_middle.trans ?_
    rw [List.take_append_drop]
  exact p1.trans ((h.cons x).trans (List.perm_append_singleton x (xs.take i)).symm)
/-- what the top has left of the built-in names -/
structure Nat0 (mg : Str → Option Value) : Prop where
  abs : mg "abs" = none
  int : mg "int" = none
  len : mg "len" = none
  repr : mg "repr" = none
  isi : mg "isinstance" = none
  range : mg "range" = none
  sorted : mg "sorted" = none
  tuple : mg "tuple" = none
  list_ : mg "list" = none
  dict : mg "dict" = none
  set_ : mg "set" = none
  sum : mg "sum" = none
  max : mg "max" = none
  min : mg "min" = none
  str : mg "str" = none
  all : mg "all" = none
  any : mg "any" = none
  zip : mg "zip" = none
end Y

namespace Y
open PySem PySem.Spec PyProof.Rows L2 Ns
open C8 (pss_cut)
def spBag (K : PySem.W.Frag) : Sp := fun as H Q _ => ∃ (a : Addr) (ns : List Int), as = [.ref a] ∧ SqL K H a (ns.map V.int) ∧ ns.length ≤ 63 ∧ ∀ (b : Addr) (H' : Hp), Bag H' b → H b = none → Same H H' → Q (.ref b) H'
def spTake : Sp := fun as H Q _ => ∃ (b : Addr) (m : Int), as = [.ref b, .int m] ∧ Bag H b ∧ 0 < m ∧ m.natAbs < 2 ^ 200 ∧ ∀ (v : Int) (H' : Hp), 0 ≤ v → v < m → Bag H' b → Sb b H H' → Q (.int v) H'
section
variable {P : Program} {w : World} {K : PySem.W.Frag} {mg : Str → Option Value} {base : Heap}
theorem scB : FnScope ["script", "cell"] ["script"] (defScope sBag) := ⟨rfl, rfl, rfl, by decide +kernel, rfl, by decide +kernel, by decide +kernel⟩
theorem ok_bag {f : Addr} {fd : FuncData} (F : Fun K "_law_bag" "_law_bag" sBag f fd) (T : Nat0 mg) : FnOk P w K mg base CX0 1 f fd ["script"] (spBag K) := by
  refine F.ok scB (fun as H Q E h => ?_) (fun cdv A outer s H as Q E hr h => ?_)
  · obtain ⟨a, ns, rfl, _⟩ := h
    rfl
  · obtain ⟨a, ns, rfl, hS, hl, k⟩ := h
    refine ⟨_, pss_one (ps_ret (pe_lst (pa_cons pe_int (pa_cons pe_int (pa_cons pe_int (pa_cons
      (pe_lc (own := [("cell", 1)]) (g := gName 1) (tt := tYes) rfl scB.nd (pi_list (pe_slice sl_list (pv 0) po_none (po_some pe_int))) (blkOk_by (N := ["script", "cell"]) (sc := defScope sBag) (by decide +kernel)) (fun _ _ _ _ _ => pg_name (i := 1) scB.nd rfl (Or.inl rfl)) (fun _ _ _ _ _ => pts_nil)
        (fun _ _ _ _ _ => pe_callB call_abs (by rfl) T.abs (by decide +kernel) (pa_cons (pv 1) pa_nil))) pa_nil)))))), ?_⟩
    obtain ⟨ms, ec, hin, hlm⟩ := cut_ints ns none (some 63)
    refine ⟨_, rfl, _, rfl, a, _, rfl, hS, fun p hp => ?_⟩
    rw [ec]
    have lm : ms.length ≤ 63 := Nat.le_trans hlm hl
    refine ⟨p, rfl, ⟨_, .inl (.inl upd_same)⟩, fun D hD => ?_⟩
    refine lc_list (K := K) (a := p) (xs := ms.map V.int) (fun i H' => ∃ ks : List Int, H' D = some (.lst (ks.map V.int)) ∧ ks.length = i ∧ (∀ n ∈ ks, 0 ≤ n) ∧ H' p = some (.lst (ms.map V.int)) ∧ Same H H') ?_ ?_ ?_ ?_
    · have npd : p ≠ D := fun e => by rw [← e, upd_same] at hD; cases hD
      refine ⟨[], upd_same, rfl, (fun _ z => nomatch z), by rw [upd_ne npd, upd_same], fun c o e => ?_⟩
      have hD' : H D = none := by rw [upd_ne npd.symm] at hD; exact hD
      rw [upd_ne (ne_of_none e hD'), upd_ne (ne_of_none e hp)]
      exact e
    · rintro i H' hi ⟨ks, _, _, _, h, _⟩
      exact .inl (.inl h)
    · rintro i x H' hx ⟨ks, h1, h2, h3, h4, h5⟩
      obtain ⟨z, hz, rfl⟩ := ints_at hx
      have hi : i < ms.length := (List.getElem?_eq_some_iff.mp hz).1
      refine ⟨rfl, _, rfl, z, rfl, ks.map V.int, h1, by rw [List.length_map, h2]; exact small1000 (by omega), ks ++ [if z < 0 then -z else z], ?_, ?_, ?_, ?_, ?_⟩
      · rw [upd_same, List.map_append]
        rfl
      · rw [List.length_append, h2]
        rfl
      · intro n hn
        rcases List.mem_append.mp hn with q | q
        · exact h3 n q
        · rw [List.mem_singleton] at q
          subst q
          split <;> omega
      · have npd : p ≠ D := fun e => by rw [← e, upd_same] at hD; cases hD
        rw [upd_ne npd]
        exact h4
      · intro c o e
        have hD' : H D = none := by
          have npd : p ≠ D := fun e => by rw [← e, upd_same] at hD; cases hD
          rw [upd_ne npd.symm] at hD
          exact hD
        rw [upd_ne (ne_of_none e hD')]
        exact h5 c o e
    · rintro H' ⟨ks, h1, h2, h3, h4, h5⟩
      rw [List.length_map] at h2
      refine ⟨by show 4 ≤ sizeLine; decide, fun b hb => ?_⟩
      refine k b _ ⟨0, 1234567891, 0, D, ks, upd_same, by rw [upd_ne (ne_of_none h1 hb)]; exact h1, ne_of_none h1 hb, by decide, by decide, by decide, by decide, h3, by omega⟩ (h5.free hb) fun c o e => ?_
      rw [upd_ne (ne_of_none (h5 c o e) hb)]
      exact h5 c o e
end
section
variable {P : Program} {w : World} {K : PySem.W.Frag} {mg : Str → Option Value} {base : Heap}
theorem scT : FnScope ["bag", "many", "cell", "stirred", "value", "begin", "second"] ["bag", "many"] (defScope sTake) := ⟨rfl, rfl, rfl, by decide +kernel, rfl, by decide +kernel, by decide +kernel⟩
theorem at0 {α : Type} {x : α} {xs : List α} : atI (x :: xs) (0 : Int) = some x := atI_nat (j := 0) rfl
theorem at1 {α : Type} {x y : α} {xs : List α} : atI (x :: y :: xs) (1 : Int) = some y := atI_nat (j := 1) rfl
theorem at2 {α : Type} {x y z : α} {xs : List α} : atI (x :: y :: z :: xs) (2 : Int) = some z := atI_nat (j := 2) rfl
theorem at3 {α : Type} {x y z u : α} {xs : List α} : atI (x :: y :: z :: u :: xs) (3 : Int) = some u := atI_nat (j := 3) rfl
theorem fm {x m : Int} (h : 0 < m) : 0 ≤ x.fmod m ∧ x.fmod m < m := by
  rw [Int.fmod_eq_emod_of_nonneg x (by omega)]
  exact ⟨Int.emod_nonneg _ (by omega), Int.emod_lt_of_pos _ h⟩
theorem head_int {ms : List Int} (h : ∀ n ∈ ms, 0 ≤ n) : ∃ z : Int, 0 ≤ z ∧ atI (ms.map V.int ++ [V.int 0]) (0 : Int) = some (.int z) := by
  cases ms with
  | nil => exact ⟨0, by decide, at0⟩
  | cons n ms => exact ⟨n, h n List.mem_cons_self, at0⟩
theorem ok_take {f : Addr} {fd : FuncData} (F : Fun K "_law_take" "_law_take" sTake f fd) (T : Nat0 mg) : FnOk P w K mg base CX0 1 f fd ["bag", "many"] spTake := by
  refine F.ok scT (fun as H Q E h => ?_) (fun cdv A outer s H as Q E hr h => ?_)
  · obtain ⟨b, m, rfl, _⟩ := h
    rfl
  · obtain ⟨b, m, rfl, hB, hm, hmz, k⟩ := h
    refine ⟨_, pss_cut (ps_if (pt_cmpR op_eq (pe_ix ix_list (pv 0) pe_int (fun _ _ => rfl)) pe_int (nomark _))
        (pss_cons (ps_set (i := 2) scT.nd rfl (.inl rfl) (pe_ix ix_list (pe_op op_cat (pe_slice sl_list (pe_ix ix_list (pv 0) pe_int (fun _ _ => rfl)) (po_some (pe_ix ix_list (pv 0) pe_int (fun _ _ => rfl))) po_none) (pe_lst (pa_cons pe_int pa_nil))) pe_int (fun _ _ => rfl)))
        (pss_cons (ps_augS (pv 0) pe_int get_list pe_int ip_add set_list)
        (pss_cut (ps_if (pt_cmpR op_ge (pv 2) (pe_op op_pow pe_int pe_int) (nomark _)) (pss_one (ps_asg (pv 2) (pg_sub (pv 0) pe_int set_list))) pss_nil)
        (pss_cons (ps_set (i := 3) scT.nd rfl (.inl rfl) (pe_op op_add (pe_op op_add (pe_op op_mul (pe_ix ix_list (pv 0) pe_int (fun _ _ => rfl)) pe_int)
            (pe_op op_modN (pe_callTy call_int1 (by rfl) T.int (by decide +kernel) (pa_cons (pv 2) pa_nil)) pe_int)) (pe_op op_mul pe_int (pe_ix ix_list (pv 0) pe_int (fun _ _ => rfl)))))
        (pss_one (ps_asg (pe_op op_modN (pe_callTy call_int1 (by rfl) T.int (by decide +kernel) (pa_cons (pv 3) pa_nil)) pe_int) (pg_sub (pv 0) pe_int set_list))))))) pss_nil)
      (pss_cons (ps_if (pt_cmpR op_gt (pe_ix ix_list (pv 0) pe_int (fun _ _ => rfl)) pe_int (nomark _))
        (pss_cons (ps_set (i := 4) scT.nd rfl (.inl rfl) (pe_op op_modN (pe_callTy call_int1 (by rfl) T.int (by decide +kernel) (pa_cons (pe_ix ix_list (pv 0) pe_int (fun _ _ => rfl)) pa_nil)) (pv 1)))
        (pss_cons (ps_asg (pe_op op_fdivW (pe_callTy call_int1 (by rfl) T.int (by decide +kernel) (pa_cons (pe_ix ix_list (pv 0) pe_int (fun _ _ => rfl)) pa_nil)) (pv 1)) (pg_sub (pv 0) pe_int set_list))
        (pss_one (ps_ret (pv 4))))) pss_nil)
      (pss_cons (ps_set (i := 5) scT.nd rfl (.inl rfl) (pe_op op_modN (pe_callTy call_int1 (by rfl) T.int (by decide +kernel) (pa_cons (pe_op op_mul (pe_op op_add (pe_ix ix_list (pv 0) pe_int (fun _ _ => rfl)) pe_int) pe_int) pa_nil)) pe_int))
      (pss_cons (ps_set (i := 6) scT.nd rfl (.inl rfl) (pe_op op_modN (pe_callTy call_int1 (by rfl) T.int (by decide +kernel) (pa_cons (pe_op op_mul (pe_op op_modN (pe_callTy call_int1 (by rfl) T.int (by decide +kernel) (pa_cons (pe_op op_mul (pv 5) (pv 5)) pa_nil)) pe_int) pe_int) pa_nil)) pe_int))
      (pss_one (ps_ret (pe_op op_modN (pe_callTy call_int1 (by rfl) T.int (by decide +kernel) (pa_cons (pe_op op_fdivN (pv 6) pe_int) pa_nil)) (pv 1))))))), ?_⟩
    refine ⟨fun σ' H' => ∃ c s : Option V, σ' = [some (.ref b), some (.int m), c, s, none, none, none] ∧ Bag H' b ∧ Sb b H H', ?_, ?_⟩
    · obtain ⟨n0, n1, n2, l, ns, h1, h2, hlb, z0, z1, z1', z2, hn, hlen⟩ := id hB
      refine ⟨_, rfl, b, _, _, _, rfl, rfl, SqL.of h1, at0, rfl, _, rfl, ?_⟩
      refine ite2 (fun c => ?_) (fun c => ⟨none, none, rfl, hB, Sb.refl _ _⟩)
      obtain ⟨ms, ec, hin, hlm⟩ := cut_ints ns (some n2) none
      refine ⟨_, rfl, b, _, _, _, rfl, rfl, SqL.of h1, at3, _, rfl, b, _, _, _, rfl, rfl, SqL.of h1, at2, n2, rfl, l, _, rfl, SqL.of h2, fun p hp => ?_⟩
      rw [ec]
      refine ⟨by show 1 ≤ sizeLine; decide, fun q hq => ?_⟩
      have npq : p ≠ q := fun e => by rw [← e, upd_same] at hq; cases hq
      have lmz : (ms.map V.int).length + [V.int 0].length ≤ sizeLine := by
        rw [List.length_map]
        exact Nat.le_of_lt (small1000 (show ms.length + 1 ≤ 1000 by omega))
      refine ⟨p, q, _, _, rfl, rfl, by rw [upd_ne npq, upd_same], upd_same, lmz, fun r hr => ?_⟩
      obtain ⟨z, hz, hat⟩ := head_int (ms := ms) fun n h => hn n (hin n h)
      refine ⟨r, _, _, _, rfl, rfl, SqL.of upd_same, hat, ?_⟩
      have hb3 : upd (upd (upd H p (.lst (ms.map V.int))) q (.lst [V.int 0])) r (.lst (ms.map V.int ++ [V.int 0])) b = some (.lst [.int n0, .int n1, .int n2, .ref l]) := by
        have e1 : upd H p (.lst (ms.map V.int)) b = some (.lst [.int n0, .int n1, .int n2, .ref l]) := by rw [upd_ne (ne_of_none h1 hp)]; exact h1
        have e2 : upd (upd H p (.lst (ms.map V.int))) q (.lst [V.int 0]) b = some (.lst [.int n0, .int n1, .int n2, .ref l]) := by rw [upd_ne (ne_of_none e1 hq)]; exact e1
        rw [upd_ne (ne_of_none e2 hr)]
        exact e2
      have hl3 : upd (upd (upd H p (.lst (ms.map V.int))) q (.lst [V.int 0])) r (.lst (ms.map V.int ++ [V.int 0])) l = some (.lst (ns.map V.int)) := by
        have e1 : upd H p (.lst (ms.map V.int)) l = some (.lst (ns.map V.int)) := by rw [upd_ne (ne_of_none h2 hp)]; exact h2
        have e2 : upd (upd H p (.lst (ms.map V.int))) q (.lst [V.int 0]) l = some (.lst (ns.map V.int)) := by rw [upd_ne (ne_of_none e1 hq)]; exact e1
        rw [upd_ne (ne_of_none e2 hr)]
        exact e2
      have sb3 : Sb b H (upd (upd (upd H p (.lst (ms.map V.int))) q (.lst [V.int 0])) r (.lst (ms.map V.int ++ [V.int 0]))) := (((Sb.refl b H).new hp).new hq).new hr
      generalize upd (upd (upd H p (.lst (ms.map V.int))) q (.lst [V.int 0])) r (.lst (ms.map V.int ++ [V.int 0])) = H3 at hb3 hl3 sb3 ⊢
      refine ⟨_, rfl, b, _, _, _, rfl, rfl, SqL.of hb3, at2, n2, 1, rfl, rfl, b, _, _, 2, rfl, rfl, hb3, rfl, ?_⟩
      refine ⟨fun σ' H' => ∃ n0' : Int, σ' = [some (.ref b), some (.int m), some (.int z), none, none, none, none] ∧ H' b = some (.lst [.int n0', .int n1, .int (n2 + 1), .ref l]) ∧ H' l = some (.lst (ns.map V.int)) ∧ 0 ≤ n0' ∧ Sb b H H', ?_, ?_⟩
      · have hb4 : upd H3 b (.lst (([.int n0, .int n1, .int n2, .ref l] : List V).set 2 (.int (n2 + 1)))) b = some (.lst [.int n0, .int n1, .int (n2 + 1), .ref l]) := upd_same
        have hl4 : upd H3 b (.lst (([.int n0, .int n1, .int n2, .ref l] : List V).set 2 (.int (n2 + 1)))) l = some (.lst (ns.map V.int)) := by rw [upd_ne hlb]; exact hl3
        have sb4 : Sb b H (upd H3 b (.lst (([.int n0, .int n1, .int n2, .ref l] : List V).set 2 (.int (n2 + 1))))) := sb3.put hb3
        generalize upd H3 b (.lst (([.int n0, .int n1, .int n2, .ref l] : List V).set 2 (.int (n2 + 1)))) = H4 at hb4 hl4 sb4 ⊢
        refine ⟨_, rfl, 10, 18, rfl, rfl, ⟨by decide, by decide, by decide⟩, z, _, rfl, rfl, _, rfl, ?_⟩
        refine ite2 (fun _ => ?_) (fun _ => ⟨n0, rfl, hb4, hl4, z0, sb4⟩)
        exact ⟨_, rfl, _, rfl, b, _, _, 0, rfl, rfl, hb4, rfl, z, rfl, upd_same, by rw [upd_ne hlb]; exact hl4, hz, sb4.put hb4⟩
      · rintro σ' H' ⟨n0', rfl, hb5, hl5, z0', sb5⟩
        refine ⟨_, rfl, b, _, _, _, rfl, rfl, SqL.of hb5, at1, n1, _, rfl, rfl, .inl ⟨by omega, by omega⟩, _, rfl, .inl ⟨z, rfl, z, _, rfl, rfl, (show (2147483647 : Int) ≠ 0 by decide), _, _, rfl, rfl, _, rfl, b, _, _, _, rfl, rfl, SqL.of hb5, at2, 7919, _, rfl, rfl, .inl ⟨by decide, by decide⟩, _, _, rfl, rfl, ?_⟩⟩
        refine ⟨_, rfl, .inl ⟨_, rfl, _, _, rfl, rfl, (show (2147483647 : Int) ≠ 0 by decide), _, rfl, b, _, _, 1, rfl, rfl, hb5, rfl, ?_⟩⟩
        exact ⟨_, _, rfl, ⟨n0', _, n2 + 1, l, ns, upd_same, by rw [upd_ne hlb]; exact hl5, hlb, z0', (fm (by decide)).1, (fm (by decide)).2, by omega, hn, hlen⟩, sb5.put hb5⟩
    · rintro σ' H' ⟨c, s', rfl, hB', sb⟩
      obtain ⟨n0, n1, n2, l, ns, h1, h2, hlb, z0, z1, z1', z2, hn, hlen⟩ := id hB'
      refine ⟨_, rfl, b, _, _, _, rfl, rfl, SqL.of h1, at0, _, _, rfl, rfl, _, rfl, ?_⟩
      refine ite2 (fun _ => ?_) (fun _ => ?_)
      · refine ⟨_, rfl, b, _, _, _, rfl, rfl, SqL.of h1, at0, .inl ⟨n0, rfl, _, rfl, n0, m, rfl, rfl, by omega, ?_⟩⟩
        refine ⟨_, rfl, b, _, _, _, rfl, rfl, SqL.of h1, at0, .inl ⟨n0, rfl, _, rfl, n0, m, rfl, rfl, wide_div hm hmz (by decide) (by decide), _, rfl, b, _, _, 0, rfl, rfl, h1, rfl, ?_⟩⟩
        refine ⟨_, rfl, k _ _ (fm hm).1 (fm hm).2 ⟨n0 / m, n1, n2, l, ns, upd_same, by rw [upd_ne hlb]; exact h2, hlb, Int.ediv_nonneg z0 (by omega), z1, z1', z2, hn, hlen⟩ (sb.put h1)⟩
      · have b1 := fm (x := (n1 + 1) * 39373) (m := 1000000007) (by decide)
        refine ⟨_, rfl, b, _, _, _, rfl, rfl, SqL.of h1, at1, n1, 1, rfl, rfl, n1 + 1, _, rfl, rfl, .inl ⟨by omega, by omega⟩, .inl ⟨_, rfl, _, _, rfl, rfl, (show (1000000007 : Int) ≠ 0 by decide), ?_⟩⟩
        have b2 := fm (x := ((n1 + 1) * 39373).fmod 1000000007 * ((n1 + 1) * 39373).fmod 1000000007) (m := 998244353) (by decide)
        refine ⟨_, rfl, _, rfl, _, _, rfl, rfl, .inl ⟨by omega, by omega⟩, .inl ⟨_, rfl, _, _, rfl, rfl, (show (998244353 : Int) ≠ 0 by decide), _, _, rfl, rfl, .inl ⟨by omega, by omega⟩, .inl ⟨_, rfl, _, _, rfl, rfl, (show (998244353 : Int) ≠ 0 by decide), ?_⟩⟩⟩
        exact ⟨_, rfl, _, _, rfl, rfl, ⟨by decide, by decide⟩, .inl ⟨_, rfl, _, rfl, _, m, rfl, rfl, by omega, k _ _ (fm hm).1 (fm hm).2 hB' sb⟩⟩
end
end Y

namespace Y
open PySem PySem.Spec PyProof.Rows L2 Ns
open C8 (pss_cut)
def spSome (K : PySem.W.Frag) : Sp := fun as H Q _ => ∃ (b a : Addr) (xs : List V), as = [.ref b, .ref a] ∧ Bag H b ∧ SqL K (wo H b) a xs ∧ xs ≠ [] ∧ xs.length ≤ 1000000 ∧ ∀ (x : V) (H' : Hp), x ∈ xs → Bag H' b → Sb b H H' → Q x H'
section
variable {P : Program} {w : World} {K : PySem.W.Frag} {mg : Str → Option Value} {base : Heap}
theorem scS : FnScope ["bag", "things"] ["bag", "things"] (defScope sSome) := ⟨rfl, rfl, rfl, by decide +kernel, rfl, by decide +kernel, by decide +kernel⟩
theorem ok_some {f fT : Addr} {fd fdT : FuncData} (F : Fun K "_law_some" "_law_some" sSome f fd) (T : Nat0 mg) (FT : Fun K "_law_take" "_law_take" sTake fT fdT) (mT : mg "_law_take" = some (.ref fT)) (bT : Binds K fdT ["bag", "many"] []) :
    FnOk P w K mg base CX0 2 f fd ["bag", "things"] (spSome K) := by
  have GT : FnOk P w K mg base CX0 1 fT fdT ["bag", "many"] spTake := ok_take FT T
  refine F.ok scS (fun as H Q E h => ?_) (fun cdv A outer s H as Q E hr h => ?_)
  · obtain ⟨b, a, xs, rfl, _⟩ := h
    rfl
  · obtain ⟨b, a, xs, rfl, hB, hS, hne, hl, k⟩ := h
    have pos : 0 < xs.length := List.length_pos_iff.mpr hne
    refine ⟨_, pss_one (ps_ret (pe_ix ix_list (pv 1) (pe_call GT hr rfl mT FT.kp bT .nil pass0 (pa_cons (pv 0) (pa_cons (pe_callB call_len_seq (by rfl) T.len PySem.boot_len (pa_cons (pv 1) pa_nil)) pa_nil))) (fun _ _ => rfl))), ?_⟩
    refine ⟨_, rfl, _, rfl, _, rfl, a, _, rfl, .inl ((wo_sub H b).seq hS), b, _, rfl, hB, by omega, ?_, fun v H' h0 h1 hB' sb => ?_⟩
    · exact Nat.lt_of_le_of_lt (show ((xs.length : Int)).natAbs ≤ 1000000 by omega) (by decide)
    · have hi : v.toNat < xs.length := by omega
      have e : v = ((v.toNat : Nat) : Int) := by omega
      have hx : xs[v.toNat]? = some xs[v.toNat] := List.getElem?_eq_getElem hi
      obtain ⟨x, ex⟩ : ∃ x, xs[v.toNat]? = some x := ⟨_, hx⟩
      exact ⟨a, xs, v, x, rfl, rfl, (wo_sub H' b).seq (sb.sl hS), by rw [e]; exact atI_nat ex, k _ _ (List.mem_of_getElem? ex) hB' sb⟩
end
end Y

/-! NsD: how long the text of data is. -/
namespace Ns
open PySem PySem.Spec PyProof.Rows L2
/-- shown in at most m signs, nested at most k deep -/
def Fit (m k : Nat) (d : PyData) : Prop := d.showable = true ∧ d.shown.length ≤ m ∧ d.depth ≤ k
theorem Fit.mono {m m' k k' : Nat} {d : PyData} (h : Fit m k d) (hm : m ≤ m') (hk : k ≤ k') : Fit m' k' d := ⟨h.1, Nat.le_trans h.2.1 hm, Nat.le_trans h.2.2 hk⟩
theorem sum_le {m : Nat} : ∀ {l : List Nat}, (∀ n ∈ l, n ≤ m) → l.sum ≤ l.length * m
  | [], _ => Nat.zero_le _
  | n :: l, h => by
    have h1 := h n List.mem_cons_self
    have h2 := sum_le (l := l) fun k hk => h k (List.mem_cons_of_mem _ hk)
    rw [List.sum_cons, List.length_cons, Nat.succ_mul]
    omega
theorem depthAll_le {k : Nat} : ∀ {ds : List PyData}, (∀ d ∈ ds, d.depth ≤ k) → PyData.depthAll ds ≤ k
  | [], _ => by simp [PyData.depthAll]
  | d :: ds, h => by
    simp only [PyData.depthAll]
    exact Nat.max_le.mpr ⟨h d List.mem_cons_self, depthAll_le fun e he => h e (List.mem_cons_of_mem _ he)⟩
theorem mem_shown : ∀ {ds : List PyData} {t : Str}, t ∈ PyData.shownAll ds → ∃ d ∈ ds, t = d.shown
  | [], t, h => by rw [PyData.shownAll_nil] at h; exact nomatch h
  | d :: ds, t, h => by
    rw [PyData.shownAll_cons] at h
    rcases List.mem_cons.mp h with e | e
    · exact ⟨d, List.mem_cons_self, e⟩
    · obtain ⟨d', h1, h2⟩ := mem_shown e
      exact ⟨d', List.mem_cons_of_mem _ h1, h2⟩
theorem lens_le {m k : Nat} {ds : List PyData} (h : ∀ d ∈ ds, Fit m k d) : ((PyData.shownAll ds).map (·.length)).sum ≤ ds.length * m := by
  have e : ((PyData.shownAll ds).map (·.length)).length = ds.length := by rw [List.length_map, PyData.shownAll_length]
  have z := sum_le (l := (PyData.shownAll ds).map (·.length)) (m := m) fun n hn => by
    obtain ⟨t, ht, rfl⟩ := List.mem_map.mp hn
    obtain ⟨d, hd, rfl⟩ := mem_shown ht
    exact (h d hd).2.1
  rw [e] at z
  exact z
theorem fit_list {m k : Nat} {ds : List PyData} (h : ∀ d ∈ ds, Fit m k d) : Fit (ds.length * (m + 2) + 3) (k + 1) (.list ds) := by
  refine ⟨?_, ?_, ?_⟩
  · simp only [PyData.showable]
    exact showableAll_of fun d hd => (h d hd).1
  · simp only [PyData.shown]
    have z1 := listText_len_le (PyData.shownAll ds)
    have z2 := lens_le h
    rw [PyData.shownAll_length] at z1
    rw [Nat.mul_add]
    omega
  · have e : (PyData.list ds).depth = PyData.depthAll ds + 1 := by simp only [PyData.depth] <;> omega
    rw [e]
    exact Nat.succ_le_succ (depthAll_le fun d hd => (h d hd).2.2)
theorem fit_tuple {m k : Nat} {ds : List PyData} (h : ∀ d ∈ ds, Fit m k d) : Fit (ds.length * (m + 2) + 3) (k + 1) (.tuple ds) := by
  refine ⟨?_, ?_, ?_⟩
  · simp only [PyData.showable]
    exact showableAll_of fun d hd => (h d hd).1
  · simp only [PyData.shown]
    have z1 := tupleText_len_le (PyData.shownAll ds)
    have z2 := lens_le h
    rw [PyData.shownAll_length] at z1
    rw [Nat.mul_add]
    omega
  · have e : (PyData.tuple ds).depth = PyData.depthAll ds + 1 := by simp only [PyData.depth] <;> omega
    rw [e]
    exact Nat.succ_le_succ (depthAll_le fun d hd => (h d hd).2.2)
theorem kvs_le {m k : Nat} : ∀ {kvs : List (PyData × PyData)}, (∀ p ∈ kvs, Fit m k p.1 ∧ Fit m k p.2) → ((PyData.shownKv kvs).map (·.length)).sum ≤ kvs.length * (2 * m + 2) ∧ PyData.depthKv kvs ≤ k
  | [], _ => by simp [PyData.shownKv, PyData.depthKv]
  | (a, b) :: r, h => by
    obtain ⟨h1, h2⟩ := h (a, b) List.mem_cons_self
    obtain ⟨z1, z2⟩ := kvs_le (kvs := r) fun p hp => h p (List.mem_cons_of_mem _ hp)
    have e : (a.shown ++ ": " ++ b.shown).length = a.shown.length + 2 + b.shown.length := by
      rw [strLen_append, strLen_append]
      rfl
    have y1 := h1.2.1
    have y2 := h2.2.1
    refine ⟨?_, ?_⟩
    · rw [PyData.shownKv_cons, List.map_cons, List.sum_cons, List.length_cons, Nat.succ_mul, e]
      have y1' : a.shown.length ≤ m := y1
      have y2' : b.shown.length ≤ m := y2
      omega
    · have y3 : a.depth ≤ k := h1.2.2
      have y4 : b.depth ≤ k := h2.2.2
      simp only [PyData.depthKv]
      omega
theorem fit_dict {m k : Nat} {kvs : List (PyData × PyData)} (h : ∀ p ∈ kvs, Fit m k p.1 ∧ Fit m k p.2) : Fit (kvs.length * (2 * m + 4) + 3) (k + 1) (.dict kvs) := by
  obtain ⟨z1, z2⟩ := kvs_le h
  refine ⟨?_, ?_, ?_⟩
  · simp only [PyData.showable]
    exact showableKv_of fun p hp => ⟨(h p hp).1.1, (h p hp).2.1⟩
  · simp only [PyData.shown]
    have y := dictText_len_le (PyData.shownKv kvs)
    rw [PyData.shownKv_length] at y
    have e : kvs.length * (2 * m + 4) = kvs.length * (2 * m + 2) + 2 * kvs.length := by
      rw [Nat.mul_add, Nat.mul_add]
      omega
    omega
  · have e : (PyData.dict kvs).depth = PyData.depthKv kvs + 1 := by simp only [PyData.depth] <;> omega
    omega
theorem fit_int {i : Int} {n : Nat} (h0 : 0 < n) (h : i.natAbs < 10 ^ n) (hn : n ≤ 500) : Fit (n + 1) 0 (.int i) := by
  have z : (10 : Nat) ^ n < 2 ^ 1920 := Nat.lt_of_le_of_lt (Nat.pow_le_pow_right (by decide) hn) (by decide +kernel)
  refine ⟨decide_eq_true (log2_small (Nat.lt_trans h z)), ?_, by simp [PyData.depth]⟩
  rw [PyData.shown_int, PySem.ofString_length]
  exact int_text_length_le10 h0 h
/-- a datum is equal to itself -/
theorem eqv_self {K : PySem.W.Frag} {H : Hp} {x : V} {d : PyData} (D : DatV K H x d) (n : Nat) : EqV K H (n + 1) x x := by
  cases D with
  | non => exact .inl ⟨rfl, rfl⟩
  | bl b => exact .inl ⟨rfl, rfl⟩
  | int i => exact .inl ⟨rfl, rfl⟩
  | str y => exact .inl ⟨rfl, rfl⟩
  | lst _ _ => exact .inr (.inl ⟨_, rfl, rfl⟩)
  | tup _ _ => exact .inr (.inl ⟨_, rfl, rfl⟩)
  | dic _ _ => exact .inr (.inl ⟨_, rfl, rfl⟩)
theorem paired_rep {α β : Type} {F : α → β → Prop} {a : α} {b : β} (h : F a b) : ∀ n : Nat, Paired F (List.replicate n a) (List.replicate n b)
  | 0 => .nil
  | n + 1 => .cons h (paired_rep h n)
theorem datA_rep {K : PySem.W.Frag} {H : Hp} {x : V} {d : PyData} (D : DatV K H x d) : ∀ n : Nat, DatA K H (List.replicate n x) (List.replicate n d)
  | 0 => .nil
  | n + 1 => .cons D (datA_rep D n)
end Ns

/-! NsE: == of equal nested lists, tuples and dicts. -/
namespace Ns
open PySem PySem.Spec PyProof.Rows L2
/-- two tuples of equal items -/
def EqU (K : PySem.W.Frag) (H : Hp) (E : V → V → Prop) (x y : V) : Prop := ∃ a b xs ys, x = .ref a ∧ y = .ref b ∧ SqT K H a xs ∧ SqT K H b ys ∧ Paired E xs ys
/-- equal, of nesting below n, tuples too -/
def EqT (K : PySem.W.Frag) (H : Hp) : Nat → V → V → Prop
  | 0 => fun _ _ => False
  | n + 1 => fun x y => (x = y ∧ flatB x = true) ∨ (∃ a, x = .ref a ∧ y = .ref a) ∨ EqR K H (EqT K H n) x y ∨ EqU K H (EqT K H n) x y
section
variable {X : Cx} {pins : List (Addr × Obj)} {σ : L2.St} {H : Hp} {s : Shared}
theorem eqU_run (I : Inv X pins σ H s) {A : Around} {F : V → V → Prop} (hu : A.units < cLine) (ih : ∀ x y v u, F x y → RelV x v → RelV y u → SeqAt.EqP X.prog X.w A.in1 s v u true) {x y : V} {v u : Value} (h : EqU X.K H F x y) (rx : RelV x v) (ry : RelV y u)
    (E Q : Value → Shared → Prop) (q : Q (.bool true) s) : wpAny (model X.prog X.w) A (richCompare .Eq v u) Q E s := by
  obtain ⟨a, b, xs, ys, rfl, rfl, ha, hb, hp⟩ := h
  cases (show v = Value.ref a from rx)
  cases (show u = Value.ref b from ry)
  obtain ⟨us, r1, ⟨o1, h1, h2, n1, h3⟩, _⟩ := I.tuple ha
  obtain ⟨ws, r2, ⟨o2, g1, g2, n2, g3⟩, _⟩ := I.tuple hb
  have hsz : us.toArray.size = ws.toArray.size := by
    rw [List.size_toArray, List.size_toArray, ← r1.length, ← r2.length]
    exact Paired.length hp
  refine SeqAt.rcIn_tuples (e := fun _ => true) ⟨o1, h1, h2, n1, h3⟩ ⟨o2, g1, g2, n2, g3⟩ hu (fun j h1 h2 => ?_) ?_
  · have k := items_run ih hp r1 r2 j (by simpa using h1) (by simpa using h2)
    simp only [List.getElem_toArray]
    exact fun E Q q => k E Q q
  · rw [hsz, show ((List.range (min ws.toArray.size ws.toArray.size)).all fun _ => true) = true from List.all_eq_true.mpr fun _ _ => rfl]
    simpa using q
theorem eqT_run (I : Inv X pins σ H s) : ∀ (n : Nat) (A : Around), A.units + n < cLine → ∀ (x y : V) (v u : Value), EqT X.K H n x y → RelV x v → RelV y u → SeqAt.EqP X.prog X.w A s v u true
  | 0, _, _, _, _, _, _, h, _, _ => (show False from h).elim
  | n + 1, A, hu, x, y, v, u, h, rx, ry => by
    have ih := eqT_run I n A.in1 (by show A.units + 1 + n < cLine; omega)
    rcases h with ⟨rfl, f⟩ | ⟨a, rfl, rfl⟩ | h | h
    · exact (eqAt_same rx ry f).eqP
    · cases (show v = Value.ref a from rx)
      cases (show u = Value.ref a from ry)
      exact (SeqAt.EqAt.same _).eqP
    · have step := eqR_run I (A := A) (by omega) ih h rx ry
      obtain ⟨a, b, rfl, rfl⟩ : ∃ a b, x = .ref a ∧ y = .ref b := by
        rcases h with ⟨a, b, _, _, e1, e2, _⟩ | ⟨a, b, _, _, e1, e2, _⟩
        · exact ⟨a, b, e1, e2⟩
        · exact ⟨a, b, e1, e2⟩
      cases (show v = Value.ref a from rx)
      cases (show u = Value.ref b from ry)
      by_cases e : a = b
      · subst e
        exact (SeqAt.EqAt.same _).eqP
      · exact SeqAt.eqP_refs e step
    · have step := eqU_run I (A := A) (by omega) ih h rx ry
      obtain ⟨a, b, _, _, rfl, rfl, _⟩ := h
      cases (show v = Value.ref a from rx)
      cases (show u = Value.ref b from ry)
      by_cases e : a = b
      · subst e
        exact (SeqAt.EqAt.same _).eqP
      · exact SeqAt.eqP_refs e step
end
/-- flat, or a list, a tuple, a dict, the two of them equal -/
def EqS (K : PySem.W.Frag) (H : Hp) (n : Nat) (x y : V) : Prop := EqR K H (EqT K H n) x y ∨ EqU K H (EqT K H n) x y
section
variable {X : Cx}
/-- a == b, equal: flat ones, or lists, tuples, dicts -/
def rEqT (K : PySem.W.Frag) : R2 := fun x y H Q => ((x = y ∧ ((∃ i, x = .int i) ∨ (∃ z, x = .str z) ∨ x = .non ∨ ∃ b, x = .bl b)) ∨ ∃ n, n ≤ 60 ∧ EqS K H n x y) ∧ Q (.bl true) H
theorem op_eqT (hu : X.A.units + 64 < cLine) : OpR X (compareOp .Eq) (rEqT X.K) := by
  intro pins s σ H x y v u Q I rx ry h
  obtain ⟨h, q⟩ := h
  have qq : EP X pins σ Q (Value.bool true) s := ⟨.bl true, H, I, rfl, q⟩
  rcases h with ⟨rfl, ⟨i, rfl⟩ | ⟨z, rfl⟩ | rfl | ⟨b, rfl⟩⟩ | ⟨n, hn, h | h⟩
  · obtain ⟨t, rfl⟩ := (show ∃ t, v = Value.int i t from rx)
    obtain ⟨t', rfl⟩ := (show ∃ t, u = Value.int i t from ry)
    exact SeqAt.RcAt.int_int i t i t' _ _ _ _ (by rw [beq_self_eq_true]; exact qq)
  · obtain ⟨t, rfl⟩ := (show ∃ t, v = Value.str z t from rx)
    obtain ⟨t', rfl⟩ := (show ∃ t, u = Value.str z t from ry)
    exact SeqAt.RcAt.str_str z t z t' _ _ _ _ (by rw [beq_self_eq_true]; exact qq)
  · cases (show v = Value.none from rx)
    cases (show u = Value.none from ry)
    exact SeqAt.RcAt.none_none _ _ _ _ qq
  · cases (show v = Value.bool b from rx)
    cases (show u = Value.bool b from ry)
    exact SeqAt.RcAt.bool_bool b b _ _ _ _ (by rw [beq_self_eq_true]; exact qq)
  · exact eqR_run I (A := X.A) (by omega) (eqT_run I n X.A.in1 (by show X.A.units + 1 + n < cLine; omega)) h rx ry _ _ qq
  · exact eqU_run I (A := X.A) (by omega) (eqT_run I n X.A.in1 (by show X.A.units + 1 + n < cLine; omega)) h rx ry _ _ qq
end
end Ns

namespace Y
open PySem PySem.Spec PyProof.Rows L2 Ns
/-- equal data: True -/
def spAlike (K : PySem.W.Frag) : Sp := fun as H Q _ => ∃ (x y : V) (d : PyData), as = [x, y] ∧ ((x = y ∧ ((∃ i, x = .int i) ∨ (∃ z, x = .str z) ∨ x = .non ∨ ∃ b, x = .bl b)) ∨ ∃ n, n ≤ 60 ∧ EqS K H n x y) ∧ DatV K H x d ∧ DatV K H y d ∧ d.showable = true ∧ d.shown.length ≤ sizeLine ∧ d.depth ≤ 60 ∧ Q (.bl true) H
section
variable {P : Program} {w : World} {K : PySem.W.Frag} {mg : Str → Option Value} {base : Heap}
theorem scA : FnScope ["found", "due"] ["found", "due"] (defScope sAlike) := ⟨rfl, rfl, rfl, by decide +kernel, rfl, by decide +kernel, by decide +kernel⟩
theorem ok_alike {f : Addr} {fd : FuncData} (F : Fun K "_law_alike" "_law_alike" sAlike f fd) (T : Nat0 mg) : GnOk P w K mg base 1 f fd ["found", "due"] (spAlike K) := by
  refine Fun.okG F scA (fun as H Q E h => ?_) (fun cdv A outer s H as Q E hr hgd h => ?_)
  · obtain ⟨x, y, d, rfl, _⟩ := h
    rfl
  · obtain ⟨x, y, d, rfl, he, dx, dy, hs, hz, hd, k⟩ := h
    have hu : (A.deeper (envOfC "_law_alike" (defScope sAlike) s.heap.objs.size f cdv)).units + 64 < cLine := hr.units
    refine ⟨_, pss_one (ps_ret (pe_and (pe_cmpR (op_eqT hu) (pv 0) (pv 1) (nomark _)) (pe_one (pe_cmpR op_eq
      (pe_callB (call_reprD hgd hu) (by rfl) T.repr (by decide +kernel) (pa_cons (pv 0) pa_nil)) (pe_callB (call_reprD hgd hu) (by rfl) T.repr (by decide +kernel) (pa_cons (pv 1) pa_nil)) (nomark _))))), ?_⟩
    refine ⟨_, rfl, _, rfl, he, true, rfl, ?_⟩
    refine iteT ?_
    refine ⟨_, rfl, x, d, rfl, dx, hs, hz, hd, _, rfl, y, d, rfl, dy, hs, hz, hd, rfl, ?_⟩
    rw [decide_eq_true rfl]
    exact k
end
end Y

/-! NsS: sorted(xs) of data that are alike; sorted(d), d with pairs of texts as keys. -/
namespace Ns
open PySem PySem.Spec PyProof.Rows L2
open PySem.W (dataLe AllAlike Sortable EachIs)
section
variable {X : Cx}
theorem each_vals {bs : List (V × PyData)} : ∀ {out : List Value}, EachIs (fun v (b : V × PyData) => RelV b.1 v) out bs → Vals (bs.map (·.1)) out
  | _, .nil => .nil
  | _, .cons h t => .cons h (each_vals t)
theorem vals_each {bs : List (V × PyData)} : ∀ {us : List Value}, Vals (bs.map (·.1)) us → EachIs (fun v (b : V × PyData) => RelV b.1 v) us bs := by
  induction bs with
  | nil => intro us r; cases r; exact .nil
  | cons b bs ih => intro us r; cases r with
    | cons h t => exact .cons h (ih t)
theorem each_and {α β : Type} {R S : α → β → Prop} : ∀ {as : List α} {bs : List β}, EachIs R as bs → (∀ b ∈ bs, ∀ a, R a b → S a b) → EachIs S as bs
  | _, _, .nil, _ => .nil
  | _, _, .cons h t, k => .cons (k _ List.mem_cons_self _ h) (each_and t fun b hb => k b (List.mem_cons_of_mem _ hb))
/-- sorted(xs): alike data in Python's order -/
def rSortG (K : PySem.W.Frag) : List V → Hp → VK → Prop := fun vs H Q => ∃ (a : Addr) (bs : List (V × PyData)), vs = [V.ref a] ∧ SqL K H a (bs.map (·.1)) ∧ (∀ p ∈ bs, DatV K H p.1 p.2 ∧ p.2.depth ≤ 60) ∧ AllAlike (bs.map (·.2)) ∧ Sortable (bs.map (·.2)) ∧ bs.length ≤ sizeLine ∧
  ∀ p, H p = none → Q (.ref p) (upd H p (.lst ((bs.mergeSort (dataLe false (·.2))).map (·.1))))
theorem cr_sortG (hu : X.A.units + 64 < cLine) : CallR X (.builtin "sorted") (rSortG X.K) := by
  intro pins s σ H vs us Q I r h
  obtain ⟨a, bs, rfl, hs, hD, ha, hk, hz, q⟩ := h
  obtain ⟨its, rv, hl, _⟩ := I.list hs
  rw [Vals.ref1 r]
  have e := vals_each rv
  refine PySem.W.sorted_data (enc := fun b : V × PyData => b.2) hl.isList e (each_and e fun b hb v rb => reads_of I (hD b hb).1 rb) ha hk hz (fun b hb => by have := (hD b hb).2; omega) fun out hlo ho => ?_
  obtain ⟨ep, he'⟩ := PyProof.Rows.sortedAll_at s.heap its out.toArray
  have hlen : ((bs.mergeSort (dataLe false (·.2))).map (·.1)).length ≤ sizeLine := by rw [List.length_map, List.length_mergeSort]; exact hz
  exact ⟨.ref _, upd H (s.heap.objs.size + 1) (.lst ((bs.mergeSort (dataLe false (·.2))).map (·.1))), I.laid (t' := s.toks) (fun _ _ => PyProof.Rows.sortedAll_old) (Nat.le_succ _) ⟨hlen, out, ep, each_vals ho, by simpa using he'⟩, rfl, q _ (I.hok.fresh (Nat.le_succ _))⟩
/-- two rows of one length that agree at each place -/
theorem rows_same {α β : Type} {f : α → β} : ∀ {xs : List β} {ks : List α}, xs.length = ks.length → (∀ (j : Nat) (v : β) (b : α), xs[j]? = some v → ks[j]? = some b → v = f b) → xs = ks.map f
  | [], [], _, _ => rfl
  | v :: xs, b :: ks, hl, h => by
    rw [List.map_cons, h 0 v b rfl rfl, rows_same (Nat.succ.inj hl) fun j u c h1 h2 => h (j + 1) u c h1 h2]
/-- a pair of texts as data -/
def pD (k : Str × Str) : PyData := .tuple [.str k.1, .str k.2]
def pK (k : Str × Str) : List Key := [.inr k.1, .inr k.2]
/-- sorted(d), d with pairs of texts as keys: the keys' own tuples -/
def rSortDT : List V → Hp → VK → Prop := fun vs H Q => ∃ (a : Addr) (kvs : List (List Key × V)) (ks : List (Str × Str)), vs = [V.ref a] ∧ Rd H a (.dT kvs) ∧ kvs.map (·.1) = ks.map pK ∧ ks.length ≤ 1000 ∧
  ∀ (p : Addr) (qs : List Addr), H p = none → Paired (fun (q : Addr) (k : Str × Str) => H q = some (.tup [.str k.1, .str k.2])) qs (ks.mergeSort (dataLe false pD)) → Q (.ref p) (upd H p (.lst (qs.map V.ref)))
theorem isKeys_pairs {H : Hp} : ∀ {kvs : List (List Key × V)} {bs : List Addr} {ks : List (Str × Str)}, IsKeys H kvs bs → kvs.map (·.1) = ks.map pK → Paired (fun (q : Addr) (k : Str × Str) => H q = some (.tup [.str k.1, .str k.2])) bs ks
  | [], _, [], .nil, _ => .nil
  | [], _, _ :: _, _, e => by cases e
  | _ :: _, _, [], _, e => by cases e
  | kv :: kvs, _, k :: ks, .cons h t, e => by
    injection e with e1 e2
    refine .cons ?_ (isKeys_pairs t e2)
    rw [show kv.1 = pK k from e1] at h
    exact h
theorem pair_each {R : Addr → Str × Str → Prop} : ∀ {qs : List Addr} {ks : List (Str × Str)}, Paired R qs ks → EachIs (fun v k => ∃ q, v = Value.ref q ∧ R q k) (qs.map Value.ref) ks
  | _, _, .nil => .nil
  | _, _, .cons h t => .cons ⟨_, rfl, h⟩ (pair_each t)
theorem each_pair {R : Addr → Str × Str → Prop} : ∀ {out : List Value} {ks : List (Str × Str)}, EachIs (fun v k => ∃ q, v = Value.ref q ∧ R q k) out ks → ∃ qs : List Addr, out = qs.map Value.ref ∧ Paired R qs ks
  | _, _, .nil => ⟨[], rfl, .nil⟩
  | _, _, .cons ⟨q, e, h⟩ t => by
    obtain ⟨qs, e2, p⟩ := each_pair t
    exact ⟨q :: qs, by rw [e, e2]; rfl, .cons h p⟩
theorem alike_pD (ks : List (Str × Str)) : AllAlike (ks.map pD) := AllAlike.of fun _ _ => by simp [PySem.W.alike, PySem.W.alikeAll, pD]
theorem sortable_pD (ks : List (Str × Str)) : Sortable (ks.map pD) := Sortable.tuples fun _ => ⟨_, _, rfl⟩
theorem cr_sortDT (hc : X.calm = true) (hu : X.A.units + 64 < cLine) : CallR X (.builtin "sorted") rSortDT := by
  intro pins s σ H xs us Q I r h
  obtain ⟨d, kvs, kk, rfl, hd, hkk, h1000, q⟩ := h
  obtain ⟨u, rfl, rx⟩ := r.one
  cases rx
  obtain ⟨z, hs, ks, pr, o, es, ep, ho, hx, hdt, he, hn⟩ := (show ObjOk X.prog X.w H s.heap d (.dT kvs) from hd.ok I.hok)
  have l1 : es.size = ks.length := size_of_entries he
  have l2 : kvs.length = ks.length := Paired.length pr
  have l3 : kvs.length = kk.length := by
    have := congrArg List.length hkk
    rw [List.length_map, List.length_map] at this
    exact this
  have z16 : sizeLine = 16777216 := sizeLine_eq
  refine Calls.call_function_entry PyProof.Rows.kind_sorted PyProof.Rows.plain_sorted PyProof.Rows.entry_sorted (PyProof.Rows.args_sorted1 _) ?_
  unfold Builtin.«sorted»
  refine wpAny_bind (m := checkCount "sorted" 1 1 _) (wpAny_pure ?_)
  refine wpAny_bind (PySem.W.kdu_collect (A := X.A.in1) (kdl_raw hs hx hdt) (I.ok.hd hc) ho (by omega) fun h' tk acc hk it => ?_)
  have hsz : acc.toList.length = ks.length := (Array.length_toList).trans (it.1.trans l1)
  have ea : acc.toList = ks.map fun x => Value.ref x.2.1 := by
    refine rows_same hsz fun j v b hv hb => ?_
    obtain ⟨en, hen, rfl⟩ := it.2 j v ((Array.getElem?_toList).symm.trans hv)
    have q := (entry_at he j).symm.trans hen
    rw [hb] at q
    cases q
    rfl
  have eb : acc.toList = (ks.map fun x => x.2.1).map Value.ref := by rw [ea, List.map_map]; all_goals rfl
  have hP := isKeys_pairs (isKeys_of pr) hkk
  have hal : acc.toList.length = kk.length := by rw [Array.length_toList, it.1, l1, ← l2, l3]
  have I1 : Inv X pins σ H { s with heap := h', toks := tk } := I.kept hk
  refine wpAny_bind (wpAny_newList ?_ (by rw [hal]; omega))
  have hoL : (h'.push (seqObj "list" acc.toList.toArray 0)).get? h'.objs.size = some (seqObj "list" acc.toList.toArray 0) := Heap.get?_push_size _ rfl
  show wpAny _ _ _ _ _ { s with heap := h'.push (seqObj "list" acc.toList.toArray 0), toks := tk }
  have e0 : EachIs (fun v (k : Str × Str) => ∃ q, v = Value.ref q ∧ H q = some (.tup [.str k.1, .str k.2])) acc.toList kk := by
    rw [eb]
    exact pair_each hP
  refine wpAny_bind (wpAny_holding (PySem.W.list_sort_data (enc := pD) (s := { s with heap := h'.push (seqObj "list" acc.toList.toArray 0), toks := tk }) hoL e0 (each_and e0 fun k _ v rv => ?_) (alike_pD kk) (sortable_pD kk) (by omega) (fun k _ => ?_) fun out hlo hO => ?_))
  · obtain ⟨q, rfl, hq⟩ := rv
    obtain ⟨_, its, rv2, ot, hot, hct, nt, hdtt⟩ := (show ObjOk X.prog X.w H h' q (.tup [.str k.1, .str k.2]) from I1.hok q _ hq)
    obtain ⟨u1, u2, rfl, r1, r2⟩ := rv2.two
    obtain ⟨t1, rfl⟩ := r1
    obtain ⟨t2, rfl⟩ := r2
    refine ⟨[], Reads.tuple (Heap.get?_push_of_some _ hot) hct hdtt ?_, fun z => nomatch z⟩
    exact ReadsAll.cons (as := []) (bs := []) (.str _ _) (ReadsAll.cons (as := []) (bs := []) (.str _ _) .nil)
  · have : (pD k).depth = 1 := by simp [pD, PyData.depth, PyData.depthAll]
    show X.A.units + 1 + 1 + _ < _
    omega
  · obtain ⟨qs, eo, pq⟩ := each_pair hO
    obtain ⟨e', he'⟩ := PyProof.Rows.sortedHeap_at (vs := acc.toList) (out := out.toArray) hoL
    have hlen : (qs.map V.ref).length ≤ sizeLine := by
      have : out.length = qs.length := by rw [eo, List.length_map]
      rw [List.length_map]
      omega
    refine wpAny_pure ⟨_, rfl, .ref h'.objs.size, upd H h'.objs.size (.lst (qs.map V.ref)), I1.laid (t' := tk) (fun b u e => ?_) (Nat.le_refl _)
      (show ObjOk X.prog X.w _ _ _ (.lst (qs.map V.ref)) from ⟨hlen, out, e', by rw [eo]; exact vals_refs qs, by simpa using he'⟩), rfl, q _ qs (I1.hok.fresh (Nat.le_refl _)) pq⟩
    have hb : b < h'.objs.size := Heap.lt_size e
    rw [PyProof.Rows.sortedHeap_old (Nat.ne_of_lt hb) (by rw [size_push']; exact Nat.lt_succ_of_lt hb)]
    exact Heap.get?_push_of_some _ e
end
end Ns

/-! NsU: d.update(e), two dicts; the values and the items of a dict. -/
namespace Ns
open PySem PySem.Spec PyProof.Rows L2
open L2.DX (itemsO itemsO_ok takeT)
theorem mergeK_len : ∀ (more kvs : List (Key × V)), (mergeK kvs more).length ≤ kvs.length + more.length
  | [], kvs => Nat.le_refl _
  | p :: more, kvs => by
    have h1 := mergeK_len more (putK kvs p.1 p.2)
    have h2 := length_putK kvs p.1 p.2
    show (mergeK (putK kvs p.1 p.2) more).length ≤ _
    rw [List.length_cons]
    omega
section
variable {X : Cx}
def rDUpd : V → List V → Hp → VK → Prop := fun x xs H Q => ∃ (a b : Addr) (kvs more : List (Key × V)), x = .ref a ∧ xs = [.ref b] ∧ a ≠ b ∧ H a = some (.dK kvs) ∧ H b = some (.dK more) ∧ kvs.length + more.length ≤ sizeLine ∧ Q .non (upd H a (.dK (mergeK kvs more)))
theorem mt_dupd : MtR X "dict.update" rDUpd := by
  intro pins s σ H x xs v us Q I rx rxs h
  obtain ⟨a, b, kvs, more, rfl, rfl, hab, ha, hb, hz, q⟩ := h
  cases rx
  obtain ⟨u, rfl, ru⟩ := vals1 rxs
  cases ru
  obtain ⟨_, da, va, ka, oa⟩ := dk_of I.hok ha
  obtain ⟨_, db, vb, kb, ob⟩ := dk_of I.hok hb
  have lens : va.length + vb.length ≤ sizeLine := by rw [← ka.length, ← kb.length]; exact hz
  refine call_meetsIn PySem.F.slot_dict_update oa.typeIs PySem.F.entry_dict_update (PySem.F.args_dict_update_2 _ _) (meets_dict_update (mixKind X.prog X.w) a b hab db) ⟨va, vb, oa, ob, lens, fun h' m1 _ sb => ?_⟩
  have there : ∃ q, h'.get? a = some q := by
    obtain ⟨q, _, _, hq, _⟩ := m1
    exact ⟨q, hq⟩
  exact ⟨.non, _, d_write (t' := s.toks) I (by rw [ha]; trivial) sb there (dk_new (Nat.le_trans (mergeK_len more kvs) hz) da (KV.merge kb ka) m1), rfl, q⟩
/-- the view d.values() at p -/
def valsO (p d : Addr) : HO := .ext fun h => h.IsValuesView p d
theorem valsO_ok {P : Program} {w : World} {H : Hp} {h : Heap} {p d : Addr} (e : h.get? p = some { cls := .type "dict_values", data := .fields #[.ref d] }) : ObjOk P w H h p (valsO p d) :=
  ⟨⟨_, e, rfl, rfl⟩, ⟨_, e⟩, fun h1 h2 x k => by
    obtain ⟨o, ho, r⟩ := x
    exact ⟨o, k o ho, r⟩⟩
def rItemsK : V → List V → Hp → VK → Prop := fun x xs H Q => ∃ (a : Addr) (kvs : List (Key × V)), x = .ref a ∧ xs = [] ∧ H a = some (.dK kvs) ∧ ∀ p, H p = none → Q (.ref p) (upd H p (itemsO p a))
def rValsK : V → List V → Hp → VK → Prop := fun x xs H Q => ∃ (a : Addr) (kvs : List (Key × V)), x = .ref a ∧ xs = [] ∧ H a = some (.dK kvs) ∧ ∀ p, H p = none → Q (.ref p) (upd H p (valsO p a))
theorem mt_itemsK : MtR X "dict.items" rItemsK := by
  intro pins s σ H x xs v us Q I rx rxs h
  obtain ⟨a, kvs, rfl, rfl, ha, q⟩ := h
  cases rx
  cases rxs
  obtain ⟨_, da, va, ka, oa⟩ := dk_of I.hok ha
  refine call_meetsIn PySem.F.slot_dict_items oa.typeIs PySem.F.entry_dict_items (PySem.F.args_dict_items_1 _) (meets_dict_items (mixKind X.prog X.w) a da) ⟨⟨va, oa⟩, ?_⟩
  exact ⟨.ref s.heap.objs.size, upd H s.heap.objs.size (itemsO s.heap.objs.size a), I.laid (t' := s.toks) (fun b u e => Heap.get?_push_of_some _ e) (Nat.le_refl _) (itemsO_ok (Heap.get?_push_size _ rfl)), rfl, q _ (I.hok.fresh (Nat.le_refl _))⟩
theorem mt_valsK : MtR X "dict.values" rValsK := by
  intro pins s σ H x xs v us Q I rx rxs h
  obtain ⟨a, kvs, rfl, rfl, ha, q⟩ := h
  cases rx
  cases rxs
  obtain ⟨_, da, va, ka, oa⟩ := dk_of I.hok ha
  refine call_meetsIn PySem.F.slot_dict_values oa.typeIs PySem.F.entry_dict_values (PySem.F.args_dict_values_1 _) (meets_dict_values (mixKind X.prog X.w) a da) ⟨⟨va, oa⟩, ?_⟩
  exact ⟨.ref s.heap.objs.size, upd H s.heap.objs.size (valsO s.heap.objs.size a), I.laid (t' := s.toks) (fun b u e => Heap.get?_push_of_some _ e) (Nat.le_refl _) (valsO_ok (Heap.get?_push_size _ rfl)), rfl, q _ (I.hok.fresh (Nat.le_refl _))⟩
/-- sum(d.values()), whole numbers -/
def rSumVals : List V → Hp → VK → Prop := fun xs H Q => ∃ (p a : Addr) (kvs : List (Key × V)) (ns : List Int), xs = [.ref p] ∧ H p = some (valsO p a) ∧ H a = some (.dK kvs) ∧ kvs.map (·.2) = ns.map V.int ∧ Q (.int ns.sum) H
theorem preSum_eq : ∀ ns : List Int, preSum (fun i => ns.getD i 0) ns.length = ns.sum
  | [] => rfl
  | n :: ns => by
    rw [List.length_cons, PySem.W.kdu_shift]
    have ih := preSum_eq ns
    show n + preSum (fun i => ns.getD i 0) ns.length = _
    rw [ih, List.sum_cons]
theorem vals_num {ns : List Int} : ∀ {us : List Value}, Vals (ns.map V.int) us → ∀ (j : Nat) (u : Value), us[j]? = some u → ∃ t, u = .int (ns.getD j 0) t := by
  induction ns with
  | nil => intro us r j u h; cases r; cases h
  | cons n ns ih =>
    intro us r j u h
    cases r with
    | cons a b =>
      cases j with
      | zero =>
        cases h
        exact a
      | succ j => exact ih b j u h
theorem call_sumVals (hc : X.calm = true) : CallR X (.builtin "sum") rSumVals := by
  intro pins s σ H xs us Q I r h
  obtain ⟨p, a, kvs, ns, rfl, hp, ha, hn, q⟩ := h
  obtain rfl := Vals.ref1 r
  have view : s.heap.IsValuesView p a := (show ObjOk X.prog X.w H s.heap p (valsO p a) from I.hok p _ hp).1
  obtain ⟨_, da, va, ka, oa⟩ := dk_of I.hok ha
  obtain ⟨ep, hat⟩ := oa.dictAt
  have src := PySem.W.kdl_values (prog := X.prog) (w := X.w) (knd := mixKind X.prog X.w) (kvs := va) (ep := ep) (r := p) (d := a)
  have ok : s.heap.IsValuesView p a ∧ s.heap.DictAt (mixKind X.prog X.w) a va ep := ⟨view, hat⟩
  have nums := kv_vals ka
  rw [hn] at nums
  have ln : va.length = ns.length := by
    have := nums.length
    rw [List.length_map, List.length_map] at this
    exact this.symm
  refine call_sum_walkAnyS ?_
  obtain ⟨ob, St, step, W, st⟩ := src.iter X.A.in1 s (I.ok.hd hc) ok
  refine step _ _ ⟨s.heap.objs.size, _, _, _, va.length, _, _, fun i => ns.getD i 0, rfl, W.toS, st, fun b hb => ?_, fun i v hv => ?_, fun s' t' hm => ?_⟩
  · have there := src.there _ ok
    have up : s.heap.objs.size < (s.heap.push ob).objs.size := by rw [size_push']; omega
    rcases List.mem_cons.mp hb with e | e
    · rw [e]; exact up
    · rw [List.mem_singleton.mp e]
      exact Nat.lt_trans there.2 up
  · obtain ⟨k, hk⟩ := hv
    exact vals_num nums i v (by rw [List.getElem?_map, hk]; rfl)
  · have kept : ∀ b o, s.heap.get? b = some o → s'.heap.get? b = some o := fun b o e => by
      refine hm.heap b o (fun z => ?_) (Heap.get?_push_of_some _ e)
      have := Heap.lt_size e
      rw [List.mem_singleton.mp z] at this
      exact Nat.lt_irrefl _ this
    rw [Moved.eq_with hm, ln, preSum_eq]
    exact ⟨.int ns.sum, H, I.kept kept, ⟨_, rfl⟩, q⟩
/-- list(d.items()): new pairs -/
def rListItems : List V → Hp → VK → Prop := fun xs H Q => ∃ (p a : Addr) (kvs : List (Key × V)), xs = [.ref p] ∧ H p = some (itemsO p a) ∧ H a = some (.dK kvs) ∧
  ∀ (l : Addr) (ts : List Addr) (H' : Hp), H l = none → Same H H' → H' l = some (.lst (ts.map V.ref)) → Paired (fun (t : Addr) (kv : Key × V) => H' t = some (.tup [kV kv.1, kv.2]) ∧ H t = none) ts kvs → Q (.ref l) H'
theorem key_rel {P : Program} {w : World} {k : Key} {u : Value} (h : (mixKind P w).is k u = true) : RelV (kV k) u := by
  rcases keyIs_shape (show keyIs k u = true from h) with ⟨i, t, rfl, rfl⟩ | ⟨x, t, rfl, rfl⟩
  · exact ⟨t, rfl⟩
  · exact ⟨t, rfl⟩
theorem kv_at : ∀ {ks : List (Key × V)} {vs : List (Key × Value)}, KV ks vs → ∀ {j : Nat} {k : Key} {x : Value}, vs[j]? = some (k, x) → ∃ v, ks[j]? = some (k, v) ∧ RelV v x
  | _, _, .cons (a := a) h t, 0, k, x, e => by
    cases e
    obtain ⟨h1, h2⟩ := h
    have h1' : a.1 = k := h1
    exact ⟨a.2, by rw [← h1']; rfl, h2⟩
  | _, _, .cons h t, j + 1, k, x, e => kv_at t e
theorem pair_rows {R : Addr → Key × V → Prop} : ∀ {ts : List Addr} {kvs : List (Key × V)}, ts.length = kvs.length → (∀ (j : Nat) (t : Addr) (kv : Key × V), ts[j]? = some t → kvs[j]? = some kv → R t kv) → Paired R ts kvs
  | [], [], _, _ => .nil
  | t :: ts, kv :: kvs, hl, h => .cons (h 0 t kv rfl rfl) (pair_rows (Nat.succ.inj hl) fun j a b h1 h2 => h (j + 1) a b h1 h2)
theorem call_listItems (hc : X.calm = true) : CallR X (.type "list") rListItems := by
  intro pins s σ H xs us Q I r h
  obtain ⟨p, a, kvs, rfl, hp, ha, q⟩ := h
  obtain rfl := Vals.ref1 r
  have view : s.heap.IsItemsView p a := (show ObjOk X.prog X.w H s.heap p (itemsO p a) from I.hok p _ hp).1
  obtain ⟨hz, da, va, ka, oa⟩ := dk_of I.hok ha
  obtain ⟨ep, hat⟩ := oa.dictAt
  have lv : kvs.length = va.length := ka.length
  refine PySem.W.kdx_call (I.ok.hd hc) view hat (by rw [← lv]; exact hz) fun h' tk acc c ts kept hS hl hG hacc => ?_
  have nd : ts.Nodup := List.Pairwise.imp (fun h => Nat.ne_of_lt h) hG.rise
  have fr : H s.heap.objs.size = none := I.hok.fresh (Nat.le_refl _)
  have lz : (ts.map V.ref).length ≤ sizeLine := by rw [List.length_map, hl, ← lv]; exact hz
  have I1 : Inv X pins σ (upd H s.heap.objs.size (.lst (ts.map V.ref))) { s with heap := h', toks := tk } :=
    I.laid (t' := tk) kept (Nat.le_refl _) ⟨lz, acc.toList, c, by rw [hacc]; exact vals_refs ts, by rw [Array.toArray_toList]; exact hS⟩
  have made : ∀ (j : Nat) (t : Addr), ts[j]? = some t → ∃ (k : Key) (v : V), kvs[j]? = some (k, v) ∧ ∀ H2, ObjOk X.prog X.w H2 h' t (.tup [kV k, v]) := fun j t ht => by
    obtain ⟨key, k, x, e1, e2, e3⟩ := hG.pairs j t ht
    obtain ⟨v, e4, rv⟩ := kv_at ka e1
    exact ⟨k, v, e4, fun H2 => ⟨(by rw [sizeLine_eq]; show 2 ≤ 16777216; omega), [key, x], .cons (key_rel e2) (.cons rv .nil), ⟨_, e3, rfl, 0, rfl⟩⟩⟩
  obtain ⟨H2, I3, g, qt⟩ := takeT (P := fun t vs => ∃ (j : Nat) (k : Key) (v : V), ts[j]? = some t ∧ kvs[j]? = some (k, v) ∧ vs = [kV k, v]) I ts _ I1 nd fun t ht => by
    obtain ⟨j, hj⟩ := List.mem_iff_getElem?.mp ht
    obtain ⟨k, v, e1, e2⟩ := made j t hj
    have above := hG.above t ht
    exact ⟨Nat.le_of_lt above, by rw [upd_ne (Nat.ne_of_gt above)]; exact I.hok.fresh (Nat.le_of_lt above), [kV k, v], ⟨j, k, v, hj, e1, rfl⟩, e2⟩
  refine ⟨.ref s.heap.objs.size, H2, I3, rfl, q _ ts H2 fr (fun b o e => g b o (by rw [upd_ne (ne_of_none e fr)]; exact e)) (g _ _ upd_same) (pair_rows (by rw [hl, lv]) fun j t kv h1 h2 => ?_)⟩
  obtain ⟨vs, ⟨i, k, v, e1, e2, rfl⟩, e3⟩ := qt t (List.mem_of_getElem? h1)
  have ij : i = j := (List.getElem?_inj (List.getElem?_eq_some_iff.mp e1).1 nd).mp (e1.trans h1.symm)
  rw [ij, h2] at e2
  cases e2
  exact ⟨e3, I.hok.fresh (Nat.le_of_lt (hG.above t (List.mem_of_getElem? h1)))⟩
end
end Ns

/-! NsI: set(xs) of whole numbers, xs a list. -/
namespace Ns
open PySem PySem.Spec PyProof.Rows L2
/-- a set as it is made -/
abbrev setN (w : World) : Obj := { cls := .type "set", dict := none, data := .set #[] 0 (.fresh 0 0 (!w.params.followText "set-order")) }
section
variable {P : Program} {w : World} {A : Around} {E : Value → Shared → Prop} {s : Shared}
set_option maxHeartbeats 3200000 in
theorem set_ofI {l : Addr} {items : Array Value} (ns : List Int) {Q : Value → Shared → Prop} (hh : A.handled = none) (hl : s.heap.IsList l items) (rel : IntsAre items.toList ns) (room : ns.length + 1 < scanBound)
    (q : ∀ (h' : Heap) (tk c : Nat), (∀ b o, s.heap.get? b = some o → h'.get? b = some o) → SetR w h' s.heap.objs.size (fun j => decide (j ∈ ns)) c → c ≤ ns.length → Q (.ref s.heap.objs.size) { s with heap := h', toks := tk }) :
    wpAny (model P w) A (call (.type "set") [.ref l]) Q E s := by
  have sz : items.size = ns.length := by
    have e := IntsAre.length rel
    rw [Array.length_toList] at e
    exact e
  obtain ⟨c, tl, hmro⟩ := F.called_set.mro
  have f1 := F.called_set.made
  have f2 := F.called_set.sub
  have f3 := F.called_set.notType
  have f4 := F.called_set.canCreate
  have f5 := F.typeCall_set_1 (.ref l)
  refine wpAny_call (codeAny_of_tree ?_)
  show wpAny _ _ (callAny (.type "set") _) _ _ _
  refine wpAny_pure ⟨Code.quiet_builtin _ (by decide +kernel), codeAny_builtin F.entry_type_call ?_⟩
  rw [Around.under_plain (weight_type_call_type "set" [.ref l] []) rfl]
  repeat (any_goals (first | assumption | wp_step))
  refine codeAny_mono (code_set_led1 (.ref l) (E := E) (Q₁ := fun obj s₁ => obj = .ref s.heap.objs.size ∧ s₁ = { s with heap := s.heap.push (setN w) }) ⟨rfl, rfl⟩) fun r s₁ hr => ?_
  rcases r with e | fl
  · exact hr
  cases fl with
  | ret obj =>
    obtain ⟨rfl, rfl⟩ := hr
    have at0 : (s.heap.push (setN w)).get? s.heap.objs.size = some (setN w) := Heap.get?_push_size _ rfl
    have ty0 : Shared.TypeIs { s with heap := s.heap.push (setN w) } (.ref s.heap.objs.size) "set" := ⟨_, at0, rfl⟩
    have f6 := F.called_set.init.lookup
    have f7 := F.called_set.init.bind (.ref s.heap.objs.size)
    repeat (any_goals (first | assumption | wp_step))
    refine codeAny_mono (codeAny_call_builtin (R := wants (fun r s₂ => r = .none ∧ ∃ h' tk c, s₂ = { s with heap := h', toks := tk } ∧ (∀ c o, s.heap.get? c = some o → h'.get? c = some o) ∧ SetR w h' s.heap.objs.size (fun j => decide (j ∈ ns)) c ∧ c ≤ ns.length) E)
      F.called_set.init.plain F.entry_set_init (check_set_init_1 ty0 ?_)) fun r₂ s₂ hr₂ => ?_
    · obtain ⟨⟨ocls, odict, odata, oslots⟩, hol, hcl, nl, hdl⟩ := hl
      simp only at hcl hdl
      subst hcl; subst hdl
      have lS : l < s.heap.objs.size := Heap.lt_size hol
      have hol' : (s.heap.push (setN w)).get? l = some { cls := .type "list", dict := odict, data := .seq items nl, slots := oslots } := Heap.get?_push_of_some _ hol
      have g1 := F.sub_list_set
      have g2 := F.sub_list_frozenset
      have g3 : (Value.type "list" == Value.type "dict") = false := by decide
      have isl : (s.heap.push (setN w)).IsList l items := ⟨_, hol', rfl, nl, rfl⟩
      unfold Builtin.«set.__init__» noKeywords Builtin.Frozenset.updateFrom
      generalize keep : pyIter = PI
      wp_walk
      subst keep
      refine wpAny_pyIter_list isl (wpAny_bind (wpAny_runValue ?_))
      have up : (s.heap.push (setN w)).objs.size = s.heap.objs.size + 1 := size_push' _ _
      have nI : l ≠ (s.heap.push (setN w)).objs.size := by rw [up]; exact Nat.ne_of_lt (Nat.lt_succ_of_lt lS)
      have nS : s.heap.objs.size ∉ [(s.heap.push (setN w)).objs.size, l] := fun z => by
        rw [up] at z
        rcases List.mem_cons.mp z with e | e
        · exact Nat.ne_of_lt (Nat.lt_succ_self _) e
        · exact Nat.ne_of_gt lS (List.mem_singleton.mp e)
      have hval : ∀ (i : Nat) (v : Value), items[i]? = some v → ∃ k t, ns[i]? = some k ∧ v = .int k t := fun i v hv => by
        have hi : i < ns.length := by rw [← sz]; exact (Array.getElem?_eq_some_iff.mp hv).1
        obtain ⟨t, e⟩ := IntsAre.int_at rel i v (by rw [Array.getElem?_toList]; exact hv)
        refine ⟨ns[i], t, List.getElem?_eq_getElem hi, ?_⟩
        rw [e, List.getD_eq_getElem?_getD, List.getElem?_eq_getElem hi]
        all_goals rfl
      refine set_update_ints ((Walks.list (by simp [hh]) _ l nI items).toS) s.heap.objs.size nS ns sz room hval items.size 0 _ (Nat.sub_zero _) (Nat.zero_le _) ⟨⟨_, Heap.get?_push_size _ rfl, rfl, rfl⟩, isl.push _⟩
        ⟨0, Nat.le_refl 0, setR_new_at (Heap.get?_push_of_some _ at0)⟩ fun s' c' hm hc hS => ?_
      obtain ⟨h', g', d', tk', os'⟩ := s'
      have e1 : g' = s.gens := hm.gens
      have e2 : d' = s.drawn := hm.drawn
      have e3 : os' = s.os := hm.os
      subst e1
      subst e2
      subst e3
      refine wpAny_pure (wpAny_pure ⟨rfl, h', tk', c', rfl, fun b o e => ?_, hS, by rw [← sz]; exact hc⟩)
      have cl : b < s.heap.objs.size := Heap.lt_size e
      refine hm.heap b o (fun z => ?_) (Heap.get?_push_of_some _ (Heap.get?_push_of_some _ e))
      rcases List.mem_cons.mp z with e | e
      · exact Nat.ne_of_lt cl e
      · rw [List.mem_singleton, up] at e
        exact Nat.ne_of_lt (Nat.lt_succ_of_lt cl) e
    · rcases r₂ with e | fl₂
      · exact hr₂
      cases fl₂ with
      | ret r =>
        obtain ⟨rfl, h', tk, c', rfl, kp, X, m⟩ := hr₂
        repeat (any_goals (first | assumption | wp_step))
        exact q h' tk c' kp X m
      | _ => exact hr₂.elim
  | _ => exact hr.elim
end
section
variable {X : Cx}
/-- set(xs): whole numbers -/
def rSetI (K : PySem.W.Frag) (w : World) : List V → Hp → VK → Prop := fun xs H Q => ∃ (a : Addr) (ns : List Int), xs = [.ref a] ∧ SqL K H a (ns.map V.int) ∧ ns.length ≤ 1000 ∧ ∀ (p : Addr) (c : Nat), c ≤ ns.length → H p = none → Q (.ref p) (upd H p (SetO w p (fun j => decide (j ∈ ns)) c))
theorem vals_ints {ns : List Int} : ∀ {us : List Value}, Vals (ns.map V.int) us → IntsAre us ns := by
  induction ns with
  | nil => intro us r; cases r; exact .nil
  | cons n ns ih => intro us r; cases r with
    | cons h t =>
      obtain ⟨tk, rfl⟩ := h
      exact .cons n tk (ih t)
theorem call_setI (hc : X.calm = true) : CallR X (.type "set") (rSetI X.K X.w) := by
  intro pins s σ H xs us Q I r h
  obtain ⟨a, ns, rfl, hs, hz, q⟩ := h
  obtain ⟨its, rv, hl, _⟩ := I.list hs
  rw [Vals.ref1 r]
  refine set_ofI ns (I.ok.hd hc) hl.isList (by simpa using vals_ints rv) (Nat.lt_of_le_of_lt (show ns.length + 1 ≤ 1001 by omega) (by decide)) fun h' tk c kp R hcl => ?_
  exact ⟨.ref s.heap.objs.size, upd H s.heap.objs.size (SetO X.w s.heap.objs.size (fun j => decide (j ∈ ns)) c), I.laid (t' := tk) kp (Nat.le_refl _) (setO_new R), rfl, q _ c hcl (I.hok.fresh (Nat.le_refl _))⟩
end
end Ns

/-! rows of runs: the numbers alone -/
namespace Y
abbrev Run := Int × Int
/-- the lesser one, as Python's min tells it -/
def mn (i j : Int) : Int := if j < i then j else i
theorem mn_le {i j : Int} (h : i ≤ j) : mn i j = i := by unfold mn; split <;> omega
theorem mn_ge {i j : Int} (h : j ≤ i) : mn i j = j := by unfold mn; split <;> omega
/-- the greater one of 0 and a number -/
def pz (j : Int) : Int := if j > 0 then j else 0
theorem pz_pos {j : Int} (h : 0 ≤ j) : pz j = j := by unfold pz; split <;> omega
theorem pz_neg {j : Int} (h : j ≤ 0) : pz j = 0 := by unfold pz; split <;> omega
/-- the reach, as the program adds it up -/
def rch : List Run → Int → Int
  | [], _ => 0
  | r :: R, h => r.1 * mn r.2 h + rch R (h - mn r.2 h)
/-- the reach, as the law adds it up -/
def lrch : List Run → Int → Int
  | [], _ => 0
  | r :: R, h => r.1 * mn r.2 (pz h) + lrch R (h - r.2)
def stp : List Run → Int → Int
  | [], _ => 0
  | r :: R, h => if h ≤ r.2 then r.1 else stp R (h - r.2)
theorem rch_zero : ∀ {R : List Run}, (∀ r ∈ R, 0 ≤ r.2) → rch R 0 = 0
  | [], _ => rfl
  | r :: R, h => by
    have e : mn r.2 0 = 0 := mn_ge (h r List.mem_cons_self)
    show r.1 * mn r.2 0 + rch R (0 - mn r.2 0) = 0
    rw [e, Int.mul_zero, Int.sub_zero, rch_zero fun q hq => h q (List.mem_cons_of_mem _ hq)]
    rfl
theorem lrch_neg : ∀ {R : List Run} {h : Int}, (∀ r ∈ R, 0 ≤ r.2) → h ≤ 0 → lrch R h = 0
  | [], _, _, _ => rfl
  | r :: R, h, hr, h0 => by
    have h1 := hr r List.mem_cons_self
    show r.1 * mn r.2 (pz h) + lrch R (h - r.2) = 0
    rw [pz_neg h0, mn_ge h1, Int.mul_zero, lrch_neg (fun q hq => hr q (List.mem_cons_of_mem _ hq)) (by omega)]
    rfl
theorem rch_eq : ∀ {R : List Run} {h : Int}, (∀ r ∈ R, 0 ≤ r.2) → 0 ≤ h → lrch R h = rch R h
  | [], _, _, _ => rfl
  | r :: R, h, hr, h0 => by
    have h1 := hr r List.mem_cons_self
    have tl : ∀ q ∈ R, 0 ≤ q.2 := fun q hq => hr q (List.mem_cons_of_mem _ hq)
    show r.1 * mn r.2 (pz h) + lrch R (h - r.2) = r.1 * mn r.2 h + rch R (h - mn r.2 h)
    rw [pz_pos h0]
    by_cases c : h ≤ r.2
    · rw [mn_ge c, Int.sub_self, rch_zero tl, lrch_neg tl (by omega)]
    · rw [mn_le (by omega), rch_eq tl (by omega)]
theorem stp_eq : ∀ {R : List Run} {h : Int}, (∀ r ∈ R, 0 ≤ r.2) → 0 ≤ h → lrch R (h + 1) - lrch R h = stp R (h + 1)
  | [], _, _, _ => rfl
  | r :: R, h, hr, h0 => by
    have h1 := hr r List.mem_cons_self
    have tl : ∀ q ∈ R, 0 ≤ q.2 := fun q hq => hr q (List.mem_cons_of_mem _ hq)
    show r.1 * mn r.2 (pz (h + 1)) + lrch R (h + 1 - r.2) - (r.1 * mn r.2 (pz h) + lrch R (h - r.2)) = if h + 1 ≤ r.2 then r.1 else stp R (h + 1 - r.2)
    rw [pz_pos h0, pz_pos (show 0 ≤ h + 1 by omega)]
    by_cases c : h + 1 ≤ r.2
    · rw [if_pos c, mn_ge c, mn_ge (show h ≤ r.2 by omega), lrch_neg tl (show h + 1 - r.2 ≤ 0 by omega), lrch_neg tl (show h - r.2 ≤ 0 by omega), Int.mul_add, Int.mul_one]
      omega
    · rw [if_neg c, mn_le (show r.2 ≤ h + 1 by omega), mn_le (show r.2 ≤ h by omega)]
      have ih := stp_eq (h := h - r.2) tl (by omega)
      have e1 : h - r.2 + 1 = h + 1 - r.2 := by omega
      rw [e1] at ih
      omega
/-- the whole, the hours, the ends -/
def whl (R : List Run) : Int := (R.map fun r => r.1 * r.2).sum
def hrs (R : List Run) : Int := (R.map (·.2)).sum
def ends : List Run → Int → List Int
  | [], _ => []
  | r :: R, a => (a + r.2) :: ends R (a + r.2)
theorem ends_len : ∀ (R : List Run) (a : Int), (ends R a).length = R.length
  | [], _ => rfl
  | r :: R, a => by
    show (ends R (a + r.2)).length + 1 = R.length + 1
    rw [ends_len]
/-- where the runs so far end -/
theorem hrs_take {R : List Run} {i : Nat} {r : Run} (h : R[i]? = some r) : hrs (R.take (i + 1)) = hrs (R.take i) + r.2 := by
  unfold hrs
  rw [List.take_succ, h]
  simp
theorem ends_take : ∀ {R : List Run} {i : Nat} {r : Run} {a : Int}, R[i]? = some r → ends (R.take (i + 1)) a = ends (R.take i) a ++ [a + hrs (R.take (i + 1))]
  | [], _, _, _, h => by cases h
  | q :: R, 0, r, a, h => by
    show (a + q.2) :: ends (R.take 0) (a + q.2) = [] ++ [a + hrs (q :: R.take 0)]
    rw [List.take_zero]
    simp [ends, hrs]
  | q :: R, i + 1, r, a, h => by
    show (a + q.2) :: ends (R.take (i + 1)) (a + q.2) = ((a + q.2) :: ends (R.take i) (a + q.2)) ++ [a + hrs (q :: R.take (i + 1))]
    rw [ends_take (a := a + q.2) (show R[i]? = some r from h), List.cons_append]
    have e : a + q.2 + hrs (R.take (i + 1)) = a + hrs (q :: R.take (i + 1)) := by
      unfold hrs
      rw [List.map_cons, List.sum_cons]
      omega
    rw [e]
theorem ends_last {R : List Run} {a : Int} (h : R ≠ []) : (ends R a).getLast? = some (a + hrs R) := by
  have pos : 0 < R.length := List.length_pos_iff.mpr h
  obtain ⟨i, hi⟩ : ∃ i, R.length = i + 1 := ⟨R.length - 1, by omega⟩
  obtain ⟨r, hr⟩ : ∃ r, R[i]? = some r := ⟨_, List.getElem?_eq_getElem (by omega)⟩
  have e := ends_take (a := a) hr
  rw [← hi, List.take_length] at e
  rw [e, List.getLast?_append]
  simp
/-- the sums' bounds -/
def Runs (R : List Run) : Prop := R.length ≤ 4 ∧ ∀ r ∈ R, 1 ≤ r.1 ∧ r.1 ≤ 10 ^ 12 ∧ 1 ≤ r.2 ∧ r.2 ≤ 10 ^ 14
theorem Runs.nn {R : List Run} (h : Runs R) : ∀ r ∈ R, 0 ≤ r.2 := fun r hr => by have := (h.2 r hr).2.2.1; omega
theorem Runs.take {R : List Run} (h : Runs R) (i : Nat) : Runs (R.take i) := ⟨by rw [List.length_take]; have := h.1; omega, fun r hr => h.2 r (List.mem_of_mem_take hr)⟩
theorem sum_le {m : Int} (hm : 0 ≤ m) : ∀ {l : List Int}, (∀ i ∈ l, 0 ≤ i ∧ i ≤ m) → 0 ≤ l.sum ∧ l.sum ≤ l.length * m
  | [], _ => by simp
  | i :: l, h => by
    obtain ⟨h1, h2⟩ := sum_le hm (l := l) fun j hj => h j (List.mem_cons_of_mem _ hj)
    obtain ⟨h3, h4⟩ := h i List.mem_cons_self
    rw [List.sum_cons, List.length_cons]
    refine ⟨by omega, ?_⟩
    have e : ((l.length + 1 : Nat) : Int) * m = l.length * m + m := by
      rw [show ((l.length + 1 : Nat) : Int) = (l.length : Int) + 1 by omega, Int.add_mul, Int.one_mul]
    rw [e]
    omega
theorem hrs_bd {R : List Run} (h : Runs R) : 0 ≤ hrs R ∧ hrs R ≤ 4 * 10 ^ 14 := by
  obtain ⟨h1, h2⟩ := sum_le (m := 10 ^ 14) (by decide) (l := R.map (·.2)) fun i hi => by
    obtain ⟨r, hr, rfl⟩ := List.mem_map.mp hi
    obtain ⟨_, _, h3, h4⟩ := h.2 r hr
    omega
  refine ⟨h1, Int.le_trans h2 (Int.mul_le_mul_of_nonneg_right ?_ (by decide))⟩
  rw [List.length_map]
  have := h.1
  omega
theorem mul_bd {a b m n : Int} (h1 : 0 ≤ a) (h2 : a ≤ m) (h3 : 0 ≤ b) (h4 : b ≤ n) (hn : 0 ≤ m) : 0 ≤ a * b ∧ a * b ≤ m * n :=
  ⟨Int.mul_nonneg h1 h3, Int.mul_le_mul h2 h4 h3 hn⟩
theorem whl_bd {R : List Run} (h : Runs R) : 0 ≤ whl R ∧ whl R ≤ 4 * 10 ^ 26 := by
  obtain ⟨h1, h2⟩ := sum_le (m := 10 ^ 26) (by decide) (l := R.map fun r => r.1 * r.2) fun i hi => by
    obtain ⟨r, hr, rfl⟩ := List.mem_map.mp hi
    obtain ⟨h5, h6, h3, h4⟩ := h.2 r hr
    have := mul_bd (m := 10 ^ 12) (n := 10 ^ 14) (show 0 ≤ r.1 by omega) h6 (show 0 ≤ r.2 by omega) h4 (by decide)
    exact ⟨this.1, Int.le_trans this.2 (by decide)⟩
  refine ⟨h1, Int.le_trans h2 (Int.mul_le_mul_of_nonneg_right ?_ (by decide))⟩
  rw [List.length_map]
  have := h.1
  omega
theorem rch_bd : ∀ {R : List Run} {h : Int}, (∀ r ∈ R, 1 ≤ r.1 ∧ r.1 ≤ 10 ^ 12 ∧ 1 ≤ r.2 ∧ r.2 ≤ 10 ^ 14) → 0 ≤ h → 0 ≤ rch R h ∧ rch R h ≤ R.length * 10 ^ 26
  | [], _, _, _ => by simp [rch]
  | r :: R, h, hr, h0 => by
    obtain ⟨h5, h6, h3, h4⟩ := hr r List.mem_cons_self
    have m1 : 0 ≤ mn r.2 h ∧ mn r.2 h ≤ 10 ^ 14 ∧ mn r.2 h ≤ h := by unfold mn; split <;> omega
    have b := mul_bd (m := 10 ^ 12) (n := 10 ^ 14) (show 0 ≤ r.1 by omega) h6 m1.1 m1.2.1 (by decide)
    obtain ⟨i1, i2⟩ := rch_bd (R := R) (h := h - mn r.2 h) (fun q hq => hr q (List.mem_cons_of_mem _ hq)) (by omega)
    show 0 ≤ r.1 * mn r.2 h + rch R (h - mn r.2 h) ∧ r.1 * mn r.2 h + rch R (h - mn r.2 h) ≤ _
    rw [List.length_cons]
    have e : ((R.length + 1 : Nat) : Int) * 10 ^ 26 = R.length * 10 ^ 26 + 10 ^ 26 := by omega
    omega
theorem stp_bd : ∀ {R : List Run} {h : Int}, (∀ r ∈ R, 1 ≤ r.1 ∧ r.1 ≤ 10 ^ 12 ∧ 1 ≤ r.2 ∧ r.2 ≤ 10 ^ 14) → 0 ≤ stp R h ∧ stp R h ≤ 10 ^ 12
  | [], _, _ => by simp [stp]
  | r :: R, h, hr => by
    have := hr r List.mem_cons_self
    have ih := stp_bd (R := R) (h := h - r.2) fun q hq => hr q (List.mem_cons_of_mem _ hq)
    unfold stp
    split <;> omega
/-- the steps laid out -/
def lay (R : List Run) : List Int := R.flatMap fun r => List.replicate r.2.toNat r.1
theorem lay_len {R : List Run} (h : ∀ r ∈ R, 0 ≤ r.2) : ((lay R).length : Int) = hrs R := by
  induction R with
  | nil => rfl
  | cons r R ih =>
    have h1 := h r List.mem_cons_self
    have := ih fun q hq => h q (List.mem_cons_of_mem _ hq)
    unfold lay hrs at this ⊢
    rw [List.flatMap_cons, List.length_append, List.length_replicate, List.map_cons, List.sum_cons]
    omega
theorem lay_sum : ∀ {R : List Run} {n : Nat}, (∀ r ∈ R, 0 ≤ r.2) → ((lay R).take n).sum = rch R n
  | [], n, _ => by simp [lay, rch]
  | r :: R, n, h => by
    have h1 := h r List.mem_cons_self
    have tl : ∀ q ∈ R, 0 ≤ q.2 := fun q hq => h q (List.mem_cons_of_mem _ hq)
    have e : lay (r :: R) = List.replicate r.2.toNat r.1 ++ lay R := by unfold lay; rw [List.flatMap_cons]
    show _ = r.1 * mn r.2 n + rch R (n - mn r.2 n)
    rw [e, List.take_append, List.sum_append, List.take_replicate, List.length_replicate, lay_sum (n := n - r.2.toNat) tl]
    have sr : ∀ (k : Nat) (x : Int), (List.replicate k x).sum = x * k := fun k x => by
      induction k with
      | zero => simp
      | succ k ih =>
        rw [List.replicate_succ, List.sum_cons, ih, show ((k + 1 : Nat) : Int) = (k : Int) + 1 by omega, Int.mul_add, Int.mul_one]
        omega
    rw [sr]
    by_cases c : (n : Int) ≤ r.2
    · rw [mn_ge c, Int.sub_self, rch_zero tl]
      have e1 : n - r.2.toNat = 0 := by omega
      have e2 : min n r.2.toNat = n := by omega
      rw [e1, e2]
      rw [show ((0 : Nat) : Int) = 0 from rfl, rch_zero tl]
    · rw [mn_le (by omega)]
      have e2 : min n r.2.toNat = r.2.toNat := by omega
      rw [e2, show ((n - r.2.toNat : Nat) : Int) = (n : Int) - r.2 by omega, show ((r.2.toNat : Nat) : Int) = r.2 by omega]
theorem lay_at : ∀ {R : List Run} {n : Nat}, (∀ r ∈ R, 0 ≤ r.2) → ((lay R)[n]?).getD 0 = stp R ((n : Int) + 1)
  | [], n, _ => by simp [lay, stp]
  | r :: R, n, h => by
    have h1 := h r List.mem_cons_self
    have tl : ∀ q ∈ R, 0 ≤ q.2 := fun q hq => h q (List.mem_cons_of_mem _ hq)
    have e : lay (r :: R) = List.replicate r.2.toNat r.1 ++ lay R := by unfold lay; rw [List.flatMap_cons]
    show _ = if (n : Int) + 1 ≤ r.2 then r.1 else stp R ((n : Int) + 1 - r.2)
    rw [e]
    by_cases c : (n : Int) + 1 ≤ r.2
    · rw [if_pos c, List.getElem?_append_left (by rw [List.length_replicate]; omega), List.getElem?_replicate, if_pos (by omega)]
      rfl
    · rw [if_neg c, List.getElem?_append_right (by rw [List.length_replicate]; omega), List.length_replicate, lay_at (n := n - r.2.toNat) tl]
      have e2 : ((n - r.2.toNat : Nat) : Int) + 1 = (n : Int) + 1 - r.2 := by omega
      rw [e2]
/-- the law's own laying out -/
def laid (R : List Run) : List Int := R.flatMap fun r => List.replicate (mn r.2 200).toNat r.1
theorem laid_eq {R : List Run} (h : ∀ r ∈ R, 0 ≤ r.2) (hs : hrs R ≤ 200) : laid R = lay R := by
  induction R with
  | nil => rfl
  | cons r R ih =>
    have h1 := h r List.mem_cons_self
    have tl : ∀ q ∈ R, 0 ≤ q.2 := fun q hq => h q (List.mem_cons_of_mem _ hq)
    have p : 0 ≤ hrs R := by rw [← lay_len tl]; omega
    have e : hrs (r :: R) = r.2 + hrs R := by unfold hrs; rw [List.map_cons, List.sum_cons]
    have := ih tl (by omega)
    unfold laid lay at this ⊢
    rw [List.flatMap_cons, List.flatMap_cons, this, mn_le (show r.2 ≤ 200 by omega)]
theorem laid_len {R : List Run} (h : R.length ≤ 4) : (laid R).length ≤ 800 := by
  have : ∀ R : List Run, (laid R).length ≤ R.length * 200 := fun R => by
    induction R with
    | nil => simp [laid]
    | cons r R ih =>
      unfold laid at ih ⊢
      rw [List.flatMap_cons, List.length_append, List.length_replicate, List.length_cons]
      have : (mn r.2 200).toNat ≤ 200 := by unfold mn; split <;> omega
      omega
  have := this R
  omega
end Y

/-! rows of runs as values; what the program and the law read of them -/
namespace Y
open PySem PySem.Spec PyProof.Rows L2 Ns
open C8 (pss_cut)
theorem s3u {H : Hp} {a q : Addr} {o u : HO} (hq : H q = none) (h : H a = some u) : upd H q o a = some u := by rw [upd_ne (ne_of_none h hq)]; exact h
theorem sqt_more {K : PySem.W.Frag} {H H' : Hp} (m : Same H H') {a : Addr} {xs : List V} (h : SqT K H a xs) : SqT K H' a xs := h.elim (fun z => .inl (z.elim (fun z => .inl (m _ _ z)) fun ⟨o, z⟩ => .inr ⟨o, m _ _ z⟩)) .inr
theorem paired_imp {α β : Type} {R S : α → β → Prop} (k : ∀ a b, R a b → S a b) : ∀ {as : List α} {bs : List β}, Paired R as bs → Paired S as bs
  | _, _, .nil => .nil
  | _, _, .cons h t => .cons (k _ _ h) (paired_imp k t)
theorem paired_snoc {α β : Type} {R : α → β → Prop} {a : α} {b : β} (h : R a b) : ∀ {as : List α} {bs : List β}, Paired R as bs → Paired R (as ++ [a]) (bs ++ [b])
  | _, _, .nil => .cons h .nil
  | _, _, .cons x t => .cons x (paired_snoc h t)
theorem paired_len {α β : Type} {R : α → β → Prop} : ∀ {as : List α} {bs : List β}, Paired R as bs → as.length = bs.length
  | _, _, .nil => rfl
  | _, _, .cons _ t => congrArg (· + 1) (paired_len t)
theorem paired_at {α β : Type} {R : α → β → Prop} : ∀ {as : List α} {bs : List β}, Paired R as bs → ∀ {i : Nat} {a : α}, as[i]? = some a → ∃ b, bs[i]? = some b ∧ R a b
  | _, _, .cons h _, 0, _, e => by cases e; exact ⟨_, rfl, h⟩
  | _, _, .cons _ t, i + 1, _, e => paired_at t e
/-- a tuple of two whole numbers -/
def RunV (K : PySem.W.Frag) (H : Hp) (x : V) (r : Run) : Prop := ∃ a, x = .ref a ∧ SqT K H a [.int r.1, .int r.2]
/-- a tuple of such -/
def RowV (K : PySem.W.Frag) (H : Hp) (v : V) (R : List Run) : Prop := ∃ t xs, v = .ref t ∧ SqT K H t xs ∧ Paired (RunV K H) xs R
theorem RowV.more {K : PySem.W.Frag} {H H' : Hp} {v : V} {R : List Run} (h : RowV K H v R) (m : Same H H') : RowV K H' v R := by
  obtain ⟨t, xs, e, h1, h2⟩ := h
  exact ⟨t, xs, e, sqt_more m h1, paired_imp (fun x r ⟨a, e1, q⟩ => ⟨a, e1, sqt_more m q⟩) h2⟩
theorem int_row {l : List Int} {x : Int} : (l.map V.int ++ [V.int x]) = (l ++ [x]).map V.int := by rw [List.map_append]; rfl
theorem cut_upto (xs : List V) (k : Nat) : cutV xs none (some (k : Int)) = xs.take k := by
  unfold cutV
  rw [HT.sIx_nat, HT.sIx_none, List.drop_zero, Nat.sub_zero]
  rw [List.take_eq_take_iff]
  omega
/-- a list of whole numbers of a sort -/
def IntL (K : PySem.W.Frag) (H : Hp) (v : V) (p : Int → Prop) : Prop := ∃ a ns, v = .ref a ∧ SqL K H a (ns.map V.int) ∧ ns ≠ [] ∧ ns.length ≤ 1000 ∧ ∀ n ∈ ns, p n
theorem IntL.more {K : PySem.W.Frag} {H H' : Hp} {v : V} {p : Int → Prop} (h : IntL K H v p) (m : Same H H') : IntL K H' v p := by
  obtain ⟨a, ns, e, h1, r⟩ := h
  exact ⟨a, ns, e, m.seq h1, r⟩
theorem rg_ints (a b : Int) : rgV a b = ((List.range (b - a).toNat).map fun i => a + ((i : Nat) : Int)).map V.int := by
  unfold rgV
  rw [List.map_map]
  rfl
theorem drop_at {α : Type} {l : List α} {i : Nat} {x : α} (h : l[i]? = some x) : l.drop i = x :: l.drop (i + 1) := by
  obtain ⟨hi, e⟩ := List.getElem?_eq_some_iff.mp h
  rw [List.drop_eq_getElem_cons hi, e]
/-- a number of a row and a number -/
def spRI (K : PySem.W.Frag) (f : List Run → Int → Int) : Sp := fun as H Q _ => ∃ (y : V) (h : Int) (R : List Run), as = [y, .int h] ∧ RowV K H y R ∧ (∀ r ∈ R, -(2 ^ 64) < r.1 ∧ r.1 < 2 ^ 64) ∧ Q (.int (f R h)) H
/-- a number of a row -/
def spR1 (K : PySem.W.Frag) (f : List Run → Int) : Sp := fun as H Q _ => ∃ (y : V) (R : List Run), as = [y] ∧ RowV K H y R ∧ (∀ r ∈ R, -(2 ^ 64) < r.1 ∧ r.1 < 2 ^ 64) ∧ R.length ≤ 1000 ∧ ∀ H', Same H H' → Q (.int (f R)) H'
/-- the ends: a new tuple -/
def spEnds (K : PySem.W.Frag) : Sp := fun as H Q _ => ∃ (y : V) (R : List Run), as = [y] ∧ RowV K H y R ∧ R.length ≤ 1000 ∧ ∀ (p : Addr) (H' : Hp), H' p = some (.tup ((ends R 0).map V.int)) → H p = none → Same H H' → Q (.ref p) H'
/-- the steps laid out: a new list -/
def spLaid (K : PySem.W.Frag) : Sp := fun as H Q _ => ∃ (y : V) (R : List Run), as = [y] ∧ RowV K H y R ∧ Runs R ∧ ∀ (p : Addr) (H' : Hp), H' p = some (.lst (((laid R).take 200).map V.int)) → H p = none → Same H H' → Q (.ref p) H'
section
variable {P : Program} {w : World} {K : PySem.W.Frag} {mg : Str → Option Value} {base : Heap}
theorem scRI : FnScope ["stairs", "h", "total", "step", "times", "hours"] ["stairs", "h"] (defScope sReachIn) := ⟨rfl, rfl, rfl, by decide +kernel, rfl, by decide +kernel, by decide +kernel⟩
theorem ok_reachIn {f : Addr} {fd : FuncData} (F : Fun K "reach_in" "reach_in" sReachIn f fd) (T : Nat0 mg) : FnOk P w K mg base CX0 1 f fd ["stairs", "h"] (spRI K rch) := by
  refine F.ok scRI (fun as H Q E h => ?_) (fun cdv A outer s H as Q E hr h => ?_)
  · obtain ⟨y, h, R, rfl, _⟩ := h
    rfl
  · obtain ⟨y, h, R, rfl, hV, hb, k⟩ := h
    refine ⟨_, pss_cons (ps_set (i := 2) scRI.nd rfl (.inl rfl) pe_int)
      (pss_cons (ps_for PassesOwn.never rfl (pi_tup (pv 0)) (pg_tup rfl (pgs_cons (pg_name (i := 3) scRI.nd rfl (.inl rfl)) (pgs_cons (pg_name (i := 4) scRI.nd rfl (.inl rfl)) pgs_nil)))
        (pss_cons (ps_set (i := 5) scRI.nd rfl (.inl rfl) (pe_callB (call_min2 rfl) (by rfl) T.min (by decide +kernel) (pa_cons (pv 4) (pa_cons (pv 1) pa_nil))))
        (pss_cons (ps_aug (i := 2) scRI.nd rfl (.inl rfl) (pe_op op_mul (pv 3) (pv 5)) ip_add)
        (pss_one (ps_aug (i := 1) scRI.nd rfl (.inl rfl) (pv 5) ip_sub)))))
      (pss_one (ps_ret (pv 2)))), ?_⟩
    obtain ⟨t, xs, rfl, h1, h2⟩ := hV
    have lx := paired_len h2
    refine ⟨_, rfl, t, rfl, ⟨_, h1⟩, ?_⟩
    refine for_tup (K := K) (a := t) (xs := xs) (fun i σ H' => ∃ (h' a : Int) (v3 v4 v5 : Option V), σ = [some (.ref t), some (.int h'), some (.int a), v3, v4, v5] ∧ H' = H ∧ a + rch (R.drop i) h' = rch R h) ?_ ?_ ?_ ?_
    · exact ⟨h, 0, none, none, none, rfl, rfl, by rw [List.drop_zero]; omega⟩
    · rintro i σ H' _ ⟨_, _, _, _, _, _, rfl, _⟩
      exact h1
    · rintro i z σ H' hz ⟨h', a, v3, v4, v5, rfl, rfl, e⟩
      obtain ⟨r, hr, q, rfl, hq⟩ := paired_at h2 hz
      refine ⟨q, _, rfl, hq, rfl, _, _, rfl, _, _, rfl, rfl, ?_⟩
      refine ⟨_, rfl, _, rfl, r.2, h', rfl, _, rfl, _, rfl, _, rfl, r.1, mn r.2 h', rfl, rfl, .inl (hb r (List.mem_of_getElem? hr)), a, _, rfl, rfl, ?_⟩
      refine ⟨_, rfl, _, rfl, h', mn r.2 h', rfl, rfl, _, _, _, _, _, rfl, rfl, ?_⟩
      rw [drop_at hr] at e
      have e' : a + (r.1 * mn r.2 h' + rch (R.drop (i + 1)) (h' - mn r.2 h')) = rch R h := e
      show a + r.1 * mn r.2 h' + rch (R.drop (i + 1)) (h' - mn r.2 h') = rch R h
      omega
    · rintro σ H' ⟨h', a, v3, v4, v5, rfl, rfl, e⟩
      rw [lx, List.drop_length] at e
      have e' : a + 0 = rch R h := e
      refine ⟨_, rfl, ?_⟩
      rw [show a = rch R h by omega]
      exact k
theorem scLR : FnScope ["row", "hours", "total", "step", "many"] ["row", "hours"] (defScope sRowReach) := ⟨rfl, rfl, rfl, by decide +kernel, rfl, by decide +kernel, by decide +kernel⟩
theorem ok_rowReach {f : Addr} {fd : FuncData} (F : Fun K "_law_row_reach" "_law_row_reach" sRowReach f fd) (T : Nat0 mg) : FnOk P w K mg base CX0 1 f fd ["row", "hours"] (spRI K lrch) := by
  refine F.ok scLR (fun as H Q E h => ?_) (fun cdv A outer s H as Q E hr h => ?_)
  · obtain ⟨y, h, R, rfl, _⟩ := h
    rfl
  · obtain ⟨y, h, R, rfl, hV, hb, k⟩ := h
    refine ⟨_, pss_cons (ps_set (i := 2) scLR.nd rfl (.inl rfl) pe_int)
      (pss_cons (ps_for PassesOwn.never rfl (pi_tup (pv 0)) (pg_tup rfl (pgs_cons (pg_name (i := 3) scLR.nd rfl (.inl rfl)) (pgs_cons (pg_name (i := 4) scLR.nd rfl (.inl rfl)) pgs_nil)))
        (pss_cons (ps_aug (i := 2) scLR.nd rfl (.inl rfl) (pe_op op_mul (pv 3) (pe_callB (call_min2 rfl) (by rfl) T.min (by decide +kernel) (pa_cons (pv 4) (pa_cons (pe_callB (call_max2 rfl) (by rfl) T.max (by decide +kernel) (pa_cons pe_int (pa_cons (pv 1) pa_nil))) pa_nil)))) ip_add)
        (pss_one (ps_aug (i := 1) scLR.nd rfl (.inl rfl) (pv 4) ip_sub))))
      (pss_one (ps_ret (pv 2)))), ?_⟩
    obtain ⟨t, xs, rfl, h1, h2⟩ := hV
    have lx := paired_len h2
    refine ⟨_, rfl, t, rfl, ⟨_, h1⟩, ?_⟩
    refine for_tup (K := K) (a := t) (xs := xs) (fun i σ H' => ∃ (h' a : Int) (v3 v4 : Option V), σ = [some (.ref t), some (.int h'), some (.int a), v3, v4] ∧ H' = H ∧ a + lrch (R.drop i) h' = lrch R h) ?_ ?_ ?_ ?_
    · exact ⟨h, 0, none, none, rfl, rfl, by rw [List.drop_zero]; omega⟩
    · rintro i σ H' _ ⟨_, _, _, _, _, rfl, _⟩
      exact h1
    · rintro i z σ H' hz ⟨h', a, v3, v4, rfl, rfl, e⟩
      obtain ⟨r, hr, q, rfl, hq⟩ := paired_at h2 hz
      refine ⟨q, _, rfl, hq, rfl, _, _, rfl, _, _, rfl, rfl, ?_⟩
      refine ⟨_, rfl, _, rfl, _, rfl, _, rfl, 0, h', rfl, r.2, pz h', rfl, r.1, mn r.2 (pz h'), rfl, rfl, .inl (hb r (List.mem_of_getElem? hr)), a, _, rfl, rfl, ?_⟩
      refine ⟨_, rfl, _, rfl, h', r.2, rfl, rfl, _, _, _, _, rfl, rfl, ?_⟩
      rw [drop_at hr] at e
      have e' : a + (r.1 * mn r.2 (pz h') + lrch (R.drop (i + 1)) (h' - r.2)) = lrch R h := e
      show a + r.1 * mn r.2 (pz h') + lrch (R.drop (i + 1)) (h' - r.2) = lrch R h
      omega
    · rintro σ H' ⟨h', a, v3, v4, rfl, rfl, e⟩
      rw [lx, List.drop_length] at e
      have e' : a + 0 = lrch R h := e
      refine ⟨_, rfl, ?_⟩
      rw [show a = lrch R h by omega]
      exact k
theorem scSI : FnScope ["stairs", "h", "step", "times"] ["stairs", "h"] (defScope sStepIn) := ⟨rfl, rfl, rfl, by decide +kernel, rfl, by decide +kernel, by decide +kernel⟩
theorem ok_stepIn {f : Addr} {fd : FuncData} (F : Fun K "step_in" "step_in" sStepIn f fd) : FnOk P w K mg base CX0 1 f fd ["stairs", "h"] (spRI K stp) := by
  refine F.ok scSI (fun as H Q E h => ?_) (fun cdv A outer s H as Q E hr h => ?_)
  · obtain ⟨y, h, R, rfl, _⟩ := h
    rfl
  · obtain ⟨y, h, R, rfl, hV, hb, k⟩ := h
    refine ⟨_, pss_cons (ps_for PassesOwn.never rfl (pi_tup (pv 0)) (pg_tup rfl (pgs_cons (pg_name (i := 2) scSI.nd rfl (.inl rfl)) (pgs_cons (pg_name (i := 3) scSI.nd rfl (.inl rfl)) pgs_nil)))
        (pss_cons (ps_if (pt_cmpR op_le (pv 1) (pv 3) (nomark _)) (pss_one (ps_ret (pv 2))) pss_nil)
        (pss_one (ps_aug (i := 1) scSI.nd rfl (.inl rfl) (pv 3) ip_sub))))
      (pss_one (ps_ret pe_int)), ?_⟩
    obtain ⟨t, xs, rfl, h1, h2⟩ := hV
    have lx := paired_len h2
    refine ⟨_, rfl, t, rfl, ⟨_, h1⟩, ?_⟩
    refine for_tup (K := K) (a := t) (xs := xs) (fun i σ H' => ∃ (h' : Int) (v2 v3 : Option V), σ = [some (.ref t), some (.int h'), v2, v3] ∧ H' = H ∧ stp (R.drop i) h' = stp R h) ?_ ?_ ?_ ?_
    · exact ⟨h, none, none, rfl, rfl, by rw [List.drop_zero]⟩
    · rintro i σ H' _ ⟨_, _, _, _, rfl, _⟩
      exact h1
    · rintro i z σ H' hz ⟨h', v2, v3, rfl, rfl, e⟩
      obtain ⟨r, hr, q, rfl, hq⟩ := paired_at h2 hz
      refine ⟨q, _, rfl, hq, rfl, _, _, rfl, _, _, rfl, rfl, ?_⟩
      rw [drop_at hr] at e
      have e' : (if h' ≤ r.2 then r.1 else stp (R.drop (i + 1)) (h' - r.2)) = stp R h := e
      refine ⟨_, rfl, _, rfl, _, _, rfl, rfl, _, rfl, ?_⟩
      refine ite2 (fun c => ?_) (fun c => ?_)
      · have c' : h' ≤ r.2 := by simpa using c
        rw [if_pos c'] at e'
        refine ⟨_, rfl, ?_⟩
        rw [e']
        exact k
      · have c' : ¬ h' ≤ r.2 := by simpa using c
        rw [if_neg c'] at e'
        exact ⟨_, rfl, _, rfl, h', r.2, rfl, rfl, _, _, _, rfl, rfl, e'⟩
    · rintro σ H' ⟨h', v2, v3, rfl, rfl, e⟩
      rw [lx, List.drop_length] at e
      have e' : 0 = stp R h := e
      rw [← e'] at k
      exact k
theorem scWO : FnScope ["stairs", "step", "times"] ["stairs"] (defScope sWholeOf) := ⟨rfl, rfl, rfl, by decide +kernel, rfl, by decide +kernel, by decide +kernel⟩
theorem ok_wholeOf {f : Addr} {fd : FuncData} (F : Fun K "whole_of" "whole_of" sWholeOf f fd) (T : Nat0 mg) : FnOk P w K mg base CX0 1 f fd ["stairs"] (spR1 K whl) := by
  refine F.ok scWO (fun as H Q E h => ?_) (fun cdv A outer s H as Q E hr h => ?_)
  · obtain ⟨y, R, rfl, _⟩ := h
    rfl
  · obtain ⟨y, R, rfl, hV, hb, hl, k⟩ := h
    refine ⟨_, pss_one (ps_ret (pe_callB (cr_sum rfl) (by rfl) T.sum (by decide +kernel) (pa_cons (pe_lc (own := [("step", 1), ("times", 2)]) (g := gTup K 2 (gCons (gName 1) (gCons (gName 2) gNil))) (tt := tYes) rfl scWO.nd (pi_tup (pv 0))
      (blkOk_by (N := ["stairs", "step", "times"]) (sc := defScope sWholeOf) (by decide +kernel)) (fun _ _ _ _ _ => pg_tup rfl (pgs_cons (pg_name (i := 1) scWO.nd rfl (Or.inl rfl)) (pgs_cons (pg_name (i := 2) scWO.nd rfl (Or.inl rfl)) pgs_nil)))
      (fun _ _ _ _ _ => pts_nil) (fun _ _ _ _ _ => pe_op op_mul (pv 1) (pv 2))) pa_nil))), ?_⟩
    obtain ⟨t, xs, rfl, h1, h2⟩ := hV
    have lx := paired_len h2
    refine ⟨_, rfl, t, rfl, ⟨_, h1⟩, fun D hD => ?_⟩
    refine lc_tup (K := K) (a := t) (xs := xs) (fun i H' => H' D = some (.lst (((R.take i).map fun r => r.1 * r.2).map V.int)) ∧ Same H H') ?_ ?_ ?_ ?_
    · exact ⟨by rw [List.take_zero, upd_same]; rfl, fun c u e => by rw [upd_ne (ne_of_none e hD)]; exact e⟩
    · rintro i H' _ ⟨_, m⟩
      exact sqt_more m h1
    · rintro i z H' hz ⟨q1, q2⟩
      obtain ⟨r, hr, q, rfl, hq⟩ := paired_at h2 hz
      refine ⟨q, _, rfl, sqt_more q2 hq, rfl, _, _, rfl, _, _, rfl, rfl, ?_⟩
      refine ⟨rfl, _, rfl, _, rfl, r.1, r.2, rfl, rfl, .inl (hb r (List.mem_of_getElem? hr)), _, q1, ?_, ?_, same_put q2 hD⟩
      · rw [List.length_map, List.length_map, List.length_take]
        exact small1000 (by omega)
      · rw [upd_same, List.take_succ, hr]
        simp
    · rintro H' ⟨q1, q2⟩
      rw [lx, List.take_length] at q1
      exact ⟨D, _, rfl, SqL.of q1, k H' q2⟩
theorem scHO : FnScope ["stairs", "step", "times"] ["stairs"] (defScope sHoursOf) := ⟨rfl, rfl, rfl, by decide +kernel, rfl, by decide +kernel, by decide +kernel⟩
theorem ok_hoursOf {f : Addr} {fd : FuncData} (F : Fun K "hours_of" "hours_of" sHoursOf f fd) (T : Nat0 mg) : FnOk P w K mg base CX0 1 f fd ["stairs"] (spR1 K hrs) := by
  refine F.ok scHO (fun as H Q E h => ?_) (fun cdv A outer s H as Q E hr h => ?_)
  · obtain ⟨y, R, rfl, _⟩ := h
    rfl
  · obtain ⟨y, R, rfl, hV, hb, hl, k⟩ := h
    refine ⟨_, pss_one (ps_ret (pe_callB (cr_sum rfl) (by rfl) T.sum (by decide +kernel) (pa_cons (pe_lc (own := [("step", 1), ("times", 2)]) (g := gTup K 2 (gCons (gName 1) (gCons (gName 2) gNil))) (tt := tYes) rfl scHO.nd (pi_tup (pv 0))
      (blkOk_by (N := ["stairs", "step", "times"]) (sc := defScope sHoursOf) (by decide +kernel)) (fun _ _ _ _ _ => pg_tup rfl (pgs_cons (pg_name (i := 1) scHO.nd rfl (Or.inl rfl)) (pgs_cons (pg_name (i := 2) scHO.nd rfl (Or.inl rfl)) pgs_nil)))
      (fun _ _ _ _ _ => pts_nil) (fun _ _ _ _ _ => pv 2)) pa_nil))), ?_⟩
    obtain ⟨t, xs, rfl, h1, h2⟩ := hV
    have lx := paired_len h2
    refine ⟨_, rfl, t, rfl, ⟨_, h1⟩, fun D hD => ?_⟩
    refine lc_tup (K := K) (a := t) (xs := xs) (fun i H' => H' D = some (.lst (((R.take i).map (·.2)).map V.int)) ∧ Same H H') ?_ ?_ ?_ ?_
    · exact ⟨by rw [List.take_zero, upd_same]; rfl, fun c u e => by rw [upd_ne (ne_of_none e hD)]; exact e⟩
    · rintro i H' _ ⟨_, m⟩
      exact sqt_more m h1
    · rintro i z H' hz ⟨q1, q2⟩
      obtain ⟨r, hr, q, rfl, hq⟩ := paired_at h2 hz
      refine ⟨q, _, rfl, sqt_more q2 hq, rfl, _, _, rfl, _, _, rfl, rfl, ?_⟩
      refine ⟨rfl, _, rfl, _, q1, ?_, ?_, same_put q2 hD⟩
      · rw [List.length_map, List.length_map, List.length_take]
        exact small1000 (by omega)
      · rw [upd_same, List.take_succ, hr]
        simp
    · rintro H' ⟨q1, q2⟩
      rw [lx, List.take_length] at q1
      exact ⟨D, _, rfl, SqL.of q1, k H' q2⟩
theorem scSM : FnScope ["row", "step", "many"] ["row"] (defScope sStepsMany) := ⟨rfl, rfl, rfl, by decide +kernel, rfl, by decide +kernel, by decide +kernel⟩
theorem ok_stepsMany {f : Addr} {fd : FuncData} (F : Fun K "_law_steps_many" "_law_steps_many" sStepsMany f fd) (T : Nat0 mg) : FnOk P w K mg base CX0 1 f fd ["row"] (spR1 K hrs) := by
  refine F.ok scSM (fun as H Q E h => ?_) (fun cdv A outer s H as Q E hr h => ?_)
  · obtain ⟨y, R, rfl, _⟩ := h
    rfl
  · obtain ⟨y, R, rfl, hV, hb, hl, k⟩ := h
    refine ⟨_, pss_one (ps_ret (pe_callB (cr_sum rfl) (by rfl) T.sum (by decide +kernel) (pa_cons (pe_lc (own := [("step", 1), ("many", 2)]) (g := gTup K 2 (gCons (gName 1) (gCons (gName 2) gNil))) (tt := tYes) rfl scSM.nd (pi_tup (pv 0))
      (blkOk_by (N := ["row", "step", "many"]) (sc := defScope sStepsMany) (by decide +kernel)) (fun _ _ _ _ _ => pg_tup rfl (pgs_cons (pg_name (i := 1) scSM.nd rfl (Or.inl rfl)) (pgs_cons (pg_name (i := 2) scSM.nd rfl (Or.inl rfl)) pgs_nil)))
      (fun _ _ _ _ _ => pts_nil) (fun _ _ _ _ _ => pv 2)) pa_nil))), ?_⟩
    obtain ⟨t, xs, rfl, h1, h2⟩ := hV
    have lx := paired_len h2
    refine ⟨_, rfl, t, rfl, ⟨_, h1⟩, fun D hD => ?_⟩
    refine lc_tup (K := K) (a := t) (xs := xs) (fun i H' => H' D = some (.lst (((R.take i).map (·.2)).map V.int)) ∧ Same H H') ?_ ?_ ?_ ?_
    · exact ⟨by rw [List.take_zero, upd_same]; rfl, fun c u e => by rw [upd_ne (ne_of_none e hD)]; exact e⟩
    · rintro i H' _ ⟨_, m⟩
      exact sqt_more m h1
    · rintro i z H' hz ⟨q1, q2⟩
      obtain ⟨r, hr, q, rfl, hq⟩ := paired_at h2 hz
      refine ⟨q, _, rfl, sqt_more q2 hq, rfl, _, _, rfl, _, _, rfl, rfl, ?_⟩
      refine ⟨rfl, _, rfl, _, q1, ?_, ?_, same_put q2 hD⟩
      · rw [List.length_map, List.length_map, List.length_take]
        exact small1000 (by omega)
      · rw [upd_same, List.take_succ, hr]
        simp
    · rintro H' ⟨q1, q2⟩
      rw [lx, List.take_length] at q1
      exact ⟨D, _, rfl, SqL.of q1, k H' q2⟩
theorem scEO : FnScope ["stairs", "ends", "hour", "step", "times"] ["stairs"] (defScope sEndsOf) := ⟨rfl, rfl, rfl, by decide +kernel, rfl, by decide +kernel, by decide +kernel⟩
theorem ok_endsOf {f : Addr} {fd : FuncData} (F : Fun K "ends_of" "ends_of" sEndsOf f fd) (T : Nat0 mg) : FnOk P w K mg base CX0 1 f fd ["stairs"] (spEnds K) := by
  refine F.ok scEO (fun as H Q E h => ?_) (fun cdv A outer s H as Q E hr h => ?_)
  · obtain ⟨y, R, rfl, _⟩ := h
    rfl
  · obtain ⟨y, R, rfl, hV, hl, k⟩ := h
    refine ⟨_, pss_cons (ps_set (i := 1) scEO.nd rfl (.inl rfl) (pe_lst pa_nil)) (pss_cons (ps_set (i := 2) scEO.nd rfl (.inl rfl) pe_int)
      (pss_cons (ps_for PassesOwn.never rfl (pi_tup (pv 0)) (pg_tup rfl (pgs_cons (pg_name (i := 3) scEO.nd rfl (.inl rfl)) (pgs_cons (pg_name (i := 4) scEO.nd rfl (.inl rfl)) pgs_nil)))
        (pss_cons (ps_aug (i := 2) scEO.nd rfl (.inl rfl) (pv 4) ip_add)
        (pss_one (ps_expr (pe_bm PySem.F.plainAttrs_list PySem.F.slot_list_append PySem.F.type_list_append mt_append (pv 1) (pa_cons (pv 2) pa_nil))))))
      (pss_one (ps_ret (pe_callTy call_tuple_of (by rfl) T.tuple (by decide +kernel) (pa_cons (pv 1) pa_nil)))))), ?_⟩
    obtain ⟨t, xs, rfl, h1, h2⟩ := hV
    have lx := paired_len h2
    refine ⟨by show 0 ≤ sizeLine; decide, fun D hD => ?_⟩
    have m0 : Same H (upd H D (.lst [])) := same_new (Same.refl H) hD
    refine ⟨_, rfl, t, rfl, ⟨_, sqt_more m0 h1⟩, ?_⟩
    refine for_tup (K := K) (a := t) (xs := xs) (fun i σ H' => ∃ v3 v4 : Option V, σ = [some (.ref t), some (.ref D), some (.int (hrs (R.take i))), v3, v4] ∧ H' D = some (.lst ((ends (R.take i) 0).map V.int)) ∧ Same H H') ?_ ?_ ?_ ?_
    · exact ⟨none, none, rfl, by rw [List.take_zero, upd_same]; rfl, m0⟩
    · rintro i σ H' _ ⟨_, _, _, _, m⟩
      exact sqt_more m h1
    · rintro i z σ H' hz ⟨v3, v4, rfl, q1, q2⟩
      obtain ⟨r, hr, q, rfl, hq⟩ := paired_at h2 hz
      refine ⟨q, _, rfl, sqt_more q2 hq, rfl, _, _, rfl, _, _, rfl, rfl, ?_⟩
      refine ⟨_, rfl, _, rfl, _, r.2, rfl, rfl, ?_⟩
      have e1 := hrs_take hr
      have e2 := ends_take (a := 0) hr
      rw [Int.zero_add] at e2
      refine ⟨_, rfl, .inl ⟨rfl, _, SqL.of q1⟩, _, rfl, D, _, _, rfl, rfl, q1, ?_, _, _, by show _ = [_, _, some (V.int (hrs (R.take (i + 1)))), _, _]; rw [e1]; rfl, ?_, same_put q2 hD⟩
      · rw [List.length_map, ends_len, List.length_take]
        exact small1000 (by omega)
      · rw [upd_same, e2, e1, ← int_row]
    · rintro σ H' ⟨v3, v4, rfl, q1, q2⟩
      rw [lx, List.take_length] at q1
      refine ⟨_, rfl, D, _, rfl, .inl ⟨SqL.of q1, fun p hp => ?_⟩⟩
      refine k p _ upd_same ?_ (same_new q2 hp)
      cases e : H p with
      | none => rfl
      | some o => rw [q2 _ _ e] at hp; cases hp
theorem scLD : FnScope ["row", "found", "step", "many"] ["row"] (defScope sLaid) := ⟨rfl, rfl, rfl, by decide +kernel, rfl, by decide +kernel, by decide +kernel⟩
theorem laid_take {R : List Run} {i : Nat} {r : Run} (h : R[i]? = some r) : laid (R.take (i + 1)) = laid (R.take i) ++ List.replicate (mn r.2 200).toNat r.1 := by
  unfold laid
  rw [List.take_succ, h, List.flatMap_append]
  simp
theorem rep_one (x : V) : ∀ n : Nat, (List.replicate n [x]).flatten = List.replicate n x
  | 0 => rfl
  | n + 1 => by rw [List.replicate_succ, List.replicate_succ, List.flatten_cons, rep_one x n]; rfl
end
end Y

namespace Y
open PySem PySem.Spec PyProof.Rows L2 Ns
open C8 (pss_cut)
theorem paired_ref {β : Type} {R : V → β → Prop} {S : Addr → β → Prop} (k : ∀ t r, S t r → R (.ref t) r) : ∀ {ts : List Addr} {bs : List β}, Paired S ts bs → Paired R (ts.map V.ref) bs
  | _, _, .nil => .nil
  | _, _, .cons h t => .cons (k _ _ h) (paired_ref k t)
/-- a row, drawn -/
def spRow (K : PySem.W.Frag) : Sp := fun as H Q _ => ∃ b : Addr, as = [.ref b] ∧ Bag H b ∧ ∀ (t : Addr) (R : List Run) (H' : Hp), Runs R → R.Pairwise (fun x y => y.1 < x.1) → RowV K (wo H' b) (.ref t) R → Bag H' b → Sb b H H' → Q (.ref t) H'
section
variable {P : Program} {w : World} {K : PySem.W.Frag} {mg : Str → Option Value} {base : Heap}
theorem ok_laid {f : Addr} {fd : FuncData} (F : Fun K "_law_laid" "_law_laid" sLaid f fd) (T : Nat0 mg) : FnOk P w K mg base CX0 1 f fd ["row"] (spLaid K) := by
  refine F.ok scLD (fun as H Q E h => ?_) (fun cdv A outer s H as Q E hr h => ?_)
  · obtain ⟨y, R, rfl, _⟩ := h
    rfl
  · obtain ⟨y, R, rfl, hV, hl, k⟩ := h
    refine ⟨_, pss_cons (ps_set (i := 1) scLD.nd rfl (.inl rfl) (pe_lst pa_nil))
      (pss_cons (ps_for PassesOwn.never rfl (pi_tup (pv 0)) (pg_tup rfl (pgs_cons (pg_name (i := 2) scLD.nd rfl (.inl rfl)) (pgs_cons (pg_name (i := 3) scLD.nd rfl (.inl rfl)) pgs_nil)))
        (pss_one (ps_expr (pe_bm PySem.F.plainAttrs_list PySem.F.slot_list_extend PySem.F.type_list_extend mt_extend (pv 1) (pa_cons (pe_op op_rep (pe_lst (pa_cons (pv 2) pa_nil))
          (pe_callB (call_min2 rfl) (by rfl) T.min (by decide +kernel) (pa_cons (pv 3) (pa_cons pe_int pa_nil)))) pa_nil)))))
      (pss_one (ps_ret (pe_slice sl_list (pv 1) po_none (po_some pe_int))))), ?_⟩
    obtain ⟨t, xs, rfl, h1, h2⟩ := hV
    have lx := paired_len h2
    refine ⟨by show 0 ≤ sizeLine; decide, fun D hD => ?_⟩
    have m0 : Same H (upd H D (.lst [])) := same_new (Same.refl H) hD
    refine ⟨_, rfl, t, rfl, ⟨_, sqt_more m0 h1⟩, ?_⟩
    refine for_tup (K := K) (a := t) (xs := xs) (fun i σ H' => ∃ v2 v3 : Option V, σ = [some (.ref t), some (.ref D), v2, v3] ∧ H' D = some (.lst ((laid (R.take i)).map V.int)) ∧ Same H H') ?_ ?_ ?_ ?_
    · exact ⟨none, none, rfl, by rw [List.take_zero, upd_same]; rfl, m0⟩
    · rintro i σ H' _ ⟨_, _, _, _, m⟩
      exact sqt_more m h1
    · rintro i z σ H' hz ⟨v2, v3, rfl, q1, q2⟩
      obtain ⟨r, hr, q, rfl, hq⟩ := paired_at h2 hz
      refine ⟨q, _, rfl, sqt_more q2 hq, rfl, _, _, rfl, _, _, rfl, rfl, ?_⟩
      have hm : mn r.2 200 ≤ 200 := by unfold mn; split <;> omega
      have ll : (laid (R.take i)).length ≤ 800 := laid_len (by rw [List.length_take]; have := hl.1; omega)
      have le : (mn r.2 200).toNat ≤ 200 := by omega
      refine ⟨_, rfl, .inl ⟨rfl, _, SqL.of q1⟩, _, rfl, by show 1 ≤ sizeLine; decide, fun p hp => ⟨_, rfl, r.2, 200, rfl, ?_⟩⟩
      have D1 := s3u (o := .lst [.int r.1]) hp q1
      have m1 := same_new (o := .lst [.int r.1]) q2 hp
      have k0 : 0 ≤ mn r.2 200 ∨ mn r.2 200 < 0 := by omega
      have e1 : (List.replicate (mn r.2 200).toNat [V.int r.1]).flatten = (List.replicate (mn r.2 200).toNat r.1).map V.int := by rw [rep_one, List.map_replicate]
      refine ⟨p, mn r.2 200, [.int r.1], rfl, rfl, upd_same, ?_, by omega, by rw [List.length_singleton]; exact Nat.le_of_lt (small1000 (by omega)), fun u hu => ?_⟩
      · have := (hl.2 r (List.mem_of_getElem? hr)).2.2.1
        unfold mn
        split <;> omega
      have D2 := s3u (o := .lst ((List.replicate (mn r.2 200).toNat r.1).map V.int)) hu D1
      have m2 := same_new (o := .lst ((List.replicate (mn r.2 200).toNat r.1).map V.int)) m1 hu
      rw [e1]
      refine ⟨D, u, _, _, rfl, rfl, D2, upd_same, ?_, _, _, rfl, ?_, same_put m2 hD⟩
      · rw [List.length_map, List.length_map, List.length_replicate]
        exact Nat.le_of_lt (small1000 (by omega))
      · rw [upd_same, laid_take hr, List.map_append]
    · rintro σ H' ⟨v2, v3, rfl, q1, q2⟩
      rw [lx, List.take_length] at q1
      refine ⟨_, rfl, _, rfl, D, _, rfl, SqL.of q1, fun p hp => ?_⟩
      have ec : cutV ((laid R).map V.int) none (some (200 : Int)) = ((laid R).take 200).map V.int := by
        rw [show (200 : Int) = ((200 : Nat) : Int) from rfl, cut_upto, List.map_take]
      rw [ec]
      refine k p _ upd_same ?_ (same_new q2 hp)
      cases e : H p with
      | none => rfl
      | some o => rw [q2 _ _ e] at hp; cases hp
theorem scSR : FnScope ["bag", "times", "steps", "chosen", "turn", "step"] ["bag"] (defScope sSomeRow) := ⟨rfl, rfl, rfl, by decide +kernel, rfl, by decide +kernel, by decide +kernel⟩
theorem ok_someRow {f fT fS : Addr} {fd dT dS : FuncData} (F : Fun K "_law_some_row" "_law_some_row" sSomeRow f fd) (T : Nat0 mg) (FT : Fun K "_law_take" "_law_take" sTake fT dT) (mT : mg "_law_take" = some (.ref fT)) (bT : Binds K dT ["bag", "many"] [])
    (FS : Fun K "_law_some" "_law_some" sSome fS dS) (mS : mg "_law_some" = some (.ref fS)) (bS : Binds K dS ["bag", "things"] []) : FnOk P w K mg base CX0 3 f fd ["bag"] (spRow K) := by
  have GT : FnOk P w K mg base CX0 1 fT dT ["bag", "many"] spTake := ok_take FT T
  have GS : FnOk P w K mg base CX0 2 fS dS ["bag", "things"] (spSome K) := ok_some FS T FT mT bT
  refine F.ok scSR (fun as H Q E h => ?_) (fun cdv A outer s H as Q E hr h => ?_)
  · obtain ⟨b, rfl, _⟩ := h
    rfl
  · obtain ⟨b, rfl, hB, k⟩ := h
    have hr1 : Room 1 _ := hr.mono (by decide)
    refine ⟨_, pss_cons (ps_set (i := 1) scSR.nd rfl (.inr rfl) (pe_call GS hr rfl mS FS.kp bS .nil pass0 (pa_cons (pv 0) (pa_cons (pe_lst (pa_cons (pe_lst (pa_cons pe_int (pa_cons pe_int (pa_cons pe_int pa_nil))))
        (pa_cons (pe_lst (pa_cons pe_int (pa_cons pe_int (pa_cons pe_int pa_nil)))) (pa_cons (pe_lst (pa_cons pe_int (pa_cons (pe_op op_pow pe_int pe_int) (pa_cons (pe_op op_pow pe_int pe_int) (pa_cons pe_int pa_nil))))) pa_nil)))) pa_nil))))
      (pss_cons (ps_set (i := 2) scSR.nd rfl (.inr rfl) (pe_call GS hr rfl mS FS.kp bS .nil pass0 (pa_cons (pv 0) (pa_cons (pe_lst (pa_cons (pe_listRg rfl (by rfl) T.list_ (prg_2 (by rfl) T.range pe_int pe_int))
        (pa_cons (pe_listRg rfl (by rfl) T.list_ (prg_2 (by rfl) T.range pe_int pe_int))
        (pa_cons (pe_lst (pa_cons pe_int (pa_cons pe_int (pa_cons (pe_op op_pow pe_int pe_int) (pa_cons (pe_op op_sub (pe_op op_pow pe_int pe_int) pe_int) (pa_cons (pe_op op_pow pe_int pe_int) (pa_cons pe_int (pa_cons pe_int pa_nil)))))))) pa_nil)))) pa_nil))))
      (pss_cons (ps_set (i := 3) scSR.nd rfl (.inl rfl) (pe_callB (cr_sortedSet rfl) (by rfl) T.sorted (by decide +kernel) (pa_cons (pe_callTy (call_setI rfl) (by rfl) T.set_ (by decide +kernel)
        (pa_cons (pe_lc (own := [("turn", 4)]) (g := gName 4) (tt := tYes) rfl scSR.nd (pi_range1 (by rfl) T.range (pa_cons (pe_call GT hr1 rfl mT FT.kp bT .nil pass0 (pa_cons (pv 0) (pa_cons pe_int pa_nil))) pa_nil))
          (blkOk_by (N := ["bag", "times", "steps", "chosen", "turn", "step"]) (sc := defScope sSomeRow) (by decide +kernel)) (fun _ _ _ _ _ => pg_name (i := 4) scSR.nd rfl (Or.inl rfl)) (fun _ _ _ _ _ => pts_nil)
          (fun _ _ _ _ _ => pe_call GS hr rfl mS FS.kp bS .nil pass0 (pa_cons (pv 0) (pa_cons (pv 2) pa_nil)))) pa_nil)) pa_nil)))
      (pss_one (ps_ret (pe_callTy call_tuple_of (by rfl) T.tuple (by decide +kernel) (pa_cons (pe_lc (own := [("step", 5)]) (g := gName 5) (tt := tYes) rfl scSR.nd (pi_list (pe_revL (pv 3)))
          (blkOk_by (N := ["bag", "times", "steps", "chosen", "turn", "step"]) (sc := defScope sSomeRow) (by decide +kernel)) (fun _ _ _ _ _ => pg_name (i := 5) scSR.nd rfl (Or.inl rfl)) (fun _ _ _ _ _ => pts_nil)
          (fun _ _ _ _ _ => pe_tup (pa_cons (pv 5) (pa_cons (pe_call GS hr rfl mS FS.kp bS .nil pass0 (pa_cons (pv 0) (pa_cons (pv 1) pa_nil))) pa_nil)))) pa_nil)))))), ?_⟩
    -- the times
    refine ⟨_, rfl, by show 3 ≤ sizeLine; decide, fun a1 h1 => ⟨by show 3 ≤ sizeLine; decide, fun a2 h2 => ⟨10, 6, rfl, rfl, ⟨by decide, by decide, by decide⟩, 10, 14, rfl, rfl, ⟨by decide, by decide, by decide⟩, by show 4 ≤ sizeLine; decide, fun a3 h3 => ⟨by show 3 ≤ sizeLine; decide, fun a4 h4 => ?_⟩⟩⟩⟩
    have c1 := hB.new (o := .lst [.int 1, .int 2, .int 3]) h1
    have c2 := c1.new (o := .lst [.int 1, .int 1, .int 2]) h2
    have c3 := c2.new (o := .lst [.int 1, .int (10 ^ (6 : Int).toNat), .int (10 ^ (14 : Int).toNat), .int 3]) h3
    have c4 := c3.new (o := .lst [.ref a1, .ref a2, .ref a3]) h4
    have s4 := ((((Sb.refl b H).new (o := .lst [.int 1, .int 2, .int 3]) h1).new (o := .lst [.int 1, .int 1, .int 2]) h2).new (o := .lst [.int 1, .int (10 ^ (6 : Int).toNat), .int (10 ^ (14 : Int).toNat), .int 3]) h3).new (o := .lst [.ref a1, .ref a2, .ref a3]) h4
    have g1 := s3u (o := .lst [.ref a1, .ref a2, .ref a3]) h4 (s3u (o := .lst [.int 1, .int (10 ^ (6 : Int).toNat), .int (10 ^ (14 : Int).toNat), .int 3]) h3 (s3u (o := .lst [.int 1, .int 1, .int 2]) h2 (upd_same (H := H) (a := a1) (o := .lst [.int 1, .int 2, .int 3]))))
    have g2 := s3u (o := .lst [.ref a1, .ref a2, .ref a3]) h4 (s3u (o := .lst [.int 1, .int (10 ^ (6 : Int).toNat), .int (10 ^ (14 : Int).toNat), .int 3]) h3 (upd_same (H := upd H a1 (.lst [.int 1, .int 2, .int 3])) (a := a2) (o := .lst [.int 1, .int 1, .int 2])))
    have g3 := s3u (o := .lst [.ref a1, .ref a2, .ref a3]) h4 (upd_same (H := upd (upd H a1 (.lst [.int 1, .int 2, .int 3])) a2 (.lst [.int 1, .int 1, .int 2])) (a := a3) (o := .lst [.int 1, .int (10 ^ (6 : Int).toNat), .int (10 ^ (14 : Int).toNat), .int 3]))
    have n1 := hB.ne h1
    have n2 := c1.ne h2
    have n3 := c2.ne h3
    refine ⟨b, a4, [.ref a1, .ref a2, .ref a3], rfl, c4, SqL.of ((wo_ne (c3.ne h4)).trans upd_same), (fun z => nomatch z), by show 3 ≤ 1000000; decide, fun vt H5 ht c5 s5 => ?_⟩
    have It : IntL K (wo H5 b) vt (fun n => 1 ≤ n ∧ n ≤ 10 ^ 14) := by
      simp only [List.mem_cons, List.not_mem_nil, or_false] at ht
      rcases ht with rfl | rfl | rfl
      · exact ⟨a1, [1, 2, 3], rfl, SqL.of ((wo_ne n1).trans (s5.get g1 n1)), by decide, by decide, by decide⟩
      · exact ⟨a2, [1, 1, 2], rfl, SqL.of ((wo_ne n2).trans (s5.get g2 n2)), by decide, by decide, by decide⟩
      · exact ⟨a3, [1, 10 ^ (6 : Int).toNat, 10 ^ (14 : Int).toNat, 3], rfl, SqL.of ((wo_ne n3).trans (s5.get g3 n3)), by decide, by decide, by decide⟩
    have s05 := s4.trans s5
    clear g1 g2 g3 n1 n2 n3 c1 c2 c3 c4 s4 s5 h1 h2 h3 h4 ht
    -- the steps
    refine ⟨_, rfl, 1, 9, rfl, rfl, RgOk.of_le (by decide) (by decide) (by decide) (by decide), fun a1 h1 => ⟨1, 30, rfl, rfl, RgOk.of_le (by decide) (by decide) (by decide) (by decide), fun a2 h2 => ?_⟩⟩
    refine ⟨10, 6, rfl, rfl, ⟨by decide, by decide, by decide⟩, 10, 12, rfl, rfl, ⟨by decide, by decide, by decide⟩, _, _, rfl, rfl, 10, 11, rfl, rfl, ⟨by decide, by decide, by decide⟩, by show 7 ≤ sizeLine; decide, fun a3 h3 => ⟨by show 3 ≤ sizeLine; decide, fun a4 h4 => ?_⟩⟩
    have c6 := c5.new (o := .lst (rgV 1 9)) h1
    have c7 := c6.new (o := .lst (rgV 1 30)) h2
    have c8 := c7.new (o := .lst [.int 1, .int 2, .int (10 ^ (6 : Int).toNat), .int (10 ^ (12 : Int).toNat - 1), .int (10 ^ (11 : Int).toNat), .int 7, .int 8]) h3
    have c9 := c8.new (o := .lst [.ref a1, .ref a2, .ref a3]) h4
    have s9 := ((((Sb.refl b H5).new (o := .lst (rgV 1 9)) h1).new (o := .lst (rgV 1 30)) h2).new (o := .lst [.int 1, .int 2, .int (10 ^ (6 : Int).toNat), .int (10 ^ (12 : Int).toNat - 1), .int (10 ^ (11 : Int).toNat), .int 7, .int 8]) h3).new (o := .lst [.ref a1, .ref a2, .ref a3]) h4
    have g1 := s3u (o := .lst [.ref a1, .ref a2, .ref a3]) h4 (s3u (o := .lst [.int 1, .int 2, .int (10 ^ (6 : Int).toNat), .int (10 ^ (12 : Int).toNat - 1), .int (10 ^ (11 : Int).toNat), .int 7, .int 8]) h3 (s3u (o := .lst (rgV 1 30)) h2 (upd_same (H := H5) (a := a1) (o := .lst (rgV 1 9)))))
    have g2 := s3u (o := .lst [.ref a1, .ref a2, .ref a3]) h4 (s3u (o := .lst [.int 1, .int 2, .int (10 ^ (6 : Int).toNat), .int (10 ^ (12 : Int).toNat - 1), .int (10 ^ (11 : Int).toNat), .int 7, .int 8]) h3 (upd_same (H := upd H5 a1 (.lst (rgV 1 9))) (a := a2) (o := .lst (rgV 1 30))))
    have g3 := s3u (o := .lst [.ref a1, .ref a2, .ref a3]) h4 (upd_same (H := upd (upd H5 a1 (.lst (rgV 1 9))) a2 (.lst (rgV 1 30))) (a := a3) (o := .lst [.int 1, .int 2, .int (10 ^ (6 : Int).toNat), .int (10 ^ (12 : Int).toNat - 1), .int (10 ^ (11 : Int).toNat), .int 7, .int 8]))
    have n1 := c5.ne h1
    have n2 := c6.ne h2
    have n3 := c7.ne h3
    refine ⟨b, a4, [.ref a1, .ref a2, .ref a3], rfl, c9, SqL.of ((wo_ne (c8.ne h4)).trans upd_same), (fun z => nomatch z), by show 3 ≤ 1000000; decide, fun vs H6 ht c10 s10 => ?_⟩
    have Is : IntL K (wo H6 b) vs (fun n => 1 ≤ n ∧ n ≤ 10 ^ 12) := by
      simp only [List.mem_cons, List.not_mem_nil, or_false] at ht
      rcases ht with rfl | rfl | rfl
      · exact ⟨a1, _, rfl, by rw [← rg_ints]; exact SqL.of ((wo_ne n1).trans (s10.get g1 n1)), by decide, by decide, by decide⟩
      · exact ⟨a2, _, rfl, by rw [← rg_ints]; exact SqL.of ((wo_ne n2).trans (s10.get g2 n2)), by decide, by decide, by decide⟩
      · exact ⟨a3, [1, 2, 10 ^ (6 : Int).toNat, 10 ^ (12 : Int).toNat - 1, 10 ^ (11 : Int).toNat, 7, 8], rfl, SqL.of ((wo_ne n3).trans (s10.get g3 n3)), by decide, by decide, by decide⟩
    have s06 := (s05.trans s9).trans s10
    have It6 : IntL K (wo H6 b) vt (fun n => 1 ≤ n ∧ n ≤ 10 ^ 14) := (It.more s9.1).more s10.1
    clear g1 g2 g3 n1 n2 n3 c6 c7 c8 c9 s9 s10 h1 h2 h3 h4 ht s05 It c5
    obtain ⟨as, ss, rfl, is1, is2, is3, is4⟩ := Is
    obtain ⟨at', st, rfl, it1, it2, it3, it4⟩ := It6
    -- chosen
    refine ⟨_, rfl, b, 5, rfl, c10, by decide, by decide, fun v H7 v0 v1 c11 s11 => ⟨v, rfl, by omega, by omega, fun D hD => ?_⟩⟩
    have nD := c11.ne hD
    refine lc_range (lo := 0) (n := v.toNat) (fun i H' => ∃ ns : List Int, H' D = some (.lst (ns.map V.int)) ∧ ns.length = i ∧ (∀ n ∈ ns, 1 ≤ n ∧ n ≤ 10 ^ 12) ∧ Bag H' b ∧ Sb b H7 H') ?_ ?_ ?_
    · exact ⟨[], upd_same, rfl, (fun _ z => nomatch z), c11.new hD, (Sb.refl b H7).new hD⟩
    · rintro i H' hi ⟨ns, q1, q2, q3, q4, q5⟩
      refine ⟨rfl, _, rfl, _, rfl, b, as, _, rfl, q4, Same.seq q5.1 (Same.seq s11.1 is1), by simpa using is2, by rw [List.length_map]; omega, fun x H'' hx c12 s12 => ?_⟩
      obtain ⟨z, hz, rfl⟩ := List.mem_map.mp hx
      refine ⟨ns.map V.int, s12.get q1 nD, by rw [List.length_map, q2]; exact small1000 (by omega), ns ++ [z], by rw [upd_same, List.map_append]; rfl, by rw [List.length_append, q2]; rfl, fun n hn => ?_, c11.wr hD (q5.trans s12) c12, (q5.trans s12).wr hD⟩
      rcases List.mem_append.mp hn with h | h
      · exact q3 n h
      · rw [List.mem_singleton.mp h]
        exact is4 z hz
    rintro H8 ⟨ns, q1, q2, q3, q4, q5⟩
    refine ⟨D, ns, rfl, SqL.of q1, by omega, fun p c hc hp => ⟨p, _, c, rfl, upd_same, by omega, fun ms q hpw hmem hlen hq => ?_⟩⟩
    have B9 := (q4.new (o := SetO w p (fun j => decide (j ∈ ns)) c) hp).new (o := .lst (ms.map V.int)) hq
    have S9 := ((s11.trans q5).new (o := SetO w p (fun j => decide (j ∈ ns)) c) hp).new (o := .lst (ms.map V.int)) hq
    have nq : q ≠ b := (q4.new (o := SetO w p (fun j => decide (j ∈ ns)) c) hp).ne hq
    have g9 : upd (upd H8 p (SetO w p (fun j => decide (j ∈ ns)) c)) q (.lst (ms.map V.int)) q = some (.lst (ms.map V.int)) := upd_same
    have ml : ms.length ≤ 4 := by omega
    have mp : ∀ n ∈ ms, 1 ≤ n ∧ n ≤ 10 ^ 12 := fun n hn => q3 n (by simpa using (hmem n).mp hn)
    rw [show (cxOf CX0 P w K mg base ["bag", "times", "steps", "chosen", "turn", "step"] "_law_some_row" (defScope sSomeRow) f cdv A outer s H E).nox.w = w from rfl]
    generalize upd (upd H8 p (SetO w p (fun j => decide (j ∈ ns)) c)) q (.lst (ms.map V.int)) = H9 at B9 S9 g9 ⊢
    refine ⟨_, rfl, q, _, rfl, SqL.of g9, fun u hu => ⟨u, rfl, ⟨_, SqL.of upd_same⟩, fun D2 hD2 => ?_⟩⟩
    have B10 := B9.new (o := .lst (ms.map V.int).reverse) hu
    have S10 := S9.new (o := .lst (ms.map V.int).reverse) hu
    have nu := B9.ne hu
    have g10 : upd H9 u (.lst (ms.map V.int).reverse) u = some (.lst (ms.map V.int).reverse) := upd_same
    generalize upd H9 u (.lst (ms.map V.int).reverse) = H10 at B10 S10 g10 hD2 ⊢
    have nD2 := B10.ne hD2
    refine lc_list (K := K) (a := u) (xs := (ms.map V.int).reverse) (fun i H' => ∃ (ts : List Addr) (R : List Run), H' D2 = some (.lst (ts.map V.ref)) ∧ Paired (fun t (r : Run) => H' t = some (.tup [.int r.1, .int r.2]) ∧ t ≠ b ∧ t ≠ D2) ts R ∧ R.map (·.1) = ms.reverse.take i ∧ (∀ r ∈ R, 1 ≤ r.2 ∧ r.2 ≤ 10 ^ 14) ∧ Bag H' b ∧ Sb b H10 H') ?_ ?_ ?_ ?_
    · exact ⟨[], [], upd_same, .nil, by rw [List.take_zero]; rfl, (fun _ z => nomatch z), B10.new hD2, (Sb.refl b H10).new hD2⟩
    · rintro i H' _ ⟨_, _, _, _, _, _, _, sb⟩
      exact SqL.of (sb.get g10 nu)
    · rintro i x H' hx ⟨ts, R, p1, p2, p3, p4, p5, p6⟩
      obtain ⟨z, hz, rfl⟩ : ∃ z, ms.reverse[i]? = some z ∧ x = .int z := by
        rw [← List.map_reverse, List.getElem?_map] at hx
        obtain ⟨z, e1, e2⟩ := Option.map_eq_some_iff.mp hx
        exact ⟨z, e1, e2.symm⟩
      refine ⟨rfl, _, rfl, _, rfl, _, rfl, b, at', _, rfl, p5, Same.seq p6.1 (Same.seq S10.1 it1), by simpa using it2, by rw [List.length_map]; omega, fun y H'' hy b2 s2 => ⟨by show 2 ≤ sizeLine; decide, fun t ht => ?_⟩⟩
      obtain ⟨y', hy', rfl⟩ := List.mem_map.mp hy
      have nt : t ≠ D2 := fun e => by rw [e, s2.get p1 nD2] at ht; cases ht
      have nb := b2.ne ht
      have rl : R.length ≤ 4 := by
        have := congrArg List.length p3
        rw [List.length_map, List.length_take, List.length_reverse] at this
        omega
      have tl := paired_len p2
      refine ⟨ts.map V.ref, s3u ht (s2.get p1 nD2), by rw [List.length_map]; exact small1000 (by omega), ts ++ [t], R ++ [(z, y')], by rw [upd_same, List.map_append]; rfl, ?_, ?_, ?_, B10.wr hD2 ((p6.trans s2).new ht) (b2.new ht), ((p6.trans s2).new ht).wr hD2⟩
      · refine paired_snoc ⟨by rw [upd_ne nt, upd_same], nb, nt⟩ (paired_imp (fun t0 r h => ⟨?_, h.2⟩) p2)
        rw [upd_ne h.2.2]
        exact s3u ht (s2.get h.1 h.2.1)
      · rw [List.map_append, p3, List.take_succ, hz]
        rfl
      · intro r hr
        rcases List.mem_append.mp hr with h | h
        · exact p4 r h
        · rw [List.mem_singleton.mp h]
          exact it4 y' hy'
    · rintro H11 ⟨ts, R, p1, p2, p3, p4, p5, p6⟩
      have p3' : R.map (·.1) = ms.reverse := by
        rw [p3]
        exact List.take_of_length_le (by rw [List.length_reverse, List.length_reverse, List.length_map]; omega)
      refine ⟨D2, _, rfl, .inl ⟨SqL.of p1, fun l hl => ?_⟩⟩
      have nl := p5.ne hl
      refine k l R _ ⟨?_, fun r hr => ?_⟩ ?_ ⟨l, ts.map V.ref, rfl, SqT.of ((wo_ne nl).trans upd_same), ?_⟩ (p5.new hl) ((s06.trans (S10.trans p6)).new hl)
      · have := congrArg List.length p3'
        rw [List.length_map, List.length_reverse] at this
        omega
      · have hm : r.1 ∈ ms := by
          have : r.1 ∈ ms.reverse := by rw [← p3']; exact List.mem_map.mpr ⟨r, hr, rfl⟩
          exact List.mem_reverse.mp this
        have h1 := mp _ hm
        have h2 := p4 r hr
        exact ⟨h1.1, h1.2, h2.1, h2.2⟩
      · have : (R.map (·.1)).Pairwise (fun x y => y < x) := by
          rw [p3', List.pairwise_reverse]
          exact hpw
        exact List.pairwise_map.mp this
      · exact paired_ref (fun t r h => ⟨t, rfl, SqT.of ((wo_ne h.2.1).trans (s3u hl h.1))⟩) p2
end
end Y

/-! what the law of rows' numbers compares -/
namespace Y
open PySem PySem.Spec PyProof.Rows L2 Ns
theorem dp_ints {K : PySem.W.Frag} {H : Hp} : ∀ l : List Int, DpAll K H (l.map V.int) (l.map PyData.int)
  | [] => .nil
  | i :: l => .cons (.int i) (dp_ints l)
theorem lay_ints : ∀ l : List Int, PyData.canLayAll0 (l.map PyData.int) = true ∧ PyData.depthAll (l.map PyData.int) = 0
  | [] => ⟨rfl, by simp [PyData.depthAll]⟩
  | i :: l => by
    obtain ⟨h1, h2⟩ := lay_ints l
    exact ⟨by simp [PyData.canLayAll0, PyData.canLay0, h1], by simp [PyData.depthAll, PyData.depth, h2]⟩
theorem shaped_ints (l : List Int) : SeqAt.shaped (.list (l.map PyData.int)) = true := by
  obtain ⟨h1, h2⟩ := lay_ints l
  unfold SeqAt.shaped
  rw [Bool.and_eq_true]
  refine ⟨by simp [PyData.canLay0, h1], decide_eq_true ?_⟩
  simp only [PyData.depth, h2]
  decide
theorem big_ok {n : Nat} (h : n ≤ 1000000) : n ≤ sizeLine := by rw [sizeLine_eq]; omega
theorem fit_num {i : Int} (h0 : 0 ≤ i) (h : i ≤ 10 ^ 28) : Fit 300 0 (.int i) :=
  (fit_int (n := 29) (by decide) (by omega) (by decide)).mono (by decide) (Nat.le_refl _)
theorem fit_ints {l : List Int} (hl : l.length ≤ 100) (h : ∀ i ∈ l, 0 ≤ i ∧ i ≤ 10 ^ 28) : Fit 40000 1 (.tuple (l.map PyData.int)) := by
  refine (fit_tuple (m := 300) (k := 0) fun d hd => ?_).mono ?_ (by decide)
  · obtain ⟨x, hx, rfl⟩ := List.mem_map.mp hd
    exact fit_num (h x hx).1 (h x hx).2
  · rw [List.length_map]
    omega
section
variable {K : PySem.W.Frag} {H : Hp}
theorem dat_ints : ∀ ls : List Int, DatA K H (ls.map V.int) (ls.map PyData.int)
  | [] => .nil
  | _ :: ls => .cons (.int _) (dat_ints ls)
theorem same_rows {E : V → V → Prop} : ∀ {xs : List V}, (∀ x ∈ xs, E x x) → Paired E xs xs
  | [], _ => .nil
  | x :: xs, h => .cons (h x List.mem_cons_self) (same_rows fun y hy => h y (List.mem_cons_of_mem _ hy))
theorem eqT_flat {x : V} (n : Nat) (h : flatB x = true) : EqT K H (n + 1) x x := .inl ⟨rfl, h⟩
theorem eqT_tup {a b : Addr} {xs : List V} (n : Nat) (ha : SqT K H a xs) (hb : SqT K H b xs) (h : ∀ x ∈ xs, flatB x = true) : EqT K H (n + 2) (.ref a) (.ref b) :=
  .inr (.inr (.inr ⟨a, b, xs, xs, rfl, rfl, ha, hb, same_rows fun x hx => eqT_flat n (h x hx)⟩))
theorem flat_ints {l : List Int} : ∀ x ∈ l.map V.int, flatB x = true := fun x hx => by
  obtain ⟨t, _, rfl⟩ := List.mem_map.mp hx
  rfl
/-- two lists of the same two numbers -/
theorem eq_two {a b : Addr} {i j : Int} (ha : H a = some (.lst [.int i, .int j])) (hb : H b = some (.lst [.int i, .int j])) : EqS K H 3 (.ref a) (.ref b) :=
  .inl (.inl ⟨a, b, _, _, rfl, rfl, SqL.of ha, SqL.of hb, .cons (eqT_flat 2 rfl) (.cons (eqT_flat 2 rfl) .nil)⟩)
theorem dat_two {a : Addr} {i j : Int} (ha : H a = some (.lst [.int i, .int j])) : DatV K H (.ref a) (.list [.int i, .int j]) := .lst (SqL.of ha) (.cons (.int _) (.cons (.int _) .nil))
theorem fit_two {i j : Int} (h1 : 0 ≤ i) (h2 : i ≤ 10 ^ 28) (h3 : 0 ≤ j) (h4 : j ≤ 10 ^ 28) : Fit 1000 1 (.list [.int i, .int j]) := by
  refine (fit_list (m := 300) (k := 0) fun d hd => ?_).mono (show 2 * (300 + 2) + 3 ≤ 1000 by decide) (by decide)
  simp only [List.mem_cons, List.not_mem_nil, or_false] at hd
  rcases hd with rfl | rfl
  · exact fit_num h1 h2
  · exact fit_num h3 h4
/-- two lists of the same two numbers and the same tuple of numbers -/
theorem eq_three {a b p q : Addr} {i j : Int} {l : List Int} (ha : H a = some (.lst [.int i, .int j, .ref p])) (hb : H b = some (.lst [.int i, .int j, .ref q])) (hp : H p = some (.tup (l.map V.int))) (hq : H q = some (.tup (l.map V.int))) : EqS K H 4 (.ref a) (.ref b) :=
  .inl (.inl ⟨a, b, _, _, rfl, rfl, SqL.of ha, SqL.of hb, .cons (eqT_flat 3 rfl) (.cons (eqT_flat 3 rfl) (.cons (eqT_tup 2 (SqT.of hp) (SqT.of hq) flat_ints) .nil))⟩)
theorem dat_three {a p : Addr} {i j : Int} {l : List Int} (ha : H a = some (.lst [.int i, .int j, .ref p])) (hp : H p = some (.tup (l.map V.int))) : DatV K H (.ref a) (.list [.int i, .int j, .tuple (l.map PyData.int)]) :=
  .lst (SqL.of ha) (.cons (.int _) (.cons (.int _) (.cons (.tup (SqT.of hp) (dat_ints l)) .nil)))
theorem fit_three {i j : Int} {l : List Int} (h1 : 0 ≤ i) (h2 : i ≤ 10 ^ 28) (h3 : 0 ≤ j) (h4 : j ≤ 10 ^ 28) (hl : l.length ≤ 100) (h : ∀ i ∈ l, 0 ≤ i ∧ i ≤ 10 ^ 28) : Fit 200000 2 (.list [.int i, .int j, .tuple (l.map PyData.int)]) := by
  refine (fit_list (m := 40000) (k := 1) fun d hd => ?_).mono (show 3 * (40000 + 2) + 3 ≤ 200000 by decide) (by decide)
  simp only [List.mem_cons, List.not_mem_nil, or_false] at hd
  rcases hd with rfl | rfl | rfl
  · exact (fit_num h1 h2).mono (by decide) (by decide)
  · exact (fit_num h3 h4).mono (by decide) (by decide)
  · exact fit_ints hl h
end
/-- the ends lie between -/
theorem ends_bd {R : List Run} (h : Runs R) : ∀ e ∈ ends R 0, 0 ≤ e ∧ e ≤ 4 * 10 ^ 14 := by
  have : ∀ (R : List Run) (a : Int), 0 ≤ a → (∀ r ∈ R, 0 ≤ r.2) → ∀ e ∈ ends R a, 0 ≤ e ∧ e ≤ a + hrs R := by
    intro R
    induction R with
    | nil => intro a _ _ e he; cases he
    | cons r R ih =>
      intro a ha hr e he
      have h1 := hr r List.mem_cons_self
      have tl : ∀ q ∈ R, 0 ≤ q.2 := fun q hq => hr q (List.mem_cons_of_mem _ hq)
      have p : 0 ≤ hrs R := by rw [← lay_len tl]; omega
      have e1 : hrs (r :: R) = r.2 + hrs R := by unfold hrs; rw [List.map_cons, List.sum_cons]
      rcases List.mem_cons.mp he with z | z
      · omega
      · have := ih (a + r.2) (by omega) tl e z
        omega
  intro e he
  have := this R 0 (Int.le_refl _) h.nn e he
  have := (hrs_bd h).2
  omega
theorem laid_at {R : List Run} {hour : Int} (nn : ∀ r ∈ R, 0 ≤ r.2) (hs : hrs R ≤ 200) (h0 : 0 ≤ hour) : (lay R ++ List.replicate 300 0)[(mn hour 250).toNat]? = some (stp R (hour + 1)) := by
  have ll := lay_len nn
  have e1 : ((hour.toNat : Nat) : Int) = hour := by omega
  have e2 := lay_at (n := hour.toNat) nn
  rw [e1] at e2
  rw [← e2]
  by_cases c : hour ≤ 250
  · rw [mn_le c]
    by_cases d : hour.toNat < (lay R).length
    · rw [List.getElem?_append_left d, List.getElem?_eq_getElem d]
      rfl
    · rw [List.getElem?_append_right (by omega), List.getElem?_replicate, if_pos (by omega), List.getElem?_eq_none (by omega)]
      rfl
  · rw [mn_ge (show (250 : Int) ≤ hour by omega), List.getElem?_append_right (by omega), List.getElem?_replicate, if_pos (by omega), List.getElem?_eq_none (by omega)]
    rfl
end Y

namespace Y
open PySem PySem.Spec PyProof.Rows L2 Ns
open C8 (pss_cut)
structure DR (P : Program) (w : World) (K : PySem.W.Frag) (mg : Str → Option Value) (base : Heap) (fB fT fRw fSM fWO fHO fEO fLd fRI fSI fLR fA : Addr) (dB dT dRw dSM dWO dHO dEO dLd dRI dSI dLR dA : FuncData) : Prop where
  B : Fun K "_law_bag" "_law_bag" sBag fB dB
  mB : mg "_law_bag" = some (.ref fB)
  bB : Binds K dB ["script"] []
  T : Fun K "_law_take" "_law_take" sTake fT dT
  mT : mg "_law_take" = some (.ref fT)
  bT : Binds K dT ["bag", "many"] []
  Rw : Fun K "_law_some_row" "_law_some_row" sSomeRow fRw dRw
  mRw : mg "_law_some_row" = some (.ref fRw)
  bRw : Binds K dRw ["bag"] []
  gRw : FnOk P w K mg base CX0 3 fRw dRw ["bag"] (spRow K)
  SM : Fun K "_law_steps_many" "_law_steps_many" sStepsMany fSM dSM
  mSM : mg "_law_steps_many" = some (.ref fSM)
  bSM : Binds K dSM ["row"] []
  WO : Fun K "whole_of" "whole_of" sWholeOf fWO dWO
  mWO : mg "whole_of" = some (.ref fWO)
  bWO : Binds K dWO ["stairs"] []
  HO : Fun K "hours_of" "hours_of" sHoursOf fHO dHO
  mHO : mg "hours_of" = some (.ref fHO)
  bHO : Binds K dHO ["stairs"] []
  EO : Fun K "ends_of" "ends_of" sEndsOf fEO dEO
  mEO : mg "ends_of" = some (.ref fEO)
  bEO : Binds K dEO ["stairs"] []
  Ld : Fun K "_law_laid" "_law_laid" sLaid fLd dLd
  mLd : mg "_law_laid" = some (.ref fLd)
  bLd : Binds K dLd ["row"] []
  RI : Fun K "reach_in" "reach_in" sReachIn fRI dRI
  mRI : mg "reach_in" = some (.ref fRI)
  bRI : Binds K dRI ["stairs", "h"] []
  SI : Fun K "step_in" "step_in" sStepIn fSI dSI
  mSI : mg "step_in" = some (.ref fSI)
  bSI : Binds K dSI ["stairs", "h"] []
  LR : Fun K "_law_row_reach" "_law_row_reach" sRowReach fLR dLR
  mLR : mg "_law_row_reach" = some (.ref fLR)
  bLR : Binds K dLR ["row", "hours"] []
  A : Fun K "_law_alike" "_law_alike" sAlike fA dA
  mA : mg "_law_alike" = some (.ref fA)
  bA : Binds K dA ["found", "due"] []
section
variable {P : Program} {w : World} {K : PySem.W.Frag} {mg : Str → Option Value} {base : Heap} {fB fT fRw fSM fWO fHO fEO fLd fRI fSI fLR fA : Addr} {dB dT dRw dSM dWO dHO dEO dLd dRI dSI dLR dA : FuncData}
theorem scL : FnScope ["script", "bag", "turn", "row", "many", "ends", "step", "times", "due", "laid", "hour", "told", "end"] ["script"] (defScope sLaw) := ⟨rfl, rfl, rfl, by decide +kernel, rfl, by decide +kernel, by decide +kernel⟩
set_option maxHeartbeats 16000000 in
theorem ok_law {f : Addr} {fd : FuncData} (F : Fun K "law" "law" sLaw f fd) (T : Nat0 mg) (L : DR P w K mg base fB fT fRw fSM fWO fHO fEO fLd fRI fSI fLR fA dB dT dRw dSM dWO dHO dEO dLd dRI dSI dLR dA) :
    GnOk P w K mg base 4 f fd ["script"] (spTop K) := by
  have gB : FnOk P w K mg base CX0 1 fB dB ["script"] (spBag K) := ok_bag L.B T
  have gT : FnOk P w K mg base CX0 1 fT dT ["bag", "many"] spTake := ok_take L.T T
  have gSM : FnOk P w K mg base CX0 1 fSM dSM ["row"] (spR1 K hrs) := ok_stepsMany L.SM T
  have gWO : FnOk P w K mg base CX0 1 fWO dWO ["stairs"] (spR1 K whl) := ok_wholeOf L.WO T
  have gHO : FnOk P w K mg base CX0 1 fHO dHO ["stairs"] (spR1 K hrs) := ok_hoursOf L.HO T
  have gEO : FnOk P w K mg base CX0 1 fEO dEO ["stairs"] (spEnds K) := ok_endsOf L.EO T
  have gLd : FnOk P w K mg base CX0 1 fLd dLd ["row"] (spLaid K) := ok_laid L.Ld T
  have gRI : FnOk P w K mg base CX0 1 fRI dRI ["stairs", "h"] (spRI K rch) := ok_reachIn L.RI T
  have gSI : FnOk P w K mg base CX0 1 fSI dSI ["stairs", "h"] (spRI K stp) := ok_stepIn L.SI
  have gLR : FnOk P w K mg base CX0 1 fLR dLR ["row", "hours"] (spRI K lrch) := ok_rowReach L.LR T
  have gA : GnOk P w K mg base 1 fA dA ["found", "due"] (spAlike K) := ok_alike L.A T
  refine Fun.okG F scL (fun as H Q E h => ?_) (fun cdv A outer s H as Q E hr hgd h => ?_)
  · obtain ⟨a, ns, rfl, _⟩ := h
    rfl
  · obtain ⟨a, ns, rfl, hS, hl, k⟩ := h
    have hr1 : Room 1 _ := hr.mono (by decide)
    have hun := hr.units
    refine ⟨_, pss_cons (ps_set (i := 1) scL.nd rfl (.inl rfl) (pe_call gB hr1 rfl L.mB L.B.kp L.bB .nil pass0 (pa_cons (pv 0) pa_nil)))
      (pss_cons (ps_for PassesOwn.never rfl (pi_range1 (by rfl) T.range (pa_cons pe_int pa_nil)) (pg_name (i := 2) scL.nd rfl (.inl rfl))
        (pss_cons (ps_set (i := 3) scL.nd rfl (.inl rfl) (pe_call L.gRw hr rfl L.mRw L.Rw.kp L.bRw .nil pass0 (pa_cons (pv 1) pa_nil)))
        (pss_cons (ps_par (i := 4) (j := 5) rfl scL.nd rfl rfl (by decide) rfl rfl (pa_cons (pe_call gSM hr1 rfl L.mSM L.SM.kp L.bSM .nil pass0 (pa_cons (pv 3) pa_nil)) (pa_cons (pe_lst pa_nil) pa_nil)) (by rfl))
        (pss_cons (ps_for PassesOwn.never rfl (pi_tup (pv 3)) (pg_tup rfl (pgs_cons (pg_name (i := 6) scL.nd rfl (.inl rfl)) (pgs_cons (pg_name (i := 7) scL.nd rfl (.inl rfl)) pgs_nil)))
          (pss_one (ps_expr (pe_bm PySem.F.plainAttrs_list PySem.F.slot_list_append PySem.F.type_list_append mt_append (pv 5) (pa_cons (pe_op op_add (pv 7)
            (pe_ifExp (pt_cmpR (op_neD hun) (pv 5) (pe_lst pa_nil) (nomark _)) (pe_ix ix_list (pv 5) (pe_un un_neg pe_int) (fun _ _ => rfl)) pe_int)) pa_nil)))))
        (pss_cons (ps_set (i := 8) scL.nd rfl (.inl rfl) (pe_lst (pa_cons (pe_callB (cr_sum rfl) (by rfl) T.sum (by decide +kernel) (pa_cons (pe_lc (own := [("step", 6), ("times", 7)]) (g := gTup K 2 (gCons (gName 6) (gCons (gName 7) gNil))) (tt := tYes) rfl scL.nd (pi_tup (pv 3))
            (blkOk_by (N := ["script", "bag", "turn", "row", "many", "ends", "step", "times", "due", "laid", "hour", "told", "end"]) (sc := defScope sLaw) (by decide +kernel)) (fun _ _ _ _ _ => pg_tup rfl (pgs_cons (pg_name (i := 6) scL.nd rfl (Or.inl rfl)) (pgs_cons (pg_name (i := 7) scL.nd rfl (Or.inl rfl)) pgs_nil)))
            (fun _ _ _ _ _ => pts_nil) (fun _ _ _ _ _ => pe_op op_mul (pv 6) (pv 7))) pa_nil))
          (pa_cons (pv 4) (pa_cons (pe_callTy call_tuple_of (by rfl) T.tuple (by decide +kernel) (pa_cons (pv 5) pa_nil)) pa_nil)))))
        (pss_cons (ps_if (pt_not (pt_val (pe_callG gA hr1 hgd rfl L.mA L.A.kp L.bA (pa_cons (pe_lst (pa_cons (pe_call gWO hr1 rfl L.mWO L.WO.kp L.bWO .nil pass0 (pa_cons (pv 3) pa_nil))
            (pa_cons (pe_call gHO hr1 rfl L.mHO L.HO.kp L.bHO .nil pass0 (pa_cons (pv 3) pa_nil)) (pa_cons (pe_call gEO hr1 rfl L.mEO L.EO.kp L.bEO .nil pass0 (pa_cons (pv 3) pa_nil)) pa_nil)))) (pa_cons (pv 8) pa_nil))))) (pss_one (ps_ret pe_bl)) pss_nil)
        (pss_cons (ps_set (i := 9) scL.nd rfl (.inl rfl) (pe_call gLd hr1 rfl L.mLd L.Ld.kp L.bLd .nil pass0 (pa_cons (pv 3) pa_nil)))
        (pss_one (ps_for PassesOwn.never rfl (pi_list (pe_op op_cat (pe_op op_cat (pe_lst (pa_cons pe_int (pa_cons pe_int (pa_cons pe_int (pa_cons (pv 4) (pa_cons (pe_op op_add (pv 4) pe_int) (pa_cons (pe_op op_sub (pe_op op_pow pe_int pe_int) pe_int)
            (pa_cons (pe_call gT hr1 rfl L.mT L.T.kp L.bT .nil pass0 (pa_cons (pv 1) (pa_cons (pe_op op_add (pv 4) pe_int) pa_nil))) pa_nil)))))))) (pv 5))
            (pe_lc (own := [("end", 12)]) (g := gName 12) (tt := tYes) rfl scL.nd (pi_list (pv 5)) (blkOk_by (N := ["script", "bag", "turn", "row", "many", "ends", "step", "times", "due", "laid", "hour", "told", "end"]) (sc := defScope sLaw) (by decide +kernel))
              (fun _ _ _ _ _ => pg_name (i := 12) scL.nd rfl (Or.inl rfl)) (fun _ _ _ _ _ => pts_nil) (fun _ _ _ _ _ => pe_op op_add (pv 12) pe_int)))) (pg_name (i := 10) scL.nd rfl (.inl rfl))
          (pss_cons (ps_set (i := 11) scL.nd rfl (.inl rfl) (pe_lst (pa_cons (pe_call gRI hr1 rfl L.mRI L.RI.kp L.bRI .nil pass0 (pa_cons (pv 3) (pa_cons (pv 10) pa_nil))) (pa_cons (pe_call gSI hr1 rfl L.mSI L.SI.kp L.bSI .nil pass0 (pa_cons (pv 3) (pa_cons (pe_op op_add (pv 10) pe_int) pa_nil))) pa_nil))))
          (pss_cons (ps_if (pt_not (pt_val (pe_callG gA hr1 hgd rfl L.mA L.A.kp L.bA (pa_cons (pv 11) (pa_cons (pe_lst (pa_cons (pe_call gLR hr1 rfl L.mLR L.LR.kp L.bLR .nil pass0 (pa_cons (pv 3) (pa_cons (pv 10) pa_nil)))
              (pa_cons (pe_op op_sub (pe_call gLR hr1 rfl L.mLR L.LR.kp L.bLR .nil pass0 (pa_cons (pv 3) (pa_cons (pe_op op_add (pv 10) pe_int) pa_nil))) (pe_call gLR hr1 rfl L.mLR L.LR.kp L.bLR .nil pass0 (pa_cons (pv 3) (pa_cons (pv 10) pa_nil)))) pa_nil))) pa_nil))))) (pss_one (ps_ret pe_bl)) pss_nil)
          (pss_one (ps_if (PW.pt (pw_and (pt_cmpR op_le (pv 4) pe_int (nomark _)) (pw_and1 (pt_not (pt_val (pe_callG gA hr1 hgd rfl L.mA L.A.kp L.bA (pa_cons (pv 11) (pa_cons (pe_lst (pa_cons (pe_callB (cr_sum rfl) (by rfl) T.sum (by decide +kernel) (pa_cons (pe_slice sl_list (pv 9) po_none (po_some (pv 10))) pa_nil))
              (pa_cons (pe_ix ix_list (pe_op op_cat (pv 9) (pe_op op_rep (pe_lst (pa_cons pe_int pa_nil)) pe_int)) (pe_callB (call_min2 rfl) (by rfl) T.min (by decide +kernel) (pa_cons (pv 10) (pa_cons pe_int pa_nil))) (fun _ _ => rfl)) pa_nil))) pa_nil)))))))) (pss_one (ps_ret pe_bl)) pss_nil)))))))))))))
      (pss_one (ps_ret pe_bl))), ?_⟩
    refine ⟨_, rfl, a, ns, rfl, hS, hl, fun b H1 hB1 _ _ => ?_⟩
    refine ⟨5, rfl, by decide, by decide, for_range (n := 5) (fun i σ H' => ∃ v2 v3 v4 v5 v6 v7 v8 v9 v10 v11 : Option V, σ = [some (.ref a), some (.ref b), v2, v3, v4, v5, v6, v7, v8, v9, v10, v11, none] ∧ Bag H' b) ?_ ?_ ?_⟩
    · exact ⟨none, none, none, none, none, none, none, none, none, none, rfl, hB1⟩
    · clear hB1
      rintro i σ H0 hi ⟨v2, v3, v4, v5, v6, v7, v8, v9, v10, v11, rfl, hB⟩
      refine ⟨_, rfl, b, rfl, hB, fun t R H1 hR hpw hV b1 s1 => ?_⟩
      have hb : ∀ r ∈ R, -(2 ^ 64) < r.1 ∧ r.1 < 2 ^ 64 := fun r hr => by
        obtain ⟨h1, h2, _⟩ := hR.2 r hr
        omega
      have rl := hR.1
      have nn := hR.nn
      have VH : RowV K H1 (.ref t) R := hV.more (wo_sub H1 b)
      refine ⟨_, rfl, .ref t, R, rfl, VH, hb, by omega, fun H2 m2 => ⟨by show 0 ≤ sizeLine; decide, fun e he => ⟨_, _, rfl, ?_⟩⟩⟩
      have neb := (b1.keep m2).ne he
      have VH2 := VH.more m2
      obtain ⟨t', xs, et, w1, w2⟩ := id VH2
      injection et with et
      subst et
      have lx := paired_len w2
      have m0 : Same H2 (upd H2 e (.lst [])) := same_new (Same.refl H2) he
      refine ⟨_, rfl, t, rfl, ⟨_, sqt_more m0 w1⟩, ?_⟩
      refine for_tup (K := K) (a := t) (xs := xs) (fun j σ H' => ∃ v6 v7 : Option V, σ = [some (.ref a), some (.ref b), some (.int (0 + (i : Int))), some (.ref t), some (.int (hrs R)), some (.ref e), v6, v7, v8, v9, v10, v11, none] ∧ H' e = some (.lst ((ends (R.take j) 0).map V.int)) ∧ Same H2 H') ?_ ?_ ?_ ?_
      · exact ⟨v6, v7, rfl, by rw [List.take_zero, upd_same]; rfl, m0⟩
      · rintro j σ H' _ ⟨_, _, _, _, m⟩
        exact sqt_more m w1
      · rintro j z σ H' hz ⟨v6, v7, rfl, q1, q2⟩
        obtain ⟨r, hr, q, rfl, hq⟩ := paired_at w2 hz
        have hj : j < R.length := (List.getElem?_eq_some_iff.mp hr).1
        refine ⟨q, _, rfl, sqt_more q2 hq, rfl, _, _, rfl, _, _, rfl, rfl, ?_⟩
        have e1 := hrs_take hr
        have e2 := ends_take (a := 0) hr
        rw [Int.zero_add, e1] at e2
        have sl : ((ends (R.take j) 0).map V.int).length < sizeLine := by
          rw [List.length_map, ends_len, List.length_take]
          exact small1000 (by omega)
        have lastV : (ends (R.take j) 0 = [] ∧ hrs (R.take j) = 0) ∨ ∃ c fl ys, ends (R.take j) 0 = c :: fl ∧ c :: fl = ys ++ [hrs (R.take j)] := by
          by_cases h0 : R.take j = []
          · rw [h0]
            exact .inl ⟨rfl, rfl⟩
          · have g := ends_last (a := 0) h0
            rw [Int.zero_add] at g
            obtain ⟨ys, ey⟩ := List.getLast?_eq_some_iff.mp g
            cases hc : ends (R.take j) 0 with
            | nil => rw [hc] at ey; cases ys <;> cases ey
            | cons c fl => exact .inr ⟨c, fl, ys, rfl, by rw [← hc]; exact ey⟩
        rcases lastV with ⟨h0, h1⟩ | ⟨c, fl, ys, h0, h1⟩
        · rw [h0] at q1 sl e2
          refine ⟨_, rfl, .inl ⟨rfl, _, SqL.of q1⟩, _, rfl, _, rfl, by show 0 ≤ sizeLine; decide, fun z hz => ⟨.list [], .list [], .lst (SqL.of (s3u hz q1)) .nil, .lst (SqL.of upd_same) .nil, by decide +kernel, by decide +kernel, _, rfl, ?_⟩⟩
          refine ite2 (fun h => absurd h (by decide)) (fun _ => ?_)
          refine ⟨r.2, 0, rfl, rfl, e, _, _, rfl, rfl, s3u hz q1, sl, _, _, rfl, ?_, same_put (same_new q2 hz) he⟩
          rw [upd_same, e2, h1]
          show _ = some (HO.lst [V.int (0 + r.2)])
          rw [show 0 + r.2 = r.2 + 0 by omega]
          rfl
        · rw [h0] at q1 sl e2
          refine ⟨_, rfl, .inl ⟨rfl, _, SqL.of q1⟩, _, rfl, _, rfl, by show 0 ≤ sizeLine; decide, fun z hz => ⟨.list ((c :: fl).map PyData.int), .list [], .lst (SqL.of (s3u hz q1)) (dp_ints _), .lst (SqL.of upd_same) .nil, shaped_ints _, by decide +kernel, _, rfl, ?_⟩⟩
          refine ite2 (fun _ => ?_) (fun h => absurd rfl h)
          refine ⟨_, rfl, 1, rfl, e, _, -1, .int (hrs (R.take j)), rfl, rfl, SqL.of (s3u hz q1), by rw [h1, List.map_append]; exact atI_last _ _, r.2, _, rfl, rfl, e, _, _, rfl, rfl, s3u hz q1, sl, _, _, rfl, ?_, same_put (same_new q2 hz) he⟩
          rw [upd_same, e2, show hrs (R.take j) + r.2 = r.2 + hrs (R.take j) by omega, List.map_append]
          rfl
      rintro σ H3 ⟨v6, v7, rfl, q1, m3⟩
      rw [lx, List.take_length] at q1
      -- due
      refine ⟨_, rfl, t, rfl, ⟨_, sqt_more m3 w1⟩, fun D hD => ?_⟩
      refine lc_tup (K := K) (a := t) (xs := xs) (fun j H' => H' D = some (.lst (((R.take j).map fun r => r.1 * r.2).map V.int)) ∧ Same H3 H') ?_ ?_ ?_ ?_
      · exact ⟨by rw [List.take_zero, upd_same]; rfl, same_new (Same.refl H3) hD⟩
      · rintro j H' _ ⟨_, m⟩
        exact sqt_more (m3.trans m) w1
      · rintro j z H' hz ⟨p1, p2⟩
        obtain ⟨r, hr, q, rfl, hq⟩ := paired_at w2 hz
        refine ⟨q, _, rfl, sqt_more (m3.trans p2) hq, rfl, _, _, rfl, _, _, rfl, rfl, ?_⟩
        refine ⟨rfl, _, rfl, _, rfl, r.1, r.2, rfl, rfl, .inl (hb r (List.mem_of_getElem? hr)), _, p1, ?_, ?_, same_put p2 hD⟩
        · rw [List.length_map, List.length_map, List.length_take]
          exact small1000 (by omega)
        · rw [upd_same, List.take_succ, hr]
          simp
      rintro H4 ⟨p1, m4⟩
      rw [lx, List.take_length] at p1
      refine ⟨D, _, rfl, SqL.of p1, _, rfl, _, rfl, e, _, rfl, .inl ⟨SqL.of (m4 _ _ q1), fun te hte => ⟨by show 3 ≤ sizeLine; decide, fun du hdu => ?_⟩⟩⟩
      have m5 := same_new (o := .lst [.int (whl R), .int (hrs R), .ref te]) (same_new (o := .tup ((ends R 0).map V.int)) (m3.trans m4) hte) hdu
      have d1 : upd (upd H4 te (.tup ((ends R 0).map V.int))) du (.lst [.int (whl R), .int (hrs R), .ref te]) du = some (.lst [.int (whl R), .int (hrs R), .ref te]) := upd_same
      have d2 := s3u (o := .lst [.int (whl R), .int (hrs R), .ref te]) hdu (upd_same (H := H4) (a := te) (o := .tup ((ends R 0).map V.int)))
      have d3 := s3u (o := .lst [.int (whl R), .int (hrs R), .ref te]) hdu (s3u (o := .tup ((ends R 0).map V.int)) hte (m4 _ _ q1))
      rw [show (List.map (fun r : Run => r.1 * r.2) R).sum = whl R from rfl]
      generalize upd (upd H4 te (.tup ((ends R 0).map V.int))) du (.lst [.int (whl R), .int (hrs R), .ref te]) = H5 at m5 d1 d2 d3 ⊢
      clear hte hdu p1 m4 hD q1 m3 m0 he
      have V5 := VH2.more m5
      have wb := whl_bd hR
      have hbd := hrs_bd hR
      have ebd := ends_bd hR
      have el : (ends R 0).length = R.length := ends_len R 0
      refine ⟨_, rfl, .ref t, R, rfl, V5, hb, by omega, fun H6 m6 => ⟨_, rfl, .ref t, R, rfl, V5.more m6, hb, by omega, fun H7 m7 => ⟨_, rfl, .ref t, R, rfl, (V5.more m6).more m7, by omega, fun p8 H8 e8 f8 m8 => ⟨by show 3 ≤ sizeLine; decide, fun to hto => ?_⟩⟩⟩⟩
      have m68 := (m6.trans m7).trans m8
      have m9 := same_new (o := .lst [.int (whl R), .int (hrs R), .ref p8]) m68 hto
      have t1 : upd H8 to (.lst [.int (whl R), .int (hrs R), .ref p8]) to = some (.lst [.int (whl R), .int (hrs R), .ref p8]) := upd_same
      have t2 := s3u (o := .lst [.int (whl R), .int (hrs R), .ref p8]) hto e8
      generalize upd H8 to (.lst [.int (whl R), .int (hrs R), .ref p8]) = H9 at m9 t1 t2 ⊢
      have fit := fit_three (i := whl R) (j := hrs R) (l := ends R 0) (by omega) (by omega) (by omega) (by omega) (by omega) fun z hz => by
        have := ebd z hz
        omega
      refine ⟨_, rfl, .ref to, .ref du, .list [.int (whl R), .int (hrs R), .tuple ((ends R 0).map PyData.int)], rfl, .inr ⟨4, by decide, eq_three t1 (m9 _ _ d1) t2 (m9 _ _ d2)⟩, dat_three t1 t2, dat_three (m9 _ _ d1) (m9 _ _ d2), ?_⟩
      refine ⟨fit.1, Nat.le_trans fit.2.1 (big_ok (by decide)), Nat.le_trans fit.2.2 (by decide), ?_⟩
      refine ⟨_, rfl, ?_⟩
      refine ite2 (fun h => by cases h) (fun _ => ?_)
      clear t1 t2 hto e8 f8 m68 m6 m7 m8
      have V9 := V5.more m9
      -- laid out
      refine ⟨_, rfl, .ref t, R, rfl, V9, hR, fun ld H10 e10 f10 m10 => ?_⟩
      have m210 := (m5.trans m9).trans m10
      have b10 : Bag H10 b := (b1.keep m2).keep m210
      have en10 : H10 e = some (.lst ((ends R 0).map V.int)) := m10 _ _ (m9 _ _ d3)
      have nld : ld ≠ b := ((b1.keep m2).keep (m5.trans m9)).ne f10
      have Vb10 : RowV K (wo H10 b) (.ref t) R := hV.more (wo_same (m2.trans m210))
      clear d1 d2 d3 m9 m10 V9 V5 m5 f10
      -- the hours
      refine ⟨_, rfl, _, rfl, _, _, rfl, rfl, 10, 15, rfl, rfl, ⟨by decide, by decide, by decide⟩, _, _, rfl, rfl, _, rfl, _, rfl, _, _, rfl, rfl, b, _, rfl, b10, by omega, ?_, fun v H11 v0 v1 b11 s11 => ⟨by show 7 ≤ sizeLine; decide, fun q hq => ?_⟩⟩
      · exact Nat.lt_of_le_of_lt (show (hrs R + 3).natAbs ≤ 10 ^ 15 by omega) (by decide)
      have z7 : ∀ z ∈ [0, 1, 2, hrs R, hrs R + 1, 10 ^ (15 : Int).toNat - 2, v], 0 ≤ z := fun z hz => by
        simp only [List.mem_cons, List.not_mem_nil, or_false] at hz
        have : (0 : Int) ≤ 10 ^ (15 : Int).toNat - 2 := by decide
        rcases hz with rfl | rfl | rfl | rfl | rfl | rfl | rfl <;> first | omega | assumption
      have e7 : [V.int 0, V.int 1, V.int 2, V.int (hrs R), V.int (hrs R + 1), V.int (10 ^ (15 : Int).toNat - 2), V.int v] = [0, 1, 2, hrs R, hrs R + 1, 10 ^ (15 : Int).toNat - 2, v].map V.int := rfl
      have l7 : [0, 1, 2, hrs R, hrs R + 1, 10 ^ (15 : Int).toNat - 2, v].length = 7 := rfl
      generalize [0, 1, 2, hrs R, hrs R + 1, 10 ^ (15 : Int).toNat - 2, v] = L7 at z7 e7 l7
      rw [e7]
      have el2 : ((ends R 0).map fun z => z + 1).length = R.length := by rw [List.length_map, el]
      refine ⟨_, rfl, q, e, L7.map V.int, (ends R 0).map V.int, rfl, rfl, upd_same, s3u hq (s11.get en10 neb), ?_, fun u hu => ?_⟩
      · rw [List.length_map, List.length_map]
        exact Nat.le_of_lt (small1000 (by omega))
      have mA := same_new (o := .lst (L7.map V.int ++ (ends R 0).map V.int)) (same_new (o := .lst (L7.map V.int)) (Same.refl H11) hq) hu
      have uA : upd (upd H11 q (.lst (L7.map V.int))) u (.lst (L7.map V.int ++ (ends R 0).map V.int)) u = some (.lst (L7.map V.int ++ (ends R 0).map V.int)) := upd_same
      generalize upd (upd H11 q (.lst (L7.map V.int))) u (.lst (L7.map V.int ++ (ends R 0).map V.int)) = HA at mA uA ⊢
      have enA : HA e = some (.lst ((ends R 0).map V.int)) := mA _ _ (s11.get en10 neb)
      refine ⟨_, rfl, e, rfl, ⟨_, SqL.of enA⟩, fun D hD => ?_⟩
      refine lc_list (K := K) (a := e) (xs := (ends R 0).map V.int) (fun j H' => H' D = some (.lst ((((ends R 0).take j).map fun z => z + 1).map V.int)) ∧ Same HA H') ?_ ?_ ?_ ?_
      · exact ⟨by rw [List.take_zero, upd_same]; rfl, same_new (Same.refl HA) hD⟩
      · rintro j H' _ ⟨_, m⟩
        exact SqL.of (m _ _ enA)
      · rintro j x H' hx ⟨p1, p2⟩
        obtain ⟨z, hz, rfl⟩ := ints_at hx
        refine ⟨rfl, _, rfl, z, 1, rfl, rfl, _, p1, ?_, ?_, same_put p2 hD⟩
        · rw [List.length_map, List.length_map, List.length_take]
          exact small1000 (by omega)
        · rw [upd_same, List.take_succ, hz]
          simp
      rintro H12 ⟨p1, p2⟩
      rw [List.length_map, List.take_length] at p1
      refine ⟨u, D, L7.map V.int ++ (ends R 0).map V.int, ((ends R 0).map fun z => z + 1).map V.int, rfl, rfl, p2 _ _ uA, p1, ?_, fun hl hhl => ⟨hl, rfl, ⟨_, SqL.of upd_same⟩, ?_⟩⟩
      · rw [List.length_append, List.length_map, List.length_map, List.length_map]
        exact Nat.le_of_lt (small1000 (by omega))
      have ehs : (L7.map V.int ++ (ends R 0).map V.int) ++ ((ends R 0).map fun z => z + 1).map V.int = ((L7 ++ ends R 0) ++ (ends R 0).map fun z => z + 1).map V.int := by rw [List.map_append, List.map_append]
      have pos : ∀ z ∈ (L7 ++ ends R 0) ++ (ends R 0).map fun z => z + 1, 0 ≤ z := fun z hz => by
        rcases List.mem_append.mp hz with h | h
        · rcases List.mem_append.mp h with h | h
          · exact z7 z h
          · exact (ebd z h).1
        · obtain ⟨y, hy, rfl⟩ := List.mem_map.mp h
          have := (ebd y hy).1
          omega
      have mL := (mA.trans p2).trans (same_new (o := .lst ((L7.map V.int ++ (ends R 0).map V.int) ++ ((ends R 0).map fun z => z + 1).map V.int)) (Same.refl H12) hhl)
      have gl : upd H12 hl (.lst ((L7.map V.int ++ (ends R 0).map V.int) ++ ((ends R 0).map fun z => z + 1).map V.int)) hl = some (.lst (((L7 ++ ends R 0) ++ (ends R 0).map fun z => z + 1).map V.int)) := by rw [upd_same, ehs]
      generalize upd H12 hl (.lst ((L7.map V.int ++ (ends R 0).map V.int) ++ ((ends R 0).map fun z => z + 1).map V.int)) = HL at mL gl ⊢
      generalize ((L7 ++ ends R 0) ++ (ends R 0).map fun z => z + 1) = hs at pos gl
      have VL : RowV K HL (.ref t) R := ((Vb10.more s11.1).more (wo_sub H11 b)).more mL
      have ldL : HL ld = some (.lst (((laid R).take 200).map V.int)) := mL _ _ (s11.get e10 nld)
      have bL : Bag HL b := b11.keep mL
      clear p1 p2 hhl hD enA uA mA hu hq e7 z7 en10 e10 b10 s11 Vb10 m210
      refine for_list (K := K) (a := hl) (xs := hs.map V.int) (fun j σ H' => ∃ v10 v11 : Option V, σ = [some (.ref a), some (.ref b), some (.int (0 + (i : Int))), some (.ref t), some (.int (hrs R)), some (.ref e), v6, v7, some (.ref du), some (.ref ld), v10, v11, none] ∧ Same HL H') ?_ ?_ ?_ ?_
      · exact ⟨v10, v11, rfl, Same.refl HL⟩
      · rintro j σ H' _ ⟨_, _, _, m⟩
        exact SqL.of (m _ _ gl)
      · rintro j x σ H' hx ⟨v10', v11', rfl, mm⟩
        obtain ⟨hour, hz, rfl⟩ := ints_at hx
        have h0 := pos hour (List.mem_of_getElem? hz)
        have Vm := VL.more mm
        have r1 := rch_bd hR.2 h0
        have r2 := stp_bd (h := hour + 1) hR.2
        have r3 : (R.length : Int) * 10 ^ 26 ≤ 4 * 10 ^ 26 := Int.mul_le_mul_of_nonneg_right (by omega) (by decide)
        have e1 := rch_eq nn h0
        have e2 := stp_eq nn h0
        refine ⟨_, rfl, _, rfl, .ref t, hour, R, rfl, Vm, hb, _, rfl, _, rfl, _, _, rfl, rfl, .ref t, hour + 1, R, rfl, Vm, hb, by show 2 ≤ sizeLine; decide, fun to hto => ?_⟩
        have m1 := same_new (o := .lst [.int (rch R hour), .int (stp R (hour + 1))]) mm hto
        have t1 : upd H' to (.lst [.int (rch R hour), .int (stp R (hour + 1))]) to = some (.lst [.int (rch R hour), .int (stp R (hour + 1))]) := upd_same
        generalize upd H' to (.lst [.int (rch R hour), .int (stp R (hour + 1))]) = Ha at m1 t1 ⊢
        have Va := VL.more m1
        have fit := fit_two (i := rch R hour) (j := stp R (hour + 1)) (by omega) (by omega) (by omega) (by omega)
        have f1 := fit.1
        have f2 := Nat.le_trans fit.2.1 (big_ok (n := 1000) (by decide))
        have f3 : (PyData.list [.int (rch R hour), .int (stp R (hour + 1))]).depth ≤ 60 := Nat.le_trans fit.2.2 (by decide)
        refine ⟨_, rfl, _, rfl, _, rfl, .ref t, hour, R, rfl, Va, hb, _, rfl, _, rfl, _, _, rfl, rfl, .ref t, hour + 1, R, rfl, Va, hb, _, rfl, _, rfl, .ref t, hour, R, rfl, Va, hb, _, _, rfl, rfl, by show 2 ≤ sizeLine; decide, fun du2 hdu2 => ?_⟩
        have m2 := same_new (o := .lst [.int (lrch R hour), .int (lrch R (hour + 1) - lrch R hour)]) m1 hdu2
        have d1 : upd Ha du2 (.lst [.int (lrch R hour), .int (lrch R (hour + 1) - lrch R hour)]) du2 = some (.lst [.int (rch R hour), .int (stp R (hour + 1))]) := by rw [upd_same, e2, e1]
        have t2 := s3u (o := .lst [.int (lrch R hour), .int (lrch R (hour + 1) - lrch R hour)]) hdu2 t1
        generalize upd Ha du2 (.lst [.int (lrch R hour), .int (lrch R (hour + 1) - lrch R hour)]) = Hb at m2 d1 t2 ⊢
        refine ⟨.ref to, .ref du2, .list [.int (rch R hour), .int (stp R (hour + 1))], rfl, .inr ⟨3, by decide, eq_two t2 d1⟩, dat_two t2, dat_two d1, ?_⟩
        refine ⟨f1, f2, f3, ?_⟩
        refine ⟨_, rfl, ?_⟩
        refine ite2 (fun h => by cases h) (fun _ => ?_)
        refine ⟨_, rfl, _, _, rfl, rfl, _, rfl, ?_⟩
        refine ite2 (fun h => ?_) (fun _ => ⟨_, _, rfl, m2⟩)
        have few : hrs R ≤ 200 := by simpa using h
        have elay : (laid R).take 200 = lay R := by
          have := lay_len nn
          rw [laid_eq nn few]
          exact List.take_of_length_le (by omega)
        have ll := lay_len nn
        have ld2 : Hb ld = some (.lst ((lay R).map V.int)) := by
          rw [← elay]
          exact m2 _ _ ldL
        refine ⟨_, rfl, _, rfl, _, rfl, hour, rfl, ld, _, rfl, SqL.of ld2, fun p hp => ?_⟩
        have ec : cutV ((lay R).map V.int) none (some hour) = ((lay R).take hour.toNat).map V.int := by
          rw [show hour = ((hour.toNat : Nat) : Int) by omega, cut_upto, List.map_take]
          rfl
        have es : ((lay R).take hour.toNat).sum = rch R hour := by
          rw [lay_sum nn, show ((hour.toNat : Nat) : Int) = hour by omega]
        rw [ec]
        have m3 := same_new (o := .lst (((lay R).take hour.toNat).map V.int)) m2 hp
        have ld3 := s3u (o := .lst (((lay R).take hour.toNat).map V.int)) hp ld2
        have t3 := s3u (o := .lst (((lay R).take hour.toNat).map V.int)) hp t2
        have p3 : upd Hb p (.lst (((lay R).take hour.toNat).map V.int)) p = some (.lst (((lay R).take hour.toNat).map V.int)) := upd_same
        generalize upd Hb p (.lst (((lay R).take hour.toNat).map V.int)) = Hc at m3 ld3 t3 p3 ⊢
        refine ⟨p, _, rfl, SqL.of p3, _, rfl, by show 1 ≤ sizeLine; decide, fun z hz' => ⟨z, 300, [.int 0], rfl, rfl, upd_same, by decide, by decide, by show 1 * 300 ≤ sizeLine; decide, fun y hy => ?_⟩⟩
        have m4 := same_new (o := .lst (List.replicate (300 : Int).toNat [V.int 0]).flatten) (same_new (o := .lst [.int 0]) m3 hz') hy
        have ld4 := s3u (o := .lst (List.replicate (300 : Int).toNat [V.int 0]).flatten) hy (s3u (o := .lst [.int 0]) hz' ld3)
        have t4 := s3u (o := .lst (List.replicate (300 : Int).toNat [V.int 0]).flatten) hy (s3u (o := .lst [.int 0]) hz' t3)
        have y4 : upd (upd Hc z (.lst [.int 0])) y (.lst (List.replicate (300 : Int).toNat [V.int 0]).flatten) y = some (.lst (List.replicate (300 : Int).toNat [V.int 0]).flatten) := upd_same
        have e300 : (List.replicate (300 : Int).toNat [V.int 0]).flatten = (List.replicate 300 (0 : Int)).map V.int := by rw [rep_one, List.map_replicate]; rfl
        rw [e300] at m4 ld4 t4 y4 ⊢
        generalize upd (upd Hc z (.lst [.int 0])) y (.lst ((List.replicate 300 (0 : Int)).map V.int)) = Hd at m4 ld4 t4 y4 ⊢
        refine ⟨ld, y, (lay R).map V.int, (List.replicate 300 (0 : Int)).map V.int, rfl, rfl, ld4, y4, ?_, fun x hx' => ?_⟩
        · rw [List.length_map, List.length_map, List.length_replicate]
          exact Nat.le_of_lt (small1000 (by omega))
        have m5 := same_new (o := .lst ((lay R).map V.int ++ (List.replicate 300 (0 : Int)).map V.int)) m4 hx'
        have t5 := s3u (o := .lst ((lay R).map V.int ++ (List.replicate 300 (0 : Int)).map V.int)) hx' t4
        have x5 : upd Hd x (.lst ((lay R).map V.int ++ (List.replicate 300 (0 : Int)).map V.int)) x = some (.lst ((lay R ++ List.replicate 300 0).map V.int)) := by rw [upd_same, List.map_append]
        generalize upd Hd x (.lst ((lay R).map V.int ++ (List.replicate 300 (0 : Int)).map V.int)) = He at m5 t5 x5 ⊢
        have at5 : atI ((lay R ++ List.replicate 300 0).map V.int) (mn hour 250) = some (.int (stp R (hour + 1))) := by
          have g := laid_at nn few h0
          have p0 : 0 ≤ mn hour 250 := by unfold mn; split <;> omega
          rw [show mn hour 250 = (((mn hour 250).toNat : Nat) : Int) by omega]
          exact atI_nat (by rw [List.getElem?_map, g]; rfl)
        refine ⟨_, rfl, hour, 250, rfl, x, _, mn hour 250, _, rfl, rfl, SqL.of x5, at5, by show 2 ≤ sizeLine; decide, fun du3 hdu3 => ?_⟩
        rw [es]
        have m6 := same_new (o := .lst [.int (rch R hour), .int (stp R (hour + 1))]) m5 hdu3
        have d6 : upd He du3 (.lst [.int (rch R hour), .int (stp R (hour + 1))]) du3 = some (.lst [.int (rch R hour), .int (stp R (hour + 1))]) := upd_same
        have t6 := s3u (o := .lst [.int (rch R hour), .int (stp R (hour + 1))]) hdu3 t5
        generalize upd He du3 (.lst [.int (rch R hour), .int (stp R (hour + 1))]) = Hf at m6 d6 t6 ⊢
        refine ⟨.ref to, .ref du3, .list [.int (rch R hour), .int (stp R (hour + 1))], rfl, .inr ⟨3, by decide, eq_two t6 d6⟩, dat_two t6, dat_two d6, ?_⟩
        refine ⟨f1, f2, f3, ?_⟩
        refine ⟨_, rfl, ?_⟩
        refine ite2 (fun h => by cases h) (fun _ => ?_)
        exact ⟨_, _, rfl, m6⟩
      · rintro σ H' ⟨v10', v11', rfl, mm⟩
        exact ⟨_, _, _, _, _, _, _, _, _, _, rfl, bL.keep mm⟩
    · rintro σ H' ⟨v2, v3, v4, v5, v6, v7, v8, v9, v10, v11, rfl, _⟩
      exact k H'
end
end Y

namespace Y
open PySem PySem.Spec PyProof.Rows L2 Ns
/-- the def's data -/
def fdOf {K : PySem.W.Frag} {x q : Str} {st : Stmt} {f : Addr} {fd : FuncData} (_ : Fun K x q st f fd) : FuncData := fd
set_option maxHeartbeats 4000000 in
theorem all_mk {l : PySem.W.OpenLaw} {w : World} {K : PySem.W.Frag} {h : Heap} {mg : Str → Option Value} {fa : Addr} (X : K.In h) (G : h.Ns mainGlobals mg) (hfa : mg "law" = some (.ref fa))
    {fRI fSI fWO fHO fEO fB fT fS fA fLR fSM fRw fLd fL : Addr}
    {oddRI andRI : Option Addr} {sldRI : Array (Option Value)} {ocdRI kVdRI dcdRI pmdRI cddRI ctdRI : Value}
    {oddSI andSI : Option Addr} {sldSI : Array (Option Value)} {ocdSI kVdSI dcdSI pmdSI cddSI ctdSI : Value}
    {oddWO andWO : Option Addr} {sldWO : Array (Option Value)} {ocdWO kVdWO dcdWO pmdWO cddWO ctdWO : Value}
    {oddHO andHO : Option Addr} {sldHO : Array (Option Value)} {ocdHO kVdHO dcdHO pmdHO cddHO ctdHO : Value}
    {oddEO andEO : Option Addr} {sldEO : Array (Option Value)} {ocdEO kVdEO dcdEO pmdEO cddEO ctdEO : Value}
    {oddB andB : Option Addr} {sldB : Array (Option Value)} {ocdB kVdB dcdB pmdB cddB ctdB : Value}
    {oddT andT : Option Addr} {sldT : Array (Option Value)} {ocdT kVdT dcdT pmdT cddT ctdT : Value}
    {oddS andS : Option Addr} {sldS : Array (Option Value)} {ocdS kVdS dcdS pmdS cddS ctdS : Value}
    {oddA andA : Option Addr} {sldA : Array (Option Value)} {ocdA kVdA dcdA pmdA cddA ctdA : Value}
    {oddLR andLR : Option Addr} {sldLR : Array (Option Value)} {ocdLR kVdLR dcdLR pmdLR cddLR ctdLR : Value}
    {oddSM andSM : Option Addr} {sldSM : Array (Option Value)} {ocdSM kVdSM dcdSM pmdSM cddSM ctdSM : Value}
    {oddRw andRw : Option Addr} {sldRw : Array (Option Value)} {ocdRw kVdRw dcdRw pmdRw cddRw ctdRw : Value}
    {oddLd andLd : Option Addr} {sldLd : Array (Option Value)} {ocdLd kVdLd dcdLd pmdLd cddLd ctdLd : Value}
    {oddL andL : Option Addr} {sldL : Array (Option Value)} {ocdL kVdL dcdL pmdL cddL ctdL : Value}
    (adRI : PySem.W.nsIn K mainGlobals "reach_in" = some (some (.ref fRI)))
    (ldRI : K.lookup fRI = some ⟨ocdRI, oddRI, .func (PySem.W.fnOf "reach_in" "reach_in" (defArgs sReachIn) (defBody sReachIn) (defScope sReachIn) .none kVdRI dcdRI pmdRI andRI cddRI ctdRI), sldRI⟩)
    (cdRI : PySem.W.codeIn K cddRI "reach_in" = true)
    (kdRI : PySem.W.keepIn K (.ref fRI) = true)
    (adSI : PySem.W.nsIn K mainGlobals "step_in" = some (some (.ref fSI)))
    (ldSI : K.lookup fSI = some ⟨ocdSI, oddSI, .func (PySem.W.fnOf "step_in" "step_in" (defArgs sStepIn) (defBody sStepIn) (defScope sStepIn) .none kVdSI dcdSI pmdSI andSI cddSI ctdSI), sldSI⟩)
    (cdSI : PySem.W.codeIn K cddSI "step_in" = true)
    (kdSI : PySem.W.keepIn K (.ref fSI) = true)
    (adWO : PySem.W.nsIn K mainGlobals "whole_of" = some (some (.ref fWO)))
    (ldWO : K.lookup fWO = some ⟨ocdWO, oddWO, .func (PySem.W.fnOf "whole_of" "whole_of" (defArgs sWholeOf) (defBody sWholeOf) (defScope sWholeOf) .none kVdWO dcdWO pmdWO andWO cddWO ctdWO), sldWO⟩)
    (cdWO : PySem.W.codeIn K cddWO "whole_of" = true)
    (kdWO : PySem.W.keepIn K (.ref fWO) = true)
    (adHO : PySem.W.nsIn K mainGlobals "hours_of" = some (some (.ref fHO)))
    (ldHO : K.lookup fHO = some ⟨ocdHO, oddHO, .func (PySem.W.fnOf "hours_of" "hours_of" (defArgs sHoursOf) (defBody sHoursOf) (defScope sHoursOf) .none kVdHO dcdHO pmdHO andHO cddHO ctdHO), sldHO⟩)
    (cdHO : PySem.W.codeIn K cddHO "hours_of" = true)
    (kdHO : PySem.W.keepIn K (.ref fHO) = true)
    (adEO : PySem.W.nsIn K mainGlobals "ends_of" = some (some (.ref fEO)))
    (ldEO : K.lookup fEO = some ⟨ocdEO, oddEO, .func (PySem.W.fnOf "ends_of" "ends_of" (defArgs sEndsOf) (defBody sEndsOf) (defScope sEndsOf) .none kVdEO dcdEO pmdEO andEO cddEO ctdEO), sldEO⟩)
    (cdEO : PySem.W.codeIn K cddEO "ends_of" = true)
    (kdEO : PySem.W.keepIn K (.ref fEO) = true)
    (adB : PySem.W.nsIn K mainGlobals "_law_bag" = some (some (.ref fB)))
    (ldB : K.lookup fB = some ⟨ocdB, oddB, .func (PySem.W.fnOf "_law_bag" "_law_bag" (defArgs sBag) (defBody sBag) (defScope sBag) .none kVdB dcdB pmdB andB cddB ctdB), sldB⟩)
    (cdB : PySem.W.codeIn K cddB "_law_bag" = true)
    (kdB : PySem.W.keepIn K (.ref fB) = true)
    (adT : PySem.W.nsIn K mainGlobals "_law_take" = some (some (.ref fT)))
    (ldT : K.lookup fT = some ⟨ocdT, oddT, .func (PySem.W.fnOf "_law_take" "_law_take" (defArgs sTake) (defBody sTake) (defScope sTake) .none kVdT dcdT pmdT andT cddT ctdT), sldT⟩)
    (cdT : PySem.W.codeIn K cddT "_law_take" = true)
    (kdT : PySem.W.keepIn K (.ref fT) = true)
    (adS : PySem.W.nsIn K mainGlobals "_law_some" = some (some (.ref fS)))
    (ldS : K.lookup fS = some ⟨ocdS, oddS, .func (PySem.W.fnOf "_law_some" "_law_some" (defArgs sSome) (defBody sSome) (defScope sSome) .none kVdS dcdS pmdS andS cddS ctdS), sldS⟩)
    (cdS : PySem.W.codeIn K cddS "_law_some" = true)
    (kdS : PySem.W.keepIn K (.ref fS) = true)
    (adA : PySem.W.nsIn K mainGlobals "_law_alike" = some (some (.ref fA)))
    (ldA : K.lookup fA = some ⟨ocdA, oddA, .func (PySem.W.fnOf "_law_alike" "_law_alike" (defArgs sAlike) (defBody sAlike) (defScope sAlike) .none kVdA dcdA pmdA andA cddA ctdA), sldA⟩)
    (cdA : PySem.W.codeIn K cddA "_law_alike" = true)
    (kdA : PySem.W.keepIn K (.ref fA) = true)
    (adLR : PySem.W.nsIn K mainGlobals "_law_row_reach" = some (some (.ref fLR)))
    (ldLR : K.lookup fLR = some ⟨ocdLR, oddLR, .func (PySem.W.fnOf "_law_row_reach" "_law_row_reach" (defArgs sRowReach) (defBody sRowReach) (defScope sRowReach) .none kVdLR dcdLR pmdLR andLR cddLR ctdLR), sldLR⟩)
    (cdLR : PySem.W.codeIn K cddLR "_law_row_reach" = true)
    (kdLR : PySem.W.keepIn K (.ref fLR) = true)
    (adSM : PySem.W.nsIn K mainGlobals "_law_steps_many" = some (some (.ref fSM)))
    (ldSM : K.lookup fSM = some ⟨ocdSM, oddSM, .func (PySem.W.fnOf "_law_steps_many" "_law_steps_many" (defArgs sStepsMany) (defBody sStepsMany) (defScope sStepsMany) .none kVdSM dcdSM pmdSM andSM cddSM ctdSM), sldSM⟩)
    (cdSM : PySem.W.codeIn K cddSM "_law_steps_many" = true)
    (kdSM : PySem.W.keepIn K (.ref fSM) = true)
    (adRw : PySem.W.nsIn K mainGlobals "_law_some_row" = some (some (.ref fRw)))
    (ldRw : K.lookup fRw = some ⟨ocdRw, oddRw, .func (PySem.W.fnOf "_law_some_row" "_law_some_row" (defArgs sSomeRow) (defBody sSomeRow) (defScope sSomeRow) .none kVdRw dcdRw pmdRw andRw cddRw ctdRw), sldRw⟩)
    (cdRw : PySem.W.codeIn K cddRw "_law_some_row" = true)
    (kdRw : PySem.W.keepIn K (.ref fRw) = true)
    (adLd : PySem.W.nsIn K mainGlobals "_law_laid" = some (some (.ref fLd)))
    (ldLd : K.lookup fLd = some ⟨ocdLd, oddLd, .func (PySem.W.fnOf "_law_laid" "_law_laid" (defArgs sLaid) (defBody sLaid) (defScope sLaid) .none kVdLd dcdLd pmdLd andLd cddLd ctdLd), sldLd⟩)
    (cdLd : PySem.W.codeIn K cddLd "_law_laid" = true)
    (kdLd : PySem.W.keepIn K (.ref fLd) = true)
    (adL : PySem.W.nsIn K mainGlobals "law" = some (some (.ref fL)))
    (ldL : K.lookup fL = some ⟨ocdL, oddL, .func (PySem.W.fnOf "law" "law" (defArgs sLaw) (defBody sLaw) (defScope sLaw) .none kVdL dcdL pmdL andL cddL ctdL), sldL⟩)
    (cdL : PySem.W.codeIn K cddL "law" = true)
    (kdL : PySem.W.keepIn K (.ref fL) = true)
    (zabs : PySem.W.nsIn K mainGlobals "abs" = some none)
    (zint : PySem.W.nsIn K mainGlobals "int" = some none)
    (zlen : PySem.W.nsIn K mainGlobals "len" = some none)
    (zrepr : PySem.W.nsIn K mainGlobals "repr" = some none)
    (zisinstance : PySem.W.nsIn K mainGlobals "isinstance" = some none)
    (zrange : PySem.W.nsIn K mainGlobals "range" = some none)
    (zsorted : PySem.W.nsIn K mainGlobals "sorted" = some none)
    (ztuple : PySem.W.nsIn K mainGlobals "tuple" = some none)
    (zlist : PySem.W.nsIn K mainGlobals "list" = some none)
    (zdict : PySem.W.nsIn K mainGlobals "dict" = some none)
    (zset : PySem.W.nsIn K mainGlobals "set" = some none)
    (zsum : PySem.W.nsIn K mainGlobals "sum" = some none)
    (zmax : PySem.W.nsIn K mainGlobals "max" = some none)
    (zmin : PySem.W.nsIn K mainGlobals "min" = some none)
    (zstr : PySem.W.nsIn K mainGlobals "str" = some none)
    (zall : PySem.W.nsIn K mainGlobals "all" = some none)
    (zany : PySem.W.nsIn K mainGlobals "any" = some none)
    (zzip : PySem.W.nsIn K mainGlobals "zip" = some none) :
    ∃ fd : FuncData, (∀ (s : Shared) (v : Value), BindsTo s fd ⟨[v], []⟩ [("script", v)]) ∧ ∀ base : Heap, K.In base → base.Ns mainGlobals mg → GnOk l.prog w K mg base 4 fa fd ["script"] (spTop K) := by
  have e := hfa.symm.trans (PySem.W.mg_of X G adL)
  cases e
  have T : Nat0 mg := ⟨PySem.W.mg_none_of X G zabs, PySem.W.mg_none_of X G zint, PySem.W.mg_none_of X G zlen, PySem.W.mg_none_of X G zrepr, PySem.W.mg_none_of X G zisinstance, PySem.W.mg_none_of X G zrange, PySem.W.mg_none_of X G zsorted, PySem.W.mg_none_of X G ztuple, PySem.W.mg_none_of X G zlist, PySem.W.mg_none_of X G zdict, PySem.W.mg_none_of X G zset, PySem.W.mg_none_of X G zsum, PySem.W.mg_none_of X G zmax, PySem.W.mg_none_of X G zmin, PySem.W.mg_none_of X G zstr, PySem.W.mg_none_of X G zall, PySem.W.mg_none_of X G zany, PySem.W.mg_none_of X G zzip⟩
  have FRI := fun_mk (st := sReachIn) ldRI cdRI kdRI
  have bRI := FRI.binds (ps := ["stairs", "h"]) fun _ _ _ _ _ _ us hl => match us, hl with | [_, _], _ => rfl
  have mRI := PySem.W.mg_of X G adRI
  have FSI := fun_mk (st := sStepIn) ldSI cdSI kdSI
  have bSI := FSI.binds (ps := ["stairs", "h"]) fun _ _ _ _ _ _ us hl => match us, hl with | [_, _], _ => rfl
  have mSI := PySem.W.mg_of X G adSI
  have FWO := fun_mk (st := sWholeOf) ldWO cdWO kdWO
  have bWO := FWO.binds (ps := ["stairs"]) fun _ _ _ _ _ _ us hl => match us, hl with | [_], _ => rfl
  have mWO := PySem.W.mg_of X G adWO
  have FHO := fun_mk (st := sHoursOf) ldHO cdHO kdHO
  have bHO := FHO.binds (ps := ["stairs"]) fun _ _ _ _ _ _ us hl => match us, hl with | [_], _ => rfl
  have mHO := PySem.W.mg_of X G adHO
  have FEO := fun_mk (st := sEndsOf) ldEO cdEO kdEO
  have bEO := FEO.binds (ps := ["stairs"]) fun _ _ _ _ _ _ us hl => match us, hl with | [_], _ => rfl
  have mEO := PySem.W.mg_of X G adEO
  have FB := fun_mk (st := sBag) ldB cdB kdB
  have bB := FB.binds (ps := ["script"]) fun _ _ _ _ _ _ us hl => match us, hl with | [_], _ => rfl
  have mB := PySem.W.mg_of X G adB
  have FT := fun_mk (st := sTake) ldT cdT kdT
  have bT := FT.binds (ps := ["bag", "many"]) fun _ _ _ _ _ _ us hl => match us, hl with | [_, _], _ => rfl
  have mT := PySem.W.mg_of X G adT
  have FS := fun_mk (st := sSome) ldS cdS kdS
  have bS := FS.binds (ps := ["bag", "things"]) fun _ _ _ _ _ _ us hl => match us, hl with | [_, _], _ => rfl
  have mS := PySem.W.mg_of X G adS
  have FA := fun_mk (st := sAlike) ldA cdA kdA
  have bA := FA.binds (ps := ["found", "due"]) fun _ _ _ _ _ _ us hl => match us, hl with | [_, _], _ => rfl
  have mA := PySem.W.mg_of X G adA
  have FLR := fun_mk (st := sRowReach) ldLR cdLR kdLR
  have bLR := FLR.binds (ps := ["row", "hours"]) fun _ _ _ _ _ _ us hl => match us, hl with | [_, _], _ => rfl
  have mLR := PySem.W.mg_of X G adLR
  have FSM := fun_mk (st := sStepsMany) ldSM cdSM kdSM
  have bSM := FSM.binds (ps := ["row"]) fun _ _ _ _ _ _ us hl => match us, hl with | [_], _ => rfl
  have mSM := PySem.W.mg_of X G adSM
  have FRw := fun_mk (st := sSomeRow) ldRw cdRw kdRw
  have bRw := FRw.binds (ps := ["bag"]) fun _ _ _ _ _ _ us hl => match us, hl with | [_], _ => rfl
  have mRw := PySem.W.mg_of X G adRw
  have FLd := fun_mk (st := sLaid) ldLd cdLd kdLd
  have bLd := FLd.binds (ps := ["row"]) fun _ _ _ _ _ _ us hl => match us, hl with | [_], _ => rfl
  have mLd := PySem.W.mg_of X G adLd
  have FL := fun_mk (st := sLaw) ldL cdL kdL
  exact ⟨_, fun s v => .of_eq rfl, fun base _ _ =>
    have gRw : FnOk l.prog w K mg base CX0 3 fRw _ ["bag"] (spRow K) := ok_someRow FRw T FT mT bT FS mS bS
    have D : DR l.prog w K mg base fB fT fRw fSM fWO fHO fEO fLd fRI fSI fLR fA _ _ _ _ _ _ _ _ _ _ _ _ := { B := FB, mB := mB, bB := bB, T := FT, mT := mT, bT := bT, Rw := FRw, mRw := mRw, bRw := bRw, gRw := gRw, SM := FSM, mSM := mSM, bSM := bSM, WO := FWO, mWO := mWO, bWO := bWO, HO := FHO, mHO := mHO, bHO := bHO, EO := FEO, mEO := mEO, bEO := bEO, Ld := FLd, mLd := mLd, bLd := bLd, RI := FRI, mRI := mRI, bRI := bRI, SI := FSI, mSI := mSI, bSI := bSI, LR := FLR, mLR := mLR, bLR := bLR, A := FA, mA := mA, bA := bA }
    ok_law FL T D⟩
end Y
open PySem PySem.W PyProof.Rows in
set_option maxRecDepth 100000 in
set_option maxHeartbeats 0 in
theorem PySem.Challenge.cw_nightstairs_k26_numbers_of_rows_holds : PySem.Challenge.rw_nightstairs_k26_numbers_of_rows.Holds := by
  w_on; o_law; k_head; (case hw => w_witness2)
  k_fill
  refine Ns.walk_ofG (l := PySem.Challenge.rw_nightstairs_k26_numbers_of_rows) (k := 4) rfl rfl ⟨rfl, by decide, by decide⟩ (fun w h Y => PySem.W.kIn_of Y) ?F
  case F =>
    intro w mg fa h KX G hmg
    refine' Y.all_mk KX G hmg ?adRI ?ldRI ?cdRI ?kdRI ?adSI ?ldSI ?cdSI ?kdSI ?adWO ?ldWO ?cdWO ?kdWO ?adHO ?ldHO ?cdHO ?kdHO ?adEO ?ldEO ?cdEO ?kdEO ?adB ?ldB ?cdB ?kdB ?adT ?ldT ?cdT ?kdT ?adS ?ldS ?cdS ?kdS ?adA ?ldA ?cdA ?kdA ?adLR ?ldLR ?cdLR ?kdLR ?adSM ?ldSM ?cdSM ?kdSM ?adRw ?ldRw ?cdRw ?kdRw ?adLd ?ldLd ?cdLd ?kdLd ?adL ?ldL ?cdL ?kdL ?zabs ?zint ?zlen ?zrepr ?zisinstance ?zrange ?zsorted ?ztuple ?zlist ?zdict ?zset ?zsum ?zmax ?zmin ?zstr ?zall ?zany ?zzip
    (case adRI => k_is)
    (case ldRI => k_is)
    (case cdRI => k_is)
    (case kdRI => k_is)
    (case adSI => k_is)
    (case ldSI => k_is)
    (case cdSI => k_is)
    (case kdSI => k_is)
    (case adWO => k_is)
    (case ldWO => k_is)
    (case cdWO => k_is)
    (case kdWO => k_is)
    (case adHO => k_is)
    (case ldHO => k_is)
    (case cdHO => k_is)
    (case kdHO => k_is)
    (case adEO => k_is)
    (case ldEO => k_is)
    (case cdEO => k_is)
    (case kdEO => k_is)
    (case adB => k_is)
    (case ldB => k_is)
    (case cdB => k_is)
    (case kdB => k_is)
    (case adT => k_is)
    (case ldT => k_is)
    (case cdT => k_is)
    (case kdT => k_is)
    (case adS => k_is)
    (case ldS => k_is)
    (case cdS => k_is)
    (case kdS => k_is)
    (case adA => k_is)
    (case ldA => k_is)
    (case cdA => k_is)
    (case kdA => k_is)
    (case adLR => k_is)
    (case ldLR => k_is)
    (case cdLR => k_is)
    (case kdLR => k_is)
    (case adSM => k_is)
    (case ldSM => k_is)
    (case cdSM => k_is)
    (case kdSM => k_is)
    (case adRw => k_is)
    (case ldRw => k_is)
    (case cdRw => k_is)
    (case kdRw => k_is)
    (case adLd => k_is)
    (case ldLd => k_is)
    (case cdLd => k_is)
    (case kdLd => k_is)
    (case adL => k_is)
    (case ldL => k_is)
    (case cdL => k_is)
    (case kdL => k_is)
    (case zabs => k_is)
    (case zint => k_is)
    (case zlen => k_is)
    (case zrepr => k_is)
    (case zisinstance => k_is)
    (case zrange => k_is)
    (case zsorted => k_is)
    (case ztuple => k_is)
    (case zlist => k_is)
    (case zdict => k_is)
    (case zset => k_is)
    (case zsum => k_is)
    (case zmax => k_is)
    (case zmin => k_is)
    (case zstr => k_is)
    (case zall => k_is)
    (case zany => k_is)
    (case zzip => k_is)

