import PyProof.Rows.All
import Wide.All
import OpenK.AllK
import Wide.FinOn
import PyProof.ReprRoads
import HandS.ForMost
import HandS.DeepEq
import HandS.Ends
import HandS.ExcInit
import HandS.ExcIs
import HandS.ExcField
import HandS.ExcValue
import HandS.IsInst
import HandS.TryMany
import HandS.WordsExc
import HandS.Wide
import HandS.Codes
import HandS.Style
import PySem.Challenge.RW_nightstairs_k00_errors_of_any_values
set_option Elab.async false
set_option linter.all false
set_option maxRecDepth 100000
/-! NsA: data as a whole over the abstract heap; its repr; its ==. -/
namespace Ns
open PySem PySem.Spec PyProof.Rows L2

/-- a key as data -/
def kD : Key → PyData
  | .inl i => .int i
  | .inr x => .str x

mutual
/-- the value x is the datum d -/
inductive DatV (K : PySem.W.Frag) (H : Hp) : V → PyData → Prop
  | non : DatV K H .non .none
  | bl (b : Bool) : DatV K H (.bl b) (.bool b)
  | int (i : Int) : DatV K H (.int i) (.int i)
  | str (x : Str) : DatV K H (.str x) (.str x)
  | lst {a : Addr} {xs : List V} {ds : List PyData} : SqL K H a xs → DatA K H xs ds → DatV K H (.ref a) (.list ds)
  | tup {a : Addr} {xs : List V} {ds : List PyData} : SqT K H a xs → DatA K H xs ds → DatV K H (.ref a) (.tuple ds)
  | dic {a : Addr} {kvs : List (Key × V)} {ds : List PyData} : H a = some (.dK kvs) → DatA K H (kvs.map (·.2)) ds → DatV K H (.ref a) (.dict ((kvs.map fun p => kD p.1).zip ds))
inductive DatA (K : PySem.W.Frag) (H : Hp) : List V → List PyData → Prop
  | nil : DatA K H [] []
  | cons {x : V} {d : PyData} {xs : List V} {ds : List PyData} : DatV K H x d → DatA K H xs ds → DatA K H (x :: xs) (d :: ds)
end

theorem DatA.len {K : PySem.W.Frag} {H : Hp} : ∀ {xs : List V} {ds : List PyData}, DatA K H xs ds → xs.length = ds.length
  | _, _, .nil => rfl
  | _, _, .cons _ t => by rw [List.length_cons, List.length_cons, t.len]

mutual
/-- what stood stands: the datum too -/
theorem DatV.more {K : PySem.W.Frag} {H H' : Hp} (m : Same H H') : ∀ {x : V} {d : PyData}, DatV K H x d → DatV K H' x d
  | _, _, .non => .non
  | _, _, .bl b => .bl b
  | _, _, .int i => .int i
  | _, _, .str x => .str x
  | _, _, .lst h t => .lst (m.seq h) (t.more m)
  | _, _, .tup h t => .tup (h.elim (fun z => .inl (z.elim (fun z => .inl (m _ _ z)) fun ⟨o, z⟩ => .inr ⟨o, m _ _ z⟩)) .inr) (t.more m)
  | _, _, .dic h t => .dic (m _ _ h) (t.more m)
theorem DatA.more {K : PySem.W.Frag} {H H' : Hp} (m : Same H H') : ∀ {xs : List V} {ds : List PyData}, DatA K H xs ds → DatA K H' xs ds
  | _, _, .nil => .nil
  | _, _, .cons h t => .cons (h.more m) (t.more m)
end

theorem map_fst_zip {α β : Type} : ∀ {as : List α} {bs : List β}, as.length = bs.length → (as.zip bs).map (·.1) = as
  | [], [], _ => rfl
  | a :: as, b :: bs, h => by
    have h' : as.length = bs.length := by simpa using h
    simp [map_fst_zip h']
theorem map_snd_zip {α β : Type} : ∀ {as : List α} {bs : List β}, as.length = bs.length → (as.zip bs).map (·.2) = bs
  | [], [], _ => rfl
  | a :: as, b :: bs, h => by
    have h' : as.length = bs.length := by simpa using h
    simp [map_snd_zip h']

section
variable {X : Cx} {pins : List (Addr × Obj)} {σ : L2.St} {H : Hp} {s : Shared}

/-- the keys of a dict's entries are read -/
theorem keys_read {h : Heap} {P : Program} {w : World} : ∀ {es : List DictEntry} {vs : List (Key × Value)}, Pairs (mixKind P w) es vs → ReadsAll h (es.map (·.key)) (vs.map fun p => kD p.1) []
  | _, _, .nil => .nil
  | e :: es, kv :: vs, .cons h1 _ t => by
    have q : Reads h e.key (kD kv.1) [] := by
      rcases keyIs_shape (show keyIs kv.1 e.key = true from h1) with ⟨i, t, ek, ev⟩ | ⟨x, t, ek, ev⟩
      · rw [ek, ev]; exact .int i t
      · rw [ek, ev]; exact .str x t
    exact ReadsAll.cons (as := []) (bs := []) q (keys_read t)
theorem pairs_vals {P : Program} {w : World} : ∀ {es : List DictEntry} {vs : List (Key × Value)}, Pairs (mixKind P w) es vs → es.map (·.val) = vs.map (·.2)
  | _, _, .nil => rfl
  | e :: es, kv :: vs, .cons _ h2 t => by
    rw [List.map_cons, List.map_cons, h2, pairs_vals t]
theorem kv_fst : ∀ {ks : List (Key × V)} {vs : List (Key × Value)}, KV ks vs → vs.map (fun p => kD p.1) = ks.map fun p => kD p.1
  | _, _, .nil => rfl
  | _, _, .cons h t => by rw [List.map_cons, List.map_cons, h.1, kv_fst t]
theorem kv_vals : ∀ {ks : List (Key × V)} {vs : List (Key × Value)}, KV ks vs → Vals (ks.map (·.2)) (vs.map (·.2))
  | _, _, .nil => .nil
  | _, _, .cons h t => .cons h.2 (kv_vals t)

mutual
/-- what the heap reads of it -/
theorem reads_of (I : Inv X pins σ H s) : ∀ {x : V} {d : PyData}, DatV X.K H x d → ∀ {v : Value}, RelV x v → ∃ as, Reads s.heap v d as
  | _, _, .non, v, r => by cases (show v = Value.none from r); exact ⟨_, .none⟩
  | _, _, .bl b, v, r => by cases (show v = Value.bool b from r); exact ⟨_, .bool b⟩
  | _, _, .int i, v, r => by obtain ⟨t, rfl⟩ := (show ∃ t, v = Value.int i t from r); exact ⟨_, .int i t⟩
  | _, _, .str x, v, r => by obtain ⟨t, rfl⟩ := (show ∃ t, v = Value.str x t from r); exact ⟨_, .str x t⟩
  | _, _, .lst (a := a) h t, v, r => by
    cases (show v = Value.ref a from r)
    obtain ⟨its, rv, ⟨o, n, h1, h2, h3, h4⟩, _⟩ := I.list h
    obtain ⟨as, q⟩ := readsA_of I t rv
    exact ⟨_, .list h1 h2 (by first | exact h3 | exact h4) (by simpa using q)⟩
  | _, _, .tup (a := a) h t, v, r => by
    cases (show v = Value.ref a from r)
    obtain ⟨its, rv, ⟨o, h1, h2, n, h3⟩, _⟩ := I.tuple h
    obtain ⟨as, q⟩ := readsA_of I t rv
    exact ⟨_, .tuple h1 h2 h3 (by simpa using q)⟩
  | _, _, .dic (a := a) (kvs := kvs) (ds := ds) h t, v, r => by
    cases (show v = Value.ref a from r)
    obtain ⟨_, _, vs, rv, o, es, ep, h1, h2, h3, _, h5, _⟩ := (show ObjOk X.prog X.w H s.heap a (.dK kvs) from I.hok a _ h)
    obtain ⟨as, q⟩ := readsA_of I t (kv_vals rv)
    have hl : (kvs.map fun p => kD p.1).length = ds.length := by
      have z := t.len
      rw [List.length_map] at z ⊢
      exact z
    refine ⟨_, Reads.dict (as := []) (bs := as) h1 h2.1 h3 ?_ ?_⟩
    · rw [map_fst_zip hl, ← kv_fst rv]
      exact keys_read h5
    · rw [map_snd_zip hl, pairs_vals h5]
      exact q
theorem readsA_of (I : Inv X pins σ H s) : ∀ {xs : List V} {ds : List PyData}, DatA X.K H xs ds → ∀ {us : List Value}, Vals xs us → ∃ as, ReadsAll s.heap us ds as
  | _, _, .nil, us, r => by cases r; exact ⟨_, .nil⟩
  | _, _, .cons h t, us, r => by
    cases r with
    | cons r1 r2 =>
      obtain ⟨as, q⟩ := reads_of I h r1
      obtain ⟨bs, q2⟩ := readsA_of I t r2
      exact ⟨_, .cons q q2⟩
end
end
end Ns
/-! NsB: repr of data. -/
namespace Ns
open PySem PySem.Spec PyProof.Rows L2
section
variable {X : Cx} {pins : List (Addr × Obj)} {σ : L2.St} {H : Hp} {s : Shared}

theorem zip_kv : ∀ {as : List Key} {ds : List PyData}, as.length = ds.length → ((as.map kD).zip ds).map (·.1) = as.map kD := fun {as ds} h => map_fst_zip (by rw [List.length_map]; exact h)

theorem kv_of_zip {α : Type} {f : α → PyData} {l : List α} {ds : List PyData} (h : l.length = ds.length) : (((l.map f).zip ds).map (·.1) = l.map f) ∧ (((l.map f).zip ds).map (·.2) = ds) :=
  ⟨map_fst_zip (by rw [List.length_map]; exact h), map_snd_zip (by rw [List.length_map]; exact h)⟩

/-- keys show themselves, whatever stands -/
theorem keys_shown {P : Program} {w : World} {h : Heap} {n : Nat} : ∀ {es : List DictEntry} {vs : List (Key × Value)}, Pairs (mixKind P w) es vs → (∀ p ∈ vs, (kD p.1).showable = true ∧ (kD p.1).shown.length ≤ sizeLine) →
    ReprAllK P w [] h n (es.map (·.key)) (PyData.shownAll (vs.map fun p => kD p.1))
  | _, _, .nil, _ => by simp only [List.map_nil, PyData.shownAll]; exact .nil
  | e :: es, kv :: vs, .cons h1 _ t, hz => by
    rw [List.map_cons, List.map_cons, PyData.shownAll_cons]
    obtain ⟨z1, z2⟩ := hz kv List.mem_cons_self
    refine .cons (ReprK.of_is ?_ _ _ _) (keys_shown t fun p hp => hz p (List.mem_cons_of_mem _ hp))
    rcases keyIs_shape (show keyIs kv.1 e.key = true from h1) with ⟨i, tk, ek, ev⟩ | ⟨x, tk, ek, ev⟩
    · rw [ek] at z1 ⊢
      rw [ev]
      show ReprIs P w _ (PyData.int i).shown
      rw [PyData.shown_int]
      exact ReprIs.int tk (of_decide_eq_true (by simpa [kD, PyData.showable] using z1))
    · rw [ek] at z2 ⊢
      rw [ev]
      show ReprIs P w _ (PyData.str x).shown
      have z2' : (PyData.str x).shown.length ≤ sizeLine := z2
      rw [PyData.shown_str] at z2' ⊢
      exact ReprIs.str x tk z2'

theorem all_of : ∀ {l : List PyData}, PyData.showableAll l = true → ∀ d ∈ l, d.showable = true
  | [], _, _, hd => nomatch hd
  | x :: l, h, d, hd => by
    have h' : x.showable = true ∧ PyData.showableAll l = true := by simpa [PyData.showableAll] using h
    rcases List.mem_cons.mp hd with e | e
    · rw [e]; exact h'.1
    · exact all_of h'.2 d e
theorem shown_mem : ∀ {l : List PyData} {d : PyData}, d ∈ l → d.shown ∈ PyData.shownAll l
  | [], _, h => nomatch h
  | x :: l, d, h => by
    rw [PyData.shownAll_cons]
    rcases List.mem_cons.mp h with e | e
    · rw [e]; exact List.mem_cons_self
    · exact List.mem_cons_of_mem _ (shown_mem e)

mutual
theorem reprK_of (I : Inv X pins σ H s) : ∀ {x : V} {d : PyData}, DatV X.K H x d → ∀ {v : Value}, RelV x v → d.showable = true → d.shown.length ≤ sizeLine →
    ∃ bs, ReadAtMost s.heap d.depth bs ∧ ReprK X.prog X.w bs s.heap d.depth v d.shown
  | _, _, .non, v, r, _, _ => by
    cases (show v = Value.none from r)
    exact ⟨[], (fun _ z => nomatch z), by rw [PyData.shown_none]; exact .of_is ReprIs.none _ _ _⟩
  | _, _, .bl b, v, r, _, _ => by
    cases (show v = Value.bool b from r)
    refine ⟨[], (fun _ z => nomatch z), ?_⟩
    simp only [PyData.shown]
    exact .of_is (ReprIs.bool b) _ _ _
  | _, _, .int i, v, r, hs, _ => by
    obtain ⟨t, rfl⟩ := (show ∃ t, v = Value.int i t from r)
    refine ⟨[], (fun _ z => nomatch z), ?_⟩
    rw [PyData.shown_int]
    exact .of_is (ReprIs.int t (by simpa [PyData.showable] using hs)) _ _ _
  | _, _, .str x, v, r, _, hz => by
    obtain ⟨t, rfl⟩ := (show ∃ t, v = Value.str x t from r)
    refine ⟨[], (fun _ z => nomatch z), ?_⟩
    rw [PyData.shown_str] at hz ⊢
    exact .of_is (ReprIs.str x t hz) _ _ _
  | _, _, .lst (a := a) (ds := ds) h t, v, r, hs, hz => by
    cases (show v = Value.ref a from r)
    have hz1 : (listText (PyData.shownAll ds)).length ≤ sizeLine := by simpa only [PyData.shown] using hz
    have hs1 : PyData.showableAll ds = true := by simpa [PyData.showable] using hs
    obtain ⟨as, rd⟩ := reads_of I (.lst h t) (v := .ref a) rfl
    obtain ⟨its, rv, ⟨o, n, h1, h2, h3, h4⟩, _⟩ := I.list h
    have h5 : o.data = .seq its.toArray n := by first | exact h3 | exact h4
    obtain ⟨bs, hb, hk⟩ := reprA_of I t rv hs1 fun u hu => Nat.le_trans (listText_mem_le hu) hz1
    have dp : (PyData.list ds).depth = PyData.depthAll ds + 1 := by simp only [PyData.depth] <;> omega
    have hna : a ∉ bs := not_mem_of_deeper rd (by rw [dp]; omega) hb
    refine ⟨a :: bs, ReadAtMost.cons rd (by rw [dp]; omega) hb, ?_⟩
    rw [dp]
    simp only [PyData.shown]
    cases its with
    | nil =>
      have e0 : PyData.shownAll ds = [] := List.length_eq_zero_iff.mp (by simpa using hk.length_eq)
      rw [e0, listText_nil]
      exact ReprK.listEmpty h1 h2 h5
    | cons y l => exact ReprK.list h1 h2 h5 hna (by simpa using hk.length_eq) fun i u e => hk.item i u (by simpa using e)
  | _, _, .tup (a := a) (ds := ds) h t, v, r, hs, hz => by
    cases (show v = Value.ref a from r)
    have hz1 : (tupleText (PyData.shownAll ds)).length ≤ sizeLine := by simpa only [PyData.shown] using hz
    have hs1 : PyData.showableAll ds = true := by simpa [PyData.showable] using hs
    obtain ⟨as, rd⟩ := reads_of I (.tup h t) (v := .ref a) rfl
    obtain ⟨its, rv, ⟨o, h1, h2, n, h3⟩, _⟩ := I.tuple h
    obtain ⟨bs, hb, hk⟩ := reprA_of I t rv hs1 fun u hu => Nat.le_trans (tupleText_mem_le hu) hz1
    have dp : (PyData.tuple ds).depth = PyData.depthAll ds + 1 := by simp only [PyData.depth] <;> omega
    have hna : a ∉ bs := not_mem_of_deeper rd (by rw [dp]; omega) hb
    refine ⟨a :: bs, ReadAtMost.cons rd (by rw [dp]; omega) hb, ?_⟩
    rw [dp]
    simp only [PyData.shown]
    exact ReprK.tuple h1 h2 h3 hna (by simpa using hk)
  | _, _, .dic (a := a) (kvs := kvs) (ds := ds) h t, v, r, hs, hz => by
    cases (show v = Value.ref a from r)
    have hl : kvs.length = ds.length := by
      have z := t.len
      rw [List.length_map] at z
      exact z
    obtain ⟨e1, e2⟩ := kv_of_zip (f := fun p : Key × V => kD p.1) (l := kvs) hl
    have hz1 : (dictText (PyData.shownKv ((kvs.map fun p => kD p.1).zip ds))).length ≤ sizeLine := by simpa only [PyData.shown] using hz
    have hs1 : PyData.showableKv ((kvs.map fun p => kD p.1).zip ds) = true := by simpa [PyData.showable] using hs
    obtain ⟨s1, s2⟩ := PyData.showableKv_split _ hs1
    rw [e1] at s1
    rw [e2] at s2
    obtain ⟨as, rd⟩ := reads_of I (.dic h t) (v := .ref a) rfl
    obtain ⟨_, hsy, vs, rv, o, es, ep, h1, h2, h3, _, h5, _⟩ := (show ObjOk X.prog X.w H s.heap a (.dK kvs) from I.hok a _ h)
    have vl : ∀ u ∈ PyData.shownAll ds, u.length ≤ sizeLine := fun u hu => by
      obtain ⟨p, hp, hq⟩ := PyData.shownKv_val_le _ u (by rw [e2]; exact hu)
      exact Nat.le_trans hq (Nat.le_trans (dictText_mem_le hp) hz1)
    have kl : ∀ u ∈ PyData.shownAll (kvs.map fun p => kD p.1), u.length ≤ sizeLine := fun u hu => by
      obtain ⟨p, hp, hq⟩ := PyData.shownKv_key_le _ u (by rw [e1]; exact hu)
      exact Nat.le_trans hq (Nat.le_trans (dictText_mem_le hp) hz1)
    obtain ⟨bs, hb, hk⟩ := reprA_of I t (kv_vals rv) s2 vl
    have kk : ReprAllK X.prog X.w [] s.heap (PyData.depthKv ((kvs.map fun p => kD p.1).zip ds)) (es.toList.map (·.key)) (PyData.shownAll (kvs.map fun p => kD p.1)) := by
      rw [← kv_fst rv]
      refine keys_shown h5 fun p hp => ?_
      have hm : kD p.1 ∈ kvs.map fun p => kD p.1 := by
        rw [← kv_fst rv]
        exact List.mem_map.mpr ⟨p, hp, rfl⟩
      exact ⟨all_of s1 _ hm, kl _ (shown_mem hm)⟩
    have dv : PyData.depthAll ds ≤ PyData.depthKv ((kvs.map fun p => kD p.1).zip ds) := by
      have z := PyData.depthAll_vals_le ((kvs.map fun p => kD p.1).zip ds)
      rw [e2] at z
      exact z
    have hb2 : ReadAtMost s.heap (PyData.depthKv ((kvs.map fun p => kD p.1).zip ds)) bs := hb.mono dv
    have dp : (PyData.dict ((kvs.map fun p => kD p.1).zip ds)).depth = PyData.depthKv ((kvs.map fun p => kD p.1).zip ds) + 1 := by simp only [PyData.depth] <;> omega
    have hna : a ∉ bs := not_mem_of_deeper rd (by rw [dp]; omega) hb2
    refine ⟨a :: bs, ReadAtMost.cons rd (by rw [dp]; omega) hb2, ?_⟩
    rw [dp]
    simp only [PyData.shown, PyData.shownKv_eq]
    rw [e1, e2]
    refine ReprK.dict h1 h2.1 h3 hsy hna (ReprEntriesK.of_two es.toList _ _ (kk.more_le (fun b z => absurd z List.not_mem_nil) (Nat.le_refl _)) ?_)
    rw [pairs_vals h5]
    exact hk.more_le (fun b z => z) dv
theorem reprA_of (I : Inv X pins σ H s) : ∀ {xs : List V} {ds : List PyData}, DatA X.K H xs ds → ∀ {us : List Value}, Vals xs us → PyData.showableAll ds = true → (∀ t ∈ PyData.shownAll ds, t.length ≤ sizeLine) →
    ∃ bs, ReadAtMost s.heap (PyData.depthAll ds) bs ∧ ReprAllK X.prog X.w bs s.heap (PyData.depthAll ds) us (PyData.shownAll ds)
  | _, _, .nil, us, r, _, _ => by
    cases r
    exact ⟨[], (fun _ z => nomatch z), by simp only [PyData.shownAll]; exact .nil⟩
  | _, _, .cons (d := d) (ds := ds) h t, us, r, hs, hz => by
    cases r with
    | cons r1 r2 =>
      have hs1 : d.showable = true ∧ PyData.showableAll ds = true := by simpa [PyData.showableAll] using hs
      rw [PyData.shownAll_cons] at hz ⊢
      obtain ⟨b1, g1, k1⟩ := reprK_of I h r1 hs1.1 (hz _ List.mem_cons_self)
      obtain ⟨b2, g2, k2⟩ := reprA_of I t r2 hs1.2 fun u hu => hz u (List.mem_cons_of_mem _ hu)
      have dp : PyData.depthAll (d :: ds) = max d.depth (PyData.depthAll ds) := by simp only [PyData.depthAll]
      refine ⟨b1 ++ b2, ?_, ?_⟩
      · rw [dp]
        exact (g1.mono (Nat.le_max_left _ _)).append (g2.mono (Nat.le_max_right _ _))
      · rw [dp]
        exact .cons ((k1.more fun b z => List.mem_append_left _ z).level_le (Nat.le_max_left _ _)) (k2.more_le (fun b z => List.mem_append_right _ z) (Nat.le_max_right _ _))
end
theorem dict_entries (I : Inv X pins σ H s) {a : Addr} {kvs : List (Key × V)} {ds : List PyData} {vs : List (Key × Value)} {o : Obj} {es : Array DictEntry} {ep : Nat} (h : H a = some (.dK kvs)) (t : DatA X.K H (kvs.map (·.2)) ds)
    (hs : (PyData.dict ((kvs.map fun p => kD p.1).zip ds)).showable = true) (hz : (PyData.dict ((kvs.map fun p => kD p.1).zip ds)).shown.length ≤ sizeLine) (h1 : s.heap.get? a = some o) (h3 : o.data = .dict es ep)
    (h5 : Pairs (mixKind X.prog X.w) es.toList vs) (rv : KV kvs vs) :
    ∃ n bs, a ∉ bs ∧ ReprEntriesK X.prog X.w bs s.heap n es.toList (PyData.shownKv ((kvs.map fun p => kD p.1).zip ds)) ∧ n + 1 ≤ (PyData.dict ((kvs.map fun p => kD p.1).zip ds)).depth := by
  have hl : kvs.length = ds.length := by
    have z := t.len
    rw [List.length_map] at z
    exact z
  obtain ⟨e1, e2⟩ := kv_of_zip (f := fun p : Key × V => kD p.1) (l := kvs) hl
  have hz1 : (dictText (PyData.shownKv ((kvs.map fun p => kD p.1).zip ds))).length ≤ sizeLine := by simpa only [PyData.shown] using hz
  have hs1 : PyData.showableKv ((kvs.map fun p => kD p.1).zip ds) = true := by simpa [PyData.showable] using hs
  obtain ⟨s1, s2⟩ := PyData.showableKv_split _ hs1
  rw [e1] at s1
  rw [e2] at s2
  obtain ⟨as, rd⟩ := reads_of I (.dic h t) (v := .ref a) rfl
  obtain ⟨bs, hb, hk⟩ := reprA_of I t (kv_vals rv) s2 fun u hu => by
    obtain ⟨p, hp, hq⟩ := PyData.shownKv_val_le _ u (by rw [e2]; exact hu)
    exact Nat.le_trans hq (Nat.le_trans (dictText_mem_le hp) hz1)
  have kk : ReprAllK X.prog X.w [] s.heap (PyData.depthKv ((kvs.map fun p => kD p.1).zip ds)) (es.toList.map (·.key)) (PyData.shownAll (kvs.map fun p => kD p.1)) := by
    rw [← kv_fst rv]
    refine keys_shown h5 fun p hp => ?_
    have hm : kD p.1 ∈ kvs.map fun p => kD p.1 := by
      rw [← kv_fst rv]
      exact List.mem_map.mpr ⟨p, hp, rfl⟩
    obtain ⟨y, hy, hq⟩ := PyData.shownKv_key_le _ _ (by rw [e1]; exact shown_mem hm)
    exact ⟨all_of s1 _ hm, Nat.le_trans hq (Nat.le_trans (dictText_mem_le hy) hz1)⟩
  have dv : PyData.depthAll ds ≤ PyData.depthKv ((kvs.map fun p => kD p.1).zip ds) := by
    have z := PyData.depthAll_vals_le ((kvs.map fun p => kD p.1).zip ds)
    rw [e2] at z
    exact z
  have dp : (PyData.dict ((kvs.map fun p => kD p.1).zip ds)).depth = PyData.depthKv ((kvs.map fun p => kD p.1).zip ds) + 1 := by simp only [PyData.depth] <;> omega
  have hna : a ∉ bs := not_mem_of_deeper rd (by rw [dp]; omega) (hb.mono dv)
  refine ⟨_, bs, hna, ?_, Nat.le_of_eq dp.symm⟩
  rw [PyData.shownKv_eq, e1, e2]
  refine ReprEntriesK.of_two es.toList _ _ (kk.more_le (fun b z => absurd z List.not_mem_nil) (Nat.le_refl _)) ?_
  rw [pairs_vals h5]
  exact hk.more_le (fun b z => z) dv
end
end Ns
/-! NsC: the call of repr; == of equal data. -/
namespace Ns
open PySem PySem.Spec PyProof.Rows L2
section
variable {X : Cx} {pins : List (Addr × Obj)} {σ : L2.St} {H : Hp} {s : Shared}

theorem repr_run (I : Inv X pins σ H s) {A : Around} (hg : A.guards = some []) {x : V} {d : PyData} (D : DatV X.K H x d) {v : Value} (r : RelV x v) (hs : d.showable = true) (hz : d.shown.length ≤ sizeLine) (hu : A.units + (d.depth + 2) < cLine)
    {E Q : Value → Shared → Prop} (q : ∀ h' u tk, (∀ b o, s.heap.get? b = some o → h'.get? b = some o) → Q (.str d.shown u) { s with heap := h', toks := tk }) :
    wpAny (model X.prog X.w) A (call (.builtin "repr") [v]) Q E s := by
  cases D with
  | non =>
    cases (show v = Value.none from r)
    rw [PyData.shown_none] at q
    exact PySem.P.repr_of_none (q s.heap _ _ fun _ _ e => e)
  | bl b =>
    cases (show v = Value.bool b from r)
    rw [PyData.shown_bool] at q
    exact PySem.P.repr_of_bool (q s.heap _ _ fun _ _ e => e)
  | int i =>
    obtain ⟨t, rfl⟩ := (show ∃ t, v = Value.int i t from r)
    rw [PyData.shown_int] at q
    exact PySem.P.repr_of_int (of_decide_eq_true (by simpa [PyData.showable] using hs)) (q s.heap _ _ fun _ _ e => e)
  | str y =>
    obtain ⟨t, rfl⟩ := (show ∃ t, v = Value.str y t from r)
    rw [PyData.shown_str] at q hz
    exact PySem.P.repr_of_str (q s.heap _ _ fun _ _ e => e) hz
  | @lst a xs ds h t =>
    cases (show v = Value.ref a from r)
    have hz1 : (listText (PyData.shownAll ds)).length ≤ sizeLine := by simpa only [PyData.shown] using hz
    have hs1 : PyData.showableAll ds = true := by simpa [PyData.showable] using hs
    obtain ⟨as, rd⟩ := reads_of I (.lst h t) (v := .ref a) rfl
    obtain ⟨its, rv, ⟨o, n, h1, h2, h3, h4⟩, _⟩ := I.list h
    have h5 : o.data = .seq its.toArray n := by first | exact h3 | exact h4
    obtain ⟨bs, hb, hk⟩ := reprA_of I t rv hs1 fun u hu => Nat.le_trans (listText_mem_le hu) hz1
    have dp : (PyData.list ds).depth = PyData.depthAll ds + 1 := by simp only [PyData.depth] <;> omega
    have hna : a ∉ bs := not_mem_of_deeper rd (by rw [dp]; omega) hb
    simp only [PyData.shown] at q
    rw [dp] at hu
    refine call_repr_slot (by omega) ⟨o, h1, h2⟩ F.slot_list_repr.toG ?_
    cases its with
    | nil =>
      have e0 : PyData.shownAll ds = [] := List.length_eq_zero_iff.mp (by simpa using hk.length_eq)
      rw [e0, listText_nil] at q
      exact call_list_repr_empty ⟨o, h1, h2⟩ h1 h5 ⟨_, _, rfl, q s.heap _ _ fun _ _ e => e⟩
    | cons y l =>
      exact call_list_reprK (A := A.in1) (g := []) h1 h2 h5 hna (by simpa using hk.length_eq) (fun i u e => hk.item i u (by simpa using e)) hg (fun b _ => Clear.nil b) (by show A.units + 1 + _ < _; omega) (fun _ _ e => e)
        (fun h' u tk k => ⟨_, _, rfl, q h' u tk k⟩) hz1
  | @tup a xs ds h t =>
    cases (show v = Value.ref a from r)
    have hz1 : (tupleText (PyData.shownAll ds)).length ≤ sizeLine := by simpa only [PyData.shown] using hz
    have hs1 : PyData.showableAll ds = true := by simpa [PyData.showable] using hs
    obtain ⟨as, rd⟩ := reads_of I (.tup h t) (v := .ref a) rfl
    obtain ⟨its, rv, ⟨o, h1, h2, n, h3⟩, _⟩ := I.tuple h
    obtain ⟨bs, hb, hk⟩ := reprA_of I t rv hs1 fun u hu => Nat.le_trans (tupleText_mem_le hu) hz1
    have dp : (PyData.tuple ds).depth = PyData.depthAll ds + 1 := by simp only [PyData.depth] <;> omega
    have hna : a ∉ bs := not_mem_of_deeper rd (by rw [dp]; omega) hb
    simp only [PyData.shown] at q
    rw [dp] at hu
    refine call_repr_slot (by omega) ⟨o, h1, h2⟩ F.slot_tuple_repr ?_
    exact call_tuple_reprK (A := A.in1) (g := []) h1 h2 h3 hna (by simpa using hk) hg (fun b _ => Clear.nil b) (by show A.units + 1 + _ < _; omega) (fun _ _ e => e)
      (fun h' u tk k => ⟨_, _, rfl, q h' u tk k⟩) hz1
  | @dic a kvs ds h t =>
    cases (show v = Value.ref a from r)
    obtain ⟨_, hsy, vs, rv, o, es, ep, h1, h2, h3, _, h5, _⟩ := (show ObjOk X.prog X.w H s.heap a (.dK kvs) from I.hok a _ h)
    obtain ⟨n, bs, hna, hE, hd⟩ := dict_entries I h t hs hz h1 h3 h5 rv
    simp only [PyData.shown] at q hz
    refine call_repr_slot (by omega) ⟨o, h1, h2.1⟩ F.slot_dict_repr ?_
    exact call_dict_reprK (A := A.in1) (g := []) h1 h2.1 h3 hsy hna hE hg (fun b _ => Clear.nil b) (by show A.units + 1 + _ < _; omega) (fun _ _ e => e)
      (fun h' u tk k => ⟨_, _, rfl, q h' u tk k⟩) hz

/-- repr(x), x data -/
def rRep (K : PySem.W.Frag) : List V → Hp → VK → Prop := fun xs H Q => ∃ x d, xs = [x] ∧ DatV K H x d ∧ d.showable = true ∧ d.shown.length ≤ sizeLine ∧ d.depth ≤ 60 ∧ Q (.str d.shown) H
theorem call_reprD (hg : X.A.guards = some []) (hu : X.A.units + 64 < cLine) : CallR X (.builtin "repr") (rRep X.K) := by
  intro pins s σ H xs us Q I r h
  obtain ⟨x, d, rfl, D, hs, hz, hd, q⟩ := h
  obtain ⟨u, rfl, r1⟩ := vals1 r
  exact repr_run I hg D r1 hs hz (by omega) fun h' u tk k => ⟨.str d.shown, H, I.kept (t' := tk) k, ⟨u, rfl⟩, q⟩
end
end Ns
/-! NsD: how long the text of data is. -/
namespace Ns
open PySem PySem.Spec PyProof.Rows L2
/-- shown in at most m signs, nested at most k deep -/
def Fit (m k : Nat) (d : PyData) : Prop := d.showable = true ∧ d.shown.length ≤ m ∧ d.depth ≤ k
theorem Fit.mono {m m' k k' : Nat} {d : PyData} (h : Fit m k d) (hm : m ≤ m') (hk : k ≤ k') : Fit m' k' d := ⟨h.1, Nat.le_trans h.2.1 hm, Nat.le_trans h.2.2 hk⟩
theorem sum_le {m : Nat} : ∀ {l : List Nat}, (∀ n ∈ l, n ≤ m) → l.sum ≤ l.length * m
  | [], _ => Nat.zero_le _
  | n :: l, h => by
    have h1 := h n List.mem_cons_self
    have h2 := sum_le (l := l) fun k hk => h k (List.mem_cons_of_mem _ hk)
    rw [List.sum_cons, List.length_cons, Nat.succ_mul]
    omega
theorem depthAll_le {k : Nat} : ∀ {ds : List PyData}, (∀ d ∈ ds, d.depth ≤ k) → PyData.depthAll ds ≤ k
  | [], _ => by simp [PyData.depthAll]
  | d :: ds, h => by
    simp only [PyData.depthAll]
    exact Nat.max_le.mpr ⟨h d List.mem_cons_self, depthAll_le fun e he => h e (List.mem_cons_of_mem _ he)⟩
theorem mem_shown : ∀ {ds : List PyData} {t : Str}, t ∈ PyData.shownAll ds → ∃ d ∈ ds, t = d.shown
  | [], t, h => by rw [PyData.shownAll_nil] at h; exact nomatch h
  | d :: ds, t, h => by
    rw [PyData.shownAll_cons] at h
    rcases List.mem_cons.mp h with e | e
    · exact ⟨d, List.mem_cons_self, e⟩
    · obtain ⟨d', h1, h2⟩ := mem_shown e
      exact ⟨d', List.mem_cons_of_mem _ h1, h2⟩
theorem lens_le {m k : Nat} {ds : List PyData} (h : ∀ d ∈ ds, Fit m k d) : ((PyData.shownAll ds).map (·.length)).sum ≤ ds.length * m := by
  have e : ((PyData.shownAll ds).map (·.length)).length = ds.length := by rw [List.length_map, PyData.shownAll_length]
  have z := sum_le (l := (PyData.shownAll ds).map (·.length)) (m := m) fun n hn => by
    obtain ⟨t, ht, rfl⟩ := List.mem_map.mp hn
    obtain ⟨d, hd, rfl⟩ := mem_shown ht
    exact (h d hd).2.1
  rw [e] at z
  exact z
theorem fit_list {m k : Nat} {ds : List PyData} (h : ∀ d ∈ ds, Fit m k d) : Fit (ds.length * (m + 2) + 3) (k + 1) (.list ds) := by
  refine ⟨?_, ?_, ?_⟩
  · simp only [PyData.showable]
    exact showableAll_of fun d hd => (h d hd).1
  · simp only [PyData.shown]
    have z1 := listText_len_le (PyData.shownAll ds)
    have z2 := lens_le h
    rw [PyData.shownAll_length] at z1
    rw [Nat.mul_add]
    omega
  · have e : (PyData.list ds).depth = PyData.depthAll ds + 1 := by simp only [PyData.depth] <;> omega
    rw [e]
    exact Nat.succ_le_succ (depthAll_le fun d hd => (h d hd).2.2)
theorem fit_tuple {m k : Nat} {ds : List PyData} (h : ∀ d ∈ ds, Fit m k d) : Fit (ds.length * (m + 2) + 3) (k + 1) (.tuple ds) := by
  refine ⟨?_, ?_, ?_⟩
  · simp only [PyData.showable]
    exact showableAll_of fun d hd => (h d hd).1
  · simp only [PyData.shown]
    have z1 := tupleText_len_le (PyData.shownAll ds)
    have z2 := lens_le h
    rw [PyData.shownAll_length] at z1
    rw [Nat.mul_add]
    omega
  · have e : (PyData.tuple ds).depth = PyData.depthAll ds + 1 := by simp only [PyData.depth] <;> omega
    rw [e]
    exact Nat.succ_le_succ (depthAll_le fun d hd => (h d hd).2.2)
theorem kvs_le {m k : Nat} : ∀ {kvs : List (PyData × PyData)}, (∀ p ∈ kvs, Fit m k p.1 ∧ Fit m k p.2) → ((PyData.shownKv kvs).map (·.length)).sum ≤ kvs.length * (2 * m + 2) ∧ PyData.depthKv kvs ≤ k
  | [], _ => by simp [PyData.shownKv, PyData.depthKv]
  | (a, b) :: r, h => by
    obtain ⟨h1, h2⟩ := h (a, b) List.mem_cons_self
    obtain ⟨z1, z2⟩ := kvs_le (kvs := r) fun p hp => h p (List.mem_cons_of_mem _ hp)
    have e : (a.shown ++ ": " ++ b.shown).length = a.shown.length + 2 + b.shown.length := by
      rw [strLen_append, strLen_append]
      rfl
    have y1 := h1.2.1
    have y2 := h2.2.1
    refine ⟨?_, ?_⟩
    · rw [PyData.shownKv_cons, List.map_cons, List.sum_cons, List.length_cons, Nat.succ_mul, e]
      have y1' : a.shown.length ≤ m := y1
      have y2' : b.shown.length ≤ m := y2
      omega
    · have y3 : a.depth ≤ k := h1.2.2
      have y4 : b.depth ≤ k := h2.2.2
      simp only [PyData.depthKv]
      omega
theorem fit_dict {m k : Nat} {kvs : List (PyData × PyData)} (h : ∀ p ∈ kvs, Fit m k p.1 ∧ Fit m k p.2) : Fit (kvs.length * (2 * m + 4) + 3) (k + 1) (.dict kvs) := by
  obtain ⟨z1, z2⟩ := kvs_le h
  refine ⟨?_, ?_, ?_⟩
  · simp only [PyData.showable]
    exact showableKv_of fun p hp => ⟨(h p hp).1.1, (h p hp).2.1⟩
  · simp only [PyData.shown]
    have y := dictText_len_le (PyData.shownKv kvs)
    rw [PyData.shownKv_length] at y
    have e : kvs.length * (2 * m + 4) = kvs.length * (2 * m + 2) + 2 * kvs.length := by
      rw [Nat.mul_add, Nat.mul_add]
      omega
    omega
  · have e : (PyData.dict kvs).depth = PyData.depthKv kvs + 1 := by simp only [PyData.depth] <;> omega
    omega
theorem fit_int {i : Int} {n : Nat} (h0 : 0 < n) (h : i.natAbs < 10 ^ n) (hn : n ≤ 500) : Fit (n + 1) 0 (.int i) := by
  have z : (10 : Nat) ^ n < 2 ^ 1920 := Nat.lt_of_le_of_lt (Nat.pow_le_pow_right (by decide) hn) (by decide +kernel)
  refine ⟨decide_eq_true (log2_small (Nat.lt_trans h z)), ?_, by simp [PyData.depth]⟩
  rw [PyData.shown_int, PySem.ofString_length]
  exact int_text_length_le10 h0 h
/-- a datum is equal to itself -/
theorem eqv_self {K : PySem.W.Frag} {H : Hp} {x : V} {d : PyData} (D : DatV K H x d) (n : Nat) : EqV K H (n + 1) x x := by
  cases D with
  | non => exact .inl ⟨rfl, rfl⟩
  | bl b => exact .inl ⟨rfl, rfl⟩
  | int i => exact .inl ⟨rfl, rfl⟩
  | str y => exact .inl ⟨rfl, rfl⟩
  | lst _ _ => exact .inr (.inl ⟨_, rfl, rfl⟩)
  | tup _ _ => exact .inr (.inl ⟨_, rfl, rfl⟩)
  | dic _ _ => exact .inr (.inl ⟨_, rfl, rfl⟩)
theorem paired_rep {α β : Type} {F : α → β → Prop} {a : α} {b : β} (h : F a b) : ∀ n : Nat, Paired F (List.replicate n a) (List.replicate n b)
  | 0 => .nil
  | n + 1 => .cons h (paired_rep h n)
theorem datA_rep {K : PySem.W.Frag} {H : Hp} {x : V} {d : PyData} (D : DatV K H x d) : ∀ n : Nat, DatA K H (List.replicate n x) (List.replicate n d)
  | 0 => .nil
  | n + 1 => .cons D (datA_rep D n)
end Ns
/-! NsG: defs that are called where no repr is under way (the guards are known to be none); xs[i] op= e of a list; the end of a law over such a def. -/
namespace Ns
open PySem PySem.Spec PyProof.Rows L2

/-- as FnOk, for calls with no guard around -/
structure GnOk (P : Program) (w : World) (K : PySem.W.Frag) (mg : Str → Option Value) (base : Heap) (k : Nat) (f : Addr) (fd : FuncData) (ps : List Str) (sp : Sp) : Prop where
  glen : ∀ as H Q E, sp as H Q E → as.length = ps.length
  grun : ∀ (A : Around) (outer : List Env) (s : Shared) (H : Hp) (args : Args) (us : List Value) (as : List V) (Q : VK) (E : XK), Room k A → A.guards = some [] → Env0 P w K mg base A outer s H →
    BindsTo s fd args (ps.zip us) → Vals as us → sp as H Q E → codeAny (model P w) A (.call (.ref f) args) (CR CX0 outer P w H s Q E) s
theorem FnOk.guarded {P : Program} {w : World} {K : PySem.W.Frag} {mg : Str → Option Value} {base : Heap} {k : Nat} {f : Addr} {fd : FuncData} {ps : List Str} {sp : Sp} (F : FnOk P w K mg base CX0 k f fd ps sp) : GnOk P w K mg base k f fd ps sp :=
  ⟨F.len, fun A outer s H args us as Q E hr _ e b v h => F.run A outer s H args us as Q E hr e b v h⟩

section
variable {X : Cx} {k : Nat} {f : Addr} {fd : FuncData} {ps : List Str} {sp : Sp} {x : Str} {p pos : Pos} {e : Expr} {es : List Expr} {t : TA}
theorem run_g {pins : List (Addr × Obj)} {σ : L2.St} {H : Hp} {s : Shared} {Q : VK} {us : List Value} {as : List V} (F : GnOk X.prog X.w X.K X.mg X.base k f fd ps sp) (hr : Room k X.A) (hgd : X.A.guards = some []) (hb : Binds X.K fd ps [])
    (I : Inv X pins σ H s) (r : Vals as us) (h : sp as H Q E0) : wpAny (model X.prog X.w) X.A (call (.ref f) us) (EP X pins σ Q) X.xe s := by
  have hl : us.length = ps.length := r.length.symm.trans (F.glen _ _ _ _ h)
  have bb := hb s us I.kIn (by rw [List.append_nil]; exact hl)
  rw [List.append_nil] at bb
  refine wpAny_call (codeAny_mono (F.grun X.A X.stack s H ⟨us, []⟩ us as Q E0 hr hgd I.env0 bb r h) fun z s' hz => ?_)
  match z, hz with
  | .error _, hz => exact (show False from hz).elim
  | .ok (.ret u), hz => exact I.after hz
  | .ok .next, hz => exact (show False from hz).elim
  | .ok .brk, hz => exact (show False from hz).elim
  | .ok .cont, hz => exact (show False from hz).elim
theorem pe_callG (F : GnOk X.prog X.w X.K X.mg X.base k f fd ps sp) (hr : Room k X.A) (hgd : X.A.guards = some []) (hg : Gl X x) (hm : X.mg x = some (.ref f)) (hk : PySem.W.keepIn X.K (.ref f) = true) (hb : Binds X.K fd ps [])
    (ha : PA X (e :: es) t) (hdb : (x == ("__debug__" : Str)) = false := by decide) (he : starEach (e :: es) X.env = (false, eval e X.env) :: starEach es X.env := by rfl) (hpl : (backTo pos (starEach es X.env)).any (·.1) = false := by rfl) :
    PE X (.Call (.Name x p) (e :: es) [] pos) (tCall sp [] E0 t) :=
  ⟨fun pins s σ H Q I h => wpAny_Call_Name_kw (ld_glob I hg hm (PySem.W.callWith_K (h₀ := X.base) I.ok.mod.kin hk (thn (ha.run pos pins s σ H _ I h) fun us s1 ⟨as, H1, I1, r, q⟩ => ⟨I1.kIn, run_g F hr hgd hb I1 r (by have q' : sp (as ++ []) H1 Q E0 := q; rw [List.append_nil] at q'; exact q')⟩) he hpl) hdb)⟩
end

/-- the def by its body: the guards are known within -/
theorem Fun.okG {P : Program} {w : World} {K : PySem.W.Frag} {mg : Str → Option Value} {base : Heap} {x qual : Str} {st : Stmt} {f : Addr} {fd : FuncData} {N ps : List Str} {k : Nat} {sp : Sp} (F : Fun K x qual st f fd) (S : FnScope N ps (defScope st))
    (len : ∀ as H Q E, sp as H Q E → as.length = ps.length)
    (body : ∀ (cdv : Value) (A : Around) (outer : List Env) (s : Shared) (H : Hp) (as : List V) (Q : VK) (E : XK), Room k (A.deeper (envOfC qual (defScope st) s.heap.objs.size f cdv)) → (A.deeper (envOfC qual (defScope st) s.heap.objs.size f cdv)).guards = some [] → sp as H Q E →
      ∃ t, PSs (cxOf CX0 P w K mg base N qual (defScope st) f cdv A outer s H E).nox (defBody st) t ∧ t { nx := fun _ H' => Q .non H', rt := Q } (start N as) H) : GnOk P w K mg base (k + 1) f fd ps sp := by
  obtain ⟨oc, od, kV, doc, pm, an, cdv, ct, osl, rfl, lk, hcd⟩ := F.ex
  refine ⟨len, fun A outer s H args us as Q E hr hgd e0 hb r hsp => ?_⟩
  have old : ∀ b o, base.get? b = some o → s.heap.get? b = some o := fun b o z => (e0.bs b o z).1
  have kin : K.In s.heap := e0.mod.kin.keeps old
  refine codeAny_call_function hr.depth (kin _ _ lk) rfl S.co S.gen rfl (PySem.W.codeRec_of kin hcd) (hb _ _ _ _ (wpAny_newFunctionEnv_cells S.kind (fun y hy => ?_) fun env he s1 x => ?_))
  · have hm := (List.of_mem_zip (show (y.1, y.2) ∈ ps.zip us from hy)).1
    exact (S.par y.1 hm).imp (fun z => z) fun z => ⟨z, PySem.W.cellsFrom_some _ _ _ (.inl z)⟩
  · cases he
    refine ⟨(e0.mod.nolimit.keeps old).keeps x.toInCall.keep, codeAny_func ?_⟩
    obtain ⟨t, ht, hq⟩ := body cdv A outer s H as Q E (hr.deeper _) hgd hsp
    have J := inv_start (CX := CX0) (E := E) S hr.hd e0 (len _ _ _ _ hsp) r x
    refine wpAny_mono (ht.nox.run [] s1 (start N as) H _ J hq) (fun fl s' hs => ?_) fun e s' hs => hs
    match fl, hs with
    | .ret u, ⟨v, _, H', J', rv, q⟩ => exact ⟨v, H', J'.os, J'.bare, J'.base, J'.hok, rv, q⟩
    | .next, ⟨_, H', J', q⟩ => exact ⟨V.non, H', J'.os, J'.bare, J'.base, J'.hok, rfl, q⟩
    | .brk, ⟨_, _, _, q⟩ => exact (show False from q).elim
    | .cont, ⟨_, _, _, q⟩ => exact (show False from q).elim
end Ns
/-! NsH: the end of a law over a guarded def; xs[i] op= e. -/
namespace Ns
open PySem PySem.Spec PyProof.Rows L2

/-- what a law's def promises: of a list of ints, True -/
def spTop (K : PySem.W.Frag) : Sp := fun as H Q _ => ∃ (a : Addr) (ns : List Int), as = [.ref a] ∧ SqL K H a (ns.map V.int) ∧ ns.length ≤ 63 ∧ ∀ H', Q (.bl true) H'

/-- the abstract heap at the entry: the script at a alone, unless it is a written object -/
theorem entry_core {P : Program} {w : World} {K : PySem.W.Frag} {mg mb : Str → Option Value} {k : Nat} {fa a : Addr} {fd : FuncData} {s : Shared} {vs : List Value} {ns : List Int} (kin : K.In s.heap) (gl : s.heap.Ns mainGlobals mg)
    (bl : s.heap.Ns builtinsNs mb) (bb : ∀ x : Str, x ≠ "__name__" → mb x = bootBuiltins x) (nl : s.heap.NoLimit) (ge : s.gens = #[]) (sc : s.heap.get? a = some { cls := .type "list", data := .seq vs.toArray }) (l63 : ns.length ≤ 63)
    (hr : Room k callerA) (F : ∀ base : Heap, K.In base → base.Ns mainGlobals mg → GnOk P w K mg base k fa fd ["script"] (spTop K)) (bd : ∀ (z : Shared) (u : Value), BindsTo z fd ⟨[u], []⟩ [("script", u)])
    (H : Hp) (only : ∀ b o, H b = some o → b = a ∧ ∃ ob xs, o = .frz ob (.lst xs)) (free : H a ≠ none → K.lookup a = none) (hok : HOk P w H s.heap) (sq : SqL K H a (ns.map V.int)) :
    codeAny (model P w) callerA (.call (.ref fa) ⟨[.ref a], []⟩) (fun r s' => r = .ok (.ret (.bool true)) ∧ OldK s.heap s'.heap ∧ s'.os = s.os ∧ AllBare s'.gens) s := by
  have noD : ∀ {b : Addr} {o : Obj} {es : Array DictEntry} {n : Nat}, s.heap.get? b = some o → o.data = .dict es n → H b = none := by
    intro b o es n e d
    cases q : H b with
    | none => rfl
    | some u =>
      obtain ⟨rfl, _⟩ := only b u q
      rw [sc] at e
      cases e
      cases d
  have ns' : ∀ {b : Addr} {m : Str → Option Value}, s.heap.Ns b m → (hidT s.heap H).Ns b m := by
    rintro b m ⟨o, es, n, e, d, r⟩
    exact ⟨o, es, n, hidT_get e (noD e d), d, r⟩
  have kin' : K.In (hidT s.heap H) := by
    intro b o e
    refine hidT_get (kin b o e) ?_
    cases q : H b with
    | none => rfl
    | some u =>
      obtain ⟨rfl, _⟩ := only b u q
      rw [free (by rw [q]; exact fun z => nomatch z)] at e
      cases e
  have md : Mod K mg (hidT s.heap H) := by
    obtain ⟨mc, n1, n2⟩ := nl
    exact { kin := kin', glob := ns' gl, blt := ⟨mb, ns' bl, bb⟩, nolimit := ⟨mc, ns' n1, n2⟩ }
  have e0 : Env0 P w K mg (hidT s.heap H) callerA [] s H :=
    { frames := rfl, mod := md, bs := fun b o e => of_hidT e, bsz := Nat.le_of_eq (hidT_size _ _), funs := trivial, frf := fun b hb => (List.not_mem_nil hb).elim, hok := hok, bare := .of_eq ge }
  have run := (F _ kin' (ns' gl)).grun callerA [] s H ⟨[.ref a], []⟩ [.ref a] [.ref a] (fun v _ => v = .bl true) E0 hr rfl e0 (bd s (.ref a)) (.cons rfl .nil) ⟨a, ns, rfl, sq, l63, fun _ => rfl⟩
  refine codeAny_mono run fun r s' h => ?_
  match r, h with
  | .error _, h => exact (show False from h).elim
  | .ok .next, h => exact (show False from h).elim
  | .ok .brk, h => exact (show False from h).elim
  | .ok .cont, h => exact (show False from h).elim
  | .ok (.ret u), ⟨v, H', o', bare, un, hok', rv, q⟩ =>
    have q' : v = .bl true := q
    rw [q'] at rv
    have eu : u = Value.bool true := rv
    rw [eu]
    refine ⟨rfl, OldK.of_keep fun b o e => ?_, o', bare⟩
    cases z : H b with
    | none => exact un.keep b o e z (fun y => List.not_mem_nil y) List.not_mem_nil
    | some u' =>
      obtain ⟨_, ob, xs, rfl⟩ := only b u' z
      have h1 : s.heap.get? b = some ob := (hok b _ z).1
      have h2 : s'.heap.get? b = some ob := (hok' b _ (un.frzs b ob _ z)).1
      rw [e] at h1
      cases h1
      exact h2

theorem walk_ofG {l : PySem.W.OpenLaw} {k : Nat} {q : Program} {loose : List Str} {XP : (Str → Option Value) → Heap → Prop} {YP : World → Heap → Prop} {d : DefRec} {K : Params → PySem.W.Frag} (hn : l.most = some 63) (hdf : d.params.defaults = []) (hr : Room k callerA)
    (hY : ∀ (w : World) (h : Heap), YP w h → (K w.params).In h)
    (F : ∀ (w : World) (mg : Str → Option Value) (fa : Addr) (h : Heap), (K w.params).In h → h.Ns mainGlobals mg → mg d.name = some (.ref fa) →
      ∃ fd : FuncData, (∀ (z : Shared) (u : Value), BindsTo z fd ⟨[u], []⟩ [("script", u)]) ∧ ∀ base : Heap, (K w.params).In base → base.Ns mainGlobals mg → GnOk l.prog w (K w.params) mg base k fa fd ["script"] (spTop (K w.params))) :
    PySem.W.WalkO q loose XP YP l.row.toRowW d [] (fun f vs => PySem.call f vs) := by
  refine Att.attach_call hn hdf ?_
  intro w s0 s mg mb fa o pm cd doc a vs ns G Y ho hd hcd hmg hobj hints hlen hg
  obtain ⟨fd, bd, hF⟩ := F w mg fa _ (hY w _ Y) G.T.g hmg
  have rv := vals_ints hints
  have hz : (ns.map V.int).length ≤ sizeLine := by
    rw [List.length_map]
    exact Nat.le_trans hlen (by decide)
  have go := entry_core (P := l.prog) (w := w) (a := a) (ns := ns) (hY w _ Y) G.T.g G.T.b G.T.builtins G.T.nolimit hg hobj hlen hr hF bd
  cases hk : (K w.params).lookup a with
  | some ok =>
    have e := hY w _ Y a ok hk
    rw [hobj] at e
    cases e
    refine go (fun _ => none) (fun b o z => nomatch z) (fun z => absurd rfl z) (fun b u z => nomatch z) (.inr ⟨_, vs.toArray, _, hk, rfl, rfl, rfl, ?_, by simpa using rv⟩)
    rw [List.size_toArray, ← rv.length]
    exact hz
  | none =>
    have at_a : (fun b => if b = a then some (HO.frz { cls := .type "list", data := .seq vs.toArray } (.lst (ns.map V.int))) else none) a = some (HO.frz { cls := .type "list", data := .seq vs.toArray } (.lst (ns.map V.int))) := if_pos rfl
    have un_a : ∀ (b : Addr) (u : HO), (if b = a then some (HO.frz { cls := .type "list", data := .seq vs.toArray } (.lst (ns.map V.int))) else none) = some u → b = a ∧ u = HO.frz { cls := .type "list", data := .seq vs.toArray } (.lst (ns.map V.int)) := by
      intro b u z
      by_cases hb : b = a
      · rw [if_pos hb] at z
        exact ⟨hb, (Option.some.inj z).symm⟩
      · rw [if_neg hb] at z
        cases z
    refine go (fun b => if b = a then some (HO.frz { cls := .type "list", data := .seq vs.toArray } (.lst (ns.map V.int))) else none) (fun b u z => ?_) (fun _ => hk) (fun b u z => ?_) (.inl (.inr ⟨_, at_a⟩))
    · obtain ⟨e1, e2⟩ := un_a b u z
      exact ⟨e1, _, _, e2⟩
    · obtain ⟨e1, e2⟩ := un_a b u z
      subst e1
      subst e2
      exact ⟨hobj, hz, vs, _, rv, hobj⟩

/-- o[i] of a list, by values -/
theorem get_list {X : Cx} : PGet X (rIxL X.K) := by
  intro pins s σ H o i ov iv Q I ro ri h
  obtain ⟨p, xs, j, v, rfl, rfl, hS, hat, q⟩ := h
  cases (show ov = Value.ref p from ro)
  obtain ⟨t, rfl⟩ := (show ∃ t, iv = Value.int j t from ri)
  obtain ⟨its, rv, pl, hz⟩ := I.list hS
  obtain ⟨n, h1, h2, h3, h4, h5⟩ := atI_get hat
  obtain ⟨u, eu, ru⟩ := rv.get h2
  have ln := rv.length
  have l63 := line63
  have done : EP X pins σ Q u s := ⟨v, H, I, ru, q⟩
  rcases Int.lt_or_le j 0 with c | c
  · refine wpAny_getItem_list_neg pl.isList (by omega) (by rw [List.size_toArray]; omega) (by omega) ?_ done
    have e : (j + (its.toArray.size : Int)).toNat = n := by
      rw [seqIndex_neg (by omega) h4] at h1
      rw [List.size_toArray, ← ln]
      exact Option.some.inj h1
    rw [e]
    simpa using eu
  · refine wpAny_getItem_list pl.isList c (by omega) ?_ done
    have e : j.toNat = n := by
      rw [seqIndex_of c h5] at h1
      exact Option.some.inj h1
    rw [e]
    simpa using eu
end Ns
/-! NsX: own exceptions as values: made, their fields read, asked by isinstance; a try whose second clause takes what is raised. -/
namespace Ns
open PySem PySem.Spec PyProof.Rows L2

/-- an exception of the class at C stands at a, its own dict (if it has one) holds fs -/
def ExAt (H : Hp) (a C : Addr) (fs : List (Str × V)) : Prop := (fs = [] ∧ H a = some (exo a C none)) ∨ ∃ d, H a = some (exo a C (some d)) ∧ H d = some (exd d fs)
theorem ExAt.more {H H' : Hp} {a C : Addr} {fs : List (Str × V)} (h : ExAt H a C fs) (m : Same H H') : ExAt H' a C fs :=
  h.imp (fun z => ⟨z.1, m _ _ z.2⟩) fun ⟨d, z1, z2⟩ => ⟨d, m _ _ z1, m _ _ z2⟩
/-- C(e, ..) as a value -/
def tOexV (C : Addr) (sp : Sp) (ta : TA) : TE := fun σ H Q => ta σ H fun as H1 => as.length ≤ 1000 ∧ ∀ a, H1 a = none → sp (.ref a :: as) (upd H1 a (exo a C none)) (fun v H2 => v = .non ∧ Q (.ref a) H2) E0
section
variable {X : Cx} {e : Expr} {es : List Expr} {ta : TA} {te : TE} {x : Str} {p pos : Pos}
theorem pe_oexV {C fI : Addr} {k : Nat} {fd : FuncData} {ps : List Str} {sp : Sp} (T : OexC X.K C) (iC : PySem.W.findIn X.K (.ref C) "__init__" = some (some (.ref fI))) (tI : PySem.W.typeIn X.K (.ref fI) = some (.type "function"))
    (F1 : FnOk X.prog X.w X.K X.mg X.base CX0 k fI fd ps sp) (hr : Room (k + 1) X.A) (hb : Binds X.K fd ps []) (hg : Gl X x) (hm : X.mg x = some (.ref C)) (ha : PA X (e :: es) ta)
    (hdb : (x == ("__debug__" : Str)) = false := by decide) (he : starEach (e :: es) X.env = (false, eval e X.env) :: starEach es X.env := by rfl) (hpl : (backTo pos (starEach es X.env)).any (·.1) = false := by rfl) :
    PE X (.Call (.Name x p) (e :: es) [] pos) (tOexV C sp ta) := by
  refine ⟨fun pins s σ H Q I h => wpAny_Call_Name_kw (ld_glob I hg hm (PySem.W.callWith_K (h₀ := X.base) I.ok.mod.kin T.kC (thn (ha.run pos pins s σ H _ I h) fun us s1 hq => ?_) he hpl) hdb)⟩
  obtain ⟨as, H1, I1, r1, hz, q1⟩ := hq
  refine ⟨I1.kIn, ?_⟩
  obtain ⟨nm, q, N, bs, bm, sn, sub, ab, col, dd, k0, k1, k2, k3, k5, hC, hbm⟩ := T.cls
  obtain ⟨hp, g, dr, tk, os⟩ := s1
  have h9 := q1 (hp.objs.size + 1) (I1.hok.fresh (Nat.le_succ _))
  have old : ∀ b o, hp.get? b = some o → ((hp.push (PySem.W.kdv_tup us)).push (PySem.HandSPX.excO C hp.objs.size)).get? b = some o := fun b o z => Heap.get?_push_of_some _ (Heap.get?_push_of_some _ z)
  have new : ((hp.push (PySem.W.kdv_tup us)).push (PySem.HandSPX.excO C hp.objs.size)).get? (hp.objs.size + 1) = some (PySem.HandSPX.excO C hp.objs.size) := by heap_get
  have J := I1.laid (t' := tk) (a := hp.objs.size + 1) (o := exo (hp.objs.size + 1) C none) old (Nat.le_succ _) (exo_ok new)
  have rr : Vals (V.ref (hp.objs.size + 1) :: as) (Value.ref (hp.objs.size + 1) :: us) := .cons rfl r1
  have ll : (Value.ref (hp.objs.size + 1) :: us).length = ps.length := rr.length.symm.trans (F1.len _ _ _ _ h9)
  have bb := hb ⟨(hp.push (PySem.W.kdv_tup us)).push (PySem.HandSPX.excO C hp.objs.size), g, dr, tk, os⟩ (Value.ref (hp.objs.size + 1) :: us) J.kIn (by rw [List.append_nil]; exact ll)
  rw [List.append_nil] at bb
  have us9 : us.length ≤ sizeLine := by
    rw [← Paired.length r1, sizeLine_eq]
    omega
  have run := F1.run (X.A.under (.builtin "type.__call__" ⟨.ref C :: us, []⟩)) X.stack _ _ ⟨Value.ref (hp.objs.size + 1) :: us, []⟩ _ _ _ E0 (hr.make C us []) (J.env0.make C us []) bb rr h9
  refine wpAny_call (PySem.HandSPX.call_own F.excBase_ValueError (fun Y => PySem.HandSPX.refsVE_contains Y bm hbm) (I1.kIn _ _ hC) (PySem.W.looks_findIn I1.kIn iC) (fun self => PySem.W.bind_fn I1.kIn self tI) us9 (codeAny_mono run fun r s' hs => ?_))
  match r, hs with
  | .error _, hs => exact (show False from hs).elim
  | .ok .next, hs => exact (show False from hs).elim
  | .ok .brk, hs => exact (show False from hs).elim
  | .ok .cont, hs => exact (show False from hs).elim
  | .ok (.ret u), hs =>
    obtain ⟨v, H2, J2, rv, ev, q2⟩ := J.after hs
    rw [ev] at rv
    exact ⟨rv, ⟨.ref (hp.objs.size + 1), H2, J2, rfl, q2⟩⟩
/-- C(), without an __init__ of its own -/
theorem pe_oex0 {C : Addr} {bmB : List Value} {B newId initId : String} (F : ExcBaseFacts B newId initId bmB) (q : PySem.W.excIn X.K C bmB newId = true) (kC : PySem.W.keepIn X.K (.ref C) = true) (hg : Gl X x) (hm : X.mg x = some (.ref C))
    (hdb : (x == ("__debug__" : Str)) = false := by decide) : PE X (.Call (.Name x p) [] [] pos) (fun _ H Q => ∀ a, H a = none → Q (.ref a) (upd H a (exo a C none))) := by
  refine ⟨fun pins s σ H Q I h => wpAny_Call_Name_kw (ld_glob I hg hm (PySem.W.callWith_K0 I.kIn kC ?_) hdb)⟩
  obtain ⟨bm, N, nm, qn, bs, hdct, sn, sub, ab, col, dd, k0, k1, k2, k3, k5, mN, hC, hN, hni, T⟩ := exc_obj I.kIn q
  refine wpAny_call_exc_subT (rest := []) F T hC hN hni (fun h' a hm => ?_) (Nat.zero_le _)
  have hn : H a = none := I.hok.gone hm.new
  obtain ⟨t, ht, _⟩ := hm.there
  exact ⟨.ref a, upd H a (exo a C none), I.laidN hm.keeps hm.new hn (exo_ok ht), rfl, h a hn⟩
/-- e.f of an exception -/
def tExF (K : PySem.W.Frag) (f : Str) (te : TE) : TE := fun σ H Q => te σ H fun x H1 => ∃ a C fs v, x = .ref a ∧ ExAt H1 a C fs ∧ XfC K C ∧ PySem.W.findIn K (.ref C) f = some none ∧ fs.lookup f = some v ∧ Q v H1
theorem pe_exF {f : Str} (he : PE X e te) (hb : attributeBase e f X.env (eval e X.env) = eval e X.env := by rfl) : PE X (.Attribute e f pos) (tExF X.K f te) := by
  refine ⟨fun pins s σ H Q I h => attr_of hb (thn (he.run pins s σ H _ I h) fun u s1 hh => ?_)⟩
  obtain ⟨x, H1, I1, rx, a, C, fs, v, rfl, hA, T, hno, hl, q⟩ := hh
  cases (show u = Value.ref a from rx)
  rcases hA with ⟨rfl, _⟩ | ⟨d, ea, ed⟩
  · cases hl
  · obtain ⟨t1, ho⟩ := exo_at I1.hok ea
    obtain ⟨mA, hns, hr⟩ := exd_at I1.hok ed
    obtain ⟨od, hod, look⟩ := lookIn_ns hns
    have rv := hr f
    rw [hl] at rv
    obtain ⟨u, hu, ru⟩ := RelO.some_of rv
    have J : PySem.W.InstAt s1.heap a _ C (some od) := ⟨ho, rfl, rfl, hod⟩
    exact HandSPX.exc_get I1.kIn J T.ga T.gg T.exC (PySem.W.findObj_own T.hdC hno rfl (by rw [look, hu])) (handed_of ru) ⟨v, H1, I1.tok _, ru, q⟩
end
end Ns
/-! NsY: isinstance of an exception that is held as a value. -/
namespace Ns
open PySem PySem.Spec PySem.Calls PyProof.Rows PySem.W
section
variable {prog : Program} {w : World} {A : Around} {E : Value → Shared → Prop} {s : Shared} {K : Frag} {x D : Addr} {ox : Obj} {od : Option Obj}
theorem find_class {C : Addr} {a g : Value} {name : Str} (hc : (clsIn K C).isSome = true) (h1 : findIn K (.ref C) name = some (some a)) (h2 : specialIn K a "__get__" = some (some g)) (h3 : takesIn K a = some true) : findObj K C od name = some (.bind g a) := by
  cases od with
  | none => exact findObj_dataN hc h1 h2 h3
  | some o => exact findObj_data hc h1 h2 h3
/-- x.__class__ of an exception, with or without a dict of its own -/
theorem class_of {Q : Option Value → Shared → Prop} (c : L2.ExcC K D) (kin : K.In s.heap) (J : InstAt s.heap x ox D od) (hq : Q (some (.ref D)) { s with toks := s.toks + 1 }) : wpAny (model prog w) A (getAttr? (.ref x) "__class__") Q E s := by
  have has : (clsIn K D).isSome = true := by
    obtain ⟨cd, e, _⟩ := any_some c.hd
    rw [e]
    rfl
  have fd : findObj K D od "__class__" = some (.bind (.builtin "getset_descriptor.__get__") (.builtin "object.__class__")) := find_class has c.ha c.hn c.ht
  obtain ⟨hp, g, dr, tk, os⟩ := s
  have ty := J.type (M := model prog w)
  have lk := looks_find (M := model prog w) kin J fd
  have ga := looks_findIn (M := model prog w) kin c.hg
  have gt := looks_findIn (M := model prog w) kin c.hk
  have is : Looks (model prog w) hp (isInstance (.ref x) (.type "BaseException")) true := ty.andThen (looks_subIn kin c.hs)
  have b1 : (false && onTheHeap (Value.builtin "BaseException.__getattribute__")) = false := rfl
  have b3 : (Value.builtin "BaseException.__getattribute__" == Value.builtin "object.__getattribute__") = false := by decide +kernel
  have b2 : (onTheHeap (Value.ref D) && Value.builtin "BaseException.__getattribute__" == Value.builtin "object.__getattribute__") = false := (congrArg (onTheHeap (Value.ref D) && ·) b3).trans rfl
  unfold getAttr? getAttrBy? getAttrBy
  refine wpAny_bind (wpAny_mkText (wpAny_bind (wpAny_attempt (wpAny_holding (wpAny_bind (ty.at (wpAny_bind (ga.at ?_))))))))
  show wpAny _ _ (if (onTheHeap (Value.ref D) && Value.builtin "BaseException.__getattribute__" == Value.builtin "object.__getattribute__") = true then _ else _) _ _ ⟨hp, g, dr, tk + 1, os⟩
  rw [if_neg (show ¬ (onTheHeap (Value.ref D) && Value.builtin "BaseException.__getattribute__" == Value.builtin "object.__getattribute__") = true from fun z => by rw [b2] at z; exact Bool.noConfusion z)]
  unfold getAttrByItsOwn hookBefore
  refine wpAny_bind ((if_pos (show onTheHeap (Value.ref D) = true from rfl)).symm ▸ gt.at (wpAny_bind (wpAny_attempt (wpAny_holding ?_))))
  unfold callGetattribute
  rw [if_neg (show ¬ (false && onTheHeap (Value.builtin "BaseException.__getattribute__")) = true from fun z => by rw [b1] at z; exact Bool.noConfusion z)]
  unfold boundAndCalled
  rw [PySem.F.excAttr_ValueError.ga.bind (.ref x)]
  refine wpAny_bind (wpAny_pure (wpAny_call (codeAny_call_builtin PySem.F.excAttr_ValueError.ga.plain PySem.F.entry_bexc_ga
    (@check_slot (model prog w) _ _ ⟨hp, g, dr, tk + 1, os⟩ "BaseException.__getattribute__" "BaseException" "__getattribute__" (.ref x) [.str "__class__" tk] [] _ (by decide +kernel) (by decide +kernel) is (PySem.F.args_bexc_ga (.ref x) (.str "__class__" tk)) ?_))))
  unfold Builtin.«object.__getattribute__»
  refine wpAny_bind (wpAny_of_eq (a := ((Value.ref x : Value), [Value.str "__class__" tk])) (by first | rfl | (simp only [slotArgs]; rfl)) (wpAny_bind (wpAny_pure (wpAny_bind (ty.at (wpAny_bind (lk.at ?_)))))))
  show wpAny _ _ (holding [Value.builtin "object.__class__"] (call (.builtin "getset_descriptor.__get__") [.builtin "object.__class__", .ref x, .ref D]) >>= ret) _ _ ⟨hp, g, dr, tk + 1, os⟩
  refine wpAny_bind (wpAny_holding (wpAny_call (class_get (s := ⟨hp, g, dr, tk + 1, os⟩) (ox := ox) (od := od) kin J c.hm (wpAny_pure ?_))))
  show wpAny _ _ (handedOut (.ref D)) _ _ ⟨hp, g, dr, tk + 1, os⟩
  rw [handedOut_of (v := .ref D) rfl]
  first
    | exact wpAny_pure (wpAny_pure hq)
    | exact wpAny_pure hq
    | exact wpAny_pure (wpAny_bind (wpAny_pure (wpAny_pure hq)))
/-- the class's own object -/
theorem cls_obj (hd : hasDictIn K D = true) : ∃ o cd, K.lookup D = some o ∧ o.data = .cls cd := by
  obtain ⟨cd, e, _⟩ := any_some hd
  unfold clsIn at e
  split at e
  · rename_i c' d' k' s' q
    exact ⟨_, k', q, rfl⟩
  · exact nomatch e
theorem kx_exc (c : L2.ExcC K D) : KitX K (.ref x) (.ref D) (fun h => InstAt h x ox D od) where
  ty _ _ _ J := J.type
  it M h kin _ := by
    obtain ⟨o, cd, q, dq⟩ := cls_obj c.hd
    intro A' Q' E' s' k hq
    unfold isType loadHead
    refine wpAny_bind (wpAny_loadPart (k D o (kin D o q)) (wpAny_pure ?_))
    rw [dq]
    exact hq
  ne h tp dd its n sl kin z := by
    cases e : (Value.ref D == .ref tp) with
    | false => rfl
    | true =>
      obtain ⟨o, cd, q, dq⟩ := cls_obj c.hd
      have e' : D = tp := Value.ref.inj (beq_iff_eq.mp e)
      have y := kin D o q
      rw [e', z] at y
      cases y
      cases dq
  ca kin J q := class_of c kin J q
end
end Ns
namespace Ns
open PySem PySem.Spec PyProof.Rows L2
/-- isinstance(e, c), e an exception that is held -/
def rIsX (K : PySem.W.Frag) : List V → Hp → VK → Prop := fun xs H Q => ∃ (a C : Addr) (fs : List (Str × V)) (c : V) (cv : Value) (b : Bool), xs = [.ref a, c] ∧ ExAt H a C fs ∧ ExcC K C ∧ ClsV c cv ∧ PySem.W.kitOne K (.ref C) cv = some b ∧ Q (.bl b) H
theorem call_isX {X : Cx} : CallR X (.builtin "isinstance") (rIsX X.K) := by
  intro pins s σ H xs us Q I r h
  obtain ⟨a, C, fs, c, cv, b, rfl, hA, T, k, e, q⟩ := h
  obtain ⟨u1, u2, rfl, r1, r2⟩ := vals2 r
  cases (show u1 = Value.ref a from r1)
  have e2 := k.eq r2
  rw [e2]
  obtain ⟨ox, od, J⟩ : ∃ ox od, PySem.W.InstAt s.heap a ox C od := by
    rcases hA with ⟨_, ea⟩ | ⟨d, ea, ed⟩
    · obtain ⟨t1, ho⟩ := exo_at I.hok ea
      exact ⟨_, none, ho, rfl, rfl, trivial⟩
    · obtain ⟨t1, ho⟩ := exo_at I.hok ea
      obtain ⟨mA, ⟨od, es, ep, hod, rr⟩, _⟩ := exd_at I.hok ed
      exact ⟨_, some od, ho, rfl, rfl, hod⟩
  exact PySem.W.kia_one (kx_exc T) I.kIn J e (fun z => nomatch z) fun tk => ⟨.bl b, H, I.kept (t' := tk) fun _ _ z => z, rfl, q⟩
end Ns
/-! NsT: try .. except A: .. except B as e: suite, where what is raised is taken by B. -/
namespace Ns
open PySem PySem.Spec PyProof.Rows L2
def wTwo (K : PySem.W.Frag) (c1 c2 : Value) (i : Nat) (ts : Addr → Value → Option Addr → TS) (D : Ends) : WX := fun cls d σ H => PySem.W.exmOne K cls c1 = some false ∧ PySem.W.exmOne K cls c2 = some true ∧
  ∀ a, H a = none → ts a cls d { nx := fun σ' H' => D.nx (σ'.set i none) H', rt := D.rt, bk := fun σ' H' => D.bk (σ'.set i none) H', ct := fun σ' H' => D.ct (σ'.set i none) H' } (σ.set i (some (.ref a))) H
section
variable {X : Cx} {x1 x2 n : Str} {c1 c2 : Value} {i : Nat} {body suite1 suite : List Stmt} {b1 b2 : Stmt} {p1 p2 p3 p4 pos : Pos} {tb : WX → TS} {ts : Addr → Value → Option Addr → TS}
theorem ps_try_two (hs : X.stack = X.env :: X.outer) (hf : X.env.frame = some X.env.locals) (hN : X.N.Nodup) (hi : X.N[i]? = some n) (hln : X.env.kindOf n = some .local) (hc1 : Names X x1 c1) (hc2 : Names X x2 c2)
    (hb : ∀ (W : WX) (pn : List (Addr × Obj)) (xe : Value → Shared → Prop), Takes (X.tr pn xe) W → PassesOwn (model X.prog X.w) X.A X.env xe → PSs (X.tr pn xe) body (tb W))
    (hsu : ∀ (a : Addr) (oe : Obj) (cls : Value) (d : Option Addr) (pn : List (Addr × Obj)), Zc cls d oe → (∃ vs, oe.data = .fields vs) → PSs (X.suite a ((a, oe) :: pn)) (b2 :: suite) (ts a cls d)) :
    PS X (.Try body [.ExceptHandler (some (.Name x1 p1)) none (b1 :: suite1) p2, .ExceptHandler (some (.Name x2 p3)) (some n) (b2 :: suite) p4] [] [] pos) (fun D σ H => tb (wTwo X.K c1 c2 i ts D) D σ H) := by
  refine ⟨fun pins s σ H D I h => wpAny_Try_except ?_⟩
  have fr : X.A.frames = some (X.env :: X.outer) := hs ▸ I.ok.frames
  have R := hb (wTwo X.K c1 c2 i ts D) (X.pn ++ pins) (fun e s₁ => wpAny (model X.prog X.w) X.A (noteFrame e X.env) (fun _ s₂ => wpAny (model X.prog X.w) X.A (setFlight e none) (fun _ s₃ => wpAny (model X.prog X.w) X.A
    (handleBy e X.env [.ExceptHandler (some (.Name x1 p1)) none (b1 :: suite1) p2, .ExceptHandler (some (.Name x2 p3)) (some n) (b2 :: suite) p4]) (SP X pins D) X.xe s₃) X.xe s₂) X.xe s₁) ?_ PassesOwn.looking
  · refine wpAny_mono (R.run [] s σ H D (I.toTry _) h) (fun f s1 q => ?_) fun e s1 q => q
    match f, q with
    | .next, ⟨σ', H', J, q⟩ => exact wpAny_execs_nil ⟨σ', H', J.ofTry I.ok, q⟩
    | .brk, ⟨σ', H', J, q⟩ => exact ⟨σ', H', J.ofTry I.ok, q⟩
    | .cont, ⟨σ', H', J, q⟩ => exact ⟨σ', H', J.ofTry I.ok, q⟩
    | .ret u, ⟨v, σ', H', J, r, q⟩ => exact ⟨v, σ', H', J.ofTry I.ok, r, q⟩
  · rintro u s' ⟨a, B, sI, pins', σ', H', cls, d, rfl, J', nb, up, sky, na, os, ag, w1, w2, w3⟩
    have J : Inv X pins σ' H' sI := J'.ofTry I.ok
    show wpAny (model X.prog X.w) X.A (noteFrame (.ref a) X.env) _ _ s'
    refine Sky.land Zc.steady fr hf (show Sky B (X.env :: X.outer) a (Zc cls d) X.env.locals s'.heap from hs ▸ sky) fun h3 fl up3 => ?_
    obtain ⟨oe, vs, he, hz, hd⟩ := fl.there
    have out : a ∉ frs (X.env :: X.outer) := fun hm => by
      obtain ⟨_, o2, e2, nf⟩ := fl.2.2.1.mem hm
      cases he.symm.trans e2
      exact nf _ hd
    have nl : a ≠ X.env.locals := fun z => out (List.mem_filterMap.mpr ⟨X.env, .head _, by rw [hf, z]⟩)
    have nf : a ∉ X.fs := fun hm => by
      obtain ⟨ev, h1, h2⟩ := List.mem_filterMap.mp hm
      exact out (List.mem_filterMap.mpr ⟨ev, .tail _ h1, h2⟩)
    have J3 : Inv X pins σ' H' { s' with heap := h3 } := J.landed nb fl.1 (up.trans up3) os ag
    have S3 := J3.suite he hd na nl nf
    have ty : PySem.W.Looks (model X.prog X.w) h3 (typeOf (.ref a)) cls := fun A Q E s k q => wpAny_typeOf_ref (k a oe he) (by rw [hz.1]; exact q)
    have ask : ∀ {x : Str} {c : Value} {np : Pos}, Names X x c → ∀ {Q : Value → Shared → Prop} {E : Value → Shared → Prop}, Q c { s' with heap := h3 } → wpAny (model X.prog X.w) (X.A.mark (some (.ref a))) (eval (.Name x np) X.env) Q E { s' with heap := h3 } := by
      rintro x c np ⟨hg, db, hm | ⟨hm, hv, nn⟩⟩ Q E q
      · exact ld_glob (X := X.suite a ((a, oe) :: (X.pn ++ pins))) S3 hg hm q db
      · exact ld_blt (X := X.suite a ((a, oe) :: (X.pn ++ pins))) S3 hg hm hv q nn db
    -- the first clause declines
    refine wpAny_handleBy_cons (codeAny_handlers_test (ask hc1 ((PySem.W.exm_one (M := model X.prog X.w) J3.kIn ty w1).here ?_))) (fun z => nomatch z)
    show wpAny _ X.A (handleBy (.ref a) X.env [.ExceptHandler (some (.Name x2 p3)) (some n) (b2 :: suite) p4]) _ _ { s' with heap := h3 }
    -- the second one takes it
    refine wpAny_handleBy_cons (codeAny_handlers_test (ask hc2 ((PySem.W.exm_one (M := model X.prog X.w) J3.kIn ty w2).here (codeAny_handlers_suite_as (HandSPX.lands_againZ fl fun h4 fl4 up4 => ?_))))) (fun z => nomatch z)
    obtain ⟨oe4, vs4, he4, hz4, hd4⟩ := fl4.there
    have J4 : Inv X pins σ' H' { s' with heap := h4 } := J.landed nb fl4.1 ((up.trans up3).trans up4) os ag
    have S4 := J4.suite he4 hd4 na nl nf
    refine store_ok (X := X.suite a ((a, oe4) :: (X.pn ++ pins))) (v := .ref a) S4 hN hi (.inl hln) rfl (fun s5 S5 => ?_) (.inr hln)
    refine wpAny_mono ((hsu a oe4 cls d (X.pn ++ pins) hz4 ⟨_, hd4⟩).run [] s5 _ H' _ S5 (w3 a na)) (fun f s6 q => ?_) fun _ _ z => (show False from z).elim
    match f, q with
    | .next, ⟨σ6, H6, S6, q6⟩ => exact gone_ok (S6.unsuite I.ok) hN hi hln fun s7 J7 => ⟨_, _, J7, q6⟩
    | .brk, ⟨σ6, H6, S6, q6⟩ => exact gone_ok (S6.unsuite I.ok) hN hi hln fun s7 J7 => ⟨_, _, J7, q6⟩
    | .cont, ⟨σ6, H6, S6, q6⟩ => exact gone_ok (S6.unsuite I.ok) hN hi hln fun s7 J7 => ⟨_, _, J7, q6⟩
    | .ret u, ⟨v6, σ6, H6, S6, r6, q6⟩ => exact gone_ok (S6.unsuite I.ok) hN hi hln fun s7 J7 => ⟨_, _, _, J7, r6, q6⟩
end
end Ns
/-! the bag of drawn numbers: made, taken from -/
namespace K0
open PySem PySem.Spec PyProof.Rows L2 Ns
def top (i : Nat) : Stmt := PySem.Challenge.pw_nightstairs_k00_errors_of_any_values.main.body.getD i (.Pass ⟨0, 0, 0, 0⟩)
abbrev sBag : Stmt := top 12
abbrev sTake : Stmt := top 13
abbrev sSome : Stmt := top 14
/-- the heap but for b -/
def wo (H : Hp) (b : Addr) : Hp := fun c => if c = b then none else H c
theorem wo_ne {H : Hp} {b c : Addr} (h : c ≠ b) : wo H b c = H c := if_neg h
theorem wo_at {H : Hp} {b : Addr} : wo H b b = none := if_pos rfl
theorem wo_of {H : Hp} {b c : Addr} {o : HO} (h : wo H b c = some o) : c ≠ b ∧ H c = some o := by
  by_cases e : c = b
  · rw [e, wo_at] at h
    cases h
  · exact ⟨e, (wo_ne e).symm.trans h⟩
theorem wo_sub (H : Hp) (b : Addr) : Same (wo H b) H := fun _ _ h => (wo_of h).2
/-- all but b stands -/
def Sb (b : Addr) (H H' : Hp) : Prop := Same (wo H b) (wo H' b)
theorem Sb.refl (b : Addr) (H : Hp) : Sb b H H := Same.refl _
theorem Sb.trans {b : Addr} {H H1 H2 : Hp} (h : Sb b H H1) (g : Sb b H1 H2) : Sb b H H2 := Same.trans h g
theorem Sb.get {b c : Addr} {H H' : Hp} {o : HO} (h : Sb b H H') (e : H c = some o) (n : c ≠ b) : H' c = some o := (wo_of (h c o ((wo_ne n).trans e))).2
theorem Sb.new {b p : Addr} {H H' : Hp} {o : HO} (h : Sb b H H') (n : H' p = none) : Sb b H (upd H' p o) := fun c u e => by
  have q := h c u e
  obtain ⟨q1, q2⟩ := wo_of q
  rw [wo_ne q1, upd_ne (ne_of_none q2 n)]
  exact q2
theorem Sb.put {b : Addr} {H H' : Hp} {o : HO} (h : Sb b H H') : Sb b H (upd H' b o) := fun c u e => by
  obtain ⟨q1, q2⟩ := wo_of (h c u e)
  rw [wo_ne q1, upd_ne q1]
  exact q2
/-- the bag at b -/
def Bag (H : Hp) (b : Addr) : Prop := ∃ (n0 n1 n2 : Int) (l : Addr) (ns : List Int), H b = some (.lst [.int n0, .int n1, .int n2, .ref l]) ∧ H l = some (.lst (ns.map V.int)) ∧ l ≠ b ∧ 0 ≤ n0 ∧ 0 ≤ n1 ∧ n1 < 2147483647 ∧ 0 ≤ n2 ∧ (∀ n ∈ ns, 0 ≤ n) ∧ ns.length ≤ 63
theorem Bag.new {H : Hp} {b p : Addr} {o : HO} (h : Bag H b) (n : H p = none) : Bag (upd H p o) b := by
  obtain ⟨n0, n1, n2, l, ns, h1, h2, r⟩ := h
  exact ⟨n0, n1, n2, l, ns, by rw [upd_ne (ne_of_none h1 n)]; exact h1, by rw [upd_ne (ne_of_none h2 n)]; exact h2, r⟩
theorem Bag.keep {H H' : Hp} {b : Addr} (h : Bag H b) (m : Same H H') : Bag H' b := by
  obtain ⟨n0, n1, n2, l, ns, h1, h2, r⟩ := h
  exact ⟨n0, n1, n2, l, ns, m _ _ h1, m _ _ h2, r⟩
theorem ints_at {ns : List Int} {i : Nat} {v : V} (h : (ns.map V.int)[i]? = some v) : ∃ z, ns[i]? = some z ∧ v = .int z := by
  rw [List.getElem?_map] at h
  obtain ⟨z, e, q⟩ := Option.map_eq_some_iff.mp h
  exact ⟨z, e, q.symm⟩
theorem cut_ints (ns : List Int) (lo hi : Option Int) : ∃ ms : List Int, cutV (ns.map V.int) lo hi = ms.map V.int ∧ (∀ n ∈ ms, n ∈ ns) ∧ ms.length ≤ ns.length := by
  refine ⟨(ns.drop (HT.sIx (ns.map V.int).length 0 lo)).take (HT.sIx (ns.map V.int).length (ns.map V.int).length hi - HT.sIx (ns.map V.int).length 0 lo), ?_, fun n h => List.mem_of_mem_drop (List.mem_of_mem_take h), ?_⟩
  · unfold cutV
    rw [List.map_take, List.map_drop]
  · rw [List.length_take, List.length_drop]
    omega
/-- what the top has left of the built-in names -/
structure Nat0 (mg : Str → Option Value) : Prop where
  abs : mg "abs" = none
  int : mg "int" = none
  len : mg "len" = none
  repr : mg "repr" = none
  isi : mg "isinstance" = none
  range : mg "range" = none
  verr : mg "ValueError" = none

def spBag (K : PySem.W.Frag) : Sp := fun as H Q _ => ∃ (a : Addr) (ns : List Int), as = [.ref a] ∧ SqL K H a (ns.map V.int) ∧ ns.length ≤ 63 ∧ ∀ (b : Addr) (H' : Hp), Bag H' b → H b = none → Same H H' → Q (.ref b) H'
def spTake : Sp := fun as H Q _ => ∃ (b : Addr) (m : Int), as = [.ref b, .int m] ∧ Bag H b ∧ 0 < m ∧ m.natAbs < 2 ^ 200 ∧ ∀ (v : Int) (H' : Hp), 0 ≤ v → v < m → Bag H' b → Sb b H H' → Q (.int v) H'
section
variable {P : Program} {w : World} {K : PySem.W.Frag} {mg : Str → Option Value} {base : Heap}
theorem scB : FnScope ["script", "cell"] ["script"] (defScope sBag) := ⟨rfl, rfl, rfl, by decide +kernel, rfl, by decide +kernel, by decide +kernel⟩
theorem ok_bag {f : Addr} {fd : FuncData} (F : Fun K "_law_bag" "_law_bag" sBag f fd) (T : Nat0 mg) : FnOk P w K mg base CX0 1 f fd ["script"] (spBag K) := by
  refine F.ok scB (fun as H Q E h => ?_) (fun cdv A outer s H as Q E hr h => ?_)
  · obtain ⟨a, ns, rfl, _⟩ := h
    rfl
  · obtain ⟨a, ns, rfl, hS, hl, k⟩ := h
    refine ⟨_, pss_one (ps_ret (pe_lst (pa_cons pe_int (pa_cons pe_int (pa_cons pe_int (pa_cons
      (pe_lc (own := [("cell", 1)]) (g := gName 1) (tt := tYes) rfl scB.nd (pi_list (pe_slice sl_list (pv 0) po_none (po_some pe_int))) (blkOk_by (N := ["script", "cell"]) (sc := defScope sBag) (by decide +kernel)) (fun _ _ _ _ _ => pg_name (i := 1) scB.nd rfl (Or.inl rfl)) (fun _ _ _ _ _ => pts_nil)
        (fun _ _ _ _ _ => pe_callB call_abs (by rfl) T.abs (by decide +kernel) (pa_cons (pv 1) pa_nil))) pa_nil)))))), ?_⟩
    obtain ⟨ms, ec, hin, hlm⟩ := cut_ints ns none (some 63)
    refine ⟨_, rfl, _, rfl, a, _, rfl, hS, fun p hp => ?_⟩
    rw [ec]
    have lm : ms.length ≤ 63 := Nat.le_trans hlm hl
    refine ⟨p, rfl, ⟨_, .inl (.inl upd_same)⟩, fun D hD => ?_⟩
    refine lc_list (K := K) (a := p) (xs := ms.map V.int) (fun i H' => ∃ ks : List Int, H' D = some (.lst (ks.map V.int)) ∧ ks.length = i ∧ (∀ n ∈ ks, 0 ≤ n) ∧ H' p = some (.lst (ms.map V.int)) ∧ Same H H') ?_ ?_ ?_ ?_
    · have npd : p ≠ D := fun e => by rw [← e, upd_same] at hD; cases hD
      refine ⟨[], upd_same, rfl, (fun _ z => nomatch z), by rw [upd_ne npd, upd_same], fun c o e => ?_⟩
      have hD' : H D = none := by rw [upd_ne npd.symm] at hD; exact hD
      rw [upd_ne (ne_of_none e hD'), upd_ne (ne_of_none e hp)]
      exact e
    · rintro i H' hi ⟨ks, _, _, _, h, _⟩
      exact .inl (.inl h)
    · rintro i x H' hx ⟨ks, h1, h2, h3, h4, h5⟩
      obtain ⟨z, hz, rfl⟩ := ints_at hx
      have hi : i < ms.length := (List.getElem?_eq_some_iff.mp hz).1
      refine ⟨rfl, _, rfl, z, rfl, ks.map V.int, h1, by rw [List.length_map, h2]; exact small1000 (by omega), ks ++ [if z < 0 then -z else z], ?_, ?_, ?_, ?_, ?_⟩
      · rw [upd_same, List.map_append]
        rfl
      · rw [List.length_append, h2]
        rfl
      · intro n hn
        rcases List.mem_append.mp hn with q | q
        · exact h3 n q
        · rw [List.mem_singleton] at q
          subst q
          split <;> omega
      · have npd : p ≠ D := fun e => by rw [← e, upd_same] at hD; cases hD
        rw [upd_ne npd]
        exact h4
      · intro c o e
        have hD' : H D = none := by
          have npd : p ≠ D := fun e => by rw [← e, upd_same] at hD; cases hD
          rw [upd_ne npd.symm] at hD
          exact hD
        rw [upd_ne (ne_of_none e hD')]
        exact h5 c o e
    · rintro H' ⟨ks, h1, h2, h3, h4, h5⟩
      rw [List.length_map] at h2
      refine ⟨by show 4 ≤ sizeLine; decide, fun b hb => ?_⟩
      refine k b _ ⟨0, 1234567891, 0, D, ks, upd_same, by rw [upd_ne (ne_of_none h1 hb)]; exact h1, ne_of_none h1 hb, by decide, by decide, by decide, by decide, h3, by omega⟩ (h5.free hb) fun c o e => ?_
      rw [upd_ne (ne_of_none (h5 c o e) hb)]
      exact h5 c o e
end
end K0
namespace K0
open PySem PySem.Spec PyProof.Rows L2 Ns
open C8 (pss_cut)
section
variable {P : Program} {w : World} {K : PySem.W.Frag} {mg : Str → Option Value} {base : Heap}
theorem scT : FnScope ["bag", "many", "cell", "stirred", "value", "begin", "second"] ["bag", "many"] (defScope sTake) := ⟨rfl, rfl, rfl, by decide +kernel, rfl, by decide +kernel, by decide +kernel⟩
theorem at0 {α : Type} {x : α} {xs : List α} : atI (x :: xs) (0 : Int) = some x := atI_nat (j := 0) rfl
theorem at1 {α : Type} {x y : α} {xs : List α} : atI (x :: y :: xs) (1 : Int) = some y := atI_nat (j := 1) rfl
theorem at2 {α : Type} {x y z : α} {xs : List α} : atI (x :: y :: z :: xs) (2 : Int) = some z := atI_nat (j := 2) rfl
theorem at3 {α : Type} {x y z u : α} {xs : List α} : atI (x :: y :: z :: u :: xs) (3 : Int) = some u := atI_nat (j := 3) rfl
theorem fm {x m : Int} (h : 0 < m) : 0 ≤ x.fmod m ∧ x.fmod m < m := by
  rw [Int.fmod_eq_emod_of_nonneg x (by omega)]
  exact ⟨Int.emod_nonneg _ (by omega), Int.emod_lt_of_pos _ h⟩
theorem head_int {ms : List Int} (h : ∀ n ∈ ms, 0 ≤ n) : ∃ z : Int, 0 ≤ z ∧ atI (ms.map V.int ++ [V.int 0]) (0 : Int) = some (.int z) := by
  cases ms with
  | nil => exact ⟨0, by decide, at0⟩
  | cons n ms => exact ⟨n, h n List.mem_cons_self, at0⟩
theorem ok_take {f : Addr} {fd : FuncData} (F : Fun K "_law_take" "_law_take" sTake f fd) (T : Nat0 mg) : FnOk P w K mg base CX0 1 f fd ["bag", "many"] spTake := by
  refine F.ok scT (fun as H Q E h => ?_) (fun cdv A outer s H as Q E hr h => ?_)
  · obtain ⟨b, m, rfl, _⟩ := h
    rfl
  · obtain ⟨b, m, rfl, hB, hm, hmz, k⟩ := h
    refine ⟨_, pss_cut (ps_if (pt_cmpR op_eq (pe_ix ix_list (pv 0) pe_int (fun _ _ => rfl)) pe_int (nomark _))
        (pss_cons (ps_set (i := 2) scT.nd rfl (.inl rfl) (pe_ix ix_list (pe_op op_cat (pe_slice sl_list (pe_ix ix_list (pv 0) pe_int (fun _ _ => rfl)) (po_some (pe_ix ix_list (pv 0) pe_int (fun _ _ => rfl))) po_none) (pe_lst (pa_cons pe_int pa_nil))) pe_int (fun _ _ => rfl)))
        (pss_cons (ps_augS (pv 0) pe_int get_list pe_int ip_add set_list)
        (pss_cut (ps_if (pt_cmpR op_ge (pv 2) (pe_op op_pow pe_int pe_int) (nomark _)) (pss_one (ps_asg (pv 2) (pg_sub (pv 0) pe_int set_list))) pss_nil)
        (pss_cons (ps_set (i := 3) scT.nd rfl (.inl rfl) (pe_op op_add (pe_op op_add (pe_op op_mul (pe_ix ix_list (pv 0) pe_int (fun _ _ => rfl)) pe_int)
            (pe_op op_modN (pe_callTy call_int1 (by rfl) T.int (by decide +kernel) (pa_cons (pv 2) pa_nil)) pe_int)) (pe_op op_mul pe_int (pe_ix ix_list (pv 0) pe_int (fun _ _ => rfl)))))
        (pss_one (ps_asg (pe_op op_modN (pe_callTy call_int1 (by rfl) T.int (by decide +kernel) (pa_cons (pv 3) pa_nil)) pe_int) (pg_sub (pv 0) pe_int set_list))))))) pss_nil)
      (pss_cons (ps_if (pt_cmpR op_gt (pe_ix ix_list (pv 0) pe_int (fun _ _ => rfl)) pe_int (nomark _))
        (pss_cons (ps_set (i := 4) scT.nd rfl (.inl rfl) (pe_op op_modN (pe_callTy call_int1 (by rfl) T.int (by decide +kernel) (pa_cons (pe_ix ix_list (pv 0) pe_int (fun _ _ => rfl)) pa_nil)) (pv 1)))
        (pss_cons (ps_asg (pe_op op_fdivW (pe_callTy call_int1 (by rfl) T.int (by decide +kernel) (pa_cons (pe_ix ix_list (pv 0) pe_int (fun _ _ => rfl)) pa_nil)) (pv 1)) (pg_sub (pv 0) pe_int set_list))
        (pss_one (ps_ret (pv 4))))) pss_nil)
      (pss_cons (ps_set (i := 5) scT.nd rfl (.inl rfl) (pe_op op_modN (pe_callTy call_int1 (by rfl) T.int (by decide +kernel) (pa_cons (pe_op op_mul (pe_op op_add (pe_ix ix_list (pv 0) pe_int (fun _ _ => rfl)) pe_int) pe_int) pa_nil)) pe_int))
      (pss_cons (ps_set (i := 6) scT.nd rfl (.inl rfl) (pe_op op_modN (pe_callTy call_int1 (by rfl) T.int (by decide +kernel) (pa_cons (pe_op op_mul (pe_op op_modN (pe_callTy call_int1 (by rfl) T.int (by decide +kernel) (pa_cons (pe_op op_mul (pv 5) (pv 5)) pa_nil)) pe_int) pe_int) pa_nil)) pe_int))
      (pss_one (ps_ret (pe_op op_modN (pe_callTy call_int1 (by rfl) T.int (by decide +kernel) (pa_cons (pe_op op_fdivN (pv 6) pe_int) pa_nil)) (pv 1))))))), ?_⟩
    refine ⟨fun σ' H' => ∃ c s : Option V, σ' = [some (.ref b), some (.int m), c, s, none, none, none] ∧ Bag H' b ∧ Sb b H H', ?_, ?_⟩
    · obtain ⟨n0, n1, n2, l, ns, h1, h2, hlb, z0, z1, z1', z2, hn, hlen⟩ := id hB
      refine ⟨_, rfl, b, _, _, _, rfl, rfl, SqL.of h1, at0, rfl, _, rfl, ?_⟩
      refine ite2 (fun c => ?_) (fun c => ⟨none, none, rfl, hB, Sb.refl _ _⟩)
      obtain ⟨ms, ec, hin, hlm⟩ := cut_ints ns (some n2) none
      refine ⟨_, rfl, b, _, _, _, rfl, rfl, SqL.of h1, at3, _, rfl, b, _, _, _, rfl, rfl, SqL.of h1, at2, n2, rfl, l, _, rfl, SqL.of h2, fun p hp => ?_⟩
      rw [ec]
      refine ⟨by show 1 ≤ sizeLine; decide, fun q hq => ?_⟩
      have npq : p ≠ q := fun e => by rw [← e, upd_same] at hq; cases hq
      have lmz : (ms.map V.int).length + [V.int 0].length ≤ sizeLine := by
        rw [List.length_map]
        exact Nat.le_of_lt (small1000 (show ms.length + 1 ≤ 1000 by omega))
      refine ⟨p, q, _, _, rfl, rfl, by rw [upd_ne npq, upd_same], upd_same, lmz, fun r hr => ?_⟩
      obtain ⟨z, hz, hat⟩ := head_int (ms := ms) fun n h => hn n (hin n h)
      refine ⟨r, _, _, _, rfl, rfl, SqL.of upd_same, hat, ?_⟩
      have hb3 : upd (upd (upd H p (.lst (ms.map V.int))) q (.lst [V.int 0])) r (.lst (ms.map V.int ++ [V.int 0])) b = some (.lst [.int n0, .int n1, .int n2, .ref l]) := by
        have e1 : upd H p (.lst (ms.map V.int)) b = some (.lst [.int n0, .int n1, .int n2, .ref l]) := by rw [upd_ne (ne_of_none h1 hp)]; exact h1
        have e2 : upd (upd H p (.lst (ms.map V.int))) q (.lst [V.int 0]) b = some (.lst [.int n0, .int n1, .int n2, .ref l]) := by rw [upd_ne (ne_of_none e1 hq)]; exact e1
        rw [upd_ne (ne_of_none e2 hr)]
        exact e2
      have hl3 : upd (upd (upd H p (.lst (ms.map V.int))) q (.lst [V.int 0])) r (.lst (ms.map V.int ++ [V.int 0])) l = some (.lst (ns.map V.int)) := by
        have e1 : upd H p (.lst (ms.map V.int)) l = some (.lst (ns.map V.int)) := by rw [upd_ne (ne_of_none h2 hp)]; exact h2
        have e2 : upd (upd H p (.lst (ms.map V.int))) q (.lst [V.int 0]) l = some (.lst (ns.map V.int)) := by rw [upd_ne (ne_of_none e1 hq)]; exact e1
        rw [upd_ne (ne_of_none e2 hr)]
        exact e2
      have sb3 : Sb b H (upd (upd (upd H p (.lst (ms.map V.int))) q (.lst [V.int 0])) r (.lst (ms.map V.int ++ [V.int 0]))) := (((Sb.refl b H).new hp).new hq).new hr
      generalize upd (upd (upd H p (.lst (ms.map V.int))) q (.lst [V.int 0])) r (.lst (ms.map V.int ++ [V.int 0])) = H3 at hb3 hl3 sb3 ⊢
      refine ⟨_, rfl, b, _, _, _, rfl, rfl, SqL.of hb3, at2, n2, 1, rfl, rfl, b, _, _, 2, rfl, rfl, hb3, rfl, ?_⟩
      refine ⟨fun σ' H' => ∃ n0' : Int, σ' = [some (.ref b), some (.int m), some (.int z), none, none, none, none] ∧ H' b = some (.lst [.int n0', .int n1, .int (n2 + 1), .ref l]) ∧ H' l = some (.lst (ns.map V.int)) ∧ 0 ≤ n0' ∧ Sb b H H', ?_, ?_⟩
      · have hb4 : upd H3 b (.lst (([.int n0, .int n1, .int n2, .ref l] : List V).set 2 (.int (n2 + 1)))) b = some (.lst [.int n0, .int n1, .int (n2 + 1), .ref l]) := upd_same
        have hl4 : upd H3 b (.lst (([.int n0, .int n1, .int n2, .ref l] : List V).set 2 (.int (n2 + 1)))) l = some (.lst (ns.map V.int)) := by rw [upd_ne hlb]; exact hl3
        have sb4 : Sb b H (upd H3 b (.lst (([.int n0, .int n1, .int n2, .ref l] : List V).set 2 (.int (n2 + 1))))) := sb3.put
        generalize upd H3 b (.lst (([.int n0, .int n1, .int n2, .ref l] : List V).set 2 (.int (n2 + 1)))) = H4 at hb4 hl4 sb4 ⊢
        refine ⟨_, rfl, 10, 18, rfl, rfl, ⟨by decide, by decide, by decide⟩, z, _, rfl, rfl, _, rfl, ?_⟩
        refine ite2 (fun _ => ?_) (fun _ => ⟨n0, rfl, hb4, hl4, z0, sb4⟩)
        exact ⟨_, rfl, _, rfl, b, _, _, 0, rfl, rfl, hb4, rfl, z, rfl, upd_same, by rw [upd_ne hlb]; exact hl4, hz, sb4.put⟩
      · rintro σ' H' ⟨n0', rfl, hb5, hl5, z0', sb5⟩
        refine ⟨_, rfl, b, _, _, _, rfl, rfl, SqL.of hb5, at1, n1, _, rfl, rfl, .inl ⟨by omega, by omega⟩, _, rfl, .inl ⟨z, rfl, z, _, rfl, rfl, (show (2147483647 : Int) ≠ 0 by decide), _, _, rfl, rfl, _, rfl, b, _, _, _, rfl, rfl, SqL.of hb5, at2, 7919, _, rfl, rfl, .inl ⟨by decide, by decide⟩, _, _, rfl, rfl, ?_⟩⟩
        refine ⟨_, rfl, .inl ⟨_, rfl, _, _, rfl, rfl, (show (2147483647 : Int) ≠ 0 by decide), _, rfl, b, _, _, 1, rfl, rfl, hb5, rfl, ?_⟩⟩
        exact ⟨_, _, rfl, ⟨n0', _, n2 + 1, l, ns, upd_same, by rw [upd_ne hlb]; exact hl5, hlb, z0', (fm (by decide)).1, (fm (by decide)).2, by omega, hn, hlen⟩, sb5.put⟩
    · rintro σ' H' ⟨c, s', rfl, hB', sb⟩
      obtain ⟨n0, n1, n2, l, ns, h1, h2, hlb, z0, z1, z1', z2, hn, hlen⟩ := id hB'
      refine ⟨_, rfl, b, _, _, _, rfl, rfl, SqL.of h1, at0, _, _, rfl, rfl, _, rfl, ?_⟩
      refine ite2 (fun _ => ?_) (fun _ => ?_)
      · refine ⟨_, rfl, b, _, _, _, rfl, rfl, SqL.of h1, at0, .inl ⟨n0, rfl, _, rfl, n0, m, rfl, rfl, by omega, ?_⟩⟩
        refine ⟨_, rfl, b, _, _, _, rfl, rfl, SqL.of h1, at0, .inl ⟨n0, rfl, _, rfl, n0, m, rfl, rfl, wide_div hm hmz (by decide) (by decide), _, rfl, b, _, _, 0, rfl, rfl, h1, rfl, ?_⟩⟩
        refine ⟨_, rfl, k _ _ (fm hm).1 (fm hm).2 ⟨n0 / m, n1, n2, l, ns, upd_same, by rw [upd_ne hlb]; exact h2, hlb, Int.ediv_nonneg z0 (by omega), z1, z1', z2, hn, hlen⟩ sb.put⟩
      · have b1 := fm (x := (n1 + 1) * 39373) (m := 1000000007) (by decide)
        refine ⟨_, rfl, b, _, _, _, rfl, rfl, SqL.of h1, at1, n1, 1, rfl, rfl, n1 + 1, _, rfl, rfl, .inl ⟨by omega, by omega⟩, .inl ⟨_, rfl, _, _, rfl, rfl, (show (1000000007 : Int) ≠ 0 by decide), ?_⟩⟩
        have b2 := fm (x := ((n1 + 1) * 39373).fmod 1000000007 * ((n1 + 1) * 39373).fmod 1000000007) (m := 998244353) (by decide)
        refine ⟨_, rfl, _, rfl, _, _, rfl, rfl, .inl ⟨by omega, by omega⟩, .inl ⟨_, rfl, _, _, rfl, rfl, (show (998244353 : Int) ≠ 0 by decide), _, _, rfl, rfl, .inl ⟨by omega, by omega⟩, .inl ⟨_, rfl, _, _, rfl, rfl, (show (998244353 : Int) ≠ 0 by decide), ?_⟩⟩⟩
        exact ⟨_, rfl, _, _, rfl, rfl, ⟨by decide, by decide⟩, .inl ⟨_, rfl, _, rfl, _, m, rfl, rfl, by omega, k _ _ (fm hm).1 (fm hm).2 hB' sb⟩⟩
end
end K0
namespace K0
open PySem PySem.Spec PyProof.Rows L2 Ns
open C8 (pss_cut)
def spSome (K : PySem.W.Frag) : Sp := fun as H Q _ => ∃ (b a : Addr) (xs : List V), as = [.ref b, .ref a] ∧ Bag H b ∧ SqL K (wo H b) a xs ∧ xs ≠ [] ∧ xs.length ≤ 1000000 ∧ ∀ (x : V) (H' : Hp), x ∈ xs → Bag H' b → Sb b H H' → Q x H'
section
variable {P : Program} {w : World} {K : PySem.W.Frag} {mg : Str → Option Value} {base : Heap}
theorem scS : FnScope ["bag", "things"] ["bag", "things"] (defScope sSome) := ⟨rfl, rfl, rfl, by decide +kernel, rfl, by decide +kernel, by decide +kernel⟩
theorem ok_some {f fT : Addr} {fd fdT : FuncData} (F : Fun K "_law_some" "_law_some" sSome f fd) (T : Nat0 mg) (FT : Fun K "_law_take" "_law_take" sTake fT fdT) (mT : mg "_law_take" = some (.ref fT)) (bT : Binds K fdT ["bag", "many"] []) :
    FnOk P w K mg base CX0 2 f fd ["bag", "things"] (spSome K) := by
  have GT : FnOk P w K mg base CX0 1 fT fdT ["bag", "many"] spTake := ok_take FT T
  refine F.ok scS (fun as H Q E h => ?_) (fun cdv A outer s H as Q E hr h => ?_)
  · obtain ⟨b, a, xs, rfl, _⟩ := h
    rfl
  · obtain ⟨b, a, xs, rfl, hB, hS, hne, hl, k⟩ := h
    have pos : 0 < xs.length := List.length_pos_iff.mpr hne
    refine ⟨_, pss_one (ps_ret (pe_ix ix_list (pv 1) (pe_call GT hr rfl mT FT.kp bT .nil pass0 (pa_cons (pv 0) (pa_cons (pe_callB call_len_seq (by rfl) T.len PySem.boot_len (pa_cons (pv 1) pa_nil)) pa_nil))) (fun _ _ => rfl))), ?_⟩
    refine ⟨_, rfl, _, rfl, _, rfl, a, _, rfl, .inl ((wo_sub H b).seq hS), b, _, rfl, hB, by omega, ?_, fun v H' h0 h1 hB' sb => ?_⟩
    · exact Nat.lt_of_le_of_lt (show ((xs.length : Int)).natAbs ≤ 1000000 by omega) (by decide)
    · have hi : v.toNat < xs.length := by omega
      have e : v = ((v.toNat : Nat) : Int) := by omega
      have hx : xs[v.toNat]? = some xs[v.toNat] := List.getElem?_eq_getElem hi
      obtain ⟨x, ex⟩ : ∃ x, xs[v.toNat]? = some x := ⟨_, hx⟩
      exact ⟨a, xs, v, x, rfl, rfl, (wo_sub H' b).seq (Same.seq sb hS), by rw [e]; exact atI_nat ex, k _ _ (List.mem_of_getElem? ex) hB' sb⟩
end
end K0
namespace K0
open PySem PySem.Spec PyProof.Rows L2 Ns
abbrev sAlike : Stmt := top 15
/-- equal data: True -/
def spAlike (K : PySem.W.Frag) : Sp := fun as H Q _ => ∃ (x y : V) (d : PyData) (n : Nat), as = [x, y] ∧ n ≤ 60 ∧ EqR K H (EqV K H n) x y ∧ DatV K H x d ∧ DatV K H y d ∧ d.showable = true ∧ d.shown.length ≤ sizeLine ∧ d.depth ≤ 60 ∧ Q (.bl true) H
section
variable {P : Program} {w : World} {K : PySem.W.Frag} {mg : Str → Option Value} {base : Heap}
theorem scA : FnScope ["found", "due"] ["found", "due"] (defScope sAlike) := ⟨rfl, rfl, rfl, by decide +kernel, rfl, by decide +kernel, by decide +kernel⟩
theorem ok_alike {f : Addr} {fd : FuncData} (F : Fun K "_law_alike" "_law_alike" sAlike f fd) (T : Nat0 mg) : GnOk P w K mg base 1 f fd ["found", "due"] (spAlike K) := by
  refine Fun.okG F scA (fun as H Q E h => ?_) (fun cdv A outer s H as Q E hr hgd h => ?_)
  · obtain ⟨x, y, d, n, rfl, _⟩ := h
    rfl
  · obtain ⟨x, y, d, n, rfl, hn, he, dx, dy, hs, hz, hd, k⟩ := h
    have hu : (A.deeper (envOfC "_law_alike" (defScope sAlike) s.heap.objs.size f cdv)).units + 64 < cLine := hr.units
    refine ⟨_, pss_one (ps_ret (pe_and (pe_cmpR (op_eqV hu) (pv 0) (pv 1) (nomark _)) (pe_one (pe_cmpR op_eq
      (pe_callB (call_reprD hgd hu) (by rfl) T.repr (by decide +kernel) (pa_cons (pv 0) pa_nil)) (pe_callB (call_reprD hgd hu) (by rfl) T.repr (by decide +kernel) (pa_cons (pv 1) pa_nil)) (nomark _))))), ?_⟩
    refine ⟨_, rfl, _, rfl, n, hn, he, true, rfl, ?_⟩
    refine iteT ?_
    refine ⟨_, rfl, x, d, rfl, dx, hs, hz, hd, _, rfl, y, d, rfl, dy, hs, hz, hd, rfl, ?_⟩
    rw [decide_eq_true rfl]
    exact k
end
end K0
namespace K0
open PySem PySem.Spec PyProof.Rows L2 Ns
abbrev sValue : Stmt := top 16
/-- small enough to be shown and compared -/
def Nice (d : PyData) : Prop := d.showable = true ∧ d.shown.length ≤ 60 ∧ d.depth ≤ 4
/-- a datum out of b's reach -/
def Good (K : PySem.W.Frag) (H : Hp) (b : Addr) (x : V) : Prop := ∃ d, DatV K (wo H b) x d ∧ Nice d
theorem Good.more {K : PySem.W.Frag} {H H' : Hp} {b : Addr} {x : V} (g : Good K H b x) (h : Sb b H H') : Good K H' b x := by
  obtain ⟨d, D, n⟩ := g
  exact ⟨d, D.more h, n⟩
def GoodL (K : PySem.W.Frag) (H : Hp) (b : Addr) (xs : List V) : Prop := ∀ x ∈ xs, Good K H b x
theorem GoodL.more {K : PySem.W.Frag} {H H' : Hp} {b : Addr} {xs : List V} (g : GoodL K H b xs) (h : Sb b H H') : GoodL K H' b xs := fun x hx => (g x hx).more h
theorem GoodL.nil {K : PySem.W.Frag} {H : Hp} {b : Addr} : GoodL K H b [] := fun _ h => nomatch h
theorem GoodL.cons {K : PySem.W.Frag} {H : Hp} {b : Addr} {x : V} {xs : List V} (g : Good K H b x) (h : GoodL K H b xs) : GoodL K H b (x :: xs) := fun y hy => by
  rcases List.mem_cons.mp hy with e | e
  · rw [e]; exact g
  · exact h y e
theorem at_wo {H : Hp} {b p : Addr} {o : HO} (h : H p = some o) (n : p ≠ b) : wo H b p = some o := (wo_ne n).trans h
theorem nice_int {i : Int} (h : i.natAbs < 10 ^ 40) : Nice (.int i) := by
  have z : (10 : Nat) ^ 40 < 2 ^ 1920 := by decide +kernel
  refine ⟨decide_eq_true (log2_small (Nat.lt_trans h z)), ?_, by simp [PyData.depth]⟩
  rw [PyData.shown_int, PySem.ofString_length]
  exact Nat.le_trans (int_text_length_le10 (by decide) h) (by decide)
theorem sb_disp {H : Hp} {b p q : Addr} {e l e2 : HO} (hp : H p = none) (hq : upd H p e q = none) : Sb b H (upd (upd (upd H p e) q l) p e2) := fun c o h => by
  obtain ⟨n, z⟩ := wo_of h
  have z1 : upd H p e c = some o := by rw [upd_ne (ne_of_none z hp)]; exact z
  rw [wo_ne n, upd_ne (ne_of_none z hp), upd_ne (ne_of_none z1 hq)]
  exact z1
def spValue (K : PySem.W.Frag) : Sp := fun as H Q _ => ∃ b : Addr, as = [.ref b] ∧ Bag H b ∧ ∀ (x : V) (H' : Hp), Good K H' b x → Bag H' b → Sb b H H' → Q x H'
section
variable {P : Program} {w : World} {K : PySem.W.Frag} {mg : Str → Option Value} {base : Heap}
theorem scV : FnScope ["bag", "far", "some"] ["bag"] (defScope sValue) := ⟨rfl, rfl, rfl, by decide +kernel, rfl, by decide +kernel, by decide +kernel⟩
theorem ok_value {f fT fS : Addr} {fd fdT fdS : FuncData} (F : Fun K "_law_value" "_law_value" sValue f fd) (T : Nat0 mg) (FT : Fun K "_law_take" "_law_take" sTake fT fdT) (mT : mg "_law_take" = some (.ref fT)) (bT : Binds K fdT ["bag", "many"] [])
    (FS : Fun K "_law_some" "_law_some" sSome fS fdS) (mS : mg "_law_some" = some (.ref fS)) (bS : Binds K fdS ["bag", "things"] []) : FnOk P w K mg base CX0 3 f fd ["bag"] (spValue K) := by
  have GT : FnOk P w K mg base CX0 1 fT fdT ["bag", "many"] spTake := ok_take FT T
  have GS : FnOk P w K mg base CX0 2 fS fdS ["bag", "things"] (spSome K) := ok_some FS T FT mT bT
  refine F.ok scV (fun as H Q E h => ?_) (fun cdv A outer s H as Q E hr h => ?_)
  · obtain ⟨b, rfl, _⟩ := h
    rfl
  · obtain ⟨b, rfl, hB, k⟩ := h
    have hr1 : Room 1 _ := hr.mono (by decide)
    refine ⟨_, pss_cons (ps_set (i := 1) scV.nd rfl (.inl rfl) (pe_op op_sub (pe_call GT hr1 rfl mT FT.kp bT .nil pass0 (pa_cons (pv 0) (pa_cons (pe_op op_pow pe_int pe_int) pa_nil))) (pe_op op_pow pe_int pe_int)))
      (pss_cons (ps_set (i := 2) scV.nd rfl (.inl rfl) (pe_lst (pa_cons pe_non (pa_cons pe_bl (pa_cons pe_bl (pa_cons pe_int (pa_cons (pe_un un_neg pe_int) (pa_cons (pv 1) (pa_cons (pe_op op_pow pe_int pe_int) (pa_cons pe_str (pa_cons pe_str (pa_cons pe_str
          (pa_cons (pe_tup pa_nil) (pa_cons (pe_lst pa_nil) (pa_cons pe_dnewK (pa_cons (pe_tup (pa_cons pe_int (pa_cons pe_str pa_nil))) (pa_cons (pe_lst (pa_cons pe_non pa_nil))
          (pa_cons (pe_disp (pps_cons pe_str (pe_lst (pa_cons pe_int pa_nil)) pps_nil) (by rfl) (by rfl) (fun z => by cases z) (by decide)) pa_nil))))))))))))))))))
      (pss_one (ps_ret (pe_call GS hr rfl mS FS.kp bS .nil pass0 (pa_cons (pv 0) (pa_cons (pe_op op_cat (pv 2) (pe_lst (pa_cons (pe_tup (pa_cons (pe_tup pa_nil) (pa_cons (pe_tup (pa_cons (pe_tup pa_nil) pa_nil)) pa_nil))) pa_nil))) pa_nil)))))), ?_⟩
    refine ⟨_, rfl, 10, 20, rfl, rfl, ⟨by decide, by decide, by decide⟩, b, _, rfl, hB, by decide, by decide, fun v H1 v0 v1 hB1 sb1 => ?_⟩
    refine ⟨10, 19, rfl, rfl, ⟨by decide, by decide, by decide⟩, v, _, rfl, rfl, ?_⟩
    refine ⟨1, rfl, _, rfl, 10, 39, rfl, rfl, ⟨by decide, by decide, by decide⟩, ?_⟩
    have hb1 : ∀ {H' : Hp} {p : Addr}, Bag H' b → H' p = none → p ≠ b := fun {H' p} q hn e => by
      obtain ⟨_, _, _, _, _, z, _⟩ := q
      rw [e, z] at hn
      cases hn
    have gF : Good K H1 b (.int (v - 10 ^ Int.toNat 19)) := ⟨_, .int _, nice_int (by
      have e : (10 : Int) ^ Int.toNat 19 = 10000000000000000000 := by decide
      have e2 : (10 : Int) ^ Int.toNat 20 = 100000000000000000000 := by decide
      rw [e2] at v1
      rw [e]
      omega)⟩
    refine ⟨by show 0 ≤ sizeLine; decide, fun p0 h0 => ?_⟩
    have n0 := hb1 hB1 h0
    have s2 := (Sb.refl b H1).new (o := .tup []) h0
    have B2 := hB1.new (o := .tup []) h0
    have g0 : Good K (upd H1 p0 (.tup [])) b (.ref p0) := ⟨.tuple [], .tup (.inl (.inl (at_wo upd_same n0))) .nil, by decide +kernel, by decide +kernel, by decide +kernel⟩
    generalize upd H1 p0 (.tup []) = H2 at s2 B2 g0 ⊢
    refine ⟨by show 0 ≤ sizeLine; decide, fun p1 h1 => ?_⟩
    have n1 := hb1 B2 h1
    have s3 := (Sb.refl b H2).new (o := .lst []) h1
    have B3 := B2.new (o := .lst []) h1
    have g1 : Good K (upd H2 p1 (.lst [])) b (.ref p1) := ⟨.list [], .lst (.inl (.inl (at_wo upd_same n1))) .nil, by decide +kernel, by decide +kernel, by decide +kernel⟩
    generalize upd H2 p1 (.lst []) = H3 at s3 B3 g1 ⊢
    refine fun p2 h2 => ?_
    have n2 := hb1 B3 h2
    have s4 := (Sb.refl b H3).new (o := .dK []) h2
    have B4 := B3.new (o := .dK []) h2
    have g2 : Good K (upd H3 p2 (.dK [])) b (.ref p2) := ⟨.dict [], DatV.dic (kvs := []) (ds := []) (at_wo upd_same n2) .nil, by decide +kernel, by decide +kernel, by decide +kernel⟩
    generalize upd H3 p2 (.dK []) = H4 at s4 B4 g2 ⊢
    refine ⟨by show 2 ≤ sizeLine; decide, fun p3 h3 => ?_⟩
    have n3 := hb1 B4 h3
    have s5 := (Sb.refl b H4).new (o := .tup [.int 1, .str "a"]) h3
    have B5 := B4.new (o := .tup [.int 1, .str "a"]) h3
    have g3 : Good K (upd H4 p3 (.tup [.int 1, .str "a"])) b (.ref p3) := ⟨.tuple [.int 1, .str "a"], .tup (.inl (.inl (at_wo upd_same n3))) (.cons (.int 1) (.cons (.str "a") .nil)), by decide +kernel, by decide +kernel, by decide +kernel⟩
    generalize upd H4 p3 (.tup [.int 1, .str "a"]) = H5 at s5 B5 g3 ⊢
    refine ⟨by show 1 ≤ sizeLine; decide, fun p4 h4 => ?_⟩
    have n4 := hb1 B5 h4
    have s6 := (Sb.refl b H5).new (o := .lst [.non]) h4
    have B6 := B5.new (o := .lst [.non]) h4
    have g4 : Good K (upd H5 p4 (.lst [.non])) b (.ref p4) := ⟨.list [.none], .lst (.inl (.inl (at_wo upd_same n4))) (.cons .non .nil), by decide +kernel, by decide +kernel, by decide +kernel⟩
    generalize upd H5 p4 (.lst [.non]) = H6 at s6 B6 g4 ⊢
    refine fun p5 h5 => ⟨by show 1 ≤ sizeLine; decide, fun p6 h6 => ?_⟩
    have n5 := hb1 B6 h5
    have n6 := hb1 (B6.new h5) h6
    have n56 : p5 ≠ p6 := fun e => by rw [← e, upd_same] at h6; cases h6
    refine ⟨by rw [upd_ne n56, upd_same], [(Sum.inr "a", .ref p6)], rfl, by show 1 ≤ 15; decide, ?_⟩
    have s7 : Sb b H6 (upd (upd (upd H6 p5 (.dK [])) p6 (.lst [.int 1])) p5 (.dK (mergeK [] [(Sum.inr "a", .ref p6)]))) := sb_disp h5 h6
    have B7 : Bag (upd (upd (upd H6 p5 (.dK [])) p6 (.lst [.int 1])) p5 (.dK (mergeK [] [(Sum.inr "a", .ref p6)]))) b := by
      obtain ⟨m0, m1, m2, l, ns, e1, e2, r⟩ := B6
      have f1 : upd H6 p5 (.dK []) b = some (.lst [.int m0, .int m1, .int m2, .ref l]) := by rw [upd_ne n5.symm]; exact e1
      have f2 : upd H6 p5 (.dK []) l = some (.lst (ns.map V.int)) := by rw [upd_ne (ne_of_none e2 h5)]; exact e2
      exact ⟨m0, m1, m2, l, ns, by rw [upd_ne n5.symm, upd_ne n6.symm]; exact f1, by rw [upd_ne (ne_of_none e2 h5), upd_ne (ne_of_none f2 h6)]; exact f2, r⟩
    have g5 : Good K (upd (upd (upd H6 p5 (.dK [])) p6 (.lst [.int 1])) p5 (.dK (mergeK [] [(Sum.inr "a", .ref p6)]))) b (.ref p5) :=
      ⟨.dict [(.str "a", .list [.int 1])], DatV.dic (kvs := [(Sum.inr "a", .ref p6)]) (ds := [.list [.int 1]]) (at_wo upd_same n5) (.cons (.lst (.inl (.inl (at_wo (by rw [upd_ne n56.symm, upd_same]) n6))) (.cons (.int 1) .nil)) .nil),
        by decide +kernel, by decide +kernel, by decide +kernel⟩
    generalize upd (upd (upd H6 p5 (.dK [])) p6 (.lst [.int 1])) p5 (.dK (mergeK [] [(Sum.inr "a", .ref p6)])) = H7 at s7 B7 g5 ⊢
    refine ⟨by show 16 ≤ sizeLine; decide, fun p7 h7 => ?_⟩
    have n7 := hb1 B7 h7
    have all1 : GoodL K H7 b [.non, .bl true, .bl false, .int 0, .int (-1), .int (v - 10 ^ Int.toNat 19), .int (10 ^ Int.toNat 39), .str "", .str "a b", .str "bus", .ref p0, .ref p1, .ref p2, .ref p3, .ref p4, .ref p5] := by
      have t7 := s7
      have t6 := s6.trans t7
      have t5 := s5.trans t6
      have t4 := s4.trans t5
      have t3 := s3.trans t4
      have t2 := s2.trans t3
      have gS : ∀ x : Str, reprText x = reprText x → Nice (.str x) → Good K H7 b (.str x) := fun x _ h => ⟨_, .str x, h⟩
      refine .cons ⟨_, .non, by decide +kernel, by decide +kernel, by decide +kernel⟩ (.cons ⟨_, .bl true, by decide +kernel, by decide +kernel, by decide +kernel⟩ (.cons ⟨_, .bl false, by decide +kernel, by decide +kernel, by decide +kernel⟩
        (.cons ⟨_, .int 0, by decide +kernel, by decide +kernel, by decide +kernel⟩ (.cons ⟨_, .int (-1), by decide +kernel, by decide +kernel, by decide +kernel⟩ (.cons (gF.more t2) (.cons ⟨_, .int _, by decide +kernel, by decide +kernel, by decide +kernel⟩
        (.cons ⟨_, .str "", by decide +kernel, by decide +kernel, by decide +kernel⟩ (.cons ⟨_, .str "a b", by decide +kernel, by decide +kernel, by decide +kernel⟩ (.cons ⟨_, .str "bus", by decide +kernel, by decide +kernel, by decide +kernel⟩
        (.cons (g0.more t3) (.cons (g1.more t4) (.cons (g2.more t5) (.cons (g3.more t6) (.cons (g4.more t7) (.cons g5 .nil)))))))))))))))
    have sb7 : Sb b H H7 := sb1.trans (s2.trans (s3.trans (s4.trans (s5.trans (s6.trans s7)))))
    have s8 := (Sb.refl b H7).new (o := .lst [.non, .bl true, .bl false, .int 0, .int (-1), .int (v - 10 ^ Int.toNat 19), .int (10 ^ Int.toNat 39), .str "", .str "a b", .str "bus", .ref p0, .ref p1, .ref p2, .ref p3, .ref p4, .ref p5]) h7
    have B8 := B7.new (o := .lst [.non, .bl true, .bl false, .int 0, .int (-1), .int (v - 10 ^ Int.toNat 19), .int (10 ^ Int.toNat 39), .str "", .str "a b", .str "bus", .ref p0, .ref p1, .ref p2, .ref p3, .ref p4, .ref p5]) h7
    refine ⟨_, rfl, _, rfl, ?_⟩
    have at7 : upd H7 p7 (.lst [.non, .bl true, .bl false, .int 0, .int (-1), .int (v - 10 ^ Int.toNat 19), .int (10 ^ Int.toNat 39), .str "", .str "a b", .str "bus", .ref p0, .ref p1, .ref p2, .ref p3, .ref p4, .ref p5]) p7 = some (.lst [.non, .bl true, .bl false, .int 0, .int (-1), .int (v - 10 ^ Int.toNat 19), .int (10 ^ Int.toNat 39), .str "", .str "a b", .str "bus", .ref p0, .ref p1, .ref p2, .ref p3, .ref p4, .ref p5]) := upd_same
    have all2 := all1.more s8
    have len16 : [V.non, .bl true, .bl false, .int 0, .int (-1), .int (v - 10 ^ Int.toNat 19), .int (10 ^ Int.toNat 39), .str "", .str "a b", .str "bus", .ref p0, .ref p1, .ref p2, .ref p3, .ref p4, .ref p5].length = 16 := rfl
    have ne16 : [V.non, .bl true, .bl false, .int 0, .int (-1), .int (v - 10 ^ Int.toNat 19), .int (10 ^ Int.toNat 39), .str "", .str "a b", .str "bus", .ref p0, .ref p1, .ref p2, .ref p3, .ref p4, .ref p5] ≠ [] := fun z => nomatch z
    have sb8 := sb7.trans s8
    generalize [V.non, .bl true, .bl false, .int 0, .int (-1), .int (v - 10 ^ Int.toNat 19), .int (10 ^ Int.toNat 39), .str "", .str "a b", .str "bus", .ref p0, .ref p1, .ref p2, .ref p3, .ref p4, .ref p5] = L at s8 B8 at7 all2 len16 ne16 sb8 ⊢
    generalize upd H7 p7 (.lst L) = H8 at B8 at7 all2 sb8 ⊢
    refine ⟨by show 0 ≤ sizeLine; decide, fun p8 h8 => ?_⟩
    have n8 := hb1 B8 h8
    have a8 : upd H8 p8 (.tup []) p8 = some (.tup []) := upd_same
    have b8 : upd H8 p8 (.tup []) p7 = some (.lst L) := by rw [upd_ne (ne_of_none at7 h8)]; exact at7
    have s9 := (Sb.refl b H8).new (o := .tup []) h8
    have B9 := B8.new (o := .tup []) h8
    generalize upd H8 p8 (.tup []) = H9 at a8 b8 s9 B9 ⊢
    refine ⟨by show 0 ≤ sizeLine; decide, fun p9 h9 => ?_⟩
    have n9 := hb1 B9 h9
    have a9 : upd H9 p9 (.tup []) p9 = some (.tup []) := upd_same
    have b9 : upd H9 p9 (.tup []) p7 = some (.lst L) := by rw [upd_ne (ne_of_none b8 h9)]; exact b8
    have c9 : upd H9 p9 (.tup []) p8 = some (.tup []) := by rw [upd_ne (ne_of_none a8 h9)]; exact a8
    have s10 := (Sb.refl b H9).new (o := .tup []) h9
    have B10 := B9.new (o := .tup []) h9
    generalize upd H9 p9 (.tup []) = H10 at a9 b9 c9 s10 B10 ⊢
    refine ⟨by show 1 ≤ sizeLine; decide, fun p10 h10 => ?_⟩
    have n10 := hb1 B10 h10
    have a10 : upd H10 p10 (.tup [.ref p9]) p10 = some (.tup [.ref p9]) := upd_same
    have b10 : upd H10 p10 (.tup [.ref p9]) p7 = some (.lst L) := by rw [upd_ne (ne_of_none b9 h10)]; exact b9
    have c10 : upd H10 p10 (.tup [.ref p9]) p8 = some (.tup []) := by rw [upd_ne (ne_of_none c9 h10)]; exact c9
    have d10 : upd H10 p10 (.tup [.ref p9]) p9 = some (.tup []) := by rw [upd_ne (ne_of_none a9 h10)]; exact a9
    have s11 := (Sb.refl b H10).new (o := .tup [.ref p9]) h10
    have B11 := B10.new (o := .tup [.ref p9]) h10
    generalize upd H10 p10 (.tup [.ref p9]) = H11 at a10 b10 c10 d10 s11 B11 ⊢
    refine ⟨by show 2 ≤ sizeLine; decide, fun p11 h11 => ?_⟩
    have n11 := hb1 B11 h11
    have g11 : Good K (upd H11 p11 (.tup [.ref p8, .ref p10])) b (.ref p11) := by
      have e8 : upd H11 p11 (.tup [.ref p8, .ref p10]) p8 = some (.tup []) := by rw [upd_ne (ne_of_none c10 h11)]; exact c10
      have e9 : upd H11 p11 (.tup [.ref p8, .ref p10]) p9 = some (.tup []) := by rw [upd_ne (ne_of_none d10 h11)]; exact d10
      have e10 : upd H11 p11 (.tup [.ref p8, .ref p10]) p10 = some (.tup [.ref p9]) := by rw [upd_ne (ne_of_none a10 h11)]; exact a10
      exact ⟨.tuple [.tuple [], .tuple [.tuple []]], .tup (.inl (.inl (at_wo upd_same n11))) (.cons (.tup (.inl (.inl (at_wo e8 n8))) .nil) (.cons (.tup (.inl (.inl (at_wo e10 n10))) (.cons (.tup (.inl (.inl (at_wo e9 n9))) .nil) .nil)) .nil)),
        by decide +kernel, by decide +kernel, by decide +kernel⟩
    have b11 : upd H11 p11 (.tup [.ref p8, .ref p10]) p7 = some (.lst L) := by rw [upd_ne (ne_of_none b10 h11)]; exact b10
    have s12 := (Sb.refl b H11).new (o := .tup [.ref p8, .ref p10]) h11
    have B12 := B11.new (o := .tup [.ref p8, .ref p10]) h11
    generalize upd H11 p11 (.tup [.ref p8, .ref p10]) = H12 at g11 b11 s12 B12 ⊢
    refine ⟨by show 1 ≤ sizeLine; decide, fun p12 h12 => ?_⟩
    have a12 : upd H12 p12 (.lst [.ref p11]) p12 = some (.lst [.ref p11]) := upd_same
    have b12 : upd H12 p12 (.lst [.ref p11]) p7 = some (.lst L) := by rw [upd_ne (ne_of_none b11 h12)]; exact b11
    have s13 := (Sb.refl b H12).new (o := .lst [.ref p11]) h12
    have B13 := B12.new (o := .lst [.ref p11]) h12
    generalize upd H12 p12 (.lst [.ref p11]) = H13 at a12 b12 s13 B13 ⊢
    refine ⟨p7, p12, L, [.ref p11], rfl, rfl, b12, a12, by rw [len16]; show 17 ≤ sizeLine; decide, fun p13 h13 => ?_⟩
    have n13 := hb1 B13 h13
    have s14 := (Sb.refl b H13).new (o := .lst (L ++ [.ref p11])) h13
    have B14 := B13.new (o := .lst (L ++ [.ref p11])) h13
    have t13 := s13.trans s14
    have t9 := s9.trans (s10.trans (s11.trans (s12.trans t13)))
    refine ⟨b, p13, L ++ [.ref p11], rfl, B14, .inl (.inl (at_wo upd_same n13)), (fun z => (List.cons_ne_nil _ _ (List.append_eq_nil_iff.mp z).2)), ?_, fun x H' hx hB' sb' => ?_⟩
    · rw [List.length_append, len16]
      show 17 ≤ 1000000
      decide
    · refine k x H' ?_ hB' (sb8.trans (t9.trans sb'))
      rcases List.mem_append.mp hx with q | q
      · exact ((all2 x q).more t9).more sb'
      · rw [List.mem_singleton.mp q]
        exact (g11.more t13).more sb'
end
end K0
namespace K0
open PySem PySem.Spec PyProof.Rows L2 Ns
/-- a class of the program's errors -/
structure ErC (K : PySem.W.Frag) (mg : Str → Option Value) (name : Str) (C : Addr) : Prop where
  oex : OexC K C
  xf : XfC K C
  ex : ExcC K C
  g : mg name = some (.ref C)
/-- .. with an __init__ of its own -/
structure ErI (K : PySem.W.Frag) (mg : Str → Option Value) (name qual : Str) (st : Stmt) (ps : List Str) (C fI : Addr) (fd : FuncData) : Prop extends ErC K mg name C where
  iC : PySem.W.findIn K (.ref C) "__init__" = some (some (.ref fI))
  tI : PySem.W.typeIn K (.ref fI) = some (.type "function")
  F : Fun K "__init__" qual st fI fd
  b : Binds K fd ps []
def spI (C : Addr) (f : Str) : Sp := fun as H Q _ => ∃ (a : Addr) (y : V), as = [.ref a, y] ∧ H a = some (exo a C none) ∧ ∀ dx, H dx = none → dx ≠ a → Q .non (upd (upd H dx (exd dx [(f, y)])) a (exo a C (some dx)))
def spI2 (C : Addr) (f g : Str) : Sp := fun as H Q _ => ∃ (a : Addr) (y z : V), as = [.ref a, y, z] ∧ H a = some (exo a C none) ∧ ∀ dx, H dx = none → dx ≠ a → Q .non (upd (upd (upd H dx (exd dx [(f, y)])) a (exo a C (some dx))) dx (exd dx [(g, z), (f, y)]))
section
variable {P : Program} {w : World} {K : PySem.W.Frag} {mg : Str → Option Value} {base : Heap}
abbrev sWrong : Stmt := inClass (top 2) 0
theorem scWrong : FnScope ["self", "place"] ["self", "place"] (defScope sWrong) := ⟨rfl, rfl, rfl, by decide +kernel, rfl, by decide +kernel, by decide +kernel⟩
theorem init_Wrong {C fI : Addr} {fd : FuncData} (T : ErI K mg "Wrong" "Wrong.__init__" sWrong ["self", "place"] C fI fd) (no : PySem.W.findIn K (.ref C) "place" = some none) : FnOk P w K mg base CX0 1 fI fd ["self", "place"] (spI C "place") := by
  refine T.F.ok scWrong (fun as H Q E h => ?_) (fun cdv A outer s H as Q E hr h => ?_)
  · obtain ⟨a, y, rfl, _⟩ := h
    rfl
  · obtain ⟨a, y, rfl, ha, k⟩ := h
    exact ⟨_, pss_one (ps_ost (pv 0) (pv 1)), _, rfl, _, rfl, a, C, rfl, T.oex, no, .inl ⟨ha, fun dx h1 h2 => k dx h1 h2⟩⟩
abbrev sNoText : Stmt := inClass (top 3) 0
theorem scNoText : FnScope ["self", "line"] ["self", "line"] (defScope sNoText) := ⟨rfl, rfl, rfl, by decide +kernel, rfl, by decide +kernel, by decide +kernel⟩
theorem init_NoText {C fI : Addr} {fd : FuncData} (T : ErI K mg "NoText" "NoText.__init__" sNoText ["self", "line"] C fI fd) (no : PySem.W.findIn K (.ref C) "line" = some none) : FnOk P w K mg base CX0 1 fI fd ["self", "line"] (spI C "line") := by
  refine T.F.ok scNoText (fun as H Q E h => ?_) (fun cdv A outer s H as Q E hr h => ?_)
  · obtain ⟨a, y, rfl, _⟩ := h
    rfl
  · obtain ⟨a, y, rfl, ha, k⟩ := h
    exact ⟨_, pss_one (ps_ost (pv 0) (pv 1)), _, rfl, _, rfl, a, C, rfl, T.oex, no, .inl ⟨ha, fun dx h1 h2 => k dx h1 h2⟩⟩
abbrev sNoCar : Stmt := inClass (top 4) 0
theorem scNoCar : FnScope ["self", "name"] ["self", "name"] (defScope sNoCar) := ⟨rfl, rfl, rfl, by decide +kernel, rfl, by decide +kernel, by decide +kernel⟩
theorem init_NoCar {C fI : Addr} {fd : FuncData} (T : ErI K mg "NoCar" "NoCar.__init__" sNoCar ["self", "name"] C fI fd) (no : PySem.W.findIn K (.ref C) "name" = some none) : FnOk P w K mg base CX0 1 fI fd ["self", "name"] (spI C "name") := by
  refine T.F.ok scNoCar (fun as H Q E h => ?_) (fun cdv A outer s H as Q E hr h => ?_)
  · obtain ⟨a, y, rfl, _⟩ := h
    rfl
  · obtain ⟨a, y, rfl, ha, k⟩ := h
    exact ⟨_, pss_one (ps_ost (pv 0) (pv 1)), _, rfl, _, rfl, a, C, rfl, T.oex, no, .inl ⟨ha, fun dx h1 h2 => k dx h1 h2⟩⟩
abbrev sNoCable : Stmt := inClass (top 5) 0
theorem scNoCable : FnScope ["self", "start", "end"] ["self", "start", "end"] (defScope sNoCable) := ⟨rfl, rfl, rfl, by decide +kernel, rfl, by decide +kernel, by decide +kernel⟩
theorem init_NoCable {C fI : Addr} {fd : FuncData} (T : ErI K mg "NoCable" "NoCable.__init__" sNoCable ["self", "start", "end"] C fI fd) (no : PySem.W.findIn K (.ref C) "start" = some none) (no2 : PySem.W.findIn K (.ref C) "end" = some none) : FnOk P w K mg base CX0 1 fI fd ["self", "start", "end"] (spI2 C "start" "end") := by
  refine T.F.ok scNoCable (fun as H Q E h => ?_) (fun cdv A outer s H as Q E hr h => ?_)
  · obtain ⟨a, y, z, rfl, _⟩ := h
    rfl
  · obtain ⟨a, y, z, rfl, ha, k⟩ := h
    refine ⟨_, pss_cons (ps_ost (pv 0) (pv 1)) (pss_one (ps_ost (pv 0) (pv 2))), _, rfl, _, rfl, a, C, rfl, T.oex, no, .inl ⟨ha, fun dx h1 h2 => ?_⟩⟩
    exact ⟨_, rfl, _, rfl, a, C, rfl, T.oex, no2, .inr ⟨dx, _, upd_same, by rw [upd_ne h2, upd_same], by show 1 ≤ 900; decide, k dx h1 h2⟩⟩
abbrev sNoPart : Stmt := inClass (top 6) 0
theorem scNoPart : FnScope ["self", "name"] ["self", "name"] (defScope sNoPart) := ⟨rfl, rfl, rfl, by decide +kernel, rfl, by decide +kernel, by decide +kernel⟩
theorem init_NoPart {C fI : Addr} {fd : FuncData} (T : ErI K mg "NoPart" "NoPart.__init__" sNoPart ["self", "name"] C fI fd) (no : PySem.W.findIn K (.ref C) "name" = some none) : FnOk P w K mg base CX0 1 fI fd ["self", "name"] (spI C "name") := by
  refine T.F.ok scNoPart (fun as H Q E h => ?_) (fun cdv A outer s H as Q E hr h => ?_)
  · obtain ⟨a, y, rfl, _⟩ := h
    rfl
  · obtain ⟨a, y, rfl, ha, k⟩ := h
    exact ⟨_, pss_one (ps_ost (pv 0) (pv 1)), _, rfl, _, rfl, a, C, rfl, T.oex, no, .inl ⟨ha, fun dx h1 h2 => k dx h1 h2⟩⟩
abbrev sTooMany : Stmt := inClass (top 7) 0
theorem scTooMany : FnScope ["self", "most"] ["self", "most"] (defScope sTooMany) := ⟨rfl, rfl, rfl, by decide +kernel, rfl, by decide +kernel, by decide +kernel⟩
theorem init_TooMany {C fI : Addr} {fd : FuncData} (T : ErI K mg "TooMany" "TooMany.__init__" sTooMany ["self", "most"] C fI fd) (no : PySem.W.findIn K (.ref C) "most" = some none) : FnOk P w K mg base CX0 1 fI fd ["self", "most"] (spI C "most") := by
  refine T.F.ok scTooMany (fun as H Q E h => ?_) (fun cdv A outer s H as Q E hr h => ?_)
  · obtain ⟨a, y, rfl, _⟩ := h
    rfl
  · obtain ⟨a, y, rfl, ha, k⟩ := h
    exact ⟨_, pss_one (ps_ost (pv 0) (pv 1)), _, rfl, _, rfl, a, C, rfl, T.oex, no, .inl ⟨ha, fun dx h1 h2 => k dx h1 h2⟩⟩
abbrev sShort : Stmt := inClass (top 10) 0
theorem scShort : FnScope ["self", "hours"] ["self", "hours"] (defScope sShort) := ⟨rfl, rfl, rfl, by decide +kernel, rfl, by decide +kernel, by decide +kernel⟩
theorem init_Short {C fI : Addr} {fd : FuncData} (T : ErI K mg "Short" "Short.__init__" sShort ["self", "hours"] C fI fd) (no : PySem.W.findIn K (.ref C) "hours" = some none) : FnOk P w K mg base CX0 1 fI fd ["self", "hours"] (spI C "hours") := by
  refine T.F.ok scShort (fun as H Q E h => ?_) (fun cdv A outer s H as Q E hr h => ?_)
  · obtain ⟨a, y, rfl, _⟩ := h
    rfl
  · obtain ⟨a, y, rfl, ha, k⟩ := h
    exact ⟨_, pss_one (ps_ost (pv 0) (pv 1)), _, rfl, _, rfl, a, C, rfl, T.oex, no, .inl ⟨ha, fun dx h1 h2 => k dx h1 h2⟩⟩
end
end K0
namespace K0
open PySem PySem.Spec PyProof.Rows L2 Ns
abbrev sClasses : Stmt := top 17
abbrev sOnly : Stmt := top 18
/-- where the error classes stand -/
structure Gs (mg : Str → Option Value) (cW cT cC cB cP cM cO cN cS cE : Addr) : Prop where
  gW : mg "Wrong" = some (.ref cW)
  gT : mg "NoText" = some (.ref cT)
  gC : mg "NoCar" = some (.ref cC)
  gB : mg "NoCable" = some (.ref cB)
  gP : mg "NoPart" = some (.ref cP)
  gM : mg "TooMany" = some (.ref cM)
  gO : mg "PowerCut" = some (.ref cO)
  gN : mg "NoCommand" = some (.ref cN)
  gS : mg "Short" = some (.ref cS)
  gE : mg "NightError" = some (.ref cE)
/-- what isinstance tells of an exception of the class C by the nine -/
def Kits (K : PySem.W.Frag) (cs : List Addr) (C : Addr) (bs : List Bool) : Prop := Paired (fun c b => PySem.W.kitOne K (.ref C) (.ref c) = some b) cs bs
def spClasses (K : PySem.W.Frag) (cs : List Addr) : Sp := fun as H Q _ => ∃ (a C : Addr) (fs : List (Str × V)) (bs : List Bool), as = [.ref a] ∧ ExAt H a C fs ∧ ExcC K C ∧ Kits K cs C bs ∧ ∀ (p : Addr) (H' : Hp), H p = none → H' p = some (.lst (bs.map V.bl)) → Same H H' → Q (.ref p) H'
theorem same_new {H H' : Hp} {p : Addr} {o : HO} (m : Same H H') (n : H' p = none) : Same H (upd H' p o) := fun c u e => by
  rw [upd_ne (ne_of_none (m c u e) n)]
  exact m c u e
theorem same_put {H H' : Hp} {p : Addr} {o : HO} (m : Same H H') (n : H p = none) : Same H (upd H' p o) := fun c u e => by
  rw [upd_ne (ne_of_none e n)]
  exact m c u e
section
variable {P : Program} {w : World} {K : PySem.W.Frag} {mg : Str → Option Value} {base : Heap}
theorem scCl : FnScope ["thing", "found"] ["thing"] (defScope sClasses) := ⟨rfl, rfl, rfl, by decide +kernel, rfl, by decide +kernel, by decide +kernel⟩
theorem ok_classes {f cW cT cC cB cP cM cO cN cS cE : Addr} {fd : FuncData} (F : Fun K "_law_classes" "_law_classes" sClasses f fd) (T : Nat0 mg) (G : Gs mg cW cT cC cB cP cM cO cN cS cE) :
    FnOk P w K mg base CX0 1 f fd ["thing"] (spClasses K [cW, cT, cC, cB, cP, cM, cO, cN, cS]) := by
  refine F.ok scCl (fun as H Q E h => ?_) (fun cdv A outer s H as Q E hr h => ?_)
  · obtain ⟨a, C, fs, bs, rfl, _⟩ := h
    rfl
  · obtain ⟨a, C, fs, bs, rfl, hA, hX, kk, k⟩ := h
    cases kk with | cons k1 kk =>
    cases kk with | cons k2 kk =>
    cases kk with | cons k3 kk =>
    cases kk with | cons k4 kk =>
    cases kk with | cons k5 kk =>
    cases kk with | cons k6 kk =>
    cases kk with | cons k7 kk =>
    cases kk with | cons k8 kk =>
    cases kk with | cons k9 kk =>
    cases kk
    rename_i b1 b2 b3 b4 b5 b6 b7 b8 b9
    have ask : ∀ {x : Str} {c : Addr}, mg x = some (.ref c) → True := fun _ => trivial
    refine ⟨_, pss_cons (ps_set (i := 1) scCl.nd rfl (.inl rfl) (pe_lst (pa_cons (pe_callB call_isX (by rfl) T.isi (by decide +kernel) (pa_cons (pv 0) (pa_cons (pe_glob (v := .ref cW) (by rfl) G.gW rfl) pa_nil)))
        (pa_cons (pe_callB call_isX (by rfl) T.isi (by decide +kernel) (pa_cons (pv 0) (pa_cons (pe_glob (v := .ref cT) (by rfl) G.gT rfl) pa_nil)))
        (pa_cons (pe_callB call_isX (by rfl) T.isi (by decide +kernel) (pa_cons (pv 0) (pa_cons (pe_glob (v := .ref cC) (by rfl) G.gC rfl) pa_nil)))
        (pa_cons (pe_callB call_isX (by rfl) T.isi (by decide +kernel) (pa_cons (pv 0) (pa_cons (pe_glob (v := .ref cB) (by rfl) G.gB rfl) pa_nil))) pa_nil))))))
      (pss_cons (ps_expr (pe_bm PySem.F.plainAttrs_list PySem.F.slot_list_extend PySem.F.type_list_extend mt_extend (pv 1) (pa_cons (pe_lst
        (pa_cons (pe_callB call_isX (by rfl) T.isi (by decide +kernel) (pa_cons (pv 0) (pa_cons (pe_glob (v := .ref cP) (by rfl) G.gP rfl) pa_nil)))
        (pa_cons (pe_callB call_isX (by rfl) T.isi (by decide +kernel) (pa_cons (pv 0) (pa_cons (pe_glob (v := .ref cM) (by rfl) G.gM rfl) pa_nil))) pa_nil))) pa_nil)))
      (pss_cons (ps_expr (pe_bm PySem.F.plainAttrs_list PySem.F.slot_list_extend PySem.F.type_list_extend mt_extend (pv 1) (pa_cons (pe_lst
        (pa_cons (pe_callB call_isX (by rfl) T.isi (by decide +kernel) (pa_cons (pv 0) (pa_cons (pe_glob (v := .ref cO) (by rfl) G.gO rfl) pa_nil)))
        (pa_cons (pe_callB call_isX (by rfl) T.isi (by decide +kernel) (pa_cons (pv 0) (pa_cons (pe_glob (v := .ref cN) (by rfl) G.gN rfl) pa_nil))) pa_nil))) pa_nil)))
      (pss_one (ps_ret (pe_op op_cat (pv 1) (pe_lst (pa_cons (pe_callB call_isX (by rfl) T.isi (by decide +kernel) (pa_cons (pv 0) (pa_cons (pe_glob (v := .ref cS) (by rfl) G.gS rfl) pa_nil))) pa_nil))))))), ?_⟩
    refine ⟨_, rfl, a, C, fs, _, _, b1, rfl, hA, hX, .own cW, k1, _, rfl, a, C, fs, _, _, b2, rfl, hA, hX, .own cT, k2, _, rfl, a, C, fs, _, _, b3, rfl, hA, hX, .own cC, k3, _, rfl, a, C, fs, _, _, b4, rfl, hA, hX, .own cB, k4, by show 4 ≤ sizeLine; decide, fun p hp => ?_⟩
    have sp := same_new (o := .lst [.bl b1, .bl b2, .bl b3, .bl b4]) (Same.refl H) hp
    have ep : upd H p (.lst [.bl b1, .bl b2, .bl b3, .bl b4]) p = some (.lst [.bl b1, .bl b2, .bl b3, .bl b4]) := upd_same
    generalize upd H p (.lst [.bl b1, .bl b2, .bl b3, .bl b4]) = H1 at sp ep ⊢
    refine ⟨_, rfl, .inl ⟨rfl, _, SqL.of ep⟩, _, rfl, a, C, fs, _, _, b5, rfl, hA.more sp, hX, .own cP, k5, _, rfl, a, C, fs, _, _, b6, rfl, hA.more sp, hX, .own cM, k6, by show 2 ≤ sizeLine; decide, fun q hq => ?_⟩
    have npq := ne_of_none ep hq
    refine ⟨p, q, _, _, rfl, rfl, by rw [upd_ne npq]; exact ep, upd_same, by show 6 ≤ sizeLine; decide, ?_⟩
    have sp2 := same_put (o := .lst ([.bl b1, .bl b2, .bl b3, .bl b4] ++ [.bl b5, .bl b6])) (same_new (o := .lst [.bl b5, .bl b6]) sp hq) hp
    have ep2 : upd (upd H1 q (.lst [.bl b5, .bl b6])) p (.lst ([.bl b1, .bl b2, .bl b3, .bl b4] ++ [.bl b5, .bl b6])) p = some (.lst ([.bl b1, .bl b2, .bl b3, .bl b4] ++ [.bl b5, .bl b6])) := upd_same
    generalize upd (upd H1 q (.lst [.bl b5, .bl b6])) p (.lst ([.bl b1, .bl b2, .bl b3, .bl b4] ++ [.bl b5, .bl b6])) = H2 at sp2 ep2 ⊢
    refine ⟨_, rfl, .inl ⟨rfl, _, SqL.of ep2⟩, _, rfl, a, C, fs, _, _, b7, rfl, hA.more sp2, hX, .own cO, k7, _, rfl, a, C, fs, _, _, b8, rfl, hA.more sp2, hX, .own cN, k8, by show 2 ≤ sizeLine; decide, fun r hr3 => ?_⟩
    have npr := ne_of_none ep2 hr3
    refine ⟨p, r, _, _, rfl, rfl, by rw [upd_ne npr]; exact ep2, upd_same, by show 8 ≤ sizeLine; decide, ?_⟩
    have sp3 := same_put (o := .lst ([.bl b1, .bl b2, .bl b3, .bl b4] ++ [.bl b5, .bl b6] ++ [.bl b7, .bl b8])) (same_new (o := .lst [.bl b7, .bl b8]) sp2 hr3) hp
    have ep3 : upd (upd H2 r (.lst [.bl b7, .bl b8])) p (.lst ([.bl b1, .bl b2, .bl b3, .bl b4] ++ [.bl b5, .bl b6] ++ [.bl b7, .bl b8])) p = some (.lst ([.bl b1, .bl b2, .bl b3, .bl b4] ++ [.bl b5, .bl b6] ++ [.bl b7, .bl b8])) := upd_same
    generalize upd (upd H2 r (.lst [.bl b7, .bl b8])) p (.lst ([.bl b1, .bl b2, .bl b3, .bl b4] ++ [.bl b5, .bl b6] ++ [.bl b7, .bl b8])) = H3 at sp3 ep3 ⊢
    refine ⟨_, rfl, _, rfl, a, C, fs, _, _, b9, rfl, hA.more sp3, hX, .own cS, k9, by show 1 ≤ sizeLine; decide, fun q4 hq4 => ?_⟩
    have sp4 := same_new (o := .lst [.bl b9]) sp3 hq4
    refine ⟨p, q4, _, _, rfl, rfl, by rw [upd_ne (ne_of_none ep3 hq4)]; exact ep3, upd_same, by show 9 ≤ sizeLine; decide, fun r5 hr5 => ?_⟩
    exact k r5 _ (sp4.free hr5) upd_same (same_new sp4 hr5)
end
end K0
namespace K0
open PySem PySem.Spec PyProof.Rows L2 Ns
def spOnly (K : PySem.W.Frag) (cs : List Addr) (cE : Addr) : Sp := fun as H Q _ => ∃ (a C : Addr) (fs : List (Str × V)) (i : Nat), as = [.ref a, .int i] ∧ i < 9 ∧ ExAt H a C fs ∧ ExcC K C ∧ Kits K cs C ((List.range 9).map fun j => decide (j = i)) ∧
  PySem.W.kitOne K (.ref C) (.ref cE) = some true ∧ PySem.W.kitOne K (.ref C) (.type "ValueError") = some true ∧ ∀ H', Same H H' → Q (.bl true) H'
theorem eq_bls {K : PySem.W.Frag} {H : Hp} : ∀ bs : List Bool, Paired (EqV K H 1) (bs.map V.bl) (bs.map V.bl)
  | [] => .nil
  | b :: bs => .cons (.inl ⟨rfl, rfl⟩) (eq_bls bs)
section
variable {P : Program} {w : World} {K : PySem.W.Frag} {mg : Str → Option Value} {base : Heap}
theorem scO : FnScope ["thing", "at", "due", "k"] ["thing", "at"] (defScope sOnly) := ⟨rfl, rfl, rfl, by decide +kernel, rfl, by decide +kernel, by decide +kernel⟩
theorem ok_only {f fC cW cT cC cB cP cM cO cN cS cE : Addr} {fd fdC : FuncData} (F : Fun K "_law_is_only" "_law_is_only" sOnly f fd) (T : Nat0 mg) (G : Gs mg cW cT cC cB cP cM cO cN cS cE)
    (FC : Fun K "_law_classes" "_law_classes" sClasses fC fdC) (mC : mg "_law_classes" = some (.ref fC)) (bC : Binds K fdC ["thing"] []) :
    FnOk P w K mg base CX0 2 f fd ["thing", "at"] (spOnly K [cW, cT, cC, cB, cP, cM, cO, cN, cS] cE) := by
  have GC : FnOk P w K mg base CX0 1 fC fdC ["thing"] (spClasses K [cW, cT, cC, cB, cP, cM, cO, cN, cS]) := ok_classes FC T G
  refine F.ok scO (fun as H Q E h => ?_) (fun cdv A outer s H as Q E hr h => ?_)
  · obtain ⟨a, C, fs, i, rfl, _⟩ := h
    rfl
  · obtain ⟨a, C, fs, i, rfl, hi, hA, hX, hk, hE, hV, k⟩ := h
    refine ⟨_, pss_cons (ps_setLc (i := 2) (own := [("k", 3)]) (g := gName 3) (tt := tYes) (by rfl) scO.nd rfl rfl (sw_true rfl rfl rfl (by decide +kernel)) (pi_range1 rfl T.range (pa_cons pe_int pa_nil)) (blkOk_by (N := ["thing", "at", "due", "k"]) (sc := defScope sOnly) (by decide +kernel))
        (fun _ _ _ _ _ => pg_name (i := 3) scO.nd rfl (Or.inl rfl)) (fun _ _ _ _ _ => pts_nil) (fun _ _ _ _ _ => pe_cmpR op_eq (pv 3) (pv 1) (nomark _)))
      (pss_one (ps_ret (pe_and (pe_callB call_isX (by rfl) T.isi (by decide +kernel) (pa_cons (pv 0) (pa_cons (pe_glob (v := .ref cE) (by rfl) G.gE rfl) pa_nil)))
        (pe_and (pe_callB call_isX (by rfl) T.isi (by decide +kernel) (pa_cons (pv 0) (pa_cons (pe_bltn (v := .ty "ValueError") (by rfl) T.verr (by decide +kernel) rfl) pa_nil)))
        (pe_one (pe_cmpR (op_eqV hr.units) (pe_call GC hr rfl mC FC.kp bC .nil pass0 (pa_cons (pv 0) pa_nil)) (pv 2) (nomark _))))))), ?_⟩
    refine ⟨9, rfl, by decide, by decide, fun D hD => ?_⟩
    have keyd : ∀ j : Nat, decide (V.int (0 + (j : Int)) = V.int (i : Int)) = decide (j = i) := fun j => decide_eq_decide.mpr ⟨fun z => by injection z with z; omega, fun z => by rw [z]; exact congrArg V.int (by omega)⟩
    refine lc_range (lo := 0) (n := 9) (fun j H' => H' D = some (.lst (((List.range j).map fun t => decide (t = i)).map V.bl)) ∧ Same H H') ⟨upd_same, same_new (Same.refl H) hD⟩ ?_ ?_
    · rintro j H' hj ⟨h1, h2⟩
      refine ⟨rfl, _, rfl, _, rfl, rfl, _, h1, ?_, ?_, same_put h2 hD⟩
      · rw [List.length_map, List.length_map, List.length_range]
        exact small1000 (by omega)
      · rw [upd_same, List.range_succ, List.map_append, List.map_append, keyd j]
        rfl
    · rintro H' ⟨h1, h2⟩
      refine ⟨_, rfl, a, C, fs, _, _, true, rfl, hA.more h2, hX, .own cE, hE, true, rfl, iteT ?_⟩
      refine ⟨_, rfl, a, C, fs, _, _, true, rfl, hA.more h2, hX, .ty "ValueError", hV, true, rfl, iteT ?_⟩
      refine ⟨_, rfl, a, C, fs, _, rfl, hA.more h2, hX, hk, fun p H2 hp hp2 h3 => ?_⟩
      refine ⟨_, rfl, 1, by decide, .inl ⟨p, D, _, _, rfl, rfl, SqL.of hp2, SqL.of (h3 _ _ h1), eq_bls _⟩, k _ (h2.trans h3)⟩
end
end K0
namespace Ns
open PySem PySem.Spec PyProof.Rows L2
/-- isinstance(e, c), e the exception that the suite holds, with a dict of its own -/
def rIsP (K : PySem.W.Frag) (a D : Addr) (cls : Value) (d : Option Addr) : List V → Hp → VK → Prop := fun xs H Q => ∃ (dd : Addr) (fs : List (Str × V)) (c : V) (cv : Value) (b : Bool), xs = [.ref a, c] ∧ cls = .ref D ∧ d = some dd ∧ H dd = some (.xd fs) ∧ ClsV c cv ∧
  PySem.W.kitOne K (.ref D) cv = some b ∧ Q (.bl b) H
theorem call_isP {X : Cx} {a D : Addr} {oe : Obj} {cls : Value} {d : Option Addr} {pn : List (Addr × Obj)} (T : ExcC X.K D) (hz : Zc cls d oe) (hf : ∃ vs, oe.data = .fields vs) : CallR (X.suite a ((a, oe) :: pn)) (.builtin "isinstance") (rIsP X.K a D cls d) := by
  intro pins s σ H xs us Q I r h
  obtain ⟨dd, fs, c, cv, b, rfl, rfl, rfl, hd, k, e, q⟩ := h
  obtain ⟨u1, u2, rfl, r1, r2⟩ := vals2 r
  cases (show u1 = Value.ref a from r1)
  rw [k.eq r2]
  obtain ⟨ho, _⟩ := I.pin (a, oe) (List.mem_append_left _ (.head _))
  obtain ⟨mA, ⟨od, es, ep, hod, rr⟩, _⟩ := (show ObjOk X.prog X.w H s.heap dd (.xd fs) from I.hok dd _ hd)
  obtain ⟨vs, dv⟩ := hf
  have J : PySem.W.InstAt s.heap a oe D (some od) := ⟨ho, hz.1, (by unfold PySem.W.notCls; rw [dv]), by rw [hz.2]; exact hod⟩
  exact PySem.W.kia_one (kx_exc T) I.kIn J e (fun z => nomatch z) fun tk => ⟨.bl b, H, I.kept (t' := tk) fun _ _ z => z, rfl, q⟩
end Ns
namespace K0
open PySem PySem.Spec PyProof.Rows L2 Ns
abbrev sCaught : Stmt := top 19
def spCaught : Sp := fun as H Q _ => ∃ (x y : V), as = [x, y] ∧ ∀ (p : Addr) (H' : Hp), H p = none → H' p = some (.lst [x, y, .bl true, .bl false, x]) → Same H H' → Q (.ref p) H'
/-- what the except clauses ask -/
structure Exm (K : PySem.W.Frag) (cC cB cS cE : Addr) : Prop where
  bb : PySem.W.exmOne K (.ref cB) (.ref cB) = some true
  be : PySem.W.exmOne K (.ref cB) (.ref cE) = some true
  sc : PySem.W.exmOne K (.ref cS) (.ref cC) = some false
  ss : PySem.W.exmOne K (.ref cS) (.ref cS) = some true
  kb : PySem.W.kitOne K (.ref cB) (.ref cB) = some true
  kc : PySem.W.kitOne K (.ref cB) (.ref cC) = some false
theorem lk1 {f : Str} {y : V} {fs : List (Str × V)} : List.lookup f ((f, y) :: fs) = some y := by rw [lookup_put, if_pos rfl]
theorem lk2 {f g : Str} {y : V} {fs : List (Str × V)} (h : ¬ f = g) : List.lookup f ((g, y) :: fs) = List.lookup f fs := by rw [lookup_put, if_neg h]
theorem same_raise {H H' : Hp} {a d : Addr} {u : HO} (ha : H a = none) (hd : H d = none) (h : ∀ c, c ≠ a → c ≠ d → H' c = H c) : Same H (upd (L2.del H' a) d u) := fun c o e => by
  have n1 := ne_of_none e ha
  have n2 := ne_of_none e hd
  rw [upd_ne n2, del_ne n1, h c n1 n2]
  exact e
theorem free2 {H : Hp} {a d : Addr} {u : HO} (h : upd H a u d = none) (n : d ≠ a) : H d = none := (upd_ne n).symm.trans h
section
variable {P : Program} {w : World} {K : PySem.W.Frag} {mg : Str → Option Value} {base : Heap}
theorem scK : FnScope ["one", "other", "found", "e"] ["one", "other"] (defScope sCaught) := ⟨rfl, rfl, rfl, by decide +kernel, rfl, by decide +kernel, by decide +kernel⟩
theorem ok_caught {f cC cB cS cE fB fS : Addr} {fd fdB fdS : FuncData} (F : Fun K "_law_caught" "_law_caught" sCaught f fd) (T : Nat0 mg) (TB : ErI K mg "NoCable" "NoCable.__init__" sNoCable ["self", "start", "end"] cB fB fdB) (TS : ErI K mg "Short" "Short.__init__" sShort ["self", "hours"] cS fS fdS)
    (n1 : PySem.W.findIn K (.ref cB) "start" = some none) (n2 : PySem.W.findIn K (.ref cB) "end" = some none) (n3 : PySem.W.findIn K (.ref cS) "hours" = some none) (gE : mg "NightError" = some (.ref cE)) (gC : mg "NoCar" = some (.ref cC)) (M : Exm K cC cB cS cE) :
    FnOk P w K mg base CX0 3 f fd ["one", "other"] spCaught := by
  refine F.ok scK (fun as H Q E h => ?_) (fun cdv A outer s H as Q E hr h => ?_)
  · obtain ⟨x, y, rfl, _⟩ := h
    rfl
  · obtain ⟨x, y, rfl, k⟩ := h
    refine ⟨_, pss_cons (ps_set (i := 2) scK.nd rfl (.inl rfl) (pe_lst pa_nil))
      (pss_cons (ps_try_as (i := 3) (ts := fun a cls d => tDrop (tBM K "list" rExtend (tVar 2) (tCons (tLst (tCons (tXf a cls d cB "start" (tVar 3)) (tCons (tXf a cls d cB "end" (tVar 3)) tNil))) tNil))) (Wout := fun _ _ _ _ => False) rfl rfl scK.nd rfl rfl ⟨rfl, by decide, .inl TB.g⟩ takes0
        (fun W pn xe tk _ => pss_one (by exact ps_raise rfl tk (by exact pmk_oex TB.oex TB.iC TB.tI (init_NoCable TB n1 n2) hr TB.b .nil pass0 rfl TB.g (by exact pa_cons (pv 0) (pa_cons (pv 1) pa_nil)))))
        (fun a oe cls d pn hz hf => pss_one (by exact ps_expr (by exact pe_bm PySem.F.plainAttrs_list PySem.F.slot_list_extend PySem.F.type_list_extend mt_extend (by exact pv 2) (by exact pa_cons (pe_lst (pa_cons (pe_xf TB.xf n1 hz hf (pv 3)) (pa_cons (pe_xf TB.xf n2 hz hf (pv 3)) pa_nil))) pa_nil)))))
      (pss_cons (ps_try_as (i := 3) (ts := fun a cls d => tDrop (tBM K "list" rExtend (tVar 2) (tCons (tLst (tCons (tCB (rIsP K a cB cls d) (tCons (tVar 3) (tCons (tC (.ref cB)) tNil))) (tCons (tCB (rIsP K a cB cls d) (tCons (tVar 3) (tCons (tC (.ref cC)) tNil))) tNil))) tNil))) (Wout := fun _ _ _ _ => False) rfl rfl scK.nd rfl rfl ⟨rfl, by decide, .inl gE⟩ takes0
        (fun W pn xe tk _ => pss_one (by exact ps_raise rfl tk (by exact pmk_oex TB.oex TB.iC TB.tI (init_NoCable TB n1 n2) hr TB.b .nil pass0 rfl TB.g (by exact pa_cons (pv 1) (pa_cons (pv 0) pa_nil)))))
        (fun a oe cls d pn hz hf => pss_one (by exact ps_expr (by exact pe_bm PySem.F.plainAttrs_list PySem.F.slot_list_extend PySem.F.type_list_extend mt_extend (by exact pv 2) (by exact pa_cons (pe_lst (pa_cons (pe_callB (call_isP TB.ex hz hf) (by rfl) T.isi (by decide +kernel) (pa_cons (pv 3) (pa_cons (pe_glob (v := .ref cB) (by rfl) TB.g rfl) pa_nil))) (pa_cons (pe_callB (call_isP TB.ex hz hf) (by rfl) T.isi (by decide +kernel) (pa_cons (pv 3) (pa_cons (pe_glob (v := .ref cC) (by rfl) gC rfl) pa_nil))) pa_nil))) pa_nil)))))
      (pss_cons (ps_try_two (i := 3) (ts := fun a cls d => tDrop (tBM K "list" rAppend (tVar 2) (tCons (tXf a cls d cS "hours" (tVar 3)) tNil))) rfl rfl scK.nd rfl rfl ⟨rfl, by decide, .inl gC⟩ ⟨rfl, by decide, .inl TS.g⟩
        (fun W pn xe tk _ => pss_one (by exact ps_raise rfl tk (by exact pmk_oex TS.oex TS.iC TS.tI (init_Short TS n3) hr TS.b .nil pass0 rfl TS.g (by exact pa_cons (pv 0) pa_nil))))
        (fun a oe cls d pn hz hf => pss_one (by exact ps_expr (by exact pe_bm PySem.F.plainAttrs_list PySem.F.slot_list_append PySem.F.type_list_append mt_append (by exact pv 2) (by exact pa_cons (pe_xf TS.xf n3 hz hf (pv 3)) pa_nil)))))
      (pss_one (ps_ret (pv 2)))))), ?_⟩
    refine ⟨Nat.zero_le _, fun p hp => ?_⟩
    have s1 := same_new (o := .lst []) (Same.refl H) hp
    have e1 : upd H p (.lst []) p = some (.lst []) := upd_same
    generalize upd H p (.lst []) = H1 at s1 e1 ⊢
    -- the first one
    refine ⟨_, rfl, _, rfl, by show 2 ≤ 1000; decide, fun a ha => ⟨a, x, y, rfl, upd_same, fun dx hdx nda => ⟨rfl, dx, _, by rw [upd_ne nda.symm, upd_same], upd_same, free2 hdx nda, true, M.bb, fun _ a0 ha0 => ?_, fun q => Bool.noConfusion q⟩⟩⟩
    have s2 := same_raise (u := .xd [("end", y), ("start", x)]) ha (free2 hdx nda) (H' := upd (upd (upd (upd H1 a (exo a cB none)) dx (exd dx [("start", x)])) a (exo a cB (some dx))) dx (exd dx [("end", y), ("start", x)])) fun c n1 n2 => by rw [upd_ne n2, upd_ne n1, upd_ne n2, upd_ne n1]
    have d2 : upd (L2.del (upd (upd (upd (upd H1 a (exo a cB none)) dx (exd dx [("start", x)])) a (exo a cB (some dx))) dx (exd dx [("end", y), ("start", x)])) a) dx (.xd [("end", y), ("start", x)]) dx = some (.xd [("end", y), ("start", x)]) := upd_same
    generalize upd (L2.del (upd (upd (upd (upd H1 a (exo a cB none)) dx (exd dx [("start", x)])) a (exo a cB (some dx))) dx (exd dx [("end", y), ("start", x)])) a) dx (.xd [("end", y), ("start", x)]) = H2 at s2 d2 ha0 ⊢
    have e2 := s2 _ _ e1
    refine ⟨_, rfl, .inl ⟨rfl, _, SqL.of e2⟩, _, rfl, rfl, rfl, dx, _, x, rfl, d2, ?_, _, rfl, rfl, rfl, dx, _, y, rfl, d2, ?_, by show 2 ≤ sizeLine; decide, fun q hq => ?_⟩
    · exact (lk2 (by decide +kernel)).trans lk1
    · exact lk1
    have s3 := same_put (o := .lst ([] ++ [x, y])) (same_new (o := .lst [x, y]) (s1.trans s2) hq) hp
    have npq := ne_of_none e2 hq
    refine ⟨p, q, _, _, rfl, rfl, by rw [upd_ne npq]; exact e2, upd_same, by show 2 ≤ sizeLine; decide, ?_⟩
    have e3 : upd (upd H2 q (.lst [x, y])) p (.lst ([] ++ [x, y])) p = some (.lst ([] ++ [x, y])) := upd_same
    generalize upd (upd H2 q (.lst [x, y])) p (.lst ([] ++ [x, y])) = H3 at s3 e3 ⊢
    -- the second one
    refine ⟨_, rfl, _, rfl, by show 2 ≤ 1000; decide, fun a ha => ⟨a, y, x, rfl, upd_same, fun dx hdx nda => ⟨rfl, dx, _, by rw [upd_ne nda.symm, upd_same], upd_same, free2 hdx nda, true, M.be, fun _ a0 ha0 => ?_, fun q => Bool.noConfusion q⟩⟩⟩
    have s4 := same_raise (u := .xd [("end", x), ("start", y)]) ha (free2 hdx nda) (H' := upd (upd (upd (upd H3 a (exo a cB none)) dx (exd dx [("start", y)])) a (exo a cB (some dx))) dx (exd dx [("end", x), ("start", y)])) fun c n1 n2 => by rw [upd_ne n2, upd_ne n1, upd_ne n2, upd_ne n1]
    have d4 : upd (L2.del (upd (upd (upd (upd H3 a (exo a cB none)) dx (exd dx [("start", y)])) a (exo a cB (some dx))) dx (exd dx [("end", x), ("start", y)])) a) dx (.xd [("end", x), ("start", y)]) dx = some (.xd [("end", x), ("start", y)]) := upd_same
    generalize upd (L2.del (upd (upd (upd (upd H3 a (exo a cB none)) dx (exd dx [("start", y)])) a (exo a cB (some dx))) dx (exd dx [("end", x), ("start", y)])) a) dx (.xd [("end", x), ("start", y)]) = H4 at s4 d4 ha0 ⊢
    have e4 := s4 _ _ e3
    refine ⟨_, rfl, .inl ⟨rfl, _, SqL.of e4⟩, _, rfl, dx, _, .ref cB, _, true, rfl, rfl, rfl, d4, .own cB, M.kb, _, rfl, dx, _, .ref cC, _, false, rfl, rfl, rfl, d4, .own cC, M.kc, by show 2 ≤ sizeLine; decide, fun q hq => ?_⟩
    have s5 := same_put (o := .lst ([] ++ [x, y] ++ [.bl true, .bl false])) (same_new (o := .lst [.bl true, .bl false]) (s3.trans s4) hq) hp
    have npq := ne_of_none e4 hq
    refine ⟨p, q, _, _, rfl, rfl, by rw [upd_ne npq]; exact e4, upd_same, by show 4 ≤ sizeLine; decide, ?_⟩
    have e5 : upd (upd H4 q (.lst [.bl true, .bl false])) p (.lst ([] ++ [x, y] ++ [.bl true, .bl false])) p = some (.lst ([] ++ [x, y] ++ [.bl true, .bl false])) := upd_same
    generalize upd (upd H4 q (.lst [.bl true, .bl false])) p (.lst ([] ++ [x, y] ++ [.bl true, .bl false])) = H5 at s5 e5 ⊢
    -- the third one
    refine ⟨_, rfl, by show 1 ≤ 1000; decide, fun a ha => ⟨a, x, rfl, upd_same, fun dx hdx nda => ⟨rfl, dx, _, upd_same, by rw [upd_ne nda, upd_same], free2 hdx nda, M.sc, M.ss, fun a0 ha0 => ?_⟩⟩⟩
    have s6 := same_raise (u := .xd [("hours", x)]) ha (free2 hdx nda) (H' := upd (upd (upd H5 a (exo a cS none)) dx (exd dx [("hours", x)])) a (exo a cS (some dx))) fun c n1 n2 => by rw [upd_ne n1, upd_ne n2, upd_ne n1]
    have d6 : upd (L2.del (upd (upd (upd H5 a (exo a cS none)) dx (exd dx [("hours", x)])) a (exo a cS (some dx))) a) dx (.xd [("hours", x)]) dx = some (.xd [("hours", x)]) := upd_same
    generalize upd (L2.del (upd (upd (upd H5 a (exo a cS none)) dx (exd dx [("hours", x)])) a (exo a cS (some dx))) a) dx (.xd [("hours", x)]) = H6 at s6 d6 ha0 ⊢
    have e6 := s6 _ _ e5
    refine ⟨_, rfl, .inl ⟨rfl, _, SqL.of e6⟩, _, rfl, rfl, rfl, dx, _, x, rfl, d6, lk1, p, _, x, rfl, rfl, e6, by show 4 < sizeLine; decide, ?_⟩
    exact ⟨_, rfl, k p _ hp upd_same (same_put (s5.trans s6) hp)⟩
end
end K0
namespace K0
open PySem PySem.Spec PyProof.Rows L2 Ns
abbrev sKept : Stmt := top 20
def spKept (K : PySem.W.Frag) : Sp := fun as H Q _ => ∃ (x y : V) (dx dy : PyData), as = [x, y] ∧ DatV K H x dx ∧ Nice dx ∧ DatV K H y dy ∧ Nice dy ∧ ∀ H', Same H H' → Q (.bl true) H'
/-- the seven classes that have fields -/
structure Seven (K : PySem.W.Frag) (mg : Str → Option Value) (cW cT cC cB cP cM cS fW fT fC fB fP fM fS : Addr) (dW dT dC dB dP dM dS : FuncData) : Prop where
  W : ErI K mg "Wrong" "Wrong.__init__" sWrong ["self", "place"] cW fW dW
  T : ErI K mg "NoText" "NoText.__init__" sNoText ["self", "line"] cT fT dT
  C : ErI K mg "NoCar" "NoCar.__init__" sNoCar ["self", "name"] cC fC dC
  B : ErI K mg "NoCable" "NoCable.__init__" sNoCable ["self", "start", "end"] cB fB dB
  P : ErI K mg "NoPart" "NoPart.__init__" sNoPart ["self", "name"] cP fP dP
  M : ErI K mg "TooMany" "TooMany.__init__" sTooMany ["self", "most"] cM fM dM
  S : ErI K mg "Short" "Short.__init__" sShort ["self", "hours"] cS fS dS
  nW : PySem.W.findIn K (.ref cW) "place" = some none
  nT : PySem.W.findIn K (.ref cT) "line" = some none
  nC : PySem.W.findIn K (.ref cC) "name" = some none
  nB : PySem.W.findIn K (.ref cB) "start" = some none
  nB2 : PySem.W.findIn K (.ref cB) "end" = some none
  nP : PySem.W.findIn K (.ref cP) "name" = some none
  nM : PySem.W.findIn K (.ref cM) "most" = some none
  nS : PySem.W.findIn K (.ref cS) "hours" = some none
theorem same_make {H H' : Hp} {a d : Addr} (ha : H a = none) (hd : H d = none) (h : ∀ c, c ≠ a → c ≠ d → H' c = H c) : Same H H' := fun c o e => by
  rw [h c (ne_of_none e ha) (ne_of_none e hd)]
  exact e
theorem ExAt.put {H : Hp} {a C p : Addr} {fs : List (Str × V)} {o u : HO} (h : ExAt H a C fs) (hp : H p = some u) (n : ∀ φ, u ≠ .ext φ) : ExAt (upd H p o) a C fs := by
  have off : ∀ {c : Addr} {φ : Heap → Prop}, H c = some (.ext φ) → upd H p o c = some (.ext φ) := fun {c φ} e => by
    rw [upd_ne (fun z => by rw [z, hp] at e; exact n φ (Option.some.inj e))]
    exact e
  rcases h with ⟨e, q⟩ | ⟨d, q1, q2⟩
  · exact .inl ⟨e, off q⟩
  · exact .inr ⟨d, off q1, off q2⟩
section
variable {P : Program} {w : World} {K : PySem.W.Frag} {mg : Str → Option Value} {base : Heap}
theorem scP : FnScope ["one", "other", "first", "second", "rows", "cable", "found"] ["one", "other"] (defScope sKept) := ⟨rfl, rfl, rfl, by decide +kernel, rfl, by decide +kernel, by decide +kernel⟩
theorem ok_kept {f fA cW cT cC cB cP cM cS fW fT fC fB fP fM fS : Addr} {fd fdA dW dT dC dB dP dM dS : FuncData} (F : Fun K "_law_are_kept" "_law_are_kept" sKept f fd) (T : Nat0 mg) (S : Seven K mg cW cT cC cB cP cM cS fW fT fC fB fP fM fS dW dT dC dB dP dM dS)
    (FA : Fun K "_law_alike" "_law_alike" sAlike fA fdA) (mA : mg "_law_alike" = some (.ref fA)) (bA : Binds K fdA ["found", "due"] []) : GnOk P w K mg base 3 f fd ["one", "other"] (spKept K) := by
  have GA : GnOk P w K mg base 1 fA fdA ["found", "due"] (spAlike K) := ok_alike FA T
  refine Fun.okG F scP (fun as H Q E h => ?_) (fun cdv A outer s H as Q E hr hgd h => ?_)
  · obtain ⟨x, y, dx, dy, rfl, _⟩ := h
    rfl
  · obtain ⟨x, y, dx, dy, rfl, Dx, nx, Dy, ny, k⟩ := h
    have hr1 : Room 1 _ := hr.mono (by decide)
    have hu := hu_of hr
    refine ⟨_, pss_cons (ps_par (i := 2) (j := 3) rfl scP.nd rfl rfl (by decide) rfl rfl (pa_cons (pe_lst (pa_cons (pv 0) pa_nil)) (pa_cons (pe_disp (pps_cons pe_str (pv 1) pps_nil) (by rfl) (by rfl) (fun z => by cases z) (by decide)) pa_nil)) (by rfl))
      (pss_cons (ps_set (i := 4) scP.nd rfl (.inl rfl) (pe_lst (pa_cons (pe_oexV S.W.oex S.W.iC S.W.tI (init_Wrong S.W S.nW) hr S.W.b rfl S.W.g (pa_cons (pv 2) pa_nil)) (pa_cons (pe_oexV S.T.oex S.T.iC S.T.tI (init_NoText S.T S.nT) hr S.T.b rfl S.T.g (pa_cons (pv 2) pa_nil))
        (pa_cons (pe_oexV S.C.oex S.C.iC S.C.tI (init_NoCar S.C S.nC) hr S.C.b rfl S.C.g (pa_cons (pv 2) pa_nil)) (pa_cons (pe_oexV S.P.oex S.P.iC S.P.tI (init_NoPart S.P S.nP) hr S.P.b rfl S.P.g (pa_cons (pv 2) pa_nil))
        (pa_cons (pe_oexV S.M.oex S.M.iC S.M.tI (init_TooMany S.M S.nM) hr S.M.b rfl S.M.g (pa_cons (pv 2) pa_nil)) (pa_cons (pe_oexV S.S.oex S.S.iC S.S.tI (init_Short S.S S.nS) hr S.S.b rfl S.S.g (pa_cons (pv 2) pa_nil)) pa_nil))))))))
      (pss_cons (ps_set (i := 5) scP.nd rfl (.inl rfl) (pe_oexV S.B.oex S.B.iC S.B.tI (init_NoCable S.B S.nB S.nB2) hr S.B.b rfl S.B.g (pa_cons (pv 2) (pa_cons (pv 3) pa_nil))))
      (pss_cons (ps_expr (pe_bm PySem.F.plainAttrs_list PySem.F.slot_list_append PySem.F.type_list_append mt_append (pv 2) (pa_cons pe_int pa_nil)))
      (pss_cons (ps_dput hu (pv 3) pe_str pe_int rfl)
      (pss_cons (ps_set (i := 6) scP.nd rfl (.inl rfl) (pe_lst (pa_cons (pe_exF (pe_ix ix_list (pv 4) pe_int (fun _ _ => rfl))) (pa_cons (pe_exF (pe_ix ix_list (pv 4) pe_int (fun _ _ => rfl))) (pa_cons (pe_exF (pe_ix ix_list (pv 4) pe_int (fun _ _ => rfl)))
        (pa_cons (pe_exF (pe_ix ix_list (pv 4) pe_int (fun _ _ => rfl))) (pa_cons (pe_exF (pe_ix ix_list (pv 4) pe_int (fun _ _ => rfl))) (pa_cons (pe_exF (pe_ix ix_list (pv 4) pe_int (fun _ _ => rfl))) (pa_cons (pe_exF (pv 5)) pa_nil)))))))))
      (pss_one (ps_ret (pe_and (pe_callG GA hr1 hgd rfl mA FA.kp bA (pa_cons (pv 6) (pa_cons (pe_op op_rep (pe_lst (pa_cons (pe_lst (pa_cons (pv 0) (pa_cons pe_int pa_nil))) pa_nil)) pe_int) pa_nil)))
        (pe_one (pe_callG GA hr1 hgd rfl mA FA.kp bA (pa_cons (pe_exF (pv 5)) (pa_cons (pe_disp (pps_cons pe_str (pv 1) (pps_cons pe_str pe_int pps_nil)) (by rfl) (by rfl) (fun z => by cases z) (by decide)) pa_nil)))))))))))), ?_⟩
    refine ⟨_, rfl, by show 1 ≤ sizeLine; decide, fun p1 h1 => fun p2 h2 => ⟨_, rfl, upd_same, [(Sum.inr "a", y)], rfl, by show 1 ≤ 15; decide, _, _, rfl, ?_⟩⟩
    have n12 : p1 ≠ p2 := fun e => by rw [← e, upd_same] at h2; cases h2
    have s0 : Same H (upd (upd (upd H p1 (.lst [x])) p2 (.dK [])) p2 (.dK (mergeK [] [(Sum.inr "a", y)]))) := by
      rw [upd_upd]
      exact same_new (same_new (Same.refl H) h1) h2
    have f1 : upd (upd (upd H p1 (.lst [x])) p2 (.dK [])) p2 (.dK (mergeK [] [(Sum.inr "a", y)])) p1 = some (.lst [x]) := by rw [upd_ne n12, upd_ne n12, upd_same]
    have f2 : upd (upd (upd H p1 (.lst [x])) p2 (.dK [])) p2 (.dK (mergeK [] [(Sum.inr "a", y)])) p2 = some (.dK [(Sum.inr "a", y)]) := upd_same
    generalize upd (upd (upd H p1 (.lst [x])) p2 (.dK [])) p2 (.dK (mergeK [] [(Sum.inr "a", y)])) = H0 at s0 f1 f2 ⊢
    have fr1 : H p1 = none := h1
    have fr2 : H p2 = none := (upd_ne n12.symm).symm.trans h2
    refine ⟨_, rfl, by show 1 ≤ 1000; decide, fun a0 ha0 => ⟨a0, .ref p1, rfl, upd_same, fun d0 hd0 nd0 => ⟨rfl, ?_⟩⟩⟩
    have m0 : Same H0 (upd (upd (upd H0 a0 (exo a0 cW none)) d0 (exd d0 [("place", .ref p1)])) a0 (exo a0 cW (some d0))) := same_make ha0 (free2 hd0 nd0) fun c n1 n2 => by rw [upd_ne n1, upd_ne n2, upd_ne n1]
    have x0 : ExAt (upd (upd (upd H0 a0 (exo a0 cW none)) d0 (exd d0 [("place", .ref p1)])) a0 (exo a0 cW (some d0))) a0 cW [("place", .ref p1)] := .inr ⟨d0, upd_same, by rw [upd_ne nd0, upd_same]⟩
    generalize upd (upd (upd H0 a0 (exo a0 cW none)) d0 (exd d0 [("place", .ref p1)])) a0 (exo a0 cW (some d0)) = G0 at m0 x0 ⊢
    refine ⟨_, rfl, by show 1 ≤ 1000; decide, fun a1 ha1 => ⟨a1, .ref p1, rfl, upd_same, fun d1 hd1 nd1 => ⟨rfl, ?_⟩⟩⟩
    have m1 : Same G0 (upd (upd (upd G0 a1 (exo a1 cT none)) d1 (exd d1 [("line", .ref p1)])) a1 (exo a1 cT (some d1))) := same_make ha1 (free2 hd1 nd1) fun c n1 n2 => by rw [upd_ne n1, upd_ne n2, upd_ne n1]
    have x1 : ExAt (upd (upd (upd G0 a1 (exo a1 cT none)) d1 (exd d1 [("line", .ref p1)])) a1 (exo a1 cT (some d1))) a1 cT [("line", .ref p1)] := .inr ⟨d1, upd_same, by rw [upd_ne nd1, upd_same]⟩
    generalize upd (upd (upd G0 a1 (exo a1 cT none)) d1 (exd d1 [("line", .ref p1)])) a1 (exo a1 cT (some d1)) = G1 at m1 x1 ⊢
    refine ⟨_, rfl, by show 1 ≤ 1000; decide, fun a2 ha2 => ⟨a2, .ref p1, rfl, upd_same, fun d2 hd2 nd2 => ⟨rfl, ?_⟩⟩⟩
    have m2 : Same G1 (upd (upd (upd G1 a2 (exo a2 cC none)) d2 (exd d2 [("name", .ref p1)])) a2 (exo a2 cC (some d2))) := same_make ha2 (free2 hd2 nd2) fun c n1 n2 => by rw [upd_ne n1, upd_ne n2, upd_ne n1]
    have x2 : ExAt (upd (upd (upd G1 a2 (exo a2 cC none)) d2 (exd d2 [("name", .ref p1)])) a2 (exo a2 cC (some d2))) a2 cC [("name", .ref p1)] := .inr ⟨d2, upd_same, by rw [upd_ne nd2, upd_same]⟩
    generalize upd (upd (upd G1 a2 (exo a2 cC none)) d2 (exd d2 [("name", .ref p1)])) a2 (exo a2 cC (some d2)) = G2 at m2 x2 ⊢
    refine ⟨_, rfl, by show 1 ≤ 1000; decide, fun a3 ha3 => ⟨a3, .ref p1, rfl, upd_same, fun d3 hd3 nd3 => ⟨rfl, ?_⟩⟩⟩
    have m3 : Same G2 (upd (upd (upd G2 a3 (exo a3 cP none)) d3 (exd d3 [("name", .ref p1)])) a3 (exo a3 cP (some d3))) := same_make ha3 (free2 hd3 nd3) fun c n1 n2 => by rw [upd_ne n1, upd_ne n2, upd_ne n1]
    have x3 : ExAt (upd (upd (upd G2 a3 (exo a3 cP none)) d3 (exd d3 [("name", .ref p1)])) a3 (exo a3 cP (some d3))) a3 cP [("name", .ref p1)] := .inr ⟨d3, upd_same, by rw [upd_ne nd3, upd_same]⟩
    generalize upd (upd (upd G2 a3 (exo a3 cP none)) d3 (exd d3 [("name", .ref p1)])) a3 (exo a3 cP (some d3)) = G3 at m3 x3 ⊢
    refine ⟨_, rfl, by show 1 ≤ 1000; decide, fun a4 ha4 => ⟨a4, .ref p1, rfl, upd_same, fun d4 hd4 nd4 => ⟨rfl, ?_⟩⟩⟩
    have m4 : Same G3 (upd (upd (upd G3 a4 (exo a4 cM none)) d4 (exd d4 [("most", .ref p1)])) a4 (exo a4 cM (some d4))) := same_make ha4 (free2 hd4 nd4) fun c n1 n2 => by rw [upd_ne n1, upd_ne n2, upd_ne n1]
    have x4 : ExAt (upd (upd (upd G3 a4 (exo a4 cM none)) d4 (exd d4 [("most", .ref p1)])) a4 (exo a4 cM (some d4))) a4 cM [("most", .ref p1)] := .inr ⟨d4, upd_same, by rw [upd_ne nd4, upd_same]⟩
    generalize upd (upd (upd G3 a4 (exo a4 cM none)) d4 (exd d4 [("most", .ref p1)])) a4 (exo a4 cM (some d4)) = G4 at m4 x4 ⊢
    refine ⟨_, rfl, by show 1 ≤ 1000; decide, fun a5 ha5 => ⟨a5, .ref p1, rfl, upd_same, fun d5 hd5 nd5 => ⟨rfl, ?_⟩⟩⟩
    have m5 : Same G4 (upd (upd (upd G4 a5 (exo a5 cS none)) d5 (exd d5 [("hours", .ref p1)])) a5 (exo a5 cS (some d5))) := same_make ha5 (free2 hd5 nd5) fun c n1 n2 => by rw [upd_ne n1, upd_ne n2, upd_ne n1]
    have x5 : ExAt (upd (upd (upd G4 a5 (exo a5 cS none)) d5 (exd d5 [("hours", .ref p1)])) a5 (exo a5 cS (some d5))) a5 cS [("hours", .ref p1)] := .inr ⟨d5, upd_same, by rw [upd_ne nd5, upd_same]⟩
    generalize upd (upd (upd G4 a5 (exo a5 cS none)) d5 (exd d5 [("hours", .ref p1)])) a5 (exo a5 cS (some d5)) = G5 at m5 x5 ⊢
    refine ⟨by show 6 ≤ sizeLine; decide, fun p3 h3 => ?_⟩
    have m6 := same_new (o := .lst [.ref a0, .ref a1, .ref a2, .ref a3, .ref a4, .ref a5]) (Same.refl G5) h3
    have f3 : upd G5 p3 (.lst [.ref a0, .ref a1, .ref a2, .ref a3, .ref a4, .ref a5]) p3 = some (.lst [.ref a0, .ref a1, .ref a2, .ref a3, .ref a4, .ref a5]) := upd_same
    generalize upd G5 p3 (.lst [.ref a0, .ref a1, .ref a2, .ref a3, .ref a4, .ref a5]) = G6 at m6 f3 ⊢
    refine ⟨_, rfl, _, rfl, by show 2 ≤ 1000; decide, fun a6 ha6 => ⟨a6, .ref p1, .ref p2, rfl, upd_same, fun d6 hd6 nd6 => ⟨rfl, ?_⟩⟩⟩
    have m7 : Same G6 (upd (upd (upd (upd G6 a6 (exo a6 cB none)) d6 (exd d6 [("start", .ref p1)])) a6 (exo a6 cB (some d6))) d6 (exd d6 [("end", .ref p2), ("start", .ref p1)])) := same_make ha6 (free2 hd6 nd6) fun c n1 n2 => by rw [upd_ne n2, upd_ne n1, upd_ne n2, upd_ne n1]
    have x6 : ExAt (upd (upd (upd (upd G6 a6 (exo a6 cB none)) d6 (exd d6 [("start", .ref p1)])) a6 (exo a6 cB (some d6))) d6 (exd d6 [("end", .ref p2), ("start", .ref p1)])) a6 cB [("end", .ref p2), ("start", .ref p1)] := .inr ⟨d6, by rw [upd_ne nd6.symm, upd_same], upd_same⟩
    generalize upd (upd (upd (upd G6 a6 (exo a6 cB none)) d6 (exd d6 [("start", .ref p1)])) a6 (exo a6 cB (some d6))) d6 (exd d6 [("end", .ref p2), ("start", .ref p1)]) = G7 at m7 x6 ⊢
    have y0 := (((((((x0.more m1).more m2).more m3).more m4).more m5).more m6).more m7)
    have y1 := ((((((x1.more m2).more m3).more m4).more m5).more m6).more m7)
    have y2 := (((((x2.more m3).more m4).more m5).more m6).more m7)
    have y3 := ((((x3.more m4).more m5).more m6).more m7)
    have y4 := (((x4.more m5).more m6).more m7)
    have y5 := ((x5.more m6).more m7)
    have s7 : Same H G7 := ((((((((s0.trans m0).trans m1).trans m2).trans m3).trans m4).trans m5).trans m6).trans m7)
    have g1 := (m7 _ _ (m6 _ _ (m5 _ _ (m4 _ _ (m3 _ _ (m2 _ _ (m1 _ _ (m0 _ _ f1))))))))
    have g2 := (m7 _ _ (m6 _ _ (m5 _ _ (m4 _ _ (m3 _ _ (m2 _ _ (m1 _ _ (m0 _ _ f2))))))))
    have g3 := m7 _ _ f3
    -- first.append(2); second['b'] = 3
    refine ⟨_, rfl, .inl ⟨rfl, _, SqL.of g1⟩, p1, _, .int 2, rfl, rfl, g1, by show 1 < sizeLine; decide, ?_⟩
    have noX : ∀ φ, HO.lst [x] ≠ .ext φ := fun φ z => by cases z
    have noY : ∀ φ, HO.dK [(Sum.inr "a", y)] ≠ .ext φ := fun φ z => by cases z
    have s8 := same_put (o := .lst ([x] ++ [.int 2])) s7 fr1
    have g18 : upd G7 p1 (.lst ([x] ++ [.int 2])) p1 = some (.lst [x, .int 2]) := upd_same
    have g28 : upd G7 p1 (.lst ([x] ++ [.int 2])) p2 = some (.dK [(Sum.inr "a", y)]) := by rw [upd_ne n12.symm]; exact g2
    have n31 : p3 ≠ p1 := fun e => by rw [e, g1] at g3; cases g3
    have n32 : p3 ≠ p2 := fun e => by rw [e, g2] at g3; cases g3
    have g38 : upd G7 p1 (.lst ([x] ++ [.int 2])) p3 = some (.lst [.ref a0, .ref a1, .ref a2, .ref a3, .ref a4, .ref a5]) := by rw [upd_ne n31]; exact g3
    have z0 := ExAt.put (o := .lst ([x] ++ [.int 2])) y0 g1 noX
    have z1 := ExAt.put (o := .lst ([x] ++ [.int 2])) y1 g1 noX
    have z2 := ExAt.put (o := .lst ([x] ++ [.int 2])) y2 g1 noX
    have z3 := ExAt.put (o := .lst ([x] ++ [.int 2])) y3 g1 noX
    have z4 := ExAt.put (o := .lst ([x] ++ [.int 2])) y4 g1 noX
    have z5 := ExAt.put (o := .lst ([x] ++ [.int 2])) y5 g1 noX
    have z6 := ExAt.put (o := .lst ([x] ++ [.int 2])) x6 g1 noX
    generalize upd G7 p1 (.lst ([x] ++ [.int 2])) = G8 at s8 g18 g28 g38 z0 z1 z2 z3 z4 z5 z6 ⊢
    refine ⟨_, rfl, p2, _, rfl, DPut.k (k := Sum.inr "b") g28 (by show 1 < sizeLine; decide), ?_⟩
    have nab : ¬ ((Sum.inr ("a" : Str) : Key) = (Sum.inr ("b" : Str) : Key)) := by decide +kernel
    have pk : putK [((Sum.inr "a" : Key), y)] (Sum.inr "b") (.int 3) = ([((Sum.inr "a" : Key), y), ((Sum.inr "b" : Key), .int 3)] : List (Key × V)) := by
      rw [putK_new _ ((valV_neg nab).trans valV_nil)]
      rfl
    rw [pk]
    have s9 := same_put (o := .dK [(Sum.inr "a", y), (Sum.inr "b", .int 3)]) s8 fr2
    have g19 : upd G8 p2 (.dK [(Sum.inr "a", y), (Sum.inr "b", .int 3)]) p1 = some (.lst [x, .int 2]) := by rw [upd_ne n12]; exact g18
    have g29 : upd G8 p2 (.dK [(Sum.inr "a", y), (Sum.inr "b", .int 3)]) p2 = some (.dK [(Sum.inr "a", y), (Sum.inr "b", .int 3)]) := upd_same
    have g39 : upd G8 p2 (.dK [(Sum.inr "a", y), (Sum.inr "b", .int 3)]) p3 = some (.lst [.ref a0, .ref a1, .ref a2, .ref a3, .ref a4, .ref a5]) := by rw [upd_ne n32]; exact g38
    have w0 := ExAt.put (o := .dK [(Sum.inr "a", y), (Sum.inr "b", .int 3)]) z0 g28 noY
    have w1 := ExAt.put (o := .dK [(Sum.inr "a", y), (Sum.inr "b", .int 3)]) z1 g28 noY
    have w2 := ExAt.put (o := .dK [(Sum.inr "a", y), (Sum.inr "b", .int 3)]) z2 g28 noY
    have w3 := ExAt.put (o := .dK [(Sum.inr "a", y), (Sum.inr "b", .int 3)]) z3 g28 noY
    have w4 := ExAt.put (o := .dK [(Sum.inr "a", y), (Sum.inr "b", .int 3)]) z4 g28 noY
    have w5 := ExAt.put (o := .dK [(Sum.inr "a", y), (Sum.inr "b", .int 3)]) z5 g28 noY
    have w6 := ExAt.put (o := .dK [(Sum.inr "a", y), (Sum.inr "b", .int 3)]) z6 g28 noY
    generalize upd G8 p2 (.dK [(Sum.inr "a", y), (Sum.inr "b", .int 3)]) = G9 at s9 g19 g29 g39 w0 w1 w2 w3 w4 w5 w6 ⊢
    have nse : ¬ (("start" : Str) = "end") := by decide +kernel
    refine ⟨_, rfl, p3, _, _, _, rfl, rfl, SqL.of g39, atI_nat (j := 0) rfl, a0, cW, _, .ref p1, rfl, w0, S.W.xf, S.nW, lk1, _, rfl, p3, _, _, _, rfl, rfl, SqL.of g39, atI_nat (j := 1) rfl, a1, cT, _, .ref p1, rfl, w1, S.T.xf, S.nT, lk1, _, rfl, p3, _, _, _, rfl, rfl, SqL.of g39, atI_nat (j := 2) rfl, a2, cC, _, .ref p1, rfl, w2, S.C.xf, S.nC, lk1, _, rfl, p3, _, _, _, rfl, rfl, SqL.of g39, atI_nat (j := 3) rfl, a3, cP, _, .ref p1, rfl, w3, S.P.xf, S.nP, lk1, _, rfl, p3, _, _, _, rfl, rfl, SqL.of g39, atI_nat (j := 4) rfl, a4, cM, _, .ref p1, rfl, w4, S.M.xf, S.nM, lk1, _, rfl, p3, _, _, _, rfl, rfl, SqL.of g39, atI_nat (j := 5) rfl, a5, cS, _, .ref p1, rfl, w5, S.S.xf, S.nS, lk1, _, rfl, a6, cB, _, .ref p1, rfl, w6, S.B.xf, S.nB, (lk2 nse).trans lk1, by show 7 ≤ sizeLine; decide, fun p4 h4 => ?_⟩
    have t1 := same_new (o := .lst [.ref p1, .ref p1, .ref p1, .ref p1, .ref p1, .ref p1, .ref p1]) (Same.refl G9) h4
    have q4 : upd G9 p4 (.lst [.ref p1, .ref p1, .ref p1, .ref p1, .ref p1, .ref p1, .ref p1]) p4 = some (.lst (List.replicate 7 (.ref p1))) := upd_same
    generalize upd G9 p4 (.lst [.ref p1, .ref p1, .ref p1, .ref p1, .ref p1, .ref p1, .ref p1]) = J1 at t1 q4 ⊢
    refine ⟨_, rfl, _, rfl, by show 2 ≤ sizeLine; decide, fun r1 k1 => ?_⟩
    have t2 := same_new (o := .lst [x, .int 2]) (Same.refl J1) k1
    have q5 : upd J1 r1 (.lst [x, .int 2]) r1 = some (.lst [x, .int 2]) := upd_same
    generalize upd J1 r1 (.lst [x, .int 2]) = J2 at t2 q5 ⊢
    refine ⟨by show 1 ≤ sizeLine; decide, fun r2 k2 => ?_⟩
    have t3 := same_new (o := .lst [.ref r1]) (Same.refl J2) k2
    have q6 : upd J2 r2 (.lst [.ref r1]) r2 = some (.lst [.ref r1]) := upd_same
    generalize upd J2 r2 (.lst [.ref r1]) = J3 at t3 q6 ⊢
    refine ⟨r2, 7, _, rfl, rfl, q6, by decide, by decide, by show 1 * 7 ≤ sizeLine; decide, fun r3 k3 => ?_⟩
    have t4 := same_new (o := .lst (List.replicate (7 : Int).toNat [V.ref r1]).flatten) (Same.refl J3) k3
    have q7 : upd J3 r3 (.lst (List.replicate (7 : Int).toNat [V.ref r1]).flatten) r3 = some (.lst (List.replicate 7 (.ref r1))) := upd_same
    generalize upd J3 r3 (.lst (List.replicate (7 : Int).toNat [V.ref r1]).flatten) = J4 at t4 q7 ⊢
    have s10 : Same H J4 := s9.trans (t1.trans (t2.trans (t3.trans t4)))
    have Dx4 := Dx.more s10
    have Dy4 := Dy.more s10
    have c1 : J4 p1 = some (.lst [x, .int 2]) := t4 _ _ (t3 _ _ (t2 _ _ (t1 _ _ g19)))
    have c2 : J4 r1 = some (.lst [x, .int 2]) := t4 _ _ (t3 _ _ q5)
    have c3 : J4 p4 = some (.lst (List.replicate 7 (.ref p1))) := t4 _ _ (t3 _ _ (t2 _ _ q4))
    have c4 : J4 p2 = some (.dK [(Sum.inr "a", y), (Sum.inr "b", .int 3)]) := t4 _ _ (t3 _ _ (t2 _ _ (t1 _ _ g29)))
    have c5 := (((w6.more t1).more t2).more t3).more t4
    have fx : ∀ d ∈ [dx, .int 2], Fit 60 4 d := fun d hd => by
      rcases List.mem_cons.mp hd with e | e
      · rw [e]; exact nx
      · rw [List.mem_singleton.mp e]; exact ⟨by decide +kernel, by decide +kernel, by decide +kernel⟩
    have f1 : Fit 127 5 (.list [dx, .int 2]) := fit_list fx
    have f2 : Fit 906 6 (.list (List.replicate 7 (.list [dx, .int 2]))) := fit_list (m := 127) (k := 5) fun d hd => by rw [List.eq_of_mem_replicate hd]; exact f1
    have D1 : DatV K J4 (.ref p1) (.list [dx, .int 2]) := .lst (SqL.of c1) (.cons Dx4 (.cons (.int 2) .nil))
    have D2 : DatV K J4 (.ref r1) (.list [dx, .int 2]) := .lst (SqL.of c2) (.cons Dx4 (.cons (.int 2) .nil))
    have E1 : EqV K J4 2 (.ref p1) (.ref r1) := .inr (.inr (.inl ⟨p1, r1, _, _, rfl, rfl, SqL.of c1, SqL.of c2, .cons (eqv_self Dx4 0) (.cons (.inl ⟨rfl, rfl⟩) .nil)⟩))
    refine ⟨.ref p4, .ref r3, _, 2, rfl, by decide, .inl ⟨p4, r3, _, _, rfl, rfl, SqL.of c3, SqL.of q7, paired_rep E1 7⟩, .lst (SqL.of c3) (datA_rep D1 7), .lst (SqL.of q7) (datA_rep D2 7), f2.1, Nat.le_trans f2.2.1 (by decide), Nat.le_trans f2.2.2 (by decide), true, rfl, iteT ?_⟩
    refine ⟨_, rfl, a6, cB, _, .ref p2, rfl, c5, S.B.xf, S.nB2, lk1, fun r4 k4 => ⟨_, rfl, upd_same, [(Sum.inr "a", y), (Sum.inr "b", .int 3)], rfl, by show 2 ≤ 15; decide, ?_⟩⟩
    rw [upd_upd]
    have mk : mergeK [] ([((Sum.inr "a" : Key), y), ((Sum.inr "b" : Key), .int 3)] : List (Key × V)) = ([((Sum.inr "a" : Key), y), ((Sum.inr "b" : Key), .int 3)] : List (Key × V)) := pk
    rw [mk]
    have t5 := same_new (o := .dK [(Sum.inr "a", y), (Sum.inr "b", .int 3)]) (Same.refl J4) k4
    have c6 : upd J4 r4 (.dK [(Sum.inr "a", y), (Sum.inr "b", .int 3)]) r4 = some (.dK [(Sum.inr "a", y), (Sum.inr "b", .int 3)]) := upd_same
    have s11 := s10.trans t5
    have c7 := t5 _ _ c4
    have Dy5 := Dy4.more t5
    generalize upd J4 r4 (.dK [(Sum.inr "a", y), (Sum.inr "b", .int 3)]) = J5 at t5 c6 s11 c7 Dy5 ⊢
    have fa : Fit 60 4 (.str "a") := ⟨by decide +kernel, by decide +kernel, by decide +kernel⟩
    have fb : Fit 60 4 (.str "b") := ⟨by decide +kernel, by decide +kernel, by decide +kernel⟩
    have f0 : Fit 60 4 (.int 3) := ⟨by decide +kernel, by decide +kernel, by decide +kernel⟩
    have fy : ∀ p ∈ [(PyData.str "a", dy), (PyData.str "b", .int 3)], Fit 60 4 p.1 ∧ Fit 60 4 p.2 := fun p hp => by
      rcases List.mem_cons.mp hp with e | e
      · rw [e]; exact ⟨fa, ny⟩
      · rw [List.mem_singleton.mp e]; exact ⟨fb, f0⟩
    have f3 : Fit 251 5 (.dict [(PyData.str "a", dy), (PyData.str "b", .int 3)]) := fit_dict fy
    have vb : valV ([((Sum.inr "a" : Key), y), ((Sum.inr "b" : Key), .int 3)] : List (Key × V)) (Sum.inr "b") = some (.int 3) := (valV_neg nab).trans (valV_pos rfl)
    refine ⟨.ref p2, .ref r4, .dict [(PyData.str "a", dy), (PyData.str "b", .int 3)], 1, rfl, by decide, .inr ⟨p2, r4, _, _, rfl, rfl, c7, c6, rfl, fun p hp => ?_⟩, DatV.dic (ds := [dy, .int 3]) c7 (.cons Dy5 (.cons (.int 3) .nil)), DatV.dic (ds := [dy, .int 3]) c6 (.cons Dy5 (.cons (.int 3) .nil)), f3.1, Nat.le_trans f3.2.1 (by decide), Nat.le_trans f3.2.2 (by decide), k _ s11⟩
    rcases List.mem_cons.mp hp with e | e
    · rw [e]
      exact ⟨y, valV_pos rfl, eqv_self Dy5 0⟩
    · rw [List.mem_singleton.mp e]
      exact ⟨.int 3, vb, .inl ⟨rfl, rfl⟩⟩
end
end K0
namespace K0
open PySem PySem.Spec PyProof.Rows L2 Ns
abbrev sLaw : Stmt := top 21
/-- the nine classes, and NightError, asked by isinstance -/
structure Nine (K : PySem.W.Frag) (cs : List Addr) (cE : Addr) : Prop where
  kit : ∀ i, i < 9 → Kits K cs (cs.getD i 0) ((List.range 9).map fun j => decide (j = i))
  kE : ∀ i, i < 9 → PySem.W.kitOne K (.ref (cs.getD i 0)) (.ref cE) = some true
  kV : ∀ i, i < 9 → PySem.W.kitOne K (.ref (cs.getD i 0)) (.type "ValueError") = some true
  ex : ∀ i, i < 9 → ExcC K (cs.getD i 0)
  kitE : Kits K cs cE (List.replicate 9 false)
  vE : PySem.W.kitOne K (.ref cE) (.type "ValueError") = some true
  exE : ExcC K cE
/-- a class without __init__ -/
structure Er0 (K : PySem.W.Frag) (C : Addr) : Prop where
  q : PySem.W.excIn K C [.type "ValueError", .type "Exception", .type "BaseException", .type "object"] "ValueError.__new__" = true
  k : PySem.W.keepIn K (.ref C) = true
/-- the defs of the law -/
structure Defs (K : PySem.W.Frag) (mg : Str → Option Value) (fB fT fS fA fV fC fO fK fP : Addr) (dB dT dS dA dV dC dO dK dP : FuncData) : Prop where
  B : Fun K "_law_bag" "_law_bag" sBag fB dB
  mB : mg "_law_bag" = some (.ref fB)
  bB : Binds K dB ["script"] []
  T : Fun K "_law_take" "_law_take" sTake fT dT
  mT : mg "_law_take" = some (.ref fT)
  bT : Binds K dT ["bag", "many"] []
  S : Fun K "_law_some" "_law_some" sSome fS dS
  mS : mg "_law_some" = some (.ref fS)
  bS : Binds K dS ["bag", "things"] []
  A : Fun K "_law_alike" "_law_alike" sAlike fA dA
  mA : mg "_law_alike" = some (.ref fA)
  bA : Binds K dA ["found", "due"] []
  V : Fun K "_law_value" "_law_value" sValue fV dV
  mV : mg "_law_value" = some (.ref fV)
  bV : Binds K dV ["bag"] []
  C : Fun K "_law_classes" "_law_classes" sClasses fC dC
  mC : mg "_law_classes" = some (.ref fC)
  bC : Binds K dC ["thing"] []
  O : Fun K "_law_is_only" "_law_is_only" sOnly fO dO
  mO : mg "_law_is_only" = some (.ref fO)
  bO : Binds K dO ["thing", "at"] []
  K' : Fun K "_law_caught" "_law_caught" sCaught fK dK
  mK : mg "_law_caught" = some (.ref fK)
  bK : Binds K dK ["one", "other"] []
  P : Fun K "_law_are_kept" "_law_are_kept" sKept fP dP
  mP : mg "_law_are_kept" = some (.ref fP)
  bP : Binds K dP ["one", "other"] []
section
variable {P : Program} {w : World} {K : PySem.W.Frag} {mg : Str → Option Value} {base : Heap}
theorem scL : FnScope ["script", "bag", "turn", "one", "other", "wrong", "text", "car", "cable", "part", "many", "short", "found", "rows", "at"] ["script"] (defScope sLaw) := ⟨rfl, rfl, rfl, by decide +kernel, rfl, by decide +kernel, by decide +kernel⟩
set_option maxHeartbeats 8000000 in
theorem ok_law {f cW cT cC cB cP cM cO cN cS cE gW gT gC gB gP gM gS fB fT fS fA fV fC fO fK fP : Addr} {fd dW eT eC eB eP eM eS dB dT dS dA dV dC dO dK dP : FuncData} (F : Fun K "law" "law" sLaw f fd) (T : Nat0 mg) (G : Gs mg cW cT cC cB cP cM cO cN cS cE)
    (S : Seven K mg cW cT cC cB cP cM cS gW gT gC gB gP gM gS dW eT eC eB eP eM eS) (N : Nine K [cW, cT, cC, cB, cP, cM, cO, cN, cS] cE) (EO : Er0 K cO) (EN : Er0 K cN) (EE : Er0 K cE) (M : Exm K cC cB cS cE) (D : Defs K mg fB fT fS fA fV fC fO fK fP dB dT dS dA dV dC dO dK dP) :
    GnOk P w K mg base 4 f fd ["script"] (spTop K) := by
  have GB : FnOk P w K mg base CX0 1 fB dB ["script"] (spBag K) := ok_bag D.B T
  have GV : FnOk P w K mg base CX0 3 fV dV ["bag"] (spValue K) := ok_value D.V T D.T D.mT D.bT D.S D.mS D.bS
  have GA : GnOk P w K mg base 1 fA dA ["found", "due"] (spAlike K) := ok_alike D.A T
  have GC : FnOk P w K mg base CX0 1 fC dC ["thing"] (spClasses K [cW, cT, cC, cB, cP, cM, cO, cN, cS]) := ok_classes D.C T G
  have GO : FnOk P w K mg base CX0 2 fO dO ["thing", "at"] (spOnly K [cW, cT, cC, cB, cP, cM, cO, cN, cS] cE) := ok_only D.O T G D.C D.mC D.bC
  have GK : FnOk P w K mg base CX0 3 fK dK ["one", "other"] spCaught := ok_caught D.K' T S.B S.S S.nB S.nB2 S.nS G.gE G.gC M
  have GP : GnOk P w K mg base 3 fP dP ["one", "other"] (spKept K) := ok_kept D.P T S D.A D.mA D.bA
  refine Fun.okG F scL (fun as H Q E h => ?_) (fun cdv A outer s H as Q E hr hgd h => ?_)
  · obtain ⟨a, ns, rfl, _⟩ := h
    rfl
  · obtain ⟨a, ns, rfl, hS, hl, k⟩ := h
    have hr1 : Room 1 _ := hr.mono (by decide)
    have hr2 : Room 2 _ := hr.mono (by decide)
    refine ⟨_, pss_cons (ps_set (i := 1) scL.nd rfl (.inl rfl) (pe_call GB hr1 rfl D.mB D.B.kp D.bB .nil pass0 (pa_cons (pv 0) pa_nil)))
      (pss_cons (ps_for PassesOwn.never rfl (pi_range1 rfl T.range (pa_cons pe_int pa_nil)) (pg_name (i := 2) scL.nd rfl (Or.inl rfl))
        (pss_cons (ps_par (i := 3) (j := 4) rfl scL.nd rfl rfl (by decide) rfl rfl (pa_cons (pe_call GV hr rfl D.mV D.V.kp D.bV .nil pass0 (pa_cons (pv 1) pa_nil)) (pa_cons (pe_call GV hr rfl D.mV D.V.kp D.bV .nil pass0 (pa_cons (pv 1) pa_nil)) pa_nil)) (by rfl))
        (pss_cons (ps_asg (pe_tup (pa_cons (pe_oexV S.W.oex S.W.iC S.W.tI (init_Wrong S.W S.nW) hr2 S.W.b rfl S.W.g (pa_cons (pv 3) pa_nil)) (pa_cons (pe_oexV S.T.oex S.T.iC S.T.tI (init_NoText S.T S.nT) hr2 S.T.b rfl S.T.g (pa_cons (pv 3) pa_nil))
            (pa_cons (pe_oexV S.C.oex S.C.iC S.C.tI (init_NoCar S.C S.nC) hr2 S.C.b rfl S.C.g (pa_cons (pv 3) pa_nil)) (pa_cons (pe_oexV S.B.oex S.B.iC S.B.tI (init_NoCable S.B S.nB S.nB2) hr2 S.B.b rfl S.B.g (pa_cons (pv 3) (pa_cons (pv 4) pa_nil))) pa_nil)))))
            (pg_tup rfl (pgs_cons (pg_name (i := 5) scL.nd rfl (.inl rfl)) (pgs_cons (pg_name (i := 6) scL.nd rfl (.inl rfl)) (pgs_cons (pg_name (i := 7) scL.nd rfl (.inl rfl)) (pgs_cons (pg_name (i := 8) scL.nd rfl (.inl rfl)) pgs_nil))))))
        (pss_cons (ps_par3 (i := 9) (j := 10) (l := 11) rfl scL.nd rfl rfl rfl (by decide) (by decide) (by decide) rfl rfl rfl (pa_cons (pe_oexV S.P.oex S.P.iC S.P.tI (init_NoPart S.P S.nP) hr2 S.P.b rfl S.P.g (pa_cons (pv 3) pa_nil))
            (pa_cons (pe_oexV S.M.oex S.M.iC S.M.tI (init_TooMany S.M S.nM) hr2 S.M.b rfl S.M.g (pa_cons (pv 3) pa_nil)) (pa_cons (pe_oexV S.S.oex S.S.iC S.S.tI (init_Short S.S S.nS) hr2 S.S.b rfl S.S.g (pa_cons (pv 3) pa_nil)) pa_nil))) (by rfl))
        (pss_cons (ps_set (i := 12) scL.nd rfl (.inl rfl) (pe_lst (pa_cons (pe_exF (pv 5)) (pa_cons (pe_exF (pv 6)) (pa_cons (pe_exF (pv 7)) (pa_cons (pe_exF (pv 8)) (pa_cons (pe_exF (pv 8)) (pa_cons (pe_exF (pv 9)) (pa_cons (pe_exF (pv 10)) (pa_cons (pe_exF (pv 11)) pa_nil))))))))))
        (pss_cons (ps_if (pt_not (pt_val (pe_callG GA hr1 hgd rfl D.mA D.A.kp D.bA (pa_cons (pv 12) (pa_cons (pe_lst (pa_cons (pv 3) (pa_cons (pv 3) (pa_cons (pv 3) (pa_cons (pv 3) (pa_cons (pv 4) (pa_cons (pv 3) (pa_cons (pv 3) (pa_cons (pv 3) pa_nil))))))))) pa_nil))))) (pss_one (ps_ret pe_bl)) pss_nil)
        (pss_cons (ps_set (i := 13) scL.nd rfl (.inr rfl) (pe_lst (pa_cons (pv 5) (pa_cons (pv 6) (pa_cons (pv 7) (pa_cons (pv 8) (pa_cons (pv 9) (pa_cons (pv 10) (pa_cons (pe_oex0 PySem.F.excBase_ValueError EO.q EO.k rfl G.gO) (pa_cons (pe_oex0 PySem.F.excBase_ValueError EN.q EN.k rfl G.gN) (pa_cons (pv 11) pa_nil)))))))))))
        (pss_cons (ps_if (pt_cmpR (op_neD hr.units) (pe_lc (own := [("at", 14)]) (g := gName 14) (tt := tNot (tB (tCall (spOnly K [cW, cT, cC, cB, cP, cM, cO, cN, cS] cE) [] E0 (tCons (tOp (rIxL K) (tVar 13) (tVar 14)) (tCons (tVar 14) tNil))))) (by rfl) scL.nd (pi_range1 rfl T.range (pa_cons pe_int pa_nil)) (blkOk_by (N := ["script", "bag", "turn", "one", "other", "wrong", "text", "car", "cable", "part", "many", "short", "found", "rows", "at"]) (sc := defScope sLaw) (by decide +kernel))
              (fun _ _ _ _ _ => pg_name (i := 14) scL.nd rfl (Or.inl rfl)) (fun _ _ _ _ _ => pts_one (pt_not (pt_val (pe_call GO hr2 rfl D.mO D.O.kp D.bO .nil pass0 (pa_cons (pe_ix ix_list (pv 13) (pv 14) (fun _ _ => rfl)) (pa_cons (pv 14) pa_nil)))))) (fun _ _ _ _ _ => pv 14)) (pe_lst pa_nil) (nomark _)) (pss_one (ps_ret pe_bl)) pss_nil)
        (pss_one (ps_if (PW.pt (pw_or (pt_not (pt_val (pe_callG GA hr1 hgd rfl D.mA D.A.kp D.bA (pa_cons (pe_call GK hr rfl D.mK D.K'.kp D.bK .nil pass0 (pa_cons (pv 3) (pa_cons (pv 4) pa_nil))) (pa_cons (pe_lst (pa_cons (pv 3) (pa_cons (pv 4) (pa_cons pe_bl (pa_cons pe_bl (pa_cons (pv 3) pa_nil)))))) pa_nil)))))
            (pw_or1 (pt_not (pt_val (pe_callG GP hr hgd rfl D.mP D.P.kp D.bP (pa_cons (pv 3) (pa_cons (pv 4) pa_nil)))))))) (pss_one (ps_ret pe_bl)) pss_nil))))))))))
      (pss_one (ps_ret (pe_and (pe_cmpR (op_eqD hr.units) (pe_call GC hr1 rfl D.mC D.C.kp D.bC .nil pass0 (pa_cons (pe_oex0 PySem.F.excBase_ValueError EE.q EE.k rfl G.gE) pa_nil)) (pe_op op_rep (pe_lst (pa_cons pe_bl pa_nil)) pe_int) (nomark _))
        (pe_one (pe_callB call_isX (by rfl) T.isi (by decide +kernel) (pa_cons (pe_oex0 PySem.F.excBase_ValueError EE.q EE.k rfl G.gE) (pa_cons (pe_bltn (v := .ty "ValueError") (by rfl) T.verr (by decide +kernel) rfl) pa_nil)))))))), ?_⟩
    refine ⟨_, rfl, a, ns, rfl, hS, hl, fun b H1 hB hb sb => ?_⟩
    refine ⟨6, rfl, by decide, by decide, for_range (n := 6) (fun i σ H' => ∃ v2 v3 v4 v5 v6 v7 v8 v9 v10 v11 v12 v13 v14 : Option V, σ = [some (.ref a), some (.ref b), v2, v3, v4, v5, v6, v7, v8, v9, v10, v11, v12, v13, v14] ∧ Bag H' b)
      ⟨none, none, none, none, none, none, none, none, none, none, none, none, none, rfl, hB⟩ ?_ ?_⟩
    · rintro i σ H2 hi ⟨v2, v3, v4, v5, v6, v7, v8, v9, v10, v11, v12, v13, v14, rfl, hB2⟩
      refine ⟨_, rfl, b, rfl, hB2, fun x H3' gx hB3' sb3' => ⟨_, rfl, b, rfl, hB3', fun y H3 gy hB3 sb3 => ⟨x, y, rfl, ?_⟩⟩⟩
      obtain ⟨dx, Dx', nx⟩ := gx.more sb3
      obtain ⟨dy, Dy', ny⟩ := gy
      have Dx := Dx'.more (wo_sub H3 b)
      have Dy := Dy'.more (wo_sub H3 b)
      have s3 := Same.refl H3
      refine ⟨_, rfl, by show 1 ≤ 1000; decide, fun a0 ha0 => ⟨a0, x, rfl, upd_same, fun d0 hd0 nd0 => ⟨rfl, ?_⟩⟩⟩
      have m0 : Same H3 (upd (upd (upd H3 a0 (exo a0 cW none)) d0 (exd d0 [("place", x)])) a0 (exo a0 cW (some d0))) := same_make ha0 (free2 hd0 nd0) fun c n1 n2 => by rw [upd_ne n1, upd_ne n2, upd_ne n1]
      have x0 : ExAt (upd (upd (upd H3 a0 (exo a0 cW none)) d0 (exd d0 [("place", x)])) a0 (exo a0 cW (some d0))) a0 cW [("place", x)] := .inr ⟨d0, upd_same, by rw [upd_ne nd0, upd_same]⟩
      generalize upd (upd (upd H3 a0 (exo a0 cW none)) d0 (exd d0 [("place", x)])) a0 (exo a0 cW (some d0)) = G0 at m0 x0 ⊢
      refine ⟨_, rfl, by show 1 ≤ 1000; decide, fun a1 ha1 => ⟨a1, x, rfl, upd_same, fun d1 hd1 nd1 => ⟨rfl, ?_⟩⟩⟩
      have m1 : Same G0 (upd (upd (upd G0 a1 (exo a1 cT none)) d1 (exd d1 [("line", x)])) a1 (exo a1 cT (some d1))) := same_make ha1 (free2 hd1 nd1) fun c n1 n2 => by rw [upd_ne n1, upd_ne n2, upd_ne n1]
      have x1 : ExAt (upd (upd (upd G0 a1 (exo a1 cT none)) d1 (exd d1 [("line", x)])) a1 (exo a1 cT (some d1))) a1 cT [("line", x)] := .inr ⟨d1, upd_same, by rw [upd_ne nd1, upd_same]⟩
      generalize upd (upd (upd G0 a1 (exo a1 cT none)) d1 (exd d1 [("line", x)])) a1 (exo a1 cT (some d1)) = G1 at m1 x1 ⊢
      refine ⟨_, rfl, by show 1 ≤ 1000; decide, fun a2 ha2 => ⟨a2, x, rfl, upd_same, fun d2 hd2 nd2 => ⟨rfl, ?_⟩⟩⟩
      have m2 : Same G1 (upd (upd (upd G1 a2 (exo a2 cC none)) d2 (exd d2 [("name", x)])) a2 (exo a2 cC (some d2))) := same_make ha2 (free2 hd2 nd2) fun c n1 n2 => by rw [upd_ne n1, upd_ne n2, upd_ne n1]
      have x2 : ExAt (upd (upd (upd G1 a2 (exo a2 cC none)) d2 (exd d2 [("name", x)])) a2 (exo a2 cC (some d2))) a2 cC [("name", x)] := .inr ⟨d2, upd_same, by rw [upd_ne nd2, upd_same]⟩
      generalize upd (upd (upd G1 a2 (exo a2 cC none)) d2 (exd d2 [("name", x)])) a2 (exo a2 cC (some d2)) = G2 at m2 x2 ⊢
      refine ⟨_, rfl, _, rfl, by show 2 ≤ 1000; decide, fun a3 ha3 => ⟨a3, x, y, rfl, upd_same, fun d3 hd3 nd3 => ⟨rfl, ?_⟩⟩⟩
      have m3 : Same G2 (upd (upd (upd (upd G2 a3 (exo a3 cB none)) d3 (exd d3 [("start", x)])) a3 (exo a3 cB (some d3))) d3 (exd d3 [("end", y), ("start", x)])) := same_make ha3 (free2 hd3 nd3) fun c n1 n2 => by rw [upd_ne n2, upd_ne n1, upd_ne n2, upd_ne n1]
      have x3 : ExAt (upd (upd (upd (upd G2 a3 (exo a3 cB none)) d3 (exd d3 [("start", x)])) a3 (exo a3 cB (some d3))) d3 (exd d3 [("end", y), ("start", x)])) a3 cB [("end", y), ("start", x)] := .inr ⟨d3, by rw [upd_ne nd3.symm, upd_same], upd_same⟩
      generalize upd (upd (upd (upd G2 a3 (exo a3 cB none)) d3 (exd d3 [("start", x)])) a3 (exo a3 cB (some d3))) d3 (exd d3 [("end", y), ("start", x)]) = G3 at m3 x3 ⊢
      refine ⟨by show 4 ≤ sizeLine; decide, fun pt hpt => ?_⟩
      have mt := same_new (o := .tup [.ref a0, .ref a1, .ref a2, .ref a3]) (Same.refl G3) hpt
      have et : upd G3 pt (.tup [.ref a0, .ref a1, .ref a2, .ref a3]) pt = some (.tup [.ref a0, .ref a1, .ref a2, .ref a3]) := upd_same
      generalize upd G3 pt (.tup [.ref a0, .ref a1, .ref a2, .ref a3]) = Gt at mt et ⊢
      refine ⟨pt, _, rfl, .inl (.inl et), rfl, _, _, rfl, _, _, rfl, _, _, rfl, _, _, rfl, rfl, ?_⟩
      refine ⟨_, rfl, by show 1 ≤ 1000; decide, fun a4 ha4 => ⟨a4, x, rfl, upd_same, fun d4 hd4 nd4 => ⟨rfl, ?_⟩⟩⟩
      have m4 : Same Gt (upd (upd (upd Gt a4 (exo a4 cP none)) d4 (exd d4 [("name", x)])) a4 (exo a4 cP (some d4))) := same_make ha4 (free2 hd4 nd4) fun c n1 n2 => by rw [upd_ne n1, upd_ne n2, upd_ne n1]
      have x4 : ExAt (upd (upd (upd Gt a4 (exo a4 cP none)) d4 (exd d4 [("name", x)])) a4 (exo a4 cP (some d4))) a4 cP [("name", x)] := .inr ⟨d4, upd_same, by rw [upd_ne nd4, upd_same]⟩
      generalize upd (upd (upd Gt a4 (exo a4 cP none)) d4 (exd d4 [("name", x)])) a4 (exo a4 cP (some d4)) = G4 at m4 x4 ⊢
      refine ⟨_, rfl, by show 1 ≤ 1000; decide, fun a5 ha5 => ⟨a5, x, rfl, upd_same, fun d5 hd5 nd5 => ⟨rfl, ?_⟩⟩⟩
      have m5 : Same G4 (upd (upd (upd G4 a5 (exo a5 cM none)) d5 (exd d5 [("most", x)])) a5 (exo a5 cM (some d5))) := same_make ha5 (free2 hd5 nd5) fun c n1 n2 => by rw [upd_ne n1, upd_ne n2, upd_ne n1]
      have x5 : ExAt (upd (upd (upd G4 a5 (exo a5 cM none)) d5 (exd d5 [("most", x)])) a5 (exo a5 cM (some d5))) a5 cM [("most", x)] := .inr ⟨d5, upd_same, by rw [upd_ne nd5, upd_same]⟩
      generalize upd (upd (upd G4 a5 (exo a5 cM none)) d5 (exd d5 [("most", x)])) a5 (exo a5 cM (some d5)) = G5 at m5 x5 ⊢
      refine ⟨_, rfl, by show 1 ≤ 1000; decide, fun a6 ha6 => ⟨a6, x, rfl, upd_same, fun d6 hd6 nd6 => ⟨rfl, ?_⟩⟩⟩
      have m6 : Same G5 (upd (upd (upd G5 a6 (exo a6 cS none)) d6 (exd d6 [("hours", x)])) a6 (exo a6 cS (some d6))) := same_make ha6 (free2 hd6 nd6) fun c n1 n2 => by rw [upd_ne n1, upd_ne n2, upd_ne n1]
      have x6 : ExAt (upd (upd (upd G5 a6 (exo a6 cS none)) d6 (exd d6 [("hours", x)])) a6 (exo a6 cS (some d6))) a6 cS [("hours", x)] := .inr ⟨d6, upd_same, by rw [upd_ne nd6, upd_same]⟩
      generalize upd (upd (upd G5 a6 (exo a6 cS none)) d6 (exd d6 [("hours", x)])) a6 (exo a6 cS (some d6)) = G6 at m6 x6 ⊢
      refine ⟨_, _, _, rfl, ?_⟩
      have y0 := (((((((x0.more m1).more m2).more m3).more mt).more m4).more m5).more m6)
      have y1 := ((((((x1.more m2).more m3).more mt).more m4).more m5).more m6)
      have y2 := (((((x2.more m3).more mt).more m4).more m5).more m6)
      have y3 := ((((x3.more mt).more m4).more m5).more m6)
      have y4 := ((x4.more m5).more m6)
      have y5 := (x5.more m6)
      have y6 := x6
      have s6 : Same H3 G6 := ((((((((s3.trans m0).trans m1).trans m2).trans m3).trans mt).trans m4).trans m5).trans m6)
      have nse : ¬ (("start" : Str) = "end") := by decide +kernel
      refine ⟨_, rfl, a0, cW, _, x, rfl, y0, S.W.xf, S.nW, lk1, _, rfl, a1, cT, _, x, rfl, y1, S.T.xf, S.nT, lk1, _, rfl, a2, cC, _, x, rfl, y2, S.C.xf, S.nC, lk1, _, rfl, a3, cB, _, x, rfl, y3, S.B.xf, S.nB, ((lk2 nse).trans lk1), _, rfl, a3, cB, _, y, rfl, y3, S.B.xf, S.nB2, lk1, _, rfl, a4, cP, _, x, rfl, y4, S.P.xf, S.nP, lk1, _, rfl, a5, cM, _, x, rfl, y5, S.M.xf, S.nM, lk1, _, rfl, a6, cS, _, x, rfl, y6, S.S.xf, S.nS, lk1, by show 8 ≤ sizeLine; decide, fun pf hpf => ?_⟩
      have mf := same_new (o := .lst [x, x, x, x, y, x, x, x]) (Same.refl G6) hpf
      have ef : upd G6 pf (.lst [x, x, x, x, y, x, x, x]) pf = some (.lst [x, x, x, x, y, x, x, x]) := upd_same
      generalize upd G6 pf (.lst [x, x, x, x, y, x, x, x]) = G7 at mf ef ⊢
      refine ⟨_, rfl, _, rfl, _, rfl, _, rfl, _, rfl, _, rfl, _, rfl, _, rfl, _, rfl, by show 8 ≤ sizeLine; decide, fun pd hpd => ?_⟩
      have md := same_new (o := .lst [x, x, x, x, y, x, x, x]) (Same.refl G7) hpd
      have ed : upd G7 pd (.lst [x, x, x, x, y, x, x, x]) pd = some (.lst [x, x, x, x, y, x, x, x]) := upd_same
      generalize upd G7 pd (.lst [x, x, x, x, y, x, x, x]) = G8 at md ed ⊢
      have s8 : Same H3 G8 := s6.trans (mf.trans md)
      have Dx8 := Dx.more s8
      have Dy8 := Dy.more s8
      have fx : Fit 60 4 dx := nx
      have fy : Fit 60 4 dy := ny
      have eX : ∀ {Hh : Hp}, DatV K Hh x dx → EqV K Hh 1 x x := fun z => eqv_self z 0
      have eY : ∀ {Hh : Hp}, DatV K Hh y dy → EqV K Hh 1 y y := fun z => eqv_self z 0
      have f8 : Fit 499 5 (.list [dx, dx, dx, dx, dy, dx, dx, dx]) := fit_list (m := 60) (k := 4) fun d hd => by
        simp only [List.mem_cons, List.not_mem_nil, or_false] at hd
        rcases hd with e | e | e | e | e | e | e | e <;> rw [e] <;> assumption
      have D8 : ∀ {p : Addr}, G8 p = some (.lst [x, x, x, x, y, x, x, x]) → DatV K G8 (.ref p) (.list [dx, dx, dx, dx, dy, dx, dx, dx]) := fun z => .lst (SqL.of z) (.cons Dx8 (.cons Dx8 (.cons Dx8 (.cons Dx8 (.cons Dy8 (.cons Dx8 (.cons Dx8 (.cons Dx8 .nil))))))))
      have ef8 := md _ _ ef
      refine ⟨.ref pf, .ref pd, _, 1, rfl, by decide, .inl ⟨pf, pd, _, _, rfl, rfl, SqL.of ef8, SqL.of ed, .cons (eX Dx8) (.cons (eX Dx8) (.cons (eX Dx8) (.cons (eX Dx8) (.cons (eY Dy8) (.cons (eX Dx8) (.cons (eX Dx8) (.cons (eX Dx8) .nil)))))))⟩, D8 ef8, D8 ed,
        f8.1, Nat.le_trans f8.2.1 (by decide), Nat.le_trans f8.2.2 (by decide), true, rfl, iteF ?_⟩
      refine ⟨_, rfl, _, rfl, _, rfl, _, rfl, _, rfl, _, rfl, fun a7 ha7 => fun a8 ha8 => ⟨_, rfl, by show 9 ≤ sizeLine; decide, fun pr hpr => ?_⟩⟩
      have m7 := same_new (o := exo a7 cO none) (Same.refl G8) ha7
      have x7 : ExAt (upd G8 a7 (exo a7 cO none)) a7 cO [] := .inl ⟨rfl, upd_same⟩
      generalize upd G8 a7 (exo a7 cO none) = G9 at m7 x7 ha8 hpr ⊢
      have m8 := same_new (o := exo a8 cN none) (Same.refl G9) ha8
      have x8 : ExAt (upd G9 a8 (exo a8 cN none)) a8 cN [] := .inl ⟨rfl, upd_same⟩
      generalize upd G9 a8 (exo a8 cN none) = G10 at m8 x8 hpr ⊢
      have m9 := same_new (o := .lst [.ref a0, .ref a1, .ref a2, .ref a3, .ref a4, .ref a5, .ref a7, .ref a8, .ref a6]) (Same.refl G10) hpr
      have er : upd G10 pr (.lst [.ref a0, .ref a1, .ref a2, .ref a3, .ref a4, .ref a5, .ref a7, .ref a8, .ref a6]) pr = some (.lst [.ref a0, .ref a1, .ref a2, .ref a3, .ref a4, .ref a5, .ref a7, .ref a8, .ref a6]) := upd_same
      generalize upd G10 pr (.lst [.ref a0, .ref a1, .ref a2, .ref a3, .ref a4, .ref a5, .ref a7, .ref a8, .ref a6]) = G11 at m9 er ⊢
      have t11 : Same G6 G11 := mf.trans (md.trans (m7.trans (m8.trans m9)))
      have s11 : Same H3 G11 := s6.trans t11
      have rows : ∀ j, j < 9 → ∃ (aj : Addr) (fs : List (Str × V)), ([.ref a0, .ref a1, .ref a2, .ref a3, .ref a4, .ref a5, .ref a7, .ref a8, .ref a6] : List V)[j]? = some (.ref aj) ∧ ExAt G11 aj ([cW, cT, cC, cB, cP, cM, cO, cN, cS].getD j 0) fs := fun j hj =>
        match j, hj with
        | 0, _ => ⟨a0, _, rfl, y0.more t11⟩
        | 1, _ => ⟨a1, _, rfl, y1.more t11⟩
        | 2, _ => ⟨a2, _, rfl, y2.more t11⟩
        | 3, _ => ⟨a3, _, rfl, y3.more t11⟩
        | 4, _ => ⟨a4, _, rfl, y4.more t11⟩
        | 5, _ => ⟨a5, _, rfl, y5.more t11⟩
        | 6, _ => ⟨a7, _, rfl, (x7.more m8).more m9⟩
        | 7, _ => ⟨a8, _, rfl, x8.more m9⟩
        | 8, _ => ⟨a6, _, rfl, y6.more t11⟩
        | j + 9, h => absurd h (by omega)
      refine ⟨9, rfl, by decide, by decide, fun Dd hDd => ?_⟩
      refine lc_range (lo := 0) (n := 9) (fun j H' => H' Dd = some (.lst []) ∧ Same G11 H') ⟨upd_same, same_new (Same.refl G11) hDd⟩ ?_ ?_
      · rintro j H' hj ⟨h1, h2⟩
        obtain ⟨aj, fs, hat, hA⟩ := rows j hj
        refine ⟨rfl, _, rfl, _, rfl, pr, _, _, .ref aj, rfl, rfl, SqL.of (h2 _ _ er), ?_, _, rfl, aj, _, fs, j, ?_, hj, hA.more h2, N.ex j hj, N.kit j hj, N.kE j hj, N.kV j hj, fun H'' sm => ⟨true, rfl, ?_⟩⟩
        · rw [show (0 : Int) + (j : Int) = ((j : Nat) : Int) from by omega]
          exact atI_nat hat
        · rw [show (0 : Int) + (j : Int) = ((j : Nat) : Int) from by omega]
          rfl
        · exact ⟨sm _ _ h1, h2.trans sm⟩
      · rintro H' ⟨h1, h2⟩
        refine ⟨Nat.zero_le _, fun pe hpe => ?_⟩
        have me := same_new (o := .lst []) (Same.refl H') hpe
        have ee : upd H' pe (.lst []) pe = some (.lst []) := upd_same
        generalize upd H' pe (.lst []) = G12 at me ee ⊢
        have q0 : PyData.eqv (.list []) (.list []) = true := by decide +kernel
        refine ⟨.list [], .list [], .lst (SqL.of (me _ _ h1)) .nil, .lst (SqL.of ee) .nil, by decide +kernel, by decide +kernel, _, rfl, ?_⟩
        rw [q0]
        refine iteF ?_
        have s12 : Same H3 G12 := s11.trans (h2.trans me)
        have Dx12 := Dx.more s12
        have Dy12 := Dy.more s12
        -- _law_alike(_law_caught(one, other), ..)
        refine ⟨_, rfl, _, rfl, x, y, rfl, fun pc Hc hpc hlc smc => ?_⟩
        refine ⟨_, rfl, _, rfl, _, rfl, by show 5 ≤ sizeLine; decide, fun pl hpl => ?_⟩
        have ml := same_new (o := .lst [x, y, .bl true, .bl false, x]) (Same.refl Hc) hpl
        have el : upd Hc pl (.lst [x, y, .bl true, .bl false, x]) pl = some (.lst [x, y, .bl true, .bl false, x]) := upd_same
        have ec := ml _ _ hlc
        generalize upd Hc pl (.lst [x, y, .bl true, .bl false, x]) = G13 at ml el ec ⊢
        have s13 : Same H3 G13 := s12.trans (smc.trans ml)
        have Dx13 := Dx.more s13
        have Dy13 := Dy.more s13
        have ft : Fit 60 4 (.bool true) := ⟨by decide +kernel, by decide +kernel, by decide +kernel⟩
        have ff : Fit 60 4 (.bool false) := ⟨by decide +kernel, by decide +kernel, by decide +kernel⟩
        have f5 : Fit 313 5 (.list [dx, dy, .bool true, .bool false, dx]) := fit_list (m := 60) (k := 4) fun d hd => by
          simp only [List.mem_cons, List.not_mem_nil, or_false] at hd
          rcases hd with e | e | e | e | e <;> rw [e] <;> assumption
        have D5 : ∀ {p : Addr}, G13 p = some (.lst [x, y, .bl true, .bl false, x]) → DatV K G13 (.ref p) (.list [dx, dy, .bool true, .bool false, dx]) := fun z => .lst (SqL.of z) (.cons Dx13 (.cons Dy13 (.cons (.bl true) (.cons (.bl false) (.cons Dx13 .nil)))))
        refine ⟨.ref pc, .ref pl, _, 1, rfl, by decide, .inl ⟨pc, pl, _, _, rfl, rfl, SqL.of ec, SqL.of el, .cons (eX Dx13) (.cons (eY Dy13) (.cons (.inl ⟨rfl, rfl⟩) (.cons (.inl ⟨rfl, rfl⟩) (.cons (eX Dx13) .nil))))⟩, D5 ec, D5 el,
          f5.1, Nat.le_trans f5.2.1 (by decide), Nat.le_trans f5.2.2 (by decide), true, rfl, iteF ?_⟩
        -- _law_are_kept(one, other)
        refine ⟨_, rfl, _, rfl, x, y, dx, dy, rfl, Dx13, nx, Dy13, ny, fun H14 s14 => ⟨true, rfl, iteF ?_⟩⟩
        exact ⟨_, _, _, _, _, _, _, _, _, _, _, _, _, rfl, hB3.keep (s13.trans s14)⟩
    · rintro σ H2 ⟨v2, v3, v4, v5, v6, v7, v8, v9, v10, v11, v12, v13, v14, rfl, hB2⟩
      refine fun ae hae => ⟨ae, cE, [], List.replicate 9 false, rfl, .inl ⟨rfl, upd_same⟩, N.exE, N.kitE, fun p H' hp hlp sm => ?_⟩
      refine ⟨by show 1 ≤ sizeLine; decide, fun q hq => ?_⟩
      have mq := same_new (o := .lst [.bl false]) (Same.refl H') hq
      have eq1 : upd H' q (.lst [.bl false]) q = some (.lst [.bl false]) := upd_same
      have ep1 := mq _ _ hlp
      generalize upd H' q (.lst [.bl false]) = J1 at mq eq1 ep1 ⊢
      refine ⟨q, 9, _, rfl, rfl, eq1, by decide, by decide, by show 1 * 9 ≤ sizeLine; decide, fun r hrr => ?_⟩
      have mr := same_new (o := .lst (List.replicate (9 : Int).toNat [V.bl false]).flatten) (Same.refl J1) hrr
      have er : upd J1 r (.lst (List.replicate (9 : Int).toNat [V.bl false]).flatten) r = some (.lst (List.replicate 9 (.bl false))) := upd_same
      have ep2 := mr _ _ ep1
      generalize upd J1 r (.lst (List.replicate (9 : Int).toNat [V.bl false]).flatten) = J2 at mr er ep2 ⊢
      have nine : DpAll K J2 (List.replicate 9 (V.bl false)) (List.replicate 9 (PyData.bool false)) := .cons (.bl false) (.cons (.bl false) (.cons (.bl false) (.cons (.bl false) (.cons (.bl false) (.cons (.bl false) (.cons (.bl false) (.cons (.bl false) (.cons (.bl false) .nil))))))))
      have q1 : PyData.eqv (.list (List.replicate 9 (.bool false))) (.list (List.replicate 9 (.bool false))) = true := by decide +kernel
      refine ⟨.list (List.replicate 9 (.bool false)), .list (List.replicate 9 (.bool false)), .lst (SqL.of ep2) nine, .lst (SqL.of er) nine, by decide +kernel, by decide +kernel, true, congrArg V.bl q1, iteT ?_⟩
      exact fun a2 ha2 => ⟨a2, cE, [], .ty "ValueError", _, true, rfl, .inl ⟨rfl, upd_same⟩, N.exE, .ty "ValueError", N.vE, k _⟩
end
end K0
namespace K0
open PySem PySem.Spec PyProof.Rows L2 Ns
/-- what an error class of the text must say, in one -/
def exB (K : PySem.W.Frag) (C : Addr) : Bool :=
  decide (PySem.W.findIn K (.ref C) "__setattr__" = some (some (.builtin "object.__setattr__"))) && (decide (PySem.W.subIn K (.ref C) (.type "BaseException") = some true) && (decide (PySem.W.typeIn K (.ref C) = some (.type "type")) && (PySem.W.keepIn K (.ref C) &&
  (decide (PySem.W.findIn K (.ref C) "__getattribute__" = some (some (.builtin "BaseException.__getattribute__"))) && (decide (PySem.W.findIn K (.ref C) "__getattr__" = some none) && (PySem.W.hasDictIn K C &&
  (decide (PySem.W.findIn K (.ref C) "__class__" = some (some (.builtin "object.__class__"))) && (decide (PySem.W.specialIn K (.builtin "object.__class__") "__get__" = some (some (.builtin "getset_descriptor.__get__"))) &&
  (decide (PySem.W.takesIn K (.builtin "object.__class__") = some true) && decide (PySem.W.mroIn K C (.type "object") = some true))))))))))
structure ExB (K : PySem.W.Frag) (C : Addr) : Prop where
  sa : PySem.W.findIn K (.ref C) "__setattr__" = some (some (.builtin "object.__setattr__"))
  ty : PySem.W.typeIn K (.ref C) = some (.type "type")
  kp : PySem.W.keepIn K (.ref C) = true
  ex : ExcC K C
theorem exB_ok {K : PySem.W.Frag} {C : Addr} (h : exB K C = true) : ExB K C := by
  unfold exB at h
  simp only [Bool.and_eq_true, decide_eq_true_eq] at h
  obtain ⟨h1, h2, h3, h4, h5, h6, h7, h8, h9, h10, h11⟩ := h
  exact ⟨h1, h3, h4, ⟨h5, h6, h2, h7, h8, h9, h10, h11⟩⟩
theorem ExB.xf {K : PySem.W.Frag} {C : Addr} (h : ExB K C) : XfC K C := ⟨h.ex.hg, h.ex.hk, h.ex.hs, h.ex.hd⟩
def kitsB (K : PySem.W.Frag) (cs : List Addr) (C : Addr) (bs : List Bool) : Bool := match cs, bs with
  | [], [] => true
  | c :: cs, b :: bs => decide (PySem.W.kitOne K (.ref C) (.ref c) = some b) && kitsB K cs C bs
  | _, _ => false
theorem kitsB_ok {K : PySem.W.Frag} {C : Addr} : ∀ {cs : List Addr} {bs : List Bool}, kitsB K cs C bs = true → Kits K cs C bs
  | [], [], _ => .nil
  | c :: cs, b :: bs, h => by
    unfold kitsB at h
    simp only [Bool.and_eq_true, decide_eq_true_eq] at h
    exact .cons h.1 (kitsB_ok h.2)
  | [], _ :: _, h => by simp [kitsB] at h
  | _ :: _, [], h => by simp [kitsB] at h
def nineB (K : PySem.W.Frag) (cs : List Addr) (cE : Addr) : Bool :=
  ((List.range 9).all fun i => kitsB K cs (cs.getD i 0) ((List.range 9).map fun j => decide (j = i)) && (decide (PySem.W.kitOne K (.ref (cs.getD i 0)) (.ref cE) = some true) && (decide (PySem.W.kitOne K (.ref (cs.getD i 0)) (.type "ValueError") = some true) && exB K (cs.getD i 0)))) &&
  (kitsB K cs cE (List.replicate 9 false) && (decide (PySem.W.kitOne K (.ref cE) (.type "ValueError") = some true) && exB K cE))
theorem nineB_ok {K : PySem.W.Frag} {cs : List Addr} {cE : Addr} (h : nineB K cs cE = true) : Nine K cs cE := by
  unfold nineB at h
  simp only [Bool.and_eq_true, decide_eq_true_eq, List.all_eq_true, List.mem_range] at h
  obtain ⟨h1, h2, h3, h4⟩ := h
  exact ⟨fun i hi => kitsB_ok (h1 i hi).1, fun i hi => (h1 i hi).2.1, fun i hi => (h1 i hi).2.2.1, fun i hi => (exB_ok (h1 i hi).2.2.2).ex, kitsB_ok h2, h3, (exB_ok h4).ex⟩
def exmB (K : PySem.W.Frag) (cC cB cS cE : Addr) : Bool :=
  decide (PySem.W.exmOne K (.ref cB) (.ref cB) = some true) && (decide (PySem.W.exmOne K (.ref cB) (.ref cE) = some true) && (decide (PySem.W.exmOne K (.ref cS) (.ref cC) = some false) && (decide (PySem.W.exmOne K (.ref cS) (.ref cS) = some true) &&
  (decide (PySem.W.kitOne K (.ref cB) (.ref cB) = some true) && decide (PySem.W.kitOne K (.ref cB) (.ref cC) = some false)))))
theorem exmB_ok {K : PySem.W.Frag} {cC cB cS cE : Addr} (h : exmB K cC cB cS cE = true) : Exm K cC cB cS cE := by
  unfold exmB at h
  simp only [Bool.and_eq_true, decide_eq_true_eq] at h
  obtain ⟨h1, h2, h3, h4, h5, h6⟩ := h
  exact ⟨h1, h2, h3, h4, h5, h6⟩
theorem all_mk {l : PySem.W.OpenLaw} {w : World} {K : PySem.W.Frag} {h : Heap} {mg : Str → Option Value} {fa : Addr} (X : K.In h) (G : h.Ns mainGlobals mg) (hfa : mg "law" = some (.ref fa))
    {cW cT cC cB cP cM cS cO cN cE gW gT gC gB gP gM gS fB fT fS fA fV fC fO fK fP fL : Addr}
    {nmW qW : Str} {NW : Addr} {bsW bmW : List Value} {snW : List Str} {subW : List Value} {abW : Bool} {colW : Option Bool} {ddW : Option Addr} {m0W m1W m2W m3W m5W : Option Value}
    {odiW aniW : Option Addr} {sliW : Array (Option Value)} {ociW kViW dciW pmiW cdiW ctiW : Value}
    {nmT qT : Str} {NT : Addr} {bsT bmT : List Value} {snT : List Str} {subT : List Value} {abT : Bool} {colT : Option Bool} {ddT : Option Addr} {m0T m1T m2T m3T m5T : Option Value}
    {odiT aniT : Option Addr} {sliT : Array (Option Value)} {ociT kViT dciT pmiT cdiT ctiT : Value}
    {nmC qC : Str} {NC : Addr} {bsC bmC : List Value} {snC : List Str} {subC : List Value} {abC : Bool} {colC : Option Bool} {ddC : Option Addr} {m0C m1C m2C m3C m5C : Option Value}
    {odiC aniC : Option Addr} {sliC : Array (Option Value)} {ociC kViC dciC pmiC cdiC ctiC : Value}
    {nmB qB : Str} {NB : Addr} {bsB bmB : List Value} {snB : List Str} {subB : List Value} {abB : Bool} {colB : Option Bool} {ddB : Option Addr} {m0B m1B m2B m3B m5B : Option Value}
    {odiB aniB : Option Addr} {sliB : Array (Option Value)} {ociB kViB dciB pmiB cdiB ctiB : Value}
    {nmP qP : Str} {NP : Addr} {bsP bmP : List Value} {snP : List Str} {subP : List Value} {abP : Bool} {colP : Option Bool} {ddP : Option Addr} {m0P m1P m2P m3P m5P : Option Value}
    {odiP aniP : Option Addr} {sliP : Array (Option Value)} {ociP kViP dciP pmiP cdiP ctiP : Value}
    {nmM qM : Str} {NM : Addr} {bsM bmM : List Value} {snM : List Str} {subM : List Value} {abM : Bool} {colM : Option Bool} {ddM : Option Addr} {m0M m1M m2M m3M m5M : Option Value}
    {odiM aniM : Option Addr} {sliM : Array (Option Value)} {ociM kViM dciM pmiM cdiM ctiM : Value}
    {nmS qS : Str} {NS : Addr} {bsS bmS : List Value} {snS : List Str} {subS : List Value} {abS : Bool} {colS : Option Bool} {ddS : Option Addr} {m0S m1S m2S m3S m5S : Option Value}
    {odiS aniS : Option Addr} {sliS : Array (Option Value)} {ociS kViS dciS pmiS cdiS ctiS : Value}
    {oddB andB : Option Addr} {sldB : Array (Option Value)} {ocdB kVdB dcdB pmdB cddB ctdB : Value}
    {oddT andT : Option Addr} {sldT : Array (Option Value)} {ocdT kVdT dcdT pmdT cddT ctdT : Value}
    {oddS andS : Option Addr} {sldS : Array (Option Value)} {ocdS kVdS dcdS pmdS cddS ctdS : Value}
    {oddA andA : Option Addr} {sldA : Array (Option Value)} {ocdA kVdA dcdA pmdA cddA ctdA : Value}
    {oddV andV : Option Addr} {sldV : Array (Option Value)} {ocdV kVdV dcdV pmdV cddV ctdV : Value}
    {oddC andC : Option Addr} {sldC : Array (Option Value)} {ocdC kVdC dcdC pmdC cddC ctdC : Value}
    {oddO andO : Option Addr} {sldO : Array (Option Value)} {ocdO kVdO dcdO pmdO cddO ctdO : Value}
    {oddK andK : Option Addr} {sldK : Array (Option Value)} {ocdK kVdK dcdK pmdK cddK ctdK : Value}
    {oddP andP : Option Addr} {sldP : Array (Option Value)} {ocdP kVdP dcdP pmdP cddP ctdP : Value}
    {oddL andL : Option Addr} {sldL : Array (Option Value)} {ocdL kVdL dcdL pmdL cddL ctdL : Value}
    (aW : PySem.W.nsIn K mainGlobals "Wrong" = some (some (.ref cW)))
    (xW : K.lookup cW = some (excClassObj nmW qW cW NW bsW bmW true snW subW abW colW ddW m0W m1W m2W m3W m5W "ValueError.__new__"))
    (rW : PySem.HandSPX.refsVE bmW = true)
    (iW : PySem.W.findIn K (.ref cW) "__init__" = some (some (.ref gW)))
    (tW : PySem.W.typeIn K (.ref gW) = some (.type "function"))
    (lW : K.lookup gW = some ⟨ociW, odiW, .func (PySem.W.fnOf "__init__" "Wrong.__init__" (defArgs sWrong) (defBody sWrong) (defScope sWrong) .none kViW dciW pmiW aniW cdiW ctiW), sliW⟩)
    (ccW : PySem.W.codeIn K cdiW "Wrong.__init__" = true)
    (kW : PySem.W.keepIn K (.ref gW) = true)
    (nWplace : PySem.W.findIn K (.ref cW) "place" = some none)
    (aT : PySem.W.nsIn K mainGlobals "NoText" = some (some (.ref cT)))
    (xT : K.lookup cT = some (excClassObj nmT qT cT NT bsT bmT true snT subT abT colT ddT m0T m1T m2T m3T m5T "ValueError.__new__"))
    (rT : PySem.HandSPX.refsVE bmT = true)
    (iT : PySem.W.findIn K (.ref cT) "__init__" = some (some (.ref gT)))
    (tT : PySem.W.typeIn K (.ref gT) = some (.type "function"))
    (lT : K.lookup gT = some ⟨ociT, odiT, .func (PySem.W.fnOf "__init__" "NoText.__init__" (defArgs sNoText) (defBody sNoText) (defScope sNoText) .none kViT dciT pmiT aniT cdiT ctiT), sliT⟩)
    (ccT : PySem.W.codeIn K cdiT "NoText.__init__" = true)
    (kT : PySem.W.keepIn K (.ref gT) = true)
    (nTline : PySem.W.findIn K (.ref cT) "line" = some none)
    (aC : PySem.W.nsIn K mainGlobals "NoCar" = some (some (.ref cC)))
    (xC : K.lookup cC = some (excClassObj nmC qC cC NC bsC bmC true snC subC abC colC ddC m0C m1C m2C m3C m5C "ValueError.__new__"))
    (rC : PySem.HandSPX.refsVE bmC = true)
    (iC : PySem.W.findIn K (.ref cC) "__init__" = some (some (.ref gC)))
    (tC : PySem.W.typeIn K (.ref gC) = some (.type "function"))
    (lC : K.lookup gC = some ⟨ociC, odiC, .func (PySem.W.fnOf "__init__" "NoCar.__init__" (defArgs sNoCar) (defBody sNoCar) (defScope sNoCar) .none kViC dciC pmiC aniC cdiC ctiC), sliC⟩)
    (ccC : PySem.W.codeIn K cdiC "NoCar.__init__" = true)
    (kC : PySem.W.keepIn K (.ref gC) = true)
    (nCname : PySem.W.findIn K (.ref cC) "name" = some none)
    (aB : PySem.W.nsIn K mainGlobals "NoCable" = some (some (.ref cB)))
    (xB : K.lookup cB = some (excClassObj nmB qB cB NB bsB bmB true snB subB abB colB ddB m0B m1B m2B m3B m5B "ValueError.__new__"))
    (rB : PySem.HandSPX.refsVE bmB = true)
    (iB : PySem.W.findIn K (.ref cB) "__init__" = some (some (.ref gB)))
    (tB : PySem.W.typeIn K (.ref gB) = some (.type "function"))
    (lB : K.lookup gB = some ⟨ociB, odiB, .func (PySem.W.fnOf "__init__" "NoCable.__init__" (defArgs sNoCable) (defBody sNoCable) (defScope sNoCable) .none kViB dciB pmiB aniB cdiB ctiB), sliB⟩)
    (ccB : PySem.W.codeIn K cdiB "NoCable.__init__" = true)
    (kB : PySem.W.keepIn K (.ref gB) = true)
    (nBstart : PySem.W.findIn K (.ref cB) "start" = some none)
    (nBend : PySem.W.findIn K (.ref cB) "end" = some none)
    (aP : PySem.W.nsIn K mainGlobals "NoPart" = some (some (.ref cP)))
    (xP : K.lookup cP = some (excClassObj nmP qP cP NP bsP bmP true snP subP abP colP ddP m0P m1P m2P m3P m5P "ValueError.__new__"))
    (rP : PySem.HandSPX.refsVE bmP = true)
    (iP : PySem.W.findIn K (.ref cP) "__init__" = some (some (.ref gP)))
    (tP : PySem.W.typeIn K (.ref gP) = some (.type "function"))
    (lP : K.lookup gP = some ⟨ociP, odiP, .func (PySem.W.fnOf "__init__" "NoPart.__init__" (defArgs sNoPart) (defBody sNoPart) (defScope sNoPart) .none kViP dciP pmiP aniP cdiP ctiP), sliP⟩)
    (ccP : PySem.W.codeIn K cdiP "NoPart.__init__" = true)
    (kP : PySem.W.keepIn K (.ref gP) = true)
    (nPname : PySem.W.findIn K (.ref cP) "name" = some none)
    (aM : PySem.W.nsIn K mainGlobals "TooMany" = some (some (.ref cM)))
    (xM : K.lookup cM = some (excClassObj nmM qM cM NM bsM bmM true snM subM abM colM ddM m0M m1M m2M m3M m5M "ValueError.__new__"))
    (rM : PySem.HandSPX.refsVE bmM = true)
    (iM : PySem.W.findIn K (.ref cM) "__init__" = some (some (.ref gM)))
    (tM : PySem.W.typeIn K (.ref gM) = some (.type "function"))
    (lM : K.lookup gM = some ⟨ociM, odiM, .func (PySem.W.fnOf "__init__" "TooMany.__init__" (defArgs sTooMany) (defBody sTooMany) (defScope sTooMany) .none kViM dciM pmiM aniM cdiM ctiM), sliM⟩)
    (ccM : PySem.W.codeIn K cdiM "TooMany.__init__" = true)
    (kM : PySem.W.keepIn K (.ref gM) = true)
    (nMmost : PySem.W.findIn K (.ref cM) "most" = some none)
    (aS : PySem.W.nsIn K mainGlobals "Short" = some (some (.ref cS)))
    (xS : K.lookup cS = some (excClassObj nmS qS cS NS bsS bmS true snS subS abS colS ddS m0S m1S m2S m3S m5S "ValueError.__new__"))
    (rS : PySem.HandSPX.refsVE bmS = true)
    (iS : PySem.W.findIn K (.ref cS) "__init__" = some (some (.ref gS)))
    (tS : PySem.W.typeIn K (.ref gS) = some (.type "function"))
    (lS : K.lookup gS = some ⟨ociS, odiS, .func (PySem.W.fnOf "__init__" "Short.__init__" (defArgs sShort) (defBody sShort) (defScope sShort) .none kViS dciS pmiS aniS cdiS ctiS), sliS⟩)
    (ccS : PySem.W.codeIn K cdiS "Short.__init__" = true)
    (kS : PySem.W.keepIn K (.ref gS) = true)
    (nShours : PySem.W.findIn K (.ref cS) "hours" = some none)
    (acO : PySem.W.nsIn K mainGlobals "PowerCut" = some (some (.ref cO)))
    (qcO : PySem.W.excIn K cO [.type "ValueError", .type "Exception", .type "BaseException", .type "object"] "ValueError.__new__" = true)
    (kcO : PySem.W.keepIn K (.ref cO) = true)
    (acN : PySem.W.nsIn K mainGlobals "NoCommand" = some (some (.ref cN)))
    (qcN : PySem.W.excIn K cN [.type "ValueError", .type "Exception", .type "BaseException", .type "object"] "ValueError.__new__" = true)
    (kcN : PySem.W.keepIn K (.ref cN) = true)
    (acE : PySem.W.nsIn K mainGlobals "NightError" = some (some (.ref cE)))
    (qcE : PySem.W.excIn K cE [.type "ValueError", .type "Exception", .type "BaseException", .type "object"] "ValueError.__new__" = true)
    (kcE : PySem.W.keepIn K (.ref cE) = true)
    (adB : PySem.W.nsIn K mainGlobals "_law_bag" = some (some (.ref fB)))
    (ldB : K.lookup fB = some ⟨ocdB, oddB, .func (PySem.W.fnOf "_law_bag" "_law_bag" (defArgs sBag) (defBody sBag) (defScope sBag) .none kVdB dcdB pmdB andB cddB ctdB), sldB⟩)
    (cdB' : PySem.W.codeIn K cddB "_law_bag" = true)
    (kdB : PySem.W.keepIn K (.ref fB) = true)
    (adT : PySem.W.nsIn K mainGlobals "_law_take" = some (some (.ref fT)))
    (ldT : K.lookup fT = some ⟨ocdT, oddT, .func (PySem.W.fnOf "_law_take" "_law_take" (defArgs sTake) (defBody sTake) (defScope sTake) .none kVdT dcdT pmdT andT cddT ctdT), sldT⟩)
    (cdT' : PySem.W.codeIn K cddT "_law_take" = true)
    (kdT : PySem.W.keepIn K (.ref fT) = true)
    (adS : PySem.W.nsIn K mainGlobals "_law_some" = some (some (.ref fS)))
    (ldS : K.lookup fS = some ⟨ocdS, oddS, .func (PySem.W.fnOf "_law_some" "_law_some" (defArgs sSome) (defBody sSome) (defScope sSome) .none kVdS dcdS pmdS andS cddS ctdS), sldS⟩)
    (cdS' : PySem.W.codeIn K cddS "_law_some" = true)
    (kdS : PySem.W.keepIn K (.ref fS) = true)
    (adA : PySem.W.nsIn K mainGlobals "_law_alike" = some (some (.ref fA)))
    (ldA : K.lookup fA = some ⟨ocdA, oddA, .func (PySem.W.fnOf "_law_alike" "_law_alike" (defArgs sAlike) (defBody sAlike) (defScope sAlike) .none kVdA dcdA pmdA andA cddA ctdA), sldA⟩)
    (cdA' : PySem.W.codeIn K cddA "_law_alike" = true)
    (kdA : PySem.W.keepIn K (.ref fA) = true)
    (adV : PySem.W.nsIn K mainGlobals "_law_value" = some (some (.ref fV)))
    (ldV : K.lookup fV = some ⟨ocdV, oddV, .func (PySem.W.fnOf "_law_value" "_law_value" (defArgs sValue) (defBody sValue) (defScope sValue) .none kVdV dcdV pmdV andV cddV ctdV), sldV⟩)
    (cdV' : PySem.W.codeIn K cddV "_law_value" = true)
    (kdV : PySem.W.keepIn K (.ref fV) = true)
    (adC : PySem.W.nsIn K mainGlobals "_law_classes" = some (some (.ref fC)))
    (ldC : K.lookup fC = some ⟨ocdC, oddC, .func (PySem.W.fnOf "_law_classes" "_law_classes" (defArgs sClasses) (defBody sClasses) (defScope sClasses) .none kVdC dcdC pmdC andC cddC ctdC), sldC⟩)
    (cdC' : PySem.W.codeIn K cddC "_law_classes" = true)
    (kdC : PySem.W.keepIn K (.ref fC) = true)
    (adO : PySem.W.nsIn K mainGlobals "_law_is_only" = some (some (.ref fO)))
    (ldO : K.lookup fO = some ⟨ocdO, oddO, .func (PySem.W.fnOf "_law_is_only" "_law_is_only" (defArgs sOnly) (defBody sOnly) (defScope sOnly) .none kVdO dcdO pmdO andO cddO ctdO), sldO⟩)
    (cdO' : PySem.W.codeIn K cddO "_law_is_only" = true)
    (kdO : PySem.W.keepIn K (.ref fO) = true)
    (adK : PySem.W.nsIn K mainGlobals "_law_caught" = some (some (.ref fK)))
    (ldK : K.lookup fK = some ⟨ocdK, oddK, .func (PySem.W.fnOf "_law_caught" "_law_caught" (defArgs sCaught) (defBody sCaught) (defScope sCaught) .none kVdK dcdK pmdK andK cddK ctdK), sldK⟩)
    (cdK' : PySem.W.codeIn K cddK "_law_caught" = true)
    (kdK : PySem.W.keepIn K (.ref fK) = true)
    (adP : PySem.W.nsIn K mainGlobals "_law_are_kept" = some (some (.ref fP)))
    (ldP : K.lookup fP = some ⟨ocdP, oddP, .func (PySem.W.fnOf "_law_are_kept" "_law_are_kept" (defArgs sKept) (defBody sKept) (defScope sKept) .none kVdP dcdP pmdP andP cddP ctdP), sldP⟩)
    (cdP' : PySem.W.codeIn K cddP "_law_are_kept" = true)
    (kdP : PySem.W.keepIn K (.ref fP) = true)
    (adL : PySem.W.nsIn K mainGlobals "law" = some (some (.ref fL)))
    (ldL : K.lookup fL = some ⟨ocdL, oddL, .func (PySem.W.fnOf "law" "law" (defArgs sLaw) (defBody sLaw) (defScope sLaw) .none kVdL dcdL pmdL andL cddL ctdL), sldL⟩)
    (cdL' : PySem.W.codeIn K cddL "law" = true)
    (kdL : PySem.W.keepIn K (.ref fL) = true)
    (zabs : PySem.W.nsIn K mainGlobals "abs" = some none)
    (zint : PySem.W.nsIn K mainGlobals "int" = some none)
    (zlen : PySem.W.nsIn K mainGlobals "len" = some none)
    (zrepr : PySem.W.nsIn K mainGlobals "repr" = some none)
    (zisinstance : PySem.W.nsIn K mainGlobals "isinstance" = some none)
    (zrange : PySem.W.nsIn K mainGlobals "range" = some none)
    (zValueError : PySem.W.nsIn K mainGlobals "ValueError" = some none)
    (nB : nineB K [cW, cT, cC, cB, cP, cM, cO, cN, cS] cE = true)
    (eB : exmB K cC cB cS cE = true) :
    ∃ fd : FuncData, (∀ (s : Shared) (v : Value), BindsTo s fd ⟨[v], []⟩ [("script", v)]) ∧ ∀ base : Heap, K.In base → base.Ns mainGlobals mg → GnOk l.prog w K mg base 4 fa fd ["script"] (spTop K) := by
  have e := hfa.symm.trans (PySem.W.mg_of X G adL)
  cases e
  have N := nineB_ok nB
  have T : Nat0 mg := ⟨PySem.W.mg_none_of X G zabs, PySem.W.mg_none_of X G zint, PySem.W.mg_none_of X G zlen, PySem.W.mg_none_of X G zrepr, PySem.W.mg_none_of X G zisinstance, PySem.W.mg_none_of X G zrange, PySem.W.mg_none_of X G zValueError⟩
  have Gg : Gs mg cW cT cC cB cP cM cO cN cS cE := ⟨PySem.W.mg_of X G aW, PySem.W.mg_of X G aT, PySem.W.mg_of X G aC, PySem.W.mg_of X G aB, PySem.W.mg_of X G aP, PySem.W.mg_of X G aM, PySem.W.mg_of X G acO, PySem.W.mg_of X G acN, PySem.W.mg_of X G aS, PySem.W.mg_of X G acE⟩
  unfold nineB at nB
  simp only [Bool.and_eq_true, List.all_eq_true, List.mem_range] at nB
  have ex : ∀ i, i < 9 → ExB K ([cW, cT, cC, cB, cP, cM, cO, cN, cS].getD i 0) := fun i hi => exB_ok (nB.1 i hi).2.2.2
  have IW := fun_mk (st := sWrong) lW ccW kW
  have bW := IW.binds (ps := ["self", "place"]) fun _ _ _ _ _ _ us hl => match us, hl with | [_, _], _ => rfl
  have yW : ExB K cW := ex 0 (by decide)
  have IT := fun_mk (st := sNoText) lT ccT kT
  have bT := IT.binds (ps := ["self", "line"]) fun _ _ _ _ _ _ us hl => match us, hl with | [_, _], _ => rfl
  have yT : ExB K cT := ex 1 (by decide)
  have IC := fun_mk (st := sNoCar) lC ccC kC
  have bC := IC.binds (ps := ["self", "name"]) fun _ _ _ _ _ _ us hl => match us, hl with | [_, _], _ => rfl
  have yC : ExB K cC := ex 2 (by decide)
  have IB := fun_mk (st := sNoCable) lB ccB kB
  have bB := IB.binds (ps := ["self", "start", "end"]) fun _ _ _ _ _ _ us hl => match us, hl with | [_, _, _], _ => rfl
  have yB : ExB K cB := ex 3 (by decide)
  have IP := fun_mk (st := sNoPart) lP ccP kP
  have bP := IP.binds (ps := ["self", "name"]) fun _ _ _ _ _ _ us hl => match us, hl with | [_, _], _ => rfl
  have yP : ExB K cP := ex 4 (by decide)
  have IM := fun_mk (st := sTooMany) lM ccM kM
  have bM := IM.binds (ps := ["self", "most"]) fun _ _ _ _ _ _ us hl => match us, hl with | [_, _], _ => rfl
  have yM : ExB K cM := ex 5 (by decide)
  have IS := fun_mk (st := sShort) lS ccS kS
  have bS := IS.binds (ps := ["self", "hours"]) fun _ _ _ _ _ _ us hl => match us, hl with | [_, _], _ => rfl
  have yS : ExB K cS := ex 8 (by decide)
  have FB := fun_mk (st := sBag) ldB cdB' kdB
  have hB := FB.binds (ps := ["script"]) fun _ _ _ _ _ _ us hl => match us, hl with | [_], _ => rfl
  have FT := fun_mk (st := sTake) ldT cdT' kdT
  have hT := FT.binds (ps := ["bag", "many"]) fun _ _ _ _ _ _ us hl => match us, hl with | [_, _], _ => rfl
  have FS := fun_mk (st := sSome) ldS cdS' kdS
  have hS := FS.binds (ps := ["bag", "things"]) fun _ _ _ _ _ _ us hl => match us, hl with | [_, _], _ => rfl
  have FA := fun_mk (st := sAlike) ldA cdA' kdA
  have hA := FA.binds (ps := ["found", "due"]) fun _ _ _ _ _ _ us hl => match us, hl with | [_, _], _ => rfl
  have FV := fun_mk (st := sValue) ldV cdV' kdV
  have hV := FV.binds (ps := ["bag"]) fun _ _ _ _ _ _ us hl => match us, hl with | [_], _ => rfl
  have FC := fun_mk (st := sClasses) ldC cdC' kdC
  have hC := FC.binds (ps := ["thing"]) fun _ _ _ _ _ _ us hl => match us, hl with | [_], _ => rfl
  have FO := fun_mk (st := sOnly) ldO cdO' kdO
  have hO := FO.binds (ps := ["thing", "at"]) fun _ _ _ _ _ _ us hl => match us, hl with | [_, _], _ => rfl
  have FK := fun_mk (st := sCaught) ldK cdK' kdK
  have hK := FK.binds (ps := ["one", "other"]) fun _ _ _ _ _ _ us hl => match us, hl with | [_, _], _ => rfl
  have FP := fun_mk (st := sKept) ldP cdP' kdP
  have hP := FP.binds (ps := ["one", "other"]) fun _ _ _ _ _ _ us hl => match us, hl with | [_, _], _ => rfl
  have FL := fun_mk (st := sLaw) ldL cdL' kdL
  have S : Seven K mg cW cT cC cB cP cM cS gW gT gC gB gP gM gS _ _ _ _ _ _ _ :=
    { W := { oex := ⟨⟨nmW, qW, NW, bsW, bmW, snW, subW, abW, colW, ddW, m0W, m1W, m2W, m3W, m5W, xW, rW⟩, yW.sa, yW.ex.hs, yW.ty, yW.kp⟩, xf := yW.xf, ex := yW.ex, g := PySem.W.mg_of X G aW, iC := iW, tI := tW, F := IW, b := bW },
      T := { oex := ⟨⟨nmT, qT, NT, bsT, bmT, snT, subT, abT, colT, ddT, m0T, m1T, m2T, m3T, m5T, xT, rT⟩, yT.sa, yT.ex.hs, yT.ty, yT.kp⟩, xf := yT.xf, ex := yT.ex, g := PySem.W.mg_of X G aT, iC := iT, tI := tT, F := IT, b := bT },
      C := { oex := ⟨⟨nmC, qC, NC, bsC, bmC, snC, subC, abC, colC, ddC, m0C, m1C, m2C, m3C, m5C, xC, rC⟩, yC.sa, yC.ex.hs, yC.ty, yC.kp⟩, xf := yC.xf, ex := yC.ex, g := PySem.W.mg_of X G aC, iC := iC, tI := tC, F := IC, b := bC },
      B := { oex := ⟨⟨nmB, qB, NB, bsB, bmB, snB, subB, abB, colB, ddB, m0B, m1B, m2B, m3B, m5B, xB, rB⟩, yB.sa, yB.ex.hs, yB.ty, yB.kp⟩, xf := yB.xf, ex := yB.ex, g := PySem.W.mg_of X G aB, iC := iB, tI := tB, F := IB, b := bB },
      P := { oex := ⟨⟨nmP, qP, NP, bsP, bmP, snP, subP, abP, colP, ddP, m0P, m1P, m2P, m3P, m5P, xP, rP⟩, yP.sa, yP.ex.hs, yP.ty, yP.kp⟩, xf := yP.xf, ex := yP.ex, g := PySem.W.mg_of X G aP, iC := iP, tI := tP, F := IP, b := bP },
      M := { oex := ⟨⟨nmM, qM, NM, bsM, bmM, snM, subM, abM, colM, ddM, m0M, m1M, m2M, m3M, m5M, xM, rM⟩, yM.sa, yM.ex.hs, yM.ty, yM.kp⟩, xf := yM.xf, ex := yM.ex, g := PySem.W.mg_of X G aM, iC := iM, tI := tM, F := IM, b := bM },
      S := { oex := ⟨⟨nmS, qS, NS, bsS, bmS, snS, subS, abS, colS, ddS, m0S, m1S, m2S, m3S, m5S, xS, rS⟩, yS.sa, yS.ex.hs, yS.ty, yS.kp⟩, xf := yS.xf, ex := yS.ex, g := PySem.W.mg_of X G aS, iC := iS, tI := tS, F := IS, b := bS },
      nW := nWplace, nT := nTline, nC := nCname, nB := nBstart, nB2 := nBend, nP := nPname, nM := nMmost, nS := nShours }
  have D : Defs K mg fB fT fS fA fV fC fO fK fP _ _ _ _ _ _ _ _ _ :=
    { B := FB, mB := PySem.W.mg_of X G adB, bB := hB,
      T := FT, mT := PySem.W.mg_of X G adT, bT := hT,
      S := FS, mS := PySem.W.mg_of X G adS, bS := hS,
      A := FA, mA := PySem.W.mg_of X G adA, bA := hA,
      V := FV, mV := PySem.W.mg_of X G adV, bV := hV,
      C := FC, mC := PySem.W.mg_of X G adC, bC := hC,
      O := FO, mO := PySem.W.mg_of X G adO, bO := hO,
      K' := FK, mK := PySem.W.mg_of X G adK, bK := hK,
      P := FP, mP := PySem.W.mg_of X G adP, bP := hP }
  exact ⟨_, fun s v => .of_eq rfl, fun base _ _ => ok_law FL T Gg S N ⟨qcO, kcO⟩ ⟨qcN, kcN⟩ ⟨qcE, kcE⟩ (exmB_ok eB) D⟩
end K0
open PySem PySem.W PyProof.Rows in
set_option maxRecDepth 100000 in
set_option maxHeartbeats 0 in
theorem PySem.Challenge.cw_nightstairs_k00_errors_of_any_values_holds : PySem.Challenge.rw_nightstairs_k00_errors_of_any_values.Holds := by
  w_on; o_law; k_head; (case hw => w_witness2)
  k_fill
  refine Ns.walk_ofG (l := PySem.Challenge.rw_nightstairs_k00_errors_of_any_values) (k := 4) rfl rfl ⟨rfl, by decide, by decide⟩ (fun w h Y => PySem.W.kIn_of Y) ?F
  case F =>
    intro w mg fa h KX G hmg
    refine' K0.all_mk KX G hmg ?aW ?xW ?rW ?iW ?tW ?lW ?ccW ?kW ?nWplace ?aT ?xT ?rT ?iT ?tT ?lT ?ccT ?kT ?nTline ?aC ?xC ?rC ?iC ?tC ?lC ?ccC ?kC ?nCname ?aB ?xB ?rB ?iB ?tB ?lB ?ccB ?kB ?nBstart ?nBend ?aP ?xP ?rP ?iP ?tP ?lP ?ccP ?kP ?nPname ?aM ?xM ?rM ?iM ?tM ?lM ?ccM ?kM ?nMmost ?aS ?xS ?rS ?iS ?tS ?lS ?ccS ?kS ?nShours ?acO ?qcO ?kcO ?acN ?qcN ?kcN ?acE ?qcE ?kcE ?adB ?ldB ?cdB' ?kdB ?adT ?ldT ?cdT' ?kdT ?adS ?ldS ?cdS' ?kdS ?adA ?ldA ?cdA' ?kdA ?adV ?ldV ?cdV' ?kdV ?adC ?ldC ?cdC' ?kdC ?adO ?ldO ?cdO' ?kdO ?adK ?ldK ?cdK' ?kdK ?adP ?ldP ?cdP' ?kdP ?adL ?ldL ?cdL' ?kdL ?zabs ?zint ?zlen ?zrepr ?zisinstance ?zrange ?zValueError ?nB ?eB
    (case aW => k_is)
    (case xW => k_is)
    (case rW => kernel_rfl)
    (case iW => k_is)
    (case tW => k_is)
    (case lW => k_is)
    (case ccW => k_is)
    (case kW => k_is)
    (case nWplace => k_is)
    (case aT => k_is)
    (case xT => k_is)
    (case rT => kernel_rfl)
    (case iT => k_is)
    (case tT => k_is)
    (case lT => k_is)
    (case ccT => k_is)
    (case kT => k_is)
    (case nTline => k_is)
    (case aC => k_is)
    (case xC => k_is)
    (case rC => kernel_rfl)
    (case iC => k_is)
    (case tC => k_is)
    (case lC => k_is)
    (case ccC => k_is)
    (case kC => k_is)
    (case nCname => k_is)
    (case aB => k_is)
    (case xB => k_is)
    (case rB => kernel_rfl)
    (case iB => k_is)
    (case tB => k_is)
    (case lB => k_is)
    (case ccB => k_is)
    (case kB => k_is)
    (case nBstart => k_is)
    (case nBend => k_is)
    (case aP => k_is)
    (case xP => k_is)
    (case rP => kernel_rfl)
    (case iP => k_is)
    (case tP => k_is)
    (case lP => k_is)
    (case ccP => k_is)
    (case kP => k_is)
    (case nPname => k_is)
    (case aM => k_is)
    (case xM => k_is)
    (case rM => kernel_rfl)
    (case iM => k_is)
    (case tM => k_is)
    (case lM => k_is)
    (case ccM => k_is)
    (case kM => k_is)
    (case nMmost => k_is)
    (case aS => k_is)
    (case xS => k_is)
    (case rS => kernel_rfl)
    (case iS => k_is)
    (case tS => k_is)
    (case lS => k_is)
    (case ccS => k_is)
    (case kS => k_is)
    (case nShours => k_is)
    (case acO => k_is)
    (case qcO => k_exc)
    (case kcO => k_is)
    (case acN => k_is)
    (case qcN => k_exc)
    (case kcN => k_is)
    (case acE => k_is)
    (case qcE => k_exc)
    (case kcE => k_is)
    (case adB => k_is)
    (case ldB => k_is)
    (case cdB' => k_is)
    (case kdB => k_is)
    (case adT => k_is)
    (case ldT => k_is)
    (case cdT' => k_is)
    (case kdT => k_is)
    (case adS => k_is)
    (case ldS => k_is)
    (case cdS' => k_is)
    (case kdS => k_is)
    (case adA => k_is)
    (case ldA => k_is)
    (case cdA' => k_is)
    (case kdA => k_is)
    (case adV => k_is)
    (case ldV => k_is)
    (case cdV' => k_is)
    (case kdV => k_is)
    (case adC => k_is)
    (case ldC => k_is)
    (case cdC' => k_is)
    (case kdC => k_is)
    (case adO => k_is)
    (case ldO => k_is)
    (case cdO' => k_is)
    (case kdO => k_is)
    (case adK => k_is)
    (case ldK => k_is)
    (case cdK' => k_is)
    (case kdK => k_is)
    (case adP => k_is)
    (case ldP => k_is)
    (case cdP' => k_is)
    (case kdP => k_is)
    (case adL => k_is)
    (case ldL => k_is)
    (case cdL' => k_is)
    (case kdL => k_is)
    (case zabs => k_is)
    (case zint => k_is)
    (case zlen => k_is)
    (case zrepr => k_is)
    (case zisinstance => k_is)
    (case zrange => k_is)
    (case zValueError => k_is)
    (case nB => kernel_rfl)
    (case eB => kernel_rfl)
#print axioms PySem.Challenge.cw_nightstairs_k00_errors_of_any_values_holds
