import PyProof.Rows.All
import Wide.All
import OpenK.AllK
import Wide.FinOn
import PyProof.ReprRoads
import HandS.ForMost
import HandS.DeepEq
import HandS.Ends
import HandS.Wide
import HandS.Codes
import KE.KEqNest
import HandS.ForDict
import HandS.Flow
import HandS.TupLe
import HandS.Style
import PySem.Challenge.RW_nightstairs_k59_chargers
set_option Elab.async false
set_option linter.all false
set_option maxRecDepth 100000
set_option pp.maxSteps 150
set_option pp.deepTerms false
set_option maxHeartbeats 4000000
/-! NsA: data as a whole over the abstract heap; its repr; its ==. -/
namespace Ns
open PySem PySem.Spec PyProof.Rows L2

/-- a key as data -/
def kD : Key → PyData
  | .inl i => .int i
  | .inr x => .str x

mutual
/-- the value x is the datum d -/
inductive DatV (K : PySem.W.Frag) (H : Hp) : V → PyData → Prop
  | non : DatV K H .non .none
  | bl (b : Bool) : DatV K H (.bl b) (.bool b)
  | int (i : Int) : DatV K H (.int i) (.int i)
  | str (x : Str) : DatV K H (.str x) (.str x)
  | lst {a : Addr} {xs : List V} {ds : List PyData} : SqL K H a xs → DatA K H xs ds → DatV K H (.ref a) (.list ds)
  | tup {a : Addr} {xs : List V} {ds : List PyData} : SqT K H a xs → DatA K H xs ds → DatV K H (.ref a) (.tuple ds)
  | dic {a : Addr} {kvs : List (Key × V)} {ds : List PyData} : H a = some (.dK kvs) → DatA K H (kvs.map (·.2)) ds → DatV K H (.ref a) (.dict ((kvs.map fun p => kD p.1).zip ds))
inductive DatA (K : PySem.W.Frag) (H : Hp) : List V → List PyData → Prop
  | nil : DatA K H [] []
  | cons {x : V} {d : PyData} {xs : List V} {ds : List PyData} : DatV K H x d → DatA K H xs ds → DatA K H (x :: xs) (d :: ds)
end

theorem DatA.len {K : PySem.W.Frag} {H : Hp} : ∀ {xs : List V} {ds : List PyData}, DatA K H xs ds → xs.length = ds.length
  | _, _, .nil => rfl
  | _, _, .cons _ t => by rw [List.length_cons, List.length_cons, t.len]

mutual
/-- what stood stands: the datum too -/
theorem DatV.more {K : PySem.W.Frag} {H H' : Hp} (m : Same H H') : ∀ {x : V} {d : PyData}, DatV K H x d → DatV K H' x d
  | _, _, .non => .non
  | _, _, .bl b => .bl b
  | _, _, .int i => .int i
  | _, _, .str x => .str x
  | _, _, .lst h t => .lst (m.seq h) (t.more m)
  | _, _, .tup h t => .tup (h.elim (fun z => .inl (z.elim (fun z => .inl (m _ _ z)) fun ⟨o, z⟩ => .inr ⟨o, m _ _ z⟩)) .inr) (t.more m)
  | _, _, .dic h t => .dic (m _ _ h) (t.more m)
theorem DatA.more {K : PySem.W.Frag} {H H' : Hp} (m : Same H H') : ∀ {xs : List V} {ds : List PyData}, DatA K H xs ds → DatA K H' xs ds
  | _, _, .nil => .nil
  | _, _, .cons h t => .cons (h.more m) (t.more m)
end

theorem map_fst_zip {α β : Type} : ∀ {as : List α} {bs : List β}, as.length = bs.length → (as.zip bs).map (·.1) = as
  | [], [], _ => rfl
  | a :: as, b :: bs, h => by
    have h' : as.length = bs.length := by simpa using h
    simp [map_fst_zip h']
theorem map_snd_zip {α β : Type} : ∀ {as : List α} {bs : List β}, as.length = bs.length → (as.zip bs).map (·.2) = bs
  | [], [], _ => rfl
  | a :: as, b :: bs, h => by
    have h' : as.length = bs.length := by simpa using h
    simp [map_snd_zip h']

section
variable {X : Cx} {pins : List (Addr × Obj)} {σ : L2.St} {H : Hp} {s : Shared}

/-- the keys of a dict's entries are read -/
theorem keys_read {h : Heap} {P : Program} {w : World} : ∀ {es : List DictEntry} {vs : List (Key × Value)}, Pairs (mixKind P w) es vs → ReadsAll h (es.map (·.key)) (vs.map fun p => kD p.1) []
  | _, _, .nil => .nil
  | e :: es, kv :: vs, .cons h1 _ t => by
    have q : Reads h e.key (kD kv.1) [] := by
      rcases keyIs_shape (show keyIs kv.1 e.key = true from h1) with ⟨i, t, ek, ev⟩ | ⟨x, t, ek, ev⟩
      · rw [ek, ev]; exact .int i t
      · rw [ek, ev]; exact .str x t
    exact ReadsAll.cons (as := []) (bs := []) q (keys_read t)
theorem pairs_vals {P : Program} {w : World} : ∀ {es : List DictEntry} {vs : List (Key × Value)}, Pairs (mixKind P w) es vs → es.map (·.val) = vs.map (·.2)
  | _, _, .nil => rfl
  | e :: es, kv :: vs, .cons _ h2 t => by
    rw [List.map_cons, List.map_cons, h2, pairs_vals t]
theorem kv_fst : ∀ {ks : List (Key × V)} {vs : List (Key × Value)}, KV ks vs → vs.map (fun p => kD p.1) = ks.map fun p => kD p.1
  | _, _, .nil => rfl
  | _, _, .cons h t => by rw [List.map_cons, List.map_cons, h.1, kv_fst t]
theorem kv_vals : ∀ {ks : List (Key × V)} {vs : List (Key × Value)}, KV ks vs → Vals (ks.map (·.2)) (vs.map (·.2))
  | _, _, .nil => .nil
  | _, _, .cons h t => .cons h.2 (kv_vals t)

mutual
/-- what the heap reads of it -/
theorem reads_of (I : Inv X pins σ H s) : ∀ {x : V} {d : PyData}, DatV X.K H x d → ∀ {v : Value}, RelV x v → ∃ as, Reads s.heap v d as
  | _, _, .non, v, r => by cases (show v = Value.none from r); exact ⟨_, .none⟩
  | _, _, .bl b, v, r => by cases (show v = Value.bool b from r); exact ⟨_, .bool b⟩
  | _, _, .int i, v, r => by obtain ⟨t, rfl⟩ := (show ∃ t, v = Value.int i t from r); exact ⟨_, .int i t⟩
  | _, _, .str x, v, r => by obtain ⟨t, rfl⟩ := (show ∃ t, v = Value.str x t from r); exact ⟨_, .str x t⟩
  | _, _, .lst (a := a) h t, v, r => by
    cases (show v = Value.ref a from r)
    obtain ⟨its, rv, ⟨o, n, h1, h2, h3, h4⟩, _⟩ := I.list h
    obtain ⟨as, q⟩ := readsA_of I t rv
    exact ⟨_, .list h1 h2 (by first | exact h3 | exact h4) (by simpa using q)⟩
  | _, _, .tup (a := a) h t, v, r => by
    cases (show v = Value.ref a from r)
    obtain ⟨its, rv, ⟨o, h1, h2, n, h3⟩, _⟩ := I.tuple h
    obtain ⟨as, q⟩ := readsA_of I t rv
    exact ⟨_, .tuple h1 h2 h3 (by simpa using q)⟩
  | _, _, .dic (a := a) (kvs := kvs) (ds := ds) h t, v, r => by
    cases (show v = Value.ref a from r)
    obtain ⟨_, _, vs, rv, o, es, ep, h1, h2, h3, _, h5, _⟩ := (show ObjOk X.prog X.w H s.heap a (.dK kvs) from I.hok a _ h)
    obtain ⟨as, q⟩ := readsA_of I t (kv_vals rv)
    have hl : (kvs.map fun p => kD p.1).length = ds.length := by
      have z := t.len
      rw [List.length_map] at z ⊢
      exact z
    refine ⟨_, Reads.dict (as := []) (bs := as) h1 h2.1 h3 ?_ ?_⟩
    · rw [map_fst_zip hl, ← kv_fst rv]
      exact keys_read h5
    · rw [map_snd_zip hl, pairs_vals h5]
      exact q
theorem readsA_of (I : Inv X pins σ H s) : ∀ {xs : List V} {ds : List PyData}, DatA X.K H xs ds → ∀ {us : List Value}, Vals xs us → ∃ as, ReadsAll s.heap us ds as
  | _, _, .nil, us, r => by cases r; exact ⟨_, .nil⟩
  | _, _, .cons h t, us, r => by
    cases r with
    | cons r1 r2 =>
      obtain ⟨as, q⟩ := reads_of I h r1
      obtain ⟨bs, q2⟩ := readsA_of I t r2
      exact ⟨_, .cons q q2⟩
end
end
end Ns

/-! NsB: repr of data. -/
namespace Ns
open PySem PySem.Spec PyProof.Rows L2
section
variable {X : Cx} {pins : List (Addr × Obj)} {σ : L2.St} {H : Hp} {s : Shared}

theorem zip_kv : ∀ {as : List Key} {ds : List PyData}, as.length = ds.length → ((as.map kD).zip ds).map (·.1) = as.map kD := fun {as ds} h => map_fst_zip (by rw [List.length_map]; exact h)

theorem kv_of_zip {α : Type} {f : α → PyData} {l : List α} {ds : List PyData} (h : l.length = ds.length) : (((l.map f).zip ds).map (·.1) = l.map f) ∧ (((l.map f).zip ds).map (·.2) = ds) :=
  ⟨map_fst_zip (by rw [List.length_map]; exact h), map_snd_zip (by rw [List.length_map]; exact h)⟩

/-- keys show themselves, whatever stands -/
theorem keys_shown {P : Program} {w : World} {h : Heap} {n : Nat} : ∀ {es : List DictEntry} {vs : List (Key × Value)}, Pairs (mixKind P w) es vs → (∀ p ∈ vs, (kD p.1).showable = true ∧ (kD p.1).shown.length ≤ sizeLine) →
    ReprAllK P w [] h n (es.map (·.key)) (PyData.shownAll (vs.map fun p => kD p.1))
  | _, _, .nil, _ => by simp only [List.map_nil, PyData.shownAll]; exact .nil
  | e :: es, kv :: vs, .cons h1 _ t, hz => by
    rw [List.map_cons, List.map_cons, PyData.shownAll_cons]
    obtain ⟨z1, z2⟩ := hz kv List.mem_cons_self
    refine .cons (ReprK.of_is ?_ _ _ _) (keys_shown t fun p hp => hz p (List.mem_cons_of_mem _ hp))
    rcases keyIs_shape (show keyIs kv.1 e.key = true from h1) with ⟨i, tk, ek, ev⟩ | ⟨x, tk, ek, ev⟩
    · rw [ek] at z1 ⊢
      rw [ev]
      show ReprIs P w _ (PyData.int i).shown
      rw [PyData.shown_int]
      exact ReprIs.int tk (of_decide_eq_true (by simpa [kD, PyData.showable] using z1))
    · rw [ek] at z2 ⊢
      rw [ev]
      show ReprIs P w _ (PyData.str x).shown
      have z2' : (PyData.str x).shown.length ≤ sizeLine := z2
      rw [PyData.shown_str] at z2' ⊢
      exact ReprIs.str x tk z2'

theorem all_of : ∀ {l : List PyData}, PyData.showableAll l = true → ∀ d ∈ l, d.showable = true
  | [], _, _, hd => nomatch hd
  | x :: l, h, d, hd => by
    have h' : x.showable = true ∧ PyData.showableAll l = true := by simpa [PyData.showableAll] using h
    rcases List.mem_cons.mp hd with e | e
    · rw [e]; exact h'.1
    · exact all_of h'.2 d e
theorem shown_mem : ∀ {l : List PyData} {d : PyData}, d ∈ l → d.shown ∈ PyData.shownAll l
  | [], _, h => nomatch h
  | x :: l, d, h => by
    rw [PyData.shownAll_cons]
    rcases List.mem_cons.mp h with e | e
    · rw [e]; exact List.mem_cons_self
    · exact List.mem_cons_of_mem _ (shown_mem e)

mutual
theorem reprK_of (I : Inv X pins σ H s) : ∀ {x : V} {d : PyData}, DatV X.K H x d → ∀ {v : Value}, RelV x v → d.showable = true → d.shown.length ≤ sizeLine →
    ∃ bs, ReadAtMost s.heap d.depth bs ∧ ReprK X.prog X.w bs s.heap d.depth v d.shown
  | _, _, .non, v, r, _, _ => by
    cases (show v = Value.none from r)
    exact ⟨[], (fun _ z => nomatch z), by rw [PyData.shown_none]; exact .of_is ReprIs.none _ _ _⟩
  | _, _, .bl b, v, r, _, _ => by
    cases (show v = Value.bool b from r)
    refine ⟨[], (fun _ z => nomatch z), ?_⟩
    simp only [PyData.shown]
    exact .of_is (ReprIs.bool b) _ _ _
  | _, _, .int i, v, r, hs, _ => by
    obtain ⟨t, rfl⟩ := (show ∃ t, v = Value.int i t from r)
    refine ⟨[], (fun _ z => nomatch z), ?_⟩
    rw [PyData.shown_int]
    exact .of_is (ReprIs.int t (by simpa [PyData.showable] using hs)) _ _ _
  | _, _, .str x, v, r, _, hz => by
    obtain ⟨t, rfl⟩ := (show ∃ t, v = Value.str x t from r)
    refine ⟨[], (fun _ z => nomatch z), ?_⟩
    rw [PyData.shown_str] at hz ⊢
    exact .of_is (ReprIs.str x t hz) _ _ _
  | _, _, .lst (a := a) (ds := ds) h t, v, r, hs, hz => by
    cases (show v = Value.ref a from r)
    have hz1 : (listText (PyData.shownAll ds)).length ≤ sizeLine := by simpa only [PyData.shown] using hz
    have hs1 : PyData.showableAll ds = true := by simpa [PyData.showable] using hs
    obtain ⟨as, rd⟩ := reads_of I (.lst h t) (v := .ref a) rfl
    obtain ⟨its, rv, ⟨o, n, h1, h2, h3, h4⟩, _⟩ := I.list h
    have h5 : o.data = .seq its.toArray n := by first | exact h3 | exact h4
    obtain ⟨bs, hb, hk⟩ := reprA_of I t rv hs1 fun u hu => Nat.le_trans (listText_mem_le hu) hz1
    have dp : (PyData.list ds).depth = PyData.depthAll ds + 1 := by simp only [PyData.depth] <;> omega
    have hna : a ∉ bs := not_mem_of_deeper rd (by rw [dp]; omega) hb
    refine ⟨a :: bs, ReadAtMost.cons rd (by rw [dp]; omega) hb, ?_⟩
    rw [dp]
    simp only [PyData.shown]
    cases its with
    | nil =>
      have e0 : PyData.shownAll ds = [] := List.length_eq_zero_iff.mp (by simpa using hk.length_eq)
      rw [e0, listText_nil]
      exact ReprK.listEmpty h1 h2 h5
    | cons y l => exact ReprK.list h1 h2 h5 hna (by simpa using hk.length_eq) fun i u e => hk.item i u (by simpa using e)
  | _, _, .tup (a := a) (ds := ds) h t, v, r, hs, hz => by
    cases (show v = Value.ref a from r)
    have hz1 : (tupleText (PyData.shownAll ds)).length ≤ sizeLine := by simpa only [PyData.shown] using hz
    have hs1 : PyData.showableAll ds = true := by simpa [PyData.showable] using hs
    obtain ⟨as, rd⟩ := reads_of I (.tup h t) (v := .ref a) rfl
    obtain ⟨its, rv, ⟨o, h1, h2, n, h3⟩, _⟩ := I.tuple h
    obtain ⟨bs, hb, hk⟩ := reprA_of I t rv hs1 fun u hu => Nat.le_trans (tupleText_mem_le hu) hz1
    have dp : (PyData.tuple ds).depth = PyData.depthAll ds + 1 := by simp only [PyData.depth] <;> omega
    have hna : a ∉ bs := not_mem_of_deeper rd (by rw [dp]; omega) hb
    refine ⟨a :: bs, ReadAtMost.cons rd (by rw [dp]; omega) hb, ?_⟩
    rw [dp]
    simp only [PyData.shown]
    exact ReprK.tuple h1 h2 h3 hna (by simpa using hk)
  | _, _, .dic (a := a) (kvs := kvs) (ds := ds) h t, v, r, hs, hz => by
    cases (show v = Value.ref a from r)
    have hl : kvs.length = ds.length := by
      have z := t.len
      rw [List.length_map] at z
      exact z
    obtain ⟨e1, e2⟩ := kv_of_zip (f := fun p : Key × V => kD p.1) (l := kvs) hl
    have hz1 : (dictText (PyData.shownKv ((kvs.map fun p => kD p.1).zip ds))).length ≤ sizeLine := by simpa only [PyData.shown] using hz
    have hs1 : PyData.showableKv ((kvs.map fun p => kD p.1).zip ds) = true := by simpa [PyData.showable] using hs
    obtain ⟨s1, s2⟩ := PyData.showableKv_split _ hs1
    rw [e1] at s1
    rw [e2] at s2
    obtain ⟨as, rd⟩ := reads_of I (.dic h t) (v := .ref a) rfl
    obtain ⟨_, hsy, vs, rv, o, es, ep, h1, h2, h3, _, h5, _⟩ := (show ObjOk X.prog X.w H s.heap a (.dK kvs) from I.hok a _ h)
    have vl : ∀ u ∈ PyData.shownAll ds, u.length ≤ sizeLine := fun u hu => by
      obtain ⟨p, hp, hq⟩ := PyData.shownKv_val_le _ u (by rw [e2]; exact hu)
      exact Nat.le_trans hq (Nat.le_trans (dictText_mem_le hp) hz1)
    have kl : ∀ u ∈ PyData.shownAll (kvs.map fun p => kD p.1), u.length ≤ sizeLine := fun u hu => by
      obtain ⟨p, hp, hq⟩ := PyData.shownKv_key_le _ u (by rw [e1]; exact hu)
      exact Nat.le_trans hq (Nat.le_trans (dictText_mem_le hp) hz1)
    obtain ⟨bs, hb, hk⟩ := reprA_of I t (kv_vals rv) s2 vl
    have kk : ReprAllK X.prog X.w [] s.heap (PyData.depthKv ((kvs.map fun p => kD p.1).zip ds)) (es.toList.map (·.key)) (PyData.shownAll (kvs.map fun p => kD p.1)) := by
      rw [← kv_fst rv]
      refine keys_shown h5 fun p hp => ?_
      have hm : kD p.1 ∈ kvs.map fun p => kD p.1 := by
        rw [← kv_fst rv]
        exact List.mem_map.mpr ⟨p, hp, rfl⟩
      exact ⟨all_of s1 _ hm, kl _ (shown_mem hm)⟩
    have dv : PyData.depthAll ds ≤ PyData.depthKv ((kvs.map fun p => kD p.1).zip ds) := by
      have z := PyData.depthAll_vals_le ((kvs.map fun p => kD p.1).zip ds)
      rw [e2] at z
      exact z
    have hb2 : ReadAtMost s.heap (PyData.depthKv ((kvs.map fun p => kD p.1).zip ds)) bs := hb.mono dv
    have dp : (PyData.dict ((kvs.map fun p => kD p.1).zip ds)).depth = PyData.depthKv ((kvs.map fun p => kD p.1).zip ds) + 1 := by simp only [PyData.depth] <;> omega
    have hna : a ∉ bs := not_mem_of_deeper rd (by rw [dp]; omega) hb2
    refine ⟨a :: bs, ReadAtMost.cons rd (by rw [dp]; omega) hb2, ?_⟩
    rw [dp]
    simp only [PyData.shown, PyData.shownKv_eq]
    rw [e1, e2]
    refine ReprK.dict h1 h2.1 h3 hsy hna (ReprEntriesK.of_two es.toList _ _ (kk.more_le (fun b z => absurd z List.not_mem_nil) (Nat.le_refl _)) ?_)
    rw [pairs_vals h5]
    exact hk.more_le (fun b z => z) dv
theorem reprA_of (I : Inv X pins σ H s) : ∀ {xs : List V} {ds : List PyData}, DatA X.K H xs ds → ∀ {us : List Value}, Vals xs us → PyData.showableAll ds = true → (∀ t ∈ PyData.shownAll ds, t.length ≤ sizeLine) →
    ∃ bs, ReadAtMost s.heap (PyData.depthAll ds) bs ∧ ReprAllK X.prog X.w bs s.heap (PyData.depthAll ds) us (PyData.shownAll ds)
  | _, _, .nil, us, r, _, _ => by
    cases r
    exact ⟨[], (fun _ z => nomatch z), by simp only [PyData.shownAll]; exact .nil⟩
  | _, _, .cons (d := d) (ds := ds) h t, us, r, hs, hz => by
    cases r with
    | cons r1 r2 =>
      have hs1 : d.showable = true ∧ PyData.showableAll ds = true := by simpa [PyData.showableAll] using hs
      rw [PyData.shownAll_cons] at hz ⊢
      obtain ⟨b1, g1, k1⟩ := reprK_of I h r1 hs1.1 (hz _ List.mem_cons_self)
      obtain ⟨b2, g2, k2⟩ := reprA_of I t r2 hs1.2 fun u hu => hz u (List.mem_cons_of_mem _ hu)
      have dp : PyData.depthAll (d :: ds) = max d.depth (PyData.depthAll ds) := by simp only [PyData.depthAll]
      refine ⟨b1 ++ b2, ?_, ?_⟩
      · rw [dp]
        exact (g1.mono (Nat.le_max_left _ _)).append (g2.mono (Nat.le_max_right _ _))
      · rw [dp]
        exact .cons ((k1.more fun b z => List.mem_append_left _ z).level_le (Nat.le_max_left _ _)) (k2.more_le (fun b z => List.mem_append_right _ z) (Nat.le_max_right _ _))
end
theorem dict_entries (I : Inv X pins σ H s) {a : Addr} {kvs : List (Key × V)} {ds : List PyData} {vs : List (Key × Value)} {o : Obj} {es : Array DictEntry} {ep : Nat} (h : H a = some (.dK kvs)) (t : DatA X.K H (kvs.map (·.2)) ds)
    (hs : (PyData.dict ((kvs.map fun p => kD p.1).zip ds)).showable = true) (hz : (PyData.dict ((kvs.map fun p => kD p.1).zip ds)).shown.length ≤ sizeLine) (h1 : s.heap.get? a = some o) (h3 : o.data = .dict es ep)
    (h5 : Pairs (mixKind X.prog X.w) es.toList vs) (rv : KV kvs vs) :
    ∃ n bs, a ∉ bs ∧ ReprEntriesK X.prog X.w bs s.heap n es.toList (PyData.shownKv ((kvs.map fun p => kD p.1).zip ds)) ∧ n + 1 ≤ (PyData.dict ((kvs.map fun p => kD p.1).zip ds)).depth := by
  have hl : kvs.length = ds.length := by
    have z := t.len
    rw [List.length_map] at z
    exact z
  obtain ⟨e1, e2⟩ := kv_of_zip (f := fun p : Key × V => kD p.1) (l := kvs) hl
  have hz1 : (dictText (PyData.shownKv ((kvs.map fun p => kD p.1).zip ds))).length ≤ sizeLine := by simpa only [PyData.shown] using hz
  have hs1 : PyData.showableKv ((kvs.map fun p => kD p.1).zip ds) = true := by simpa [PyData.showable] using hs
  obtain ⟨s1, s2⟩ := PyData.showableKv_split _ hs1
  rw [e1] at s1
  rw [e2] at s2
  obtain ⟨as, rd⟩ := reads_of I (.dic h t) (v := .ref a) rfl
  obtain ⟨bs, hb, hk⟩ := reprA_of I t (kv_vals rv) s2 fun u hu => by
    obtain ⟨p, hp, hq⟩ := PyData.shownKv_val_le _ u (by rw [e2]; exact hu)
    exact Nat.le_trans hq (Nat.le_trans (dictText_mem_le hp) hz1)
  have kk : ReprAllK X.prog X.w [] s.heap (PyData.depthKv ((kvs.map fun p => kD p.1).zip ds)) (es.toList.map (·.key)) (PyData.shownAll (kvs.map fun p => kD p.1)) := by
    rw [← kv_fst rv]
    refine keys_shown h5 fun p hp => ?_
    have hm : kD p.1 ∈ kvs.map fun p => kD p.1 := by
      rw [← kv_fst rv]
      exact List.mem_map.mpr ⟨p, hp, rfl⟩
    obtain ⟨y, hy, hq⟩ := PyData.shownKv_key_le _ _ (by rw [e1]; exact shown_mem hm)
    exact ⟨all_of s1 _ hm, Nat.le_trans hq (Nat.le_trans (dictText_mem_le hy) hz1)⟩
  have dv : PyData.depthAll ds ≤ PyData.depthKv ((kvs.map fun p => kD p.1).zip ds) := by
    have z := PyData.depthAll_vals_le ((kvs.map fun p => kD p.1).zip ds)
    rw [e2] at z
    exact z
  have dp : (PyData.dict ((kvs.map fun p => kD p.1).zip ds)).depth = PyData.depthKv ((kvs.map fun p => kD p.1).zip ds) + 1 := by simp only [PyData.depth] <;> omega
  have hna : a ∉ bs := not_mem_of_deeper rd (by rw [dp]; omega) (hb.mono dv)
  refine ⟨_, bs, hna, ?_, Nat.le_of_eq dp.symm⟩
  rw [PyData.shownKv_eq, e1, e2]
  refine ReprEntriesK.of_two es.toList _ _ (kk.more_le (fun b z => absurd z List.not_mem_nil) (Nat.le_refl _)) ?_
  rw [pairs_vals h5]
  exact hk.more_le (fun b z => z) dv
end
end Ns

/-! NsC: the call of repr; == of equal data. -/
namespace Ns
open PySem PySem.Spec PyProof.Rows L2
section
variable {X : Cx} {pins : List (Addr × Obj)} {σ : L2.St} {H : Hp} {s : Shared}

theorem repr_run (I : Inv X pins σ H s) {A : Around} (hg : A.guards = some []) {x : V} {d : PyData} (D : DatV X.K H x d) {v : Value} (r : RelV x v) (hs : d.showable = true) (hz : d.shown.length ≤ sizeLine) (hu : A.units + (d.depth + 2) < cLine)
    {E Q : Value → Shared → Prop} (q : ∀ h' u tk, (∀ b o, s.heap.get? b = some o → h'.get? b = some o) → Q (.str d.shown u) { s with heap := h', toks := tk }) :
    wpAny (model X.prog X.w) A (call (.builtin "repr") [v]) Q E s := by
  cases D with
  | non =>
    cases (show v = Value.none from r)
    rw [PyData.shown_none] at q
    exact PySem.P.repr_of_none (q s.heap _ _ fun _ _ e => e)
  | bl b =>
    cases (show v = Value.bool b from r)
    rw [PyData.shown_bool] at q
    exact PySem.P.repr_of_bool (q s.heap _ _ fun _ _ e => e)
  | int i =>
    obtain ⟨t, rfl⟩ := (show ∃ t, v = Value.int i t from r)
    rw [PyData.shown_int] at q
    exact PySem.P.repr_of_int (of_decide_eq_true (by simpa [PyData.showable] using hs)) (q s.heap _ _ fun _ _ e => e)
  | str y =>
    obtain ⟨t, rfl⟩ := (show ∃ t, v = Value.str y t from r)
    rw [PyData.shown_str] at q hz
    exact PySem.P.repr_of_str (q s.heap _ _ fun _ _ e => e) hz
  | @lst a xs ds h t =>
    cases (show v = Value.ref a from r)
    have hz1 : (listText (PyData.shownAll ds)).length ≤ sizeLine := by simpa only [PyData.shown] using hz
    have hs1 : PyData.showableAll ds = true := by simpa [PyData.showable] using hs
    obtain ⟨as, rd⟩ := reads_of I (.lst h t) (v := .ref a) rfl
    obtain ⟨its, rv, ⟨o, n, h1, h2, h3, h4⟩, _⟩ := I.list h
    have h5 : o.data = .seq its.toArray n := by first | exact h3 | exact h4
    obtain ⟨bs, hb, hk⟩ := reprA_of I t rv hs1 fun u hu => Nat.le_trans (listText_mem_le hu) hz1
    have dp : (PyData.list ds).depth = PyData.depthAll ds + 1 := by simp only [PyData.depth] <;> omega
    have hna : a ∉ bs := not_mem_of_deeper rd (by rw [dp]; omega) hb
    simp only [PyData.shown] at q
    rw [dp] at hu
    refine call_repr_slot (by omega) ⟨o, h1, h2⟩ F.slot_list_repr.toG ?_
    cases its with
    | nil =>
      have e0 : PyData.shownAll ds = [] := List.length_eq_zero_iff.mp (by simpa using hk.length_eq)
      rw [e0, listText_nil] at q
      exact call_list_repr_empty ⟨o, h1, h2⟩ h1 h5 ⟨_, _, rfl, q s.heap _ _ fun _ _ e => e⟩
    | cons y l =>
      exact call_list_reprK (A := A.in1) (g := []) h1 h2 h5 hna (by simpa using hk.length_eq) (fun i u e => hk.item i u (by simpa using e)) hg (fun b _ => Clear.nil b) (by show A.units + 1 + _ < _; omega) (fun _ _ e => e)
        (fun h' u tk k => ⟨_, _, rfl, q h' u tk k⟩) hz1
  | @tup a xs ds h t =>
    cases (show v = Value.ref a from r)
    have hz1 : (tupleText (PyData.shownAll ds)).length ≤ sizeLine := by simpa only [PyData.shown] using hz
    have hs1 : PyData.showableAll ds = true := by simpa [PyData.showable] using hs
    obtain ⟨as, rd⟩ := reads_of I (.tup h t) (v := .ref a) rfl
    obtain ⟨its, rv, ⟨o, h1, h2, n, h3⟩, _⟩ := I.tuple h
    obtain ⟨bs, hb, hk⟩ := reprA_of I t rv hs1 fun u hu => Nat.le_trans (tupleText_mem_le hu) hz1
    have dp : (PyData.tuple ds).depth = PyData.depthAll ds + 1 := by simp only [PyData.depth] <;> omega
    have hna : a ∉ bs := not_mem_of_deeper rd (by rw [dp]; omega) hb
    simp only [PyData.shown] at q
    rw [dp] at hu
    refine call_repr_slot (by omega) ⟨o, h1, h2⟩ F.slot_tuple_repr ?_
    exact call_tuple_reprK (A := A.in1) (g := []) h1 h2 h3 hna (by simpa using hk) hg (fun b _ => Clear.nil b) (by show A.units + 1 + _ < _; omega) (fun _ _ e => e)
      (fun h' u tk k => ⟨_, _, rfl, q h' u tk k⟩) hz1
  | @dic a kvs ds h t =>
    cases (show v = Value.ref a from r)
    obtain ⟨_, hsy, vs, rv, o, es, ep, h1, h2, h3, _, h5, _⟩ := (show ObjOk X.prog X.w H s.heap a (.dK kvs) from I.hok a _ h)
    obtain ⟨n, bs, hna, hE, hd⟩ := dict_entries I h t hs hz h1 h3 h5 rv
    simp only [PyData.shown] at q hz
    refine call_repr_slot (by omega) ⟨o, h1, h2.1⟩ F.slot_dict_repr ?_
    exact call_dict_reprK (A := A.in1) (g := []) h1 h2.1 h3 hsy hna hE hg (fun b _ => Clear.nil b) (by show A.units + 1 + _ < _; omega) (fun _ _ e => e)
      (fun h' u tk k => ⟨_, _, rfl, q h' u tk k⟩) hz

/-- repr(x), x data -/
def rRep (K : PySem.W.Frag) : List V → Hp → VK → Prop := fun xs H Q => ∃ x d, xs = [x] ∧ DatV K H x d ∧ d.showable = true ∧ d.shown.length ≤ sizeLine ∧ d.depth ≤ 60 ∧ Q (.str d.shown) H
theorem call_reprD (hg : X.A.guards = some []) (hu : X.A.units + 64 < cLine) : CallR X (.builtin "repr") (rRep X.K) := by
  intro pins s σ H xs us Q I r h
  obtain ⟨x, d, rfl, D, hs, hz, hd, q⟩ := h
  obtain ⟨u, rfl, r1⟩ := vals1 r
  exact repr_run I hg D r1 hs hz (by omega) fun h' u tk k => ⟨.str d.shown, H, I.kept (t' := tk) k, ⟨u, rfl⟩, q⟩
end
end Ns

/-! NsG: defs that are called where no repr is under way (the guards are known to be none); xs[i] op= e of a list; the end of a law over such a def. -/
namespace Ns
open PySem PySem.Spec PyProof.Rows L2

/-- as FnOk, for calls with no guard around -/
structure GnOk (P : Program) (w : World) (K : PySem.W.Frag) (mg : Str → Option Value) (base : Heap) (k : Nat) (f : Addr) (fd : FuncData) (ps : List Str) (sp : Sp) : Prop where
  glen : ∀ as H Q E, sp as H Q E → as.length = ps.length
  grun : ∀ (A : Around) (outer : List Env) (s : Shared) (H : Hp) (args : Args) (us : List Value) (as : List V) (Q : VK) (E : XK), Room k A → A.guards = some [] → Env0 P w K mg base A outer s H →
    BindsTo s fd args (ps.zip us) → Vals as us → sp as H Q E → codeAny (model P w) A (.call (.ref f) args) (CR CX0 outer P w H s Q E) s
theorem FnOk.guarded {P : Program} {w : World} {K : PySem.W.Frag} {mg : Str → Option Value} {base : Heap} {k : Nat} {f : Addr} {fd : FuncData} {ps : List Str} {sp : Sp} (F : FnOk P w K mg base CX0 k f fd ps sp) : GnOk P w K mg base k f fd ps sp :=
  ⟨F.len, fun A outer s H args us as Q E hr _ e b v h => F.run A outer s H args us as Q E hr e b v h⟩

section
variable {X : Cx} {k : Nat} {f : Addr} {fd : FuncData} {ps : List Str} {sp : Sp} {x : Str} {p pos : Pos} {e : Expr} {es : List Expr} {t : TA}
theorem run_g {pins : List (Addr × Obj)} {σ : L2.St} {H : Hp} {s : Shared} {Q : VK} {us : List Value} {as : List V} (F : GnOk X.prog X.w X.K X.mg X.base k f fd ps sp) (hr : Room k X.A) (hgd : X.A.guards = some []) (hb : Binds X.K fd ps [])
    (I : Inv X pins σ H s) (r : Vals as us) (h : sp as H Q E0) : wpAny (model X.prog X.w) X.A (call (.ref f) us) (EP X pins σ Q) X.xe s := by
  have hl : us.length = ps.length := r.length.symm.trans (F.glen _ _ _ _ h)
  have bb := hb s us I.kIn (by rw [List.append_nil]; exact hl)
  rw [List.append_nil] at bb
  refine wpAny_call (codeAny_mono (F.grun X.A X.stack s H ⟨us, []⟩ us as Q E0 hr hgd I.env0 bb r h) fun z s' hz => ?_)
  match z, hz with
  | .error _, hz => exact (show False from hz).elim
  | .ok (.ret u), hz => exact I.after hz
  | .ok .next, hz => exact (show False from hz).elim
  | .ok .brk, hz => exact (show False from hz).elim
  | .ok .cont, hz => exact (show False from hz).elim
theorem pe_callG (F : GnOk X.prog X.w X.K X.mg X.base k f fd ps sp) (hr : Room k X.A) (hgd : X.A.guards = some []) (hg : Gl X x) (hm : X.mg x = some (.ref f)) (hk : PySem.W.keepIn X.K (.ref f) = true) (hb : Binds X.K fd ps [])
    (ha : PA X (e :: es) t) (hdb : (x == ("__debug__" : Str)) = false := by decide) (he : starEach (e :: es) X.env = (false, eval e X.env) :: starEach es X.env := by rfl) (hpl : (backTo pos (starEach es X.env)).any (·.1) = false := by rfl) :
    PE X (.Call (.Name x p) (e :: es) [] pos) (tCall sp [] E0 t) :=
  ⟨fun pins s σ H Q I h => wpAny_Call_Name_kw (ld_glob I hg hm (PySem.W.callWith_K (h₀ := X.base) I.ok.mod.kin hk (thn (ha.run pos pins s σ H _ I h) fun us s1 ⟨as, H1, I1, r, q⟩ => ⟨I1.kIn, run_g F hr hgd hb I1 r (by have q' : sp (as ++ []) H1 Q E0 := q; rw [List.append_nil] at q'; exact q')⟩) he hpl) hdb)⟩
end

/-- the def by its body: the guards are known within -/
theorem Fun.okG {P : Program} {w : World} {K : PySem.W.Frag} {mg : Str → Option Value} {base : Heap} {x qual : Str} {st : Stmt} {f : Addr} {fd : FuncData} {N ps : List Str} {k : Nat} {sp : Sp} (F : Fun K x qual st f fd) (S : FnScope N ps (defScope st))
    (len : ∀ as H Q E, sp as H Q E → as.length = ps.length)
    (body : ∀ (cdv : Value) (A : Around) (outer : List Env) (s : Shared) (H : Hp) (as : List V) (Q : VK) (E : XK), Room k (A.deeper (envOfC qual (defScope st) s.heap.objs.size f cdv)) → (A.deeper (envOfC qual (defScope st) s.heap.objs.size f cdv)).guards = some [] → sp as H Q E →
      ∃ t, PSs (cxOf CX0 P w K mg base N qual (defScope st) f cdv A outer s H E).nox (defBody st) t ∧ t { nx := fun _ H' => Q .non H', rt := Q } (start N as) H) : GnOk P w K mg base (k + 1) f fd ps sp := by
  obtain ⟨oc, od, kV, doc, pm, an, cdv, ct, osl, rfl, lk, hcd⟩ := F.ex
  refine ⟨len, fun A outer s H args us as Q E hr hgd e0 hb r hsp => ?_⟩
  have old : ∀ b o, base.get? b = some o → s.heap.get? b = some o := fun b o z => (e0.bs b o z).1
  have kin : K.In s.heap := e0.mod.kin.keeps old
  refine codeAny_call_function hr.depth (kin _ _ lk) rfl S.co S.gen rfl (PySem.W.codeRec_of kin hcd) (hb _ _ _ _ (wpAny_newFunctionEnv_cells S.kind (fun y hy => ?_) fun env he s1 x => ?_))
  · have hm := (List.of_mem_zip (show (y.1, y.2) ∈ ps.zip us from hy)).1
    exact (S.par y.1 hm).imp (fun z => z) fun z => ⟨z, PySem.W.cellsFrom_some _ _ _ (.inl z)⟩
  · cases he
    refine ⟨(e0.mod.nolimit.keeps old).keeps x.toInCall.keep, codeAny_func ?_⟩
    obtain ⟨t, ht, hq⟩ := body cdv A outer s H as Q E (hr.deeper _) hgd hsp
    have J := inv_start (CX := CX0) (E := E) S hr.hd e0 (len _ _ _ _ hsp) r x
    refine wpAny_mono (ht.nox.run [] s1 (start N as) H _ J hq) (fun fl s' hs => ?_) fun e s' hs => hs
    match fl, hs with
    | .ret u, ⟨v, _, H', J', rv, q⟩ => exact ⟨v, H', J'.os, J'.bare, J'.base, J'.hok, rv, q⟩
    | .next, ⟨_, H', J', q⟩ => exact ⟨V.non, H', J'.os, J'.bare, J'.base, J'.hok, rfl, q⟩
    | .brk, ⟨_, _, _, q⟩ => exact (show False from q).elim
    | .cont, ⟨_, _, _, q⟩ => exact (show False from q).elim
end Ns

/-! NsH: the end of a law over a guarded def; xs[i] op= e. -/
namespace Ns
open PySem PySem.Spec PyProof.Rows L2

/-- what a law's def promises: of a list of ints, True -/
def spTop (K : PySem.W.Frag) : Sp := fun as H Q _ => ∃ (a : Addr) (ns : List Int), as = [.ref a] ∧ SqL K H a (ns.map V.int) ∧ ns.length ≤ 63 ∧ ∀ H', Q (.bl true) H'

/-- the abstract heap at the entry: the script at a alone, unless it is a written object -/
theorem entry_core {P : Program} {w : World} {K : PySem.W.Frag} {mg mb : Str → Option Value} {k : Nat} {fa a : Addr} {fd : FuncData} {s : Shared} {vs : List Value} {ns : List Int} (kin : K.In s.heap) (gl : s.heap.Ns mainGlobals mg)
    (bl : s.heap.Ns builtinsNs mb) (bb : ∀ x : Str, x ≠ "__name__" → mb x = bootBuiltins x) (nl : s.heap.NoLimit) (ge : s.gens = #[]) (sc : s.heap.get? a = some { cls := .type "list", data := .seq vs.toArray }) (l63 : ns.length ≤ 63)
    (hr : Room k callerA) (F : ∀ base : Heap, K.In base → base.Ns mainGlobals mg → GnOk P w K mg base k fa fd ["script"] (spTop K)) (bd : ∀ (z : Shared) (u : Value), BindsTo z fd ⟨[u], []⟩ [("script", u)])
    (H : Hp) (only : ∀ b o, H b = some o → b = a ∧ ∃ ob xs, o = .frz ob (.lst xs)) (free : H a ≠ none → K.lookup a = none) (hok : HOk P w H s.heap) (sq : SqL K H a (ns.map V.int)) :
    codeAny (model P w) callerA (.call (.ref fa) ⟨[.ref a], []⟩) (fun r s' => r = .ok (.ret (.bool true)) ∧ OldK s.heap s'.heap ∧ s'.os = s.os ∧ AllBare s'.gens) s := by
  have noD : ∀ {b : Addr} {o : Obj} {es : Array DictEntry} {n : Nat}, s.heap.get? b = some o → o.data = .dict es n → H b = none := by
    intro b o es n e d
    cases q : H b with
    | none => rfl
    | some u =>
      obtain ⟨rfl, _⟩ := only b u q
      rw [sc] at e
      cases e
      cases d
  have ns' : ∀ {b : Addr} {m : Str → Option Value}, s.heap.Ns b m → (hidT s.heap H).Ns b m := by
    rintro b m ⟨o, es, n, e, d, r⟩
    exact ⟨o, es, n, hidT_get e (noD e d), d, r⟩
  have kin' : K.In (hidT s.heap H) := by
    intro b o e
    refine hidT_get (kin b o e) ?_
    cases q : H b with
    | none => rfl
    | some u =>
      obtain ⟨rfl, _⟩ := only b u q
      rw [free (by rw [q]; exact fun z => nomatch z)] at e
      cases e
  have md : Mod K mg (hidT s.heap H) := by
    obtain ⟨mc, n1, n2⟩ := nl
    exact { kin := kin', glob := ns' gl, blt := ⟨mb, ns' bl, bb⟩, nolimit := ⟨mc, ns' n1, n2⟩ }
  have e0 : Env0 P w K mg (hidT s.heap H) callerA [] s H :=
    { frames := rfl, mod := md, bs := fun b o e => of_hidT e, bsz := Nat.le_of_eq (hidT_size _ _), funs := trivial, frf := fun b hb => (List.not_mem_nil hb).elim, hok := hok, bare := .of_eq ge }
  have run := (F _ kin' (ns' gl)).grun callerA [] s H ⟨[.ref a], []⟩ [.ref a] [.ref a] (fun v _ => v = .bl true) E0 hr rfl e0 (bd s (.ref a)) (.cons rfl .nil) ⟨a, ns, rfl, sq, l63, fun _ => rfl⟩
  refine codeAny_mono run fun r s' h => ?_
  match r, h with
  | .error _, h => exact (show False from h).elim
  | .ok .next, h => exact (show False from h).elim
  | .ok .brk, h => exact (show False from h).elim
  | .ok .cont, h => exact (show False from h).elim
  | .ok (.ret u), ⟨v, H', o', bare, un, hok', rv, q⟩ =>
    have q' : v = .bl true := q
    rw [q'] at rv
    have eu : u = Value.bool true := rv
    rw [eu]
    refine ⟨rfl, OldK.of_keep fun b o e => ?_, o', bare⟩
    cases z : H b with
    | none => exact un.keep b o e z (fun y => List.not_mem_nil y) List.not_mem_nil
    | some u' =>
      obtain ⟨_, ob, xs, rfl⟩ := only b u' z
      have h1 : s.heap.get? b = some ob := (hok b _ z).1
      have h2 : s'.heap.get? b = some ob := (hok' b _ (un.frzs b ob _ z)).1
      rw [e] at h1
      cases h1
      exact h2

theorem walk_ofG {l : PySem.W.OpenLaw} {k : Nat} {q : Program} {loose : List Str} {XP : (Str → Option Value) → Heap → Prop} {YP : World → Heap → Prop} {d : DefRec} {K : Params → PySem.W.Frag} (hn : l.most = some 63) (hdf : d.params.defaults = []) (hr : Room k callerA)
    (hY : ∀ (w : World) (h : Heap), YP w h → (K w.params).In h)
    (F : ∀ (w : World) (mg : Str → Option Value) (fa : Addr) (h : Heap), (K w.params).In h → h.Ns mainGlobals mg → mg d.name = some (.ref fa) →
      ∃ fd : FuncData, (∀ (z : Shared) (u : Value), BindsTo z fd ⟨[u], []⟩ [("script", u)]) ∧ ∀ base : Heap, (K w.params).In base → base.Ns mainGlobals mg → GnOk l.prog w (K w.params) mg base k fa fd ["script"] (spTop (K w.params))) :
    PySem.W.WalkO q loose XP YP l.row.toRowW d [] (fun f vs => PySem.call f vs) := by
  refine Att.attach_call hn hdf ?_
  intro w s0 s mg mb fa o pm cd doc a vs ns G Y ho hd hcd hmg hobj hints hlen hg
  obtain ⟨fd, bd, hF⟩ := F w mg fa _ (hY w _ Y) G.T.g hmg
  have rv := vals_ints hints
  have hz : (ns.map V.int).length ≤ sizeLine := by
    rw [List.length_map]
    exact Nat.le_trans hlen (by decide)
  have go := entry_core (P := l.prog) (w := w) (a := a) (ns := ns) (hY w _ Y) G.T.g G.T.b G.T.builtins G.T.nolimit hg hobj hlen hr hF bd
  cases hk : (K w.params).lookup a with
  | some ok =>
    have e := hY w _ Y a ok hk
    rw [hobj] at e
    cases e
    refine go (fun _ => none) (fun b o z => nomatch z) (fun z => absurd rfl z) (fun b u z => nomatch z) (.inr ⟨_, vs.toArray, _, hk, rfl, rfl, rfl, ?_, by simpa using rv⟩)
    rw [List.size_toArray, ← rv.length]
    exact hz
  | none =>
    have at_a : (fun b => if b = a then some (HO.frz { cls := .type "list", data := .seq vs.toArray } (.lst (ns.map V.int))) else none) a = some (HO.frz { cls := .type "list", data := .seq vs.toArray } (.lst (ns.map V.int))) := if_pos rfl
    have un_a : ∀ (b : Addr) (u : HO), (if b = a then some (HO.frz { cls := .type "list", data := .seq vs.toArray } (.lst (ns.map V.int))) else none) = some u → b = a ∧ u = HO.frz { cls := .type "list", data := .seq vs.toArray } (.lst (ns.map V.int)) := by
      intro b u z
      by_cases hb : b = a
      · rw [if_pos hb] at z
        exact ⟨hb, (Option.some.inj z).symm⟩
      · rw [if_neg hb] at z
        cases z
    refine go (fun b => if b = a then some (HO.frz { cls := .type "list", data := .seq vs.toArray } (.lst (ns.map V.int))) else none) (fun b u z => ?_) (fun _ => hk) (fun b u z => ?_) (.inl (.inr ⟨_, at_a⟩))
    · obtain ⟨e1, e2⟩ := un_a b u z
      exact ⟨e1, _, _, e2⟩
    · obtain ⟨e1, e2⟩ := un_a b u z
      subst e1
      subst e2
      exact ⟨hobj, hz, vs, _, rv, hobj⟩

/-- o[i] of a list, by values -/
theorem get_list {X : Cx} : PGet X (rIxL X.K) := by
  intro pins s σ H o i ov iv Q I ro ri h
  obtain ⟨p, xs, j, v, rfl, rfl, hS, hat, q⟩ := h
  cases (show ov = Value.ref p from ro)
  obtain ⟨t, rfl⟩ := (show ∃ t, iv = Value.int j t from ri)
  obtain ⟨its, rv, pl, hz⟩ := I.list hS
  obtain ⟨n, h1, h2, h3, h4, h5⟩ := atI_get hat
  obtain ⟨u, eu, ru⟩ := rv.get h2
  have ln := rv.length
  have l63 := line63
  have done : EP X pins σ Q u s := ⟨v, H, I, ru, q⟩
  rcases Int.lt_or_le j 0 with c | c
  · refine wpAny_getItem_list_neg pl.isList (by omega) (by rw [List.size_toArray]; omega) (by omega) ?_ done
    have e : (j + (its.toArray.size : Int)).toNat = n := by
      rw [seqIndex_neg (by omega) h4] at h1
      rw [List.size_toArray, ← ln]
      exact Option.some.inj h1
    rw [e]
    simpa using eu
  · refine wpAny_getItem_list pl.isList c (by omega) ?_ done
    have e : j.toNat = n := by
      rw [seqIndex_of c h5] at h1
      exact Option.some.inj h1
    rw [e]
    simpa using eu
end Ns

/-! the tops of the text -/
namespace Y
open PySem PySem.Spec PyProof.Rows L2 Ns
def top (i : Nat) : Stmt := PySem.Challenge.pw_nightstairs_k59_chargers.main.body.getD i (.Pass ⟨0, 0, 0, 0⟩)
abbrev sBag : Stmt := top 3
abbrev sTake : Stmt := top 4
abbrev sSome : Stmt := top 5
abbrev sAlike : Stmt := top 6
abbrev sLaw : Stmt := top 7
abbrev sInit : Stmt := inClass (top 1) 0
abbrev sObey : Stmt := inClass (top 1) 1
abbrev sMeter : Stmt := inClass (top 1) 2
abbrev sLast : Stmt := inClass (top 1) 3
abbrev sTwin : Stmt := inClass (top 1) 4
end Y

/-! the bag over the heap -/
namespace Y
open PySem PySem.Spec PyProof.Rows L2 Ns
/-- the heap but for b -/
def wo (H : Hp) (b : Addr) : Hp := fun c => if c = b then none else H c
theorem wo_ne {H : Hp} {b c : Addr} (h : c ≠ b) : wo H b c = H c := if_neg h
theorem wo_at {H : Hp} {b : Addr} : wo H b b = none := if_pos rfl
theorem wo_of {H : Hp} {b c : Addr} {o : HO} (h : wo H b c = some o) : c ≠ b ∧ H c = some o := by
  by_cases e : c = b
  · rw [e, wo_at] at h
    cases h
  · exact ⟨e, (wo_ne e).symm.trans h⟩
theorem wo_sub (H : Hp) (b : Addr) : Same (wo H b) H := fun _ _ h => (wo_of h).2
/-- all but b stands; b keeps its row of numbers -/
def Sb (b : Addr) (H H' : Hp) : Prop := Same (wo H b) (wo H' b) ∧ ∀ (n0 n1 n2 : Int) (l : Addr), H b = some (.lst [.int n0, .int n1, .int n2, .ref l]) → ∃ m0 m1 m2 : Int, H' b = some (.lst [.int m0, .int m1, .int m2, .ref l])
theorem Sb.refl (b : Addr) (H : Hp) : Sb b H H := ⟨Same.refl _, fun n0 n1 n2 _ h => ⟨n0, n1, n2, h⟩⟩
theorem Sb.trans {b : Addr} {H H1 H2 : Hp} (h : Sb b H H1) (g : Sb b H1 H2) : Sb b H H2 := ⟨Same.trans h.1 g.1, fun n0 n1 n2 l e => by
  obtain ⟨m0, m1, m2, e1⟩ := h.2 n0 n1 n2 l e
  exact g.2 _ _ _ _ e1⟩
theorem Sb.get {b c : Addr} {H H' : Hp} {o : HO} (h : Sb b H H') (e : H c = some o) (n : c ≠ b) : H' c = some o := (wo_of (h.1 c o ((wo_ne n).trans e))).2
theorem Sb.new {b p : Addr} {H H' : Hp} {o : HO} (h : Sb b H H') (n : H' p = none) : Sb b H (upd H' p o) := ⟨fun c u e => by
  have q := h.1 c u e
  obtain ⟨q1, q2⟩ := wo_of q
  rw [wo_ne q1, upd_ne (ne_of_none q2 n)]
  exact q2, fun n0 n1 n2 l e => by
  obtain ⟨m0, m1, m2, e1⟩ := h.2 n0 n1 n2 l e
  exact ⟨m0, m1, m2, by rw [upd_ne (ne_of_none e1 n)]; exact e1⟩⟩
theorem Sb.put {b l : Addr} {H H' : Hp} {n0 n1 n2 m0 m1 m2 : Int} (h : Sb b H H') (e0 : H' b = some (.lst [.int n0, .int n1, .int n2, .ref l])) : Sb b H (upd H' b (.lst [.int m0, .int m1, .int m2, .ref l])) := ⟨fun c u e => by
  obtain ⟨q1, q2⟩ := wo_of (h.1 c u e)
  rw [wo_ne q1, upd_ne q1]
  exact q2, fun k0 k1 k2 l' e => by
  obtain ⟨j0, j1, j2, e1⟩ := h.2 _ _ _ _ e
  rw [e0] at e1
  cases e1
  exact ⟨m0, m1, m2, upd_same⟩⟩
theorem Sb.same {b : Addr} {H H' H2 : Hp} (h : Sb b H H') (m : Same H' H2) : Sb b H H2 := ⟨fun c u e => by
  obtain ⟨q1, q2⟩ := wo_of (h.1 c u e)
  rw [wo_ne q1]
  exact m _ _ q2, fun n0 n1 n2 l e => by
  obtain ⟨m0, m1, m2, e1⟩ := h.2 n0 n1 n2 l e
  exact ⟨m0, m1, m2, m _ _ e1⟩⟩
/-- the bag at b -/
def Bag (H : Hp) (b : Addr) : Prop := ∃ (n0 n1 n2 : Int) (l : Addr) (ns : List Int), H b = some (.lst [.int n0, .int n1, .int n2, .ref l]) ∧ H l = some (.lst (ns.map V.int)) ∧ l ≠ b ∧ 0 ≤ n0 ∧ 0 ≤ n1 ∧ n1 < 2147483647 ∧ 0 ≤ n2 ∧ (∀ n ∈ ns, 0 ≤ n) ∧ ns.length ≤ 63
theorem Bag.new {H : Hp} {b p : Addr} {o : HO} (h : Bag H b) (n : H p = none) : Bag (upd H p o) b := by
  obtain ⟨n0, n1, n2, l, ns, h1, h2, r⟩ := h
  exact ⟨n0, n1, n2, l, ns, by rw [upd_ne (ne_of_none h1 n)]; exact h1, by rw [upd_ne (ne_of_none h2 n)]; exact h2, r⟩
theorem Bag.keep {H H' : Hp} {b : Addr} (h : Bag H b) (m : Same H H') : Bag H' b := by
  obtain ⟨n0, n1, n2, l, ns, h1, h2, r⟩ := h
  exact ⟨n0, n1, n2, l, ns, m _ _ h1, m _ _ h2, r⟩
theorem Bag.ne {H : Hp} {b p : Addr} (h : Bag H b) (n : H p = none) : p ≠ b := fun e => by
  obtain ⟨_, _, _, _, _, h1, _⟩ := h
  rw [e, h1] at n
  cases n
/-- a place that was free at first is written: the bag stands -/
theorem Bag.wr {H H' : Hp} {b p : Addr} {o : HO} (h : Bag H b) (n : H p = none) (s : Sb b H H') (g : Bag H' b) : Bag (upd H' p o) b := by
  obtain ⟨n0, n1, n2, l, ns, h1, h2, h3, _⟩ := id h
  obtain ⟨k0, k1, k2, l', ns', g1, g2, r⟩ := g
  obtain ⟨m0, m1, m2, e⟩ := s.2 _ _ _ _ h1
  rw [g1] at e
  cases e
  exact ⟨_, _, _, _, ns', by rw [upd_ne (h.ne n).symm]; exact g1, by rw [upd_ne (ne_of_none h2 n)]; exact g2, r⟩
theorem Sb.wr {b p : Addr} {H H' : Hp} {o : HO} (s : Sb b H H') (n : H p = none) : Sb b H (upd H' p o) := ⟨fun c u e => by
  obtain ⟨q1, q2⟩ := wo_of (s.1 c u e)
  rw [wo_ne q1, upd_ne (ne_of_none (wo_of e).2 n)]
  exact q2, fun n0 n1 n2 l e => by
  obtain ⟨m0, m1, m2, e1⟩ := s.2 n0 n1 n2 l e
  exact ⟨m0, m1, m2, by rw [upd_ne (ne_of_none e n)]; exact e1⟩⟩
theorem Sb.free {b p : Addr} {H H' : Hp} (h : Sb b H H') (hp : H' p = none) (n : p ≠ b) : H p = none := by
  cases e : H p with
  | none => rfl
  | some o => rw [h.get e n] at hp; cases hp
/-- what stood but for the bag: lists, tuples -/
theorem Sb.sl {K : PySem.W.Frag} {b a : Addr} {H H' : Hp} {xs : List V} (s : Sb b H H') (h : SqL K (wo H b) a xs) : SqL K (wo H' b) a xs := Same.seq s.1 h
theorem wo_same {H H' : Hp} {b : Addr} (m : Same H H') : Same (wo H b) (wo H' b) := fun c o e => by
  obtain ⟨q1, q2⟩ := wo_of e
  rw [wo_ne q1]
  exact m _ _ q2
theorem ints_at {ns : List Int} {i : Nat} {v : V} (h : (ns.map V.int)[i]? = some v) : ∃ z, ns[i]? = some z ∧ v = .int z := by
  rw [List.getElem?_map] at h
  obtain ⟨z, e, q⟩ := Option.map_eq_some_iff.mp h
  exact ⟨z, e, q.symm⟩
theorem cut_ints (ns : List Int) (lo hi : Option Int) : ∃ ms : List Int, cutV (ns.map V.int) lo hi = ms.map V.int ∧ (∀ n ∈ ms, n ∈ ns) ∧ ms.length ≤ ns.length := by
  refine ⟨(ns.drop (HT.sIx (ns.map V.int).length 0 lo)).take (HT.sIx (ns.map V.int).length (ns.map V.int).length hi - HT.sIx (ns.map V.int).length 0 lo), ?_, fun n h => List.mem_of_mem_drop (List.mem_of_mem_take h), ?_⟩
  · unfold cutV
    rw [List.map_take, List.map_drop]
  · rw [List.length_take, List.length_drop]
    omega
theorem same_new {H H' : Hp} {p : Addr} {o : HO} (h : Same H H') (n : H' p = none) : Same H (upd H' p o) := fun c u e => by
  rw [upd_ne (ne_of_none (h c u e) n)]
  exact h c u e
theorem same_put {H H' : Hp} {p : Addr} {o : HO} (h : Same H H') (n : H p = none) : Same H (upd H' p o) := fun c u e => by
  rw [upd_ne (ne_of_none e n)]
  exact h c u e
/-- a thing put amid is among -/
theorem put_perm {α : Type} {xs ys : List α} {x : α} {i j : Nat} (h : ys.Perm (xs.take i)) (hx : xs[i]? = some x) : (ys.take j ++ [x] ++ ys.drop j).Perm (xs.take (i + 1)) := by
  have e : xs.take (i + 1) = xs.take i ++ [x] := by rw [List.take_succ, hx]; rfl
  rw [e]
  have p1 : (ys.take j ++ [x] ++ ys.drop j).Perm (x :: ys) := by
    rw [List.append_assoc, List.singleton_append]
    refine List.perm_middle.trans ?_
    rw [List.take_append_drop]
  exact p1.trans ((h.cons x).trans (List.perm_append_singleton x (xs.take i)).symm)
/-- what the top has left of the built-in names -/
structure Nat0 (mg : Str → Option Value) : Prop where
  abs : mg "abs" = none
  int : mg "int" = none
  len : mg "len" = none
  repr : mg "repr" = none
  isi : mg "isinstance" = none
  range : mg "range" = none
  sorted : mg "sorted" = none
  tuple : mg "tuple" = none
  list_ : mg "list" = none
  dict : mg "dict" = none
  set_ : mg "set" = none
  sum : mg "sum" = none
  max : mg "max" = none
  min : mg "min" = none
  str : mg "str" = none
  all : mg "all" = none
  any : mg "any" = none
  zip : mg "zip" = none
end Y

namespace Y
open PySem PySem.Spec PyProof.Rows L2 Ns
open C8 (pss_cut)
def spBag (K : PySem.W.Frag) : Sp := fun as H Q _ => ∃ (a : Addr) (ns : List Int), as = [.ref a] ∧ SqL K H a (ns.map V.int) ∧ ns.length ≤ 63 ∧ ∀ (b : Addr) (H' : Hp), Bag H' b → H b = none → Same H H' → Q (.ref b) H'
def spTake : Sp := fun as H Q _ => ∃ (b : Addr) (m : Int), as = [.ref b, .int m] ∧ Bag H b ∧ 0 < m ∧ m.natAbs < 2 ^ 200 ∧ ∀ (v : Int) (H' : Hp), 0 ≤ v → v < m → Bag H' b → Sb b H H' → Q (.int v) H'
section
variable {P : Program} {w : World} {K : PySem.W.Frag} {mg : Str → Option Value} {base : Heap}
theorem scB : FnScope ["script", "cell"] ["script"] (defScope sBag) := ⟨rfl, rfl, rfl, by decide +kernel, rfl, by decide +kernel, by decide +kernel⟩
theorem ok_bag {f : Addr} {fd : FuncData} (F : Fun K "_law_bag" "_law_bag" sBag f fd) (T : Nat0 mg) : FnOk P w K mg base CX0 1 f fd ["script"] (spBag K) := by
  refine F.ok scB (fun as H Q E h => ?_) (fun cdv A outer s H as Q E hr h => ?_)
  · obtain ⟨a, ns, rfl, _⟩ := h
    rfl
  · obtain ⟨a, ns, rfl, hS, hl, k⟩ := h
    refine ⟨_, pss_one (ps_ret (pe_lst (pa_cons pe_int (pa_cons pe_int (pa_cons pe_int (pa_cons
      (pe_lc (own := [("cell", 1)]) (g := gName 1) (tt := tYes) rfl scB.nd (pi_list (pe_slice sl_list (pv 0) po_none (po_some pe_int))) (blkOk_by (N := ["script", "cell"]) (sc := defScope sBag) (by decide +kernel)) (fun _ _ _ _ _ => pg_name (i := 1) scB.nd rfl (Or.inl rfl)) (fun _ _ _ _ _ => pts_nil)
        (fun _ _ _ _ _ => pe_callB call_abs (by rfl) T.abs (by decide +kernel) (pa_cons (pv 1) pa_nil))) pa_nil)))))), ?_⟩
    obtain ⟨ms, ec, hin, hlm⟩ := cut_ints ns none (some 63)
    refine ⟨_, rfl, _, rfl, a, _, rfl, hS, fun p hp => ?_⟩
    rw [ec]
    have lm : ms.length ≤ 63 := Nat.le_trans hlm hl
    refine ⟨p, rfl, ⟨_, .inl (.inl upd_same)⟩, fun D hD => ?_⟩
    refine lc_list (K := K) (a := p) (xs := ms.map V.int) (fun i H' => ∃ ks : List Int, H' D = some (.lst (ks.map V.int)) ∧ ks.length = i ∧ (∀ n ∈ ks, 0 ≤ n) ∧ H' p = some (.lst (ms.map V.int)) ∧ Same H H') ?_ ?_ ?_ ?_
    · have npd : p ≠ D := fun e => by rw [← e, upd_same] at hD; cases hD
      refine ⟨[], upd_same, rfl, (fun _ z => nomatch z), by rw [upd_ne npd, upd_same], fun c o e => ?_⟩
      have hD' : H D = none := by rw [upd_ne npd.symm] at hD; exact hD
      rw [upd_ne (ne_of_none e hD'), upd_ne (ne_of_none e hp)]
      exact e
    · rintro i H' hi ⟨ks, _, _, _, h, _⟩
      exact .inl (.inl h)
    · rintro i x H' hx ⟨ks, h1, h2, h3, h4, h5⟩
      obtain ⟨z, hz, rfl⟩ := ints_at hx
      have hi : i < ms.length := (List.getElem?_eq_some_iff.mp hz).1
      refine ⟨rfl, _, rfl, z, rfl, ks.map V.int, h1, by rw [List.length_map, h2]; exact small1000 (by omega), ks ++ [if z < 0 then -z else z], ?_, ?_, ?_, ?_, ?_⟩
      · rw [upd_same, List.map_append]
        rfl
      · rw [List.length_append, h2]
        rfl
      · intro n hn
        rcases List.mem_append.mp hn with q | q
        · exact h3 n q
        · rw [List.mem_singleton] at q
          subst q
          split <;> omega
      · have npd : p ≠ D := fun e => by rw [← e, upd_same] at hD; cases hD
        rw [upd_ne npd]
        exact h4
      · intro c o e
        have hD' : H D = none := by
          have npd : p ≠ D := fun e => by rw [← e, upd_same] at hD; cases hD
          rw [upd_ne npd.symm] at hD
          exact hD
        rw [upd_ne (ne_of_none e hD')]
        exact h5 c o e
    · rintro H' ⟨ks, h1, h2, h3, h4, h5⟩
      rw [List.length_map] at h2
      refine ⟨by show 4 ≤ sizeLine; decide, fun b hb => ?_⟩
      refine k b _ ⟨0, 1234567891, 0, D, ks, upd_same, by rw [upd_ne (ne_of_none h1 hb)]; exact h1, ne_of_none h1 hb, by decide, by decide, by decide, by decide, h3, by omega⟩ (h5.free hb) fun c o e => ?_
      rw [upd_ne (ne_of_none (h5 c o e) hb)]
      exact h5 c o e
end
section
variable {P : Program} {w : World} {K : PySem.W.Frag} {mg : Str → Option Value} {base : Heap}
theorem scT : FnScope ["bag", "many", "cell", "stirred", "value", "begin", "second"] ["bag", "many"] (defScope sTake) := ⟨rfl, rfl, rfl, by decide +kernel, rfl, by decide +kernel, by decide +kernel⟩
theorem at0 {α : Type} {x : α} {xs : List α} : atI (x :: xs) (0 : Int) = some x := atI_nat (j := 0) rfl
theorem at1 {α : Type} {x y : α} {xs : List α} : atI (x :: y :: xs) (1 : Int) = some y := atI_nat (j := 1) rfl
theorem at2 {α : Type} {x y z : α} {xs : List α} : atI (x :: y :: z :: xs) (2 : Int) = some z := atI_nat (j := 2) rfl
theorem at3 {α : Type} {x y z u : α} {xs : List α} : atI (x :: y :: z :: u :: xs) (3 : Int) = some u := atI_nat (j := 3) rfl
theorem fm {x m : Int} (h : 0 < m) : 0 ≤ x.fmod m ∧ x.fmod m < m := by
  rw [Int.fmod_eq_emod_of_nonneg x (by omega)]
  exact ⟨Int.emod_nonneg _ (by omega), Int.emod_lt_of_pos _ h⟩
theorem head_int {ms : List Int} (h : ∀ n ∈ ms, 0 ≤ n) : ∃ z : Int, 0 ≤ z ∧ atI (ms.map V.int ++ [V.int 0]) (0 : Int) = some (.int z) := by
  cases ms with
  | nil => exact ⟨0, by decide, at0⟩
  | cons n ms => exact ⟨n, h n List.mem_cons_self, at0⟩
theorem ok_take {f : Addr} {fd : FuncData} (F : Fun K "_law_take" "_law_take" sTake f fd) (T : Nat0 mg) : FnOk P w K mg base CX0 1 f fd ["bag", "many"] spTake := by
  refine F.ok scT (fun as H Q E h => ?_) (fun cdv A outer s H as Q E hr h => ?_)
  · obtain ⟨b, m, rfl, _⟩ := h
    rfl
  · obtain ⟨b, m, rfl, hB, hm, hmz, k⟩ := h
    refine ⟨_, pss_cut (ps_if (pt_cmpR op_eq (pe_ix ix_list (pv 0) pe_int (fun _ _ => rfl)) pe_int (nomark _))
        (pss_cons (ps_set (i := 2) scT.nd rfl (.inl rfl) (pe_ix ix_list (pe_op op_cat (pe_slice sl_list (pe_ix ix_list (pv 0) pe_int (fun _ _ => rfl)) (po_some (pe_ix ix_list (pv 0) pe_int (fun _ _ => rfl))) po_none) (pe_lst (pa_cons pe_int pa_nil))) pe_int (fun _ _ => rfl)))
        (pss_cons (ps_augS (pv 0) pe_int get_list pe_int ip_add set_list)
        (pss_cut (ps_if (pt_cmpR op_ge (pv 2) (pe_op op_pow pe_int pe_int) (nomark _)) (pss_one (ps_asg (pv 2) (pg_sub (pv 0) pe_int set_list))) pss_nil)
        (pss_cons (ps_set (i := 3) scT.nd rfl (.inl rfl) (pe_op op_add (pe_op op_add (pe_op op_mul (pe_ix ix_list (pv 0) pe_int (fun _ _ => rfl)) pe_int)
            (pe_op op_modN (pe_callTy call_int1 (by rfl) T.int (by decide +kernel) (pa_cons (pv 2) pa_nil)) pe_int)) (pe_op op_mul pe_int (pe_ix ix_list (pv 0) pe_int (fun _ _ => rfl)))))
        (pss_one (ps_asg (pe_op op_modN (pe_callTy call_int1 (by rfl) T.int (by decide +kernel) (pa_cons (pv 3) pa_nil)) pe_int) (pg_sub (pv 0) pe_int set_list))))))) pss_nil)
      (pss_cons (ps_if (pt_cmpR op_gt (pe_ix ix_list (pv 0) pe_int (fun _ _ => rfl)) pe_int (nomark _))
        (pss_cons (ps_set (i := 4) scT.nd rfl (.inl rfl) (pe_op op_modN (pe_callTy call_int1 (by rfl) T.int (by decide +kernel) (pa_cons (pe_ix ix_list (pv 0) pe_int (fun _ _ => rfl)) pa_nil)) (pv 1)))
        (pss_cons (ps_asg (pe_op op_fdivW (pe_callTy call_int1 (by rfl) T.int (by decide +kernel) (pa_cons (pe_ix ix_list (pv 0) pe_int (fun _ _ => rfl)) pa_nil)) (pv 1)) (pg_sub (pv 0) pe_int set_list))
        (pss_one (ps_ret (pv 4))))) pss_nil)
      (pss_cons (ps_set (i := 5) scT.nd rfl (.inl rfl) (pe_op op_modN (pe_callTy call_int1 (by rfl) T.int (by decide +kernel) (pa_cons (pe_op op_mul (pe_op op_add (pe_ix ix_list (pv 0) pe_int (fun _ _ => rfl)) pe_int) pe_int) pa_nil)) pe_int))
      (pss_cons (ps_set (i := 6) scT.nd rfl (.inl rfl) (pe_op op_modN (pe_callTy call_int1 (by rfl) T.int (by decide +kernel) (pa_cons (pe_op op_mul (pe_op op_modN (pe_callTy call_int1 (by rfl) T.int (by decide +kernel) (pa_cons (pe_op op_mul (pv 5) (pv 5)) pa_nil)) pe_int) pe_int) pa_nil)) pe_int))
      (pss_one (ps_ret (pe_op op_modN (pe_callTy call_int1 (by rfl) T.int (by decide +kernel) (pa_cons (pe_op op_fdivN (pv 6) pe_int) pa_nil)) (pv 1))))))), ?_⟩
    refine ⟨fun σ' H' => ∃ c s : Option V, σ' = [some (.ref b), some (.int m), c, s, none, none, none] ∧ Bag H' b ∧ Sb b H H', ?_, ?_⟩
    · obtain ⟨n0, n1, n2, l, ns, h1, h2, hlb, z0, z1, z1', z2, hn, hlen⟩ := id hB
      refine ⟨_, rfl, b, _, _, _, rfl, rfl, SqL.of h1, at0, rfl, _, rfl, ?_⟩
      refine ite2 (fun c => ?_) (fun c => ⟨none, none, rfl, hB, Sb.refl _ _⟩)
      obtain ⟨ms, ec, hin, hlm⟩ := cut_ints ns (some n2) none
      refine ⟨_, rfl, b, _, _, _, rfl, rfl, SqL.of h1, at3, _, rfl, b, _, _, _, rfl, rfl, SqL.of h1, at2, n2, rfl, l, _, rfl, SqL.of h2, fun p hp => ?_⟩
      rw [ec]
      refine ⟨by show 1 ≤ sizeLine; decide, fun q hq => ?_⟩
      have npq : p ≠ q := fun e => by rw [← e, upd_same] at hq; cases hq
      have lmz : (ms.map V.int).length + [V.int 0].length ≤ sizeLine := by
        rw [List.length_map]
        exact Nat.le_of_lt (small1000 (show ms.length + 1 ≤ 1000 by omega))
      refine ⟨p, q, _, _, rfl, rfl, by rw [upd_ne npq, upd_same], upd_same, lmz, fun r hr => ?_⟩
      obtain ⟨z, hz, hat⟩ := head_int (ms := ms) fun n h => hn n (hin n h)
      refine ⟨r, _, _, _, rfl, rfl, SqL.of upd_same, hat, ?_⟩
      have hb3 : upd (upd (upd H p (.lst (ms.map V.int))) q (.lst [V.int 0])) r (.lst (ms.map V.int ++ [V.int 0])) b = some (.lst [.int n0, .int n1, .int n2, .ref l]) := by
        have e1 : upd H p (.lst (ms.map V.int)) b = some (.lst [.int n0, .int n1, .int n2, .ref l]) := by rw [upd_ne (ne_of_none h1 hp)]; exact h1
        have e2 : upd (upd H p (.lst (ms.map V.int))) q (.lst [V.int 0]) b = some (.lst [.int n0, .int n1, .int n2, .ref l]) := by rw [upd_ne (ne_of_none e1 hq)]; exact e1
        rw [upd_ne (ne_of_none e2 hr)]
        exact e2
      have hl3 : upd (upd (upd H p (.lst (ms.map V.int))) q (.lst [V.int 0])) r (.lst (ms.map V.int ++ [V.int 0])) l = some (.lst (ns.map V.int)) := by
        have e1 : upd H p (.lst (ms.map V.int)) l = some (.lst (ns.map V.int)) := by rw [upd_ne (ne_of_none h2 hp)]; exact h2
        have e2 : upd (upd H p (.lst (ms.map V.int))) q (.lst [V.int 0]) l = some (.lst (ns.map V.int)) := by rw [upd_ne (ne_of_none e1 hq)]; exact e1
        rw [upd_ne (ne_of_none e2 hr)]
        exact e2
      have sb3 : Sb b H (upd (upd (upd H p (.lst (ms.map V.int))) q (.lst [V.int 0])) r (.lst (ms.map V.int ++ [V.int 0]))) := (((Sb.refl b H).new hp).new hq).new hr
      generalize upd (upd (upd H p (.lst (ms.map V.int))) q (.lst [V.int 0])) r (.lst (ms.map V.int ++ [V.int 0])) = H3 at hb3 hl3 sb3 ⊢
      refine ⟨_, rfl, b, _, _, _, rfl, rfl, SqL.of hb3, at2, n2, 1, rfl, rfl, b, _, _, 2, rfl, rfl, hb3, rfl, ?_⟩
      refine ⟨fun σ' H' => ∃ n0' : Int, σ' = [some (.ref b), some (.int m), some (.int z), none, none, none, none] ∧ H' b = some (.lst [.int n0', .int n1, .int (n2 + 1), .ref l]) ∧ H' l = some (.lst (ns.map V.int)) ∧ 0 ≤ n0' ∧ Sb b H H', ?_, ?_⟩
      · have hb4 : upd H3 b (.lst (([.int n0, .int n1, .int n2, .ref l] : List V).set 2 (.int (n2 + 1)))) b = some (.lst [.int n0, .int n1, .int (n2 + 1), .ref l]) := upd_same
        have hl4 : upd H3 b (.lst (([.int n0, .int n1, .int n2, .ref l] : List V).set 2 (.int (n2 + 1)))) l = some (.lst (ns.map V.int)) := by rw [upd_ne hlb]; exact hl3
        have sb4 : Sb b H (upd H3 b (.lst (([.int n0, .int n1, .int n2, .ref l] : List V).set 2 (.int (n2 + 1))))) := sb3.put hb3
        generalize upd H3 b (.lst (([.int n0, .int n1, .int n2, .ref l] : List V).set 2 (.int (n2 + 1)))) = H4 at hb4 hl4 sb4 ⊢
        refine ⟨_, rfl, 10, 18, rfl, rfl, ⟨by decide, by decide, by decide⟩, z, _, rfl, rfl, _, rfl, ?_⟩
        refine ite2 (fun _ => ?_) (fun _ => ⟨n0, rfl, hb4, hl4, z0, sb4⟩)
        exact ⟨_, rfl, _, rfl, b, _, _, 0, rfl, rfl, hb4, rfl, z, rfl, upd_same, by rw [upd_ne hlb]; exact hl4, hz, sb4.put hb4⟩
      · rintro σ' H' ⟨n0', rfl, hb5, hl5, z0', sb5⟩
        refine ⟨_, rfl, b, _, _, _, rfl, rfl, SqL.of hb5, at1, n1, _, rfl, rfl, .inl ⟨by omega, by omega⟩, _, rfl, .inl ⟨z, rfl, z, _, rfl, rfl, (show (2147483647 : Int) ≠ 0 by decide), _, _, rfl, rfl, _, rfl, b, _, _, _, rfl, rfl, SqL.of hb5, at2, 7919, _, rfl, rfl, .inl ⟨by decide, by decide⟩, _, _, rfl, rfl, ?_⟩⟩
        refine ⟨_, rfl, .inl ⟨_, rfl, _, _, rfl, rfl, (show (2147483647 : Int) ≠ 0 by decide), _, rfl, b, _, _, 1, rfl, rfl, hb5, rfl, ?_⟩⟩
        exact ⟨_, _, rfl, ⟨n0', _, n2 + 1, l, ns, upd_same, by rw [upd_ne hlb]; exact hl5, hlb, z0', (fm (by decide)).1, (fm (by decide)).2, by omega, hn, hlen⟩, sb5.put hb5⟩
    · rintro σ' H' ⟨c, s', rfl, hB', sb⟩
      obtain ⟨n0, n1, n2, l, ns, h1, h2, hlb, z0, z1, z1', z2, hn, hlen⟩ := id hB'
      refine ⟨_, rfl, b, _, _, _, rfl, rfl, SqL.of h1, at0, _, _, rfl, rfl, _, rfl, ?_⟩
      refine ite2 (fun _ => ?_) (fun _ => ?_)
      · refine ⟨_, rfl, b, _, _, _, rfl, rfl, SqL.of h1, at0, .inl ⟨n0, rfl, _, rfl, n0, m, rfl, rfl, by omega, ?_⟩⟩
        refine ⟨_, rfl, b, _, _, _, rfl, rfl, SqL.of h1, at0, .inl ⟨n0, rfl, _, rfl, n0, m, rfl, rfl, wide_div hm hmz (by decide) (by decide), _, rfl, b, _, _, 0, rfl, rfl, h1, rfl, ?_⟩⟩
        refine ⟨_, rfl, k _ _ (fm hm).1 (fm hm).2 ⟨n0 / m, n1, n2, l, ns, upd_same, by rw [upd_ne hlb]; exact h2, hlb, Int.ediv_nonneg z0 (by omega), z1, z1', z2, hn, hlen⟩ (sb.put h1)⟩
      · have b1 := fm (x := (n1 + 1) * 39373) (m := 1000000007) (by decide)
        refine ⟨_, rfl, b, _, _, _, rfl, rfl, SqL.of h1, at1, n1, 1, rfl, rfl, n1 + 1, _, rfl, rfl, .inl ⟨by omega, by omega⟩, .inl ⟨_, rfl, _, _, rfl, rfl, (show (1000000007 : Int) ≠ 0 by decide), ?_⟩⟩
        have b2 := fm (x := ((n1 + 1) * 39373).fmod 1000000007 * ((n1 + 1) * 39373).fmod 1000000007) (m := 998244353) (by decide)
        refine ⟨_, rfl, _, rfl, _, _, rfl, rfl, .inl ⟨by omega, by omega⟩, .inl ⟨_, rfl, _, _, rfl, rfl, (show (998244353 : Int) ≠ 0 by decide), _, _, rfl, rfl, .inl ⟨by omega, by omega⟩, .inl ⟨_, rfl, _, _, rfl, rfl, (show (998244353 : Int) ≠ 0 by decide), ?_⟩⟩⟩
        exact ⟨_, rfl, _, _, rfl, rfl, ⟨by decide, by decide⟩, .inl ⟨_, rfl, _, rfl, _, m, rfl, rfl, by omega, k _ _ (fm hm).1 (fm hm).2 hB' sb⟩⟩
end
end Y

namespace Y
open PySem PySem.Spec PyProof.Rows L2 Ns
open C8 (pss_cut)
def spSome (K : PySem.W.Frag) : Sp := fun as H Q _ => ∃ (b a : Addr) (xs : List V), as = [.ref b, .ref a] ∧ Bag H b ∧ SqL K (wo H b) a xs ∧ xs ≠ [] ∧ xs.length ≤ 1000000 ∧ ∀ (x : V) (H' : Hp), x ∈ xs → Bag H' b → Sb b H H' → Q x H'
section
variable {P : Program} {w : World} {K : PySem.W.Frag} {mg : Str → Option Value} {base : Heap}
theorem scS : FnScope ["bag", "things"] ["bag", "things"] (defScope sSome) := ⟨rfl, rfl, rfl, by decide +kernel, rfl, by decide +kernel, by decide +kernel⟩
theorem ok_some {f fT : Addr} {fd fdT : FuncData} (F : Fun K "_law_some" "_law_some" sSome f fd) (T : Nat0 mg) (FT : Fun K "_law_take" "_law_take" sTake fT fdT) (mT : mg "_law_take" = some (.ref fT)) (bT : Binds K fdT ["bag", "many"] []) :
    FnOk P w K mg base CX0 2 f fd ["bag", "things"] (spSome K) := by
  have GT : FnOk P w K mg base CX0 1 fT fdT ["bag", "many"] spTake := ok_take FT T
  refine F.ok scS (fun as H Q E h => ?_) (fun cdv A outer s H as Q E hr h => ?_)
  · obtain ⟨b, a, xs, rfl, _⟩ := h
    rfl
  · obtain ⟨b, a, xs, rfl, hB, hS, hne, hl, k⟩ := h
    have pos : 0 < xs.length := List.length_pos_iff.mpr hne
    refine ⟨_, pss_one (ps_ret (pe_ix ix_list (pv 1) (pe_call GT hr rfl mT FT.kp bT .nil pass0 (pa_cons (pv 0) (pa_cons (pe_callB call_len_seq (by rfl) T.len PySem.boot_len (pa_cons (pv 1) pa_nil)) pa_nil))) (fun _ _ => rfl))), ?_⟩
    refine ⟨_, rfl, _, rfl, _, rfl, a, _, rfl, .inl ((wo_sub H b).seq hS), b, _, rfl, hB, by omega, ?_, fun v H' h0 h1 hB' sb => ?_⟩
    · exact Nat.lt_of_le_of_lt (show ((xs.length : Int)).natAbs ≤ 1000000 by omega) (by decide)
    · have hi : v.toNat < xs.length := by omega
      have e : v = ((v.toNat : Nat) : Int) := by omega
      have hx : xs[v.toNat]? = some xs[v.toNat] := List.getElem?_eq_getElem hi
      obtain ⟨x, ex⟩ : ∃ x, xs[v.toNat]? = some x := ⟨_, hx⟩
      exact ⟨a, xs, v, x, rfl, rfl, (wo_sub H' b).seq (sb.sl hS), by rw [e]; exact atI_nat ex, k _ _ (List.mem_of_getElem? ex) hB' sb⟩
end
end Y

/-! NsD: how long the text of data is. -/
namespace Ns
open PySem PySem.Spec PyProof.Rows L2
/-- shown in at most m signs, nested at most k deep -/
def Fit (m k : Nat) (d : PyData) : Prop := d.showable = true ∧ d.shown.length ≤ m ∧ d.depth ≤ k
theorem Fit.mono {m m' k k' : Nat} {d : PyData} (h : Fit m k d) (hm : m ≤ m') (hk : k ≤ k') : Fit m' k' d := ⟨h.1, Nat.le_trans h.2.1 hm, Nat.le_trans h.2.2 hk⟩
theorem sum_le {m : Nat} : ∀ {l : List Nat}, (∀ n ∈ l, n ≤ m) → l.sum ≤ l.length * m
  | [], _ => Nat.zero_le _
  | n :: l, h => by
    have h1 := h n List.mem_cons_self
    have h2 := sum_le (l := l) fun k hk => h k (List.mem_cons_of_mem _ hk)
    rw [List.sum_cons, List.length_cons, Nat.succ_mul]
    omega
theorem depthAll_le {k : Nat} : ∀ {ds : List PyData}, (∀ d ∈ ds, d.depth ≤ k) → PyData.depthAll ds ≤ k
  | [], _ => by simp [PyData.depthAll]
  | d :: ds, h => by
    simp only [PyData.depthAll]
    exact Nat.max_le.mpr ⟨h d List.mem_cons_self, depthAll_le fun e he => h e (List.mem_cons_of_mem _ he)⟩
theorem mem_shown : ∀ {ds : List PyData} {t : Str}, t ∈ PyData.shownAll ds → ∃ d ∈ ds, t = d.shown
  | [], t, h => by rw [PyData.shownAll_nil] at h; exact nomatch h
  | d :: ds, t, h => by
    rw [PyData.shownAll_cons] at h
    rcases List.mem_cons.mp h with e | e
    · exact ⟨d, List.mem_cons_self, e⟩
    · obtain ⟨d', h1, h2⟩ := mem_shown e
      exact ⟨d', List.mem_cons_of_mem _ h1, h2⟩
theorem lens_le {m k : Nat} {ds : List PyData} (h : ∀ d ∈ ds, Fit m k d) : ((PyData.shownAll ds).map (·.length)).sum ≤ ds.length * m := by
  have e : ((PyData.shownAll ds).map (·.length)).length = ds.length := by rw [List.length_map, PyData.shownAll_length]
  have z := sum_le (l := (PyData.shownAll ds).map (·.length)) (m := m) fun n hn => by
    obtain ⟨t, ht, rfl⟩ := List.mem_map.mp hn
    obtain ⟨d, hd, rfl⟩ := mem_shown ht
    exact (h d hd).2.1
  rw [e] at z
  exact z
theorem fit_list {m k : Nat} {ds : List PyData} (h : ∀ d ∈ ds, Fit m k d) : Fit (ds.length * (m + 2) + 3) (k + 1) (.list ds) := by
  refine ⟨?_, ?_, ?_⟩
  · simp only [PyData.showable]
    exact showableAll_of fun d hd => (h d hd).1
  · simp only [PyData.shown]
    have z1 := listText_len_le (PyData.shownAll ds)
    have z2 := lens_le h
    rw [PyData.shownAll_length] at z1
    rw [Nat.mul_add]
    omega
  · have e : (PyData.list ds).depth = PyData.depthAll ds + 1 := by simp only [PyData.depth] <;> omega
    rw [e]
    exact Nat.succ_le_succ (depthAll_le fun d hd => (h d hd).2.2)
theorem fit_tuple {m k : Nat} {ds : List PyData} (h : ∀ d ∈ ds, Fit m k d) : Fit (ds.length * (m + 2) + 3) (k + 1) (.tuple ds) := by
  refine ⟨?_, ?_, ?_⟩
  · simp only [PyData.showable]
    exact showableAll_of fun d hd => (h d hd).1
  · simp only [PyData.shown]
    have z1 := tupleText_len_le (PyData.shownAll ds)
    have z2 := lens_le h
    rw [PyData.shownAll_length] at z1
    rw [Nat.mul_add]
    omega
  · have e : (PyData.tuple ds).depth = PyData.depthAll ds + 1 := by simp only [PyData.depth] <;> omega
    rw [e]
    exact Nat.succ_le_succ (depthAll_le fun d hd => (h d hd).2.2)
theorem kvs_le {m k : Nat} : ∀ {kvs : List (PyData × PyData)}, (∀ p ∈ kvs, Fit m k p.1 ∧ Fit m k p.2) → ((PyData.shownKv kvs).map (·.length)).sum ≤ kvs.length * (2 * m + 2) ∧ PyData.depthKv kvs ≤ k
  | [], _ => by simp [PyData.shownKv, PyData.depthKv]
  | (a, b) :: r, h => by
    obtain ⟨h1, h2⟩ := h (a, b) List.mem_cons_self
    obtain ⟨z1, z2⟩ := kvs_le (kvs := r) fun p hp => h p (List.mem_cons_of_mem _ hp)
    have e : (a.shown ++ ": " ++ b.shown).length = a.shown.length + 2 + b.shown.length := by
      rw [strLen_append, strLen_append]
      rfl
    have y1 := h1.2.1
    have y2 := h2.2.1
    refine ⟨?_, ?_⟩
    · rw [PyData.shownKv_cons, List.map_cons, List.sum_cons, List.length_cons, Nat.succ_mul, e]
      have y1' : a.shown.length ≤ m := y1
      have y2' : b.shown.length ≤ m := y2
      omega
    · have y3 : a.depth ≤ k := h1.2.2
      have y4 : b.depth ≤ k := h2.2.2
      simp only [PyData.depthKv]
      omega
theorem fit_dict {m k : Nat} {kvs : List (PyData × PyData)} (h : ∀ p ∈ kvs, Fit m k p.1 ∧ Fit m k p.2) : Fit (kvs.length * (2 * m + 4) + 3) (k + 1) (.dict kvs) := by
  obtain ⟨z1, z2⟩ := kvs_le h
  refine ⟨?_, ?_, ?_⟩
  · simp only [PyData.showable]
    exact showableKv_of fun p hp => ⟨(h p hp).1.1, (h p hp).2.1⟩
  · simp only [PyData.shown]
    have y := dictText_len_le (PyData.shownKv kvs)
    rw [PyData.shownKv_length] at y
    have e : kvs.length * (2 * m + 4) = kvs.length * (2 * m + 2) + 2 * kvs.length := by
      rw [Nat.mul_add, Nat.mul_add]
      omega
    omega
  · have e : (PyData.dict kvs).depth = PyData.depthKv kvs + 1 := by simp only [PyData.depth] <;> omega
    omega
theorem fit_int {i : Int} {n : Nat} (h0 : 0 < n) (h : i.natAbs < 10 ^ n) (hn : n ≤ 500) : Fit (n + 1) 0 (.int i) := by
  have z : (10 : Nat) ^ n < 2 ^ 1920 := Nat.lt_of_le_of_lt (Nat.pow_le_pow_right (by decide) hn) (by decide +kernel)
  refine ⟨decide_eq_true (log2_small (Nat.lt_trans h z)), ?_, by simp [PyData.depth]⟩
  rw [PyData.shown_int, PySem.ofString_length]
  exact int_text_length_le10 h0 h
/-- a datum is equal to itself -/
theorem eqv_self {K : PySem.W.Frag} {H : Hp} {x : V} {d : PyData} (D : DatV K H x d) (n : Nat) : EqV K H (n + 1) x x := by
  cases D with
  | non => exact .inl ⟨rfl, rfl⟩
  | bl b => exact .inl ⟨rfl, rfl⟩
  | int i => exact .inl ⟨rfl, rfl⟩
  | str y => exact .inl ⟨rfl, rfl⟩
  | lst _ _ => exact .inr (.inl ⟨_, rfl, rfl⟩)
  | tup _ _ => exact .inr (.inl ⟨_, rfl, rfl⟩)
  | dic _ _ => exact .inr (.inl ⟨_, rfl, rfl⟩)
theorem paired_rep {α β : Type} {F : α → β → Prop} {a : α} {b : β} (h : F a b) : ∀ n : Nat, Paired F (List.replicate n a) (List.replicate n b)
  | 0 => .nil
  | n + 1 => .cons h (paired_rep h n)
theorem datA_rep {K : PySem.W.Frag} {H : Hp} {x : V} {d : PyData} (D : DatV K H x d) : ∀ n : Nat, DatA K H (List.replicate n x) (List.replicate n d)
  | 0 => .nil
  | n + 1 => .cons D (datA_rep D n)
end Ns

/-! NsE: == of equal nested lists, tuples and dicts. -/
namespace Ns
open PySem PySem.Spec PyProof.Rows L2
/-- two tuples of equal items -/
def EqU (K : PySem.W.Frag) (H : Hp) (E : V → V → Prop) (x y : V) : Prop := ∃ a b xs ys, x = .ref a ∧ y = .ref b ∧ SqT K H a xs ∧ SqT K H b ys ∧ Paired E xs ys
/-- equal, of nesting below n, tuples too -/
def EqT (K : PySem.W.Frag) (H : Hp) : Nat → V → V → Prop
  | 0 => fun _ _ => False
  | n + 1 => fun x y => (x = y ∧ flatB x = true) ∨ (∃ a, x = .ref a ∧ y = .ref a) ∨ EqR K H (EqT K H n) x y ∨ EqU K H (EqT K H n) x y
section
variable {X : Cx} {pins : List (Addr × Obj)} {σ : L2.St} {H : Hp} {s : Shared}
theorem eqU_run (I : Inv X pins σ H s) {A : Around} {F : V → V → Prop} (hu : A.units < cLine) (ih : ∀ x y v u, F x y → RelV x v → RelV y u → SeqAt.EqP X.prog X.w A.in1 s v u true) {x y : V} {v u : Value} (h : EqU X.K H F x y) (rx : RelV x v) (ry : RelV y u)
    (E Q : Value → Shared → Prop) (q : Q (.bool true) s) : wpAny (model X.prog X.w) A (richCompare .Eq v u) Q E s := by
  obtain ⟨a, b, xs, ys, rfl, rfl, ha, hb, hp⟩ := h
  cases (show v = Value.ref a from rx)
  cases (show u = Value.ref b from ry)
  obtain ⟨us, r1, ⟨o1, h1, h2, n1, h3⟩, _⟩ := I.tuple ha
  obtain ⟨ws, r2, ⟨o2, g1, g2, n2, g3⟩, _⟩ := I.tuple hb
  have hsz : us.toArray.size = ws.toArray.size := by
    rw [List.size_toArray, List.size_toArray, ← r1.length, ← r2.length]
    exact Paired.length hp
  refine SeqAt.rcIn_tuples (e := fun _ => true) ⟨o1, h1, h2, n1, h3⟩ ⟨o2, g1, g2, n2, g3⟩ hu (fun j h1 h2 => ?_) ?_
  · have k := items_run ih hp r1 r2 j (by simpa using h1) (by simpa using h2)
    simp only [List.getElem_toArray]
    exact fun E Q q => k E Q q
  · rw [hsz, show ((List.range (min ws.toArray.size ws.toArray.size)).all fun _ => true) = true from List.all_eq_true.mpr fun _ _ => rfl]
    simpa using q
theorem eqT_run (I : Inv X pins σ H s) : ∀ (n : Nat) (A : Around), A.units + n < cLine → ∀ (x y : V) (v u : Value), EqT X.K H n x y → RelV x v → RelV y u → SeqAt.EqP X.prog X.w A s v u true
  | 0, _, _, _, _, _, _, h, _, _ => (show False from h).elim
  | n + 1, A, hu, x, y, v, u, h, rx, ry => by
    have ih := eqT_run I n A.in1 (by show A.units + 1 + n < cLine; omega)
    rcases h with ⟨rfl, f⟩ | ⟨a, rfl, rfl⟩ | h | h
    · exact (eqAt_same rx ry f).eqP
    · cases (show v = Value.ref a from rx)
      cases (show u = Value.ref a from ry)
      exact (SeqAt.EqAt.same _).eqP
    · have step := eqR_run I (A := A) (by omega) ih h rx ry
      obtain ⟨a, b, rfl, rfl⟩ : ∃ a b, x = .ref a ∧ y = .ref b := by
        rcases h with ⟨a, b, _, _, e1, e2, _⟩ | ⟨a, b, _, _, e1, e2, _⟩
        · exact ⟨a, b, e1, e2⟩
        · exact ⟨a, b, e1, e2⟩
      cases (show v = Value.ref a from rx)
      cases (show u = Value.ref b from ry)
      by_cases e : a = b
      · subst e
        exact (SeqAt.EqAt.same _).eqP
      · exact SeqAt.eqP_refs e step
    · have step := eqU_run I (A := A) (by omega) ih h rx ry
      obtain ⟨a, b, _, _, rfl, rfl, _⟩ := h
      cases (show v = Value.ref a from rx)
      cases (show u = Value.ref b from ry)
      by_cases e : a = b
      · subst e
        exact (SeqAt.EqAt.same _).eqP
      · exact SeqAt.eqP_refs e step
end
/-- flat, or a list, a tuple, a dict, the two of them equal -/
def EqS (K : PySem.W.Frag) (H : Hp) (n : Nat) (x y : V) : Prop := EqR K H (EqT K H n) x y ∨ EqU K H (EqT K H n) x y
section
variable {X : Cx}
/-- a == b, equal: flat ones, or lists, tuples, dicts -/
def rEqT (K : PySem.W.Frag) : R2 := fun x y H Q => ((x = y ∧ ((∃ i, x = .int i) ∨ (∃ z, x = .str z) ∨ x = .non ∨ ∃ b, x = .bl b)) ∨ ∃ n, n ≤ 60 ∧ EqS K H n x y) ∧ Q (.bl true) H
theorem op_eqT (hu : X.A.units + 64 < cLine) : OpR X (compareOp .Eq) (rEqT X.K) := by
  intro pins s σ H x y v u Q I rx ry h
  obtain ⟨h, q⟩ := h
  have qq : EP X pins σ Q (Value.bool true) s := ⟨.bl true, H, I, rfl, q⟩
  rcases h with ⟨rfl, ⟨i, rfl⟩ | ⟨z, rfl⟩ | rfl | ⟨b, rfl⟩⟩ | ⟨n, hn, h | h⟩
  · obtain ⟨t, rfl⟩ := (show ∃ t, v = Value.int i t from rx)
    obtain ⟨t', rfl⟩ := (show ∃ t, u = Value.int i t from ry)
    exact SeqAt.RcAt.int_int i t i t' _ _ _ _ (by rw [beq_self_eq_true]; exact qq)
  · obtain ⟨t, rfl⟩ := (show ∃ t, v = Value.str z t from rx)
    obtain ⟨t', rfl⟩ := (show ∃ t, u = Value.str z t from ry)
    exact SeqAt.RcAt.str_str z t z t' _ _ _ _ (by rw [beq_self_eq_true]; exact qq)
  · cases (show v = Value.none from rx)
    cases (show u = Value.none from ry)
    exact SeqAt.RcAt.none_none _ _ _ _ qq
  · cases (show v = Value.bool b from rx)
    cases (show u = Value.bool b from ry)
    exact SeqAt.RcAt.bool_bool b b _ _ _ _ (by rw [beq_self_eq_true]; exact qq)
  · exact eqR_run I (A := X.A) (by omega) (eqT_run I n X.A.in1 (by show X.A.units + 1 + n < cLine; omega)) h rx ry _ _ qq
  · exact eqU_run I (A := X.A) (by omega) (eqT_run I n X.A.in1 (by show X.A.units + 1 + n < cLine; omega)) h rx ry _ _ qq
end
end Ns

namespace Y
open PySem PySem.Spec PyProof.Rows L2 Ns
/-- equal data: True -/
def spAlike (K : PySem.W.Frag) : Sp := fun as H Q _ => ∃ (x y : V) (d : PyData), as = [x, y] ∧ ((x = y ∧ ((∃ i, x = .int i) ∨ (∃ z, x = .str z) ∨ x = .non ∨ ∃ b, x = .bl b)) ∨ ∃ n, n ≤ 60 ∧ EqS K H n x y) ∧ DatV K H x d ∧ DatV K H y d ∧ d.showable = true ∧ d.shown.length ≤ sizeLine ∧ d.depth ≤ 60 ∧ Q (.bl true) H
section
variable {P : Program} {w : World} {K : PySem.W.Frag} {mg : Str → Option Value} {base : Heap}
theorem scA : FnScope ["found", "due"] ["found", "due"] (defScope sAlike) := ⟨rfl, rfl, rfl, by decide +kernel, rfl, by decide +kernel, by decide +kernel⟩
theorem ok_alike {f : Addr} {fd : FuncData} (F : Fun K "_law_alike" "_law_alike" sAlike f fd) (T : Nat0 mg) : GnOk P w K mg base 1 f fd ["found", "due"] (spAlike K) := by
  refine Fun.okG F scA (fun as H Q E h => ?_) (fun cdv A outer s H as Q E hr hgd h => ?_)
  · obtain ⟨x, y, d, rfl, _⟩ := h
    rfl
  · obtain ⟨x, y, d, rfl, he, dx, dy, hs, hz, hd, k⟩ := h
    have hu : (A.deeper (envOfC "_law_alike" (defScope sAlike) s.heap.objs.size f cdv)).units + 64 < cLine := hr.units
    refine ⟨_, pss_one (ps_ret (pe_and (pe_cmpR (op_eqT hu) (pv 0) (pv 1) (nomark _)) (pe_one (pe_cmpR op_eq
      (pe_callB (call_reprD hgd hu) (by rfl) T.repr (by decide +kernel) (pa_cons (pv 0) pa_nil)) (pe_callB (call_reprD hgd hu) (by rfl) T.repr (by decide +kernel) (pa_cons (pv 1) pa_nil)) (nomark _))))), ?_⟩
    refine ⟨_, rfl, _, rfl, he, true, rfl, ?_⟩
    refine iteT ?_
    refine ⟨_, rfl, x, d, rfl, dx, hs, hz, hd, _, rfl, y, d, rfl, dy, hs, hz, hd, rfl, ?_⟩
    rw [decide_eq_true rfl]
    exact k
end
end Y

/-! what a car hangs on -/
namespace Y
open PySem PySem.Spec PyProof.Rows L2 Ns
open C8 (pss_cut)
theorem upd_upd {H : Hp} {p : Addr} {x y : HO} : upd (upd H p x) p y = upd H p y := by
  funext c
  by_cases h : c = p
  · subst h
    rw [upd_same, upd_same]
  · rw [upd_ne h, upd_ne h, upd_ne h]
theorem kml : ¬ (("_meter" : Str) = "_last") := by decide +kernel
theorem klm : ¬ (("_last" : Str) = "_meter") := by decide +kernel
/-- a number or none -/
def lv : Option Int → V
  | none => .non
  | some i => .int i
def fl (m : Int) (l : Option Int) : List (Str × V) := putF "_last" (lv l) (putF "_meter" (.int m) [])
theorem fl_eq (m : Int) (l : Option Int) : fl m l = ([("_meter", V.int m), ("_last", lv l)] : List (Str × V)) := by
  show (if ("_meter" : Str) = "_last" then [(("_meter" : Str), lv l)] else (("_meter" : Str), V.int m) :: putF "_last" (lv l) []) = _
  rw [if_neg kml]
  rfl
theorem fl_m (m : Int) (l : Option Int) : (fl m l).lookup ("_meter" : Str) = some (.int m) := by
  unfold fl
  rw [lookup_putF, if_neg kml, lookup_putF, if_pos rfl]
theorem fl_l (m : Int) (l : Option Int) : (fl m l).lookup ("_last" : Str) = some (lv l) := by
  unfold fl
  rw [lookup_putF, if_pos rfl]
theorem fl_no (m : Int) (l : Option Int) {x : Str} (h1 : ¬ x = "_last") (h2 : ¬ x = "_meter") : (fl m l).lookup x = none := by
  unfold fl
  rw [lookup_putF, if_neg h1, lookup_putF, if_neg h2]
  rfl
theorem fl_putL (m : Int) (l k : Option Int) : putF "_last" (lv k) (fl m l) = fl m k := by
  rw [fl_eq, fl_eq]
  show (if ("_meter" : Str) = "_last" then _ else (("_meter" : Str), V.int m) :: (if ("_last" : Str) = "_last" then [(("_last" : Str), lv k)] else _)) = _
  rw [if_neg kml, if_pos rfl]
theorem fl_putM (m n : Int) (l : Option Int) : putF "_meter" (.int n) (fl m l) = fl n l := by
  rw [fl_eq, fl_eq]
  show (if ("_meter" : Str) = "_meter" then (("_meter" : Str), V.int n) :: [(("_last" : Str), lv l)] else _) = _
  rw [if_pos rfl]
def newer (l : Option Int) (n : Int) : Bool := match l with | none => true | some i => decide (i < n)
structure Txt (K : PySem.W.Frag) (mg : Str → Option Value) (C : Addr) : Prop where
  cl : Cls K C
  nM : NoAttr K C "_meter"
  nL : NoAttr K C "_last"
  mgC : mg "Charger" = some (.ref C)
def spInit (C : Addr) : Sp := fun as H Q _ => ∃ (p dx : Addr), as = [.ref p] ∧ H p = some (.ins C dx []) ∧ Q .non (upd H p (.ins C dx (fl 0 none)))
def mN (l : Option Int) (n m a : Int) : Int := if newer l n = true then m + a else m
def lN (l : Option Int) (n : Int) : Option Int := if newer l n = true then some n else l
theorem upd_self {H : Hp} {p : Addr} {o : HO} (h : H p = some o) : upd H p o = H := by
  funext c
  by_cases e : c = p
  · subst e
    rw [upd_same, h]
  · rw [upd_ne e]
def spObey (C : Addr) : Sp := fun as H Q _ => ∃ (p dx : Addr) (n a m : Int) (l : Option Int), as = [.ref p, .int n, .int a] ∧ H p = some (.ins C dx (fl m l)) ∧ Q (.bl (newer l n)) (upd H p (.ins C dx (fl (mN l n m a) (lN l n))))
def spMeter (C : Addr) : Sp := fun as H Q _ => ∃ (p dx : Addr) (m : Int) (l : Option Int), as = [.ref p] ∧ H p = some (.ins C dx (fl m l)) ∧ Q (.int m) H
def spLast (C : Addr) : Sp := fun as H Q _ => ∃ (p dx : Addr) (m : Int) (l : Option Int), as = [.ref p] ∧ H p = some (.ins C dx (fl m l)) ∧ Q (lv l) H
def spTwin (C : Addr) : Sp := fun as H Q _ => ∃ (p dx : Addr) (m : Int) (l : Option Int), as = [.ref p] ∧ H p = some (.ins C dx (fl m l)) ∧ ∀ (y dy : Addr) (H' : Hp), H y = none → H' y = some (.ins C dy (fl m l)) → Same H H' → Q (.ref y) H'
section
variable {P : Program} {w : World} {K : PySem.W.Frag} {mg : Str → Option Value} {base : Heap}
theorem scI : FnScope ["self"] ["self"] (defScope sInit) := ⟨rfl, rfl, rfl, by decide +kernel, rfl, by decide +kernel, by decide +kernel⟩
theorem ok_init {f C : Addr} {fd : FuncData} (F : Fun K "__init__" "Charger.__init__" sInit f fd) (T : Txt K mg C) : FnOk P w K mg base CX0 1 f fd ["self"] (spInit C) := by
  refine F.ok scI (fun vs H Q E h => ?_) (fun cdv A outer s H vs Q E hr h => ?_)
  · obtain ⟨p, dx, rfl, _⟩ := h
    rfl
  · obtain ⟨p, dx, rfl, hp, k⟩ := h
    refine ⟨_, pss_cons (ps_fld (pv 0) pe_int rfl) (pss_one (ps_fld (pv 0) pe_non rfl)), ?_⟩
    refine ⟨_, rfl, p, C, dx, [], rfl, hp, T.cl, T.nM, (by show 0 < 1000; decide), _, rfl, p, C, dx, _, rfl, upd_same, T.cl, T.nL, (by show 1 < 1000; decide), ?_⟩
    rw [upd_upd]
    exact k
theorem scO : FnScope ["self", "number", "amount"] ["self", "number", "amount"] (defScope sObey) := ⟨rfl, rfl, rfl, by decide +kernel, rfl, by decide +kernel, by decide +kernel⟩
theorem ok_obey {f C : Addr} {fd : FuncData} (F : Fun K "obey" "Charger.obey" sObey f fd) (T : Txt K mg C) : FnOk P w K mg base CX0 1 f fd ["self", "number", "amount"] (spObey C) := by
  refine F.ok scO (fun vs H Q E h => ?_) (fun cdv A outer s H vs Q E hr h => ?_)
  · obtain ⟨p, dx, n, a, m, l, rfl, _⟩ := h
    rfl
  · obtain ⟨p, dx, n, a, m, l, rfl, hp, k⟩ := h
    have k1 : newer l n = true → Q (.bl true) (upd H p (.ins C dx (fl (m + a) (some n)))) := fun e => by
      unfold mN lN at k
      rw [if_pos e, if_pos e, e] at k
      exact k
    have k2 : newer l n = false → Q (.bl false) H := fun e => by
      unfold mN lN at k
      rw [if_neg (by rw [e]; decide), if_neg (by rw [e]; decide), upd_self hp, e] at k
      exact k
    refine ⟨_, pss_cons (ps_if (PW.pt (pw_and (pt_cmpR op_notN (pe_fld (pv 0) rfl) pe_non (nomark _)) (pw_and1 (pt_cmpR op_le (pv 1) (pe_fld (pv 0) rfl) (nomark _))))) (pss_one (ps_ret pe_bl)) pss_nil)
      (pss_cons (ps_fldaug (pv 0) (pv 2) in_add)
      (pss_cons (ps_fld (pv 0) (pv 1) rfl)
      (pss_one (ps_ret pe_bl)))), ?_⟩
    refine ⟨_, rfl, p, C, dx, _, _, rfl, hp, T.cl, T.nL, fl_l _ _, rfl, _, rfl, ?_⟩
    cases l with
    | none =>
      refine ite2 (fun c => absurd c (by decide)) (fun _ => ?_)
      refine ite2 (fun z => absurd z Bool.false_ne_true) (fun _ => ?_)
      refine ⟨_, rfl, p, C, dx, _, _, rfl, hp, T.cl, T.nM, fl_m _ _, _, rfl, _, _, rfl, rfl, dx, _, hp, by rw [fl_eq]; show 2 < 1000; decide, ?_⟩
      rw [fl_putM]
      refine ⟨_, rfl, _, rfl, p, C, dx, _, rfl, upd_same, T.cl, T.nL, (by rw [fl_eq]; show 2 < 1000; decide), ?_⟩
      have e := fl_putL (m + a) none (some n)
      have e : putF "_last" (.int n) (fl (m + a) none) = fl (m + a) (some n) := e
      rw [e, upd_upd]
      exact k1 rfl
    | some i =>
      refine ite2 (fun _ => ?_) (fun c => absurd (by rfl) c)
      refine ⟨_, rfl, _, rfl, p, C, dx, _, _, rfl, hp, T.cl, T.nL, fl_l _ _, _, _, rfl, rfl, _, rfl, ?_⟩
      refine ite2 (fun c => ?_) (fun c => ?_)
      · exact k2 (decide_eq_false (by have := of_decide_eq_true c; omega))
      have hn : i < n := by
        have : ¬ n ≤ i := fun z => c (decide_eq_true z)
        omega
      refine ⟨_, rfl, p, C, dx, _, _, rfl, hp, T.cl, T.nM, fl_m _ _, _, rfl, _, _, rfl, rfl, dx, _, hp, by rw [fl_eq]; show 2 < 1000; decide, ?_⟩
      rw [fl_putM]
      refine ⟨_, rfl, _, rfl, p, C, dx, _, rfl, upd_same, T.cl, T.nL, (by rw [fl_eq]; show 2 < 1000; decide), ?_⟩
      have e := fl_putL (m + a) (some i) (some n)
      have e : putF "_last" (.int n) (fl (m + a) (some i)) = fl (m + a) (some n) := e
      rw [e, upd_upd]
      exact k1 (decide_eq_true hn)
theorem scM : FnScope ["self"] ["self"] (defScope sMeter) := ⟨rfl, rfl, rfl, by decide +kernel, rfl, by decide +kernel, by decide +kernel⟩
theorem ok_meter {f C : Addr} {fd : FuncData} (F : Fun K "meter" "Charger.meter" sMeter f fd) (T : Txt K mg C) : FnOk P w K mg base CX0 1 f fd ["self"] (spMeter C) := by
  refine F.ok scM (fun vs H Q E h => ?_) (fun cdv A outer s H vs Q E hr h => ?_)
  · obtain ⟨p, dx, m, l, rfl, _⟩ := h
    rfl
  · obtain ⟨p, dx, m, l, rfl, hp, k⟩ := h
    refine ⟨_, pss_one (ps_ret (pe_fld (pv 0) rfl)), ?_⟩
    exact ⟨_, rfl, p, C, dx, _, _, rfl, hp, T.cl, T.nM, fl_m _ _, k⟩
theorem scLs : FnScope ["self"] ["self"] (defScope sLast) := ⟨rfl, rfl, rfl, by decide +kernel, rfl, by decide +kernel, by decide +kernel⟩
theorem ok_last {f C : Addr} {fd : FuncData} (F : Fun K "last" "Charger.last" sLast f fd) (T : Txt K mg C) : FnOk P w K mg base CX0 1 f fd ["self"] (spLast C) := by
  refine F.ok scLs (fun vs H Q E h => ?_) (fun cdv A outer s H vs Q E hr h => ?_)
  · obtain ⟨p, dx, m, l, rfl, _⟩ := h
    rfl
  · obtain ⟨p, dx, m, l, rfl, hp, k⟩ := h
    refine ⟨_, pss_one (ps_ret (pe_fld (pv 0) rfl)), ?_⟩
    exact ⟨_, rfl, p, C, dx, _, _, rfl, hp, T.cl, T.nL, fl_l _ _, k⟩
theorem scTw : FnScope ["self", "other"] ["self"] (defScope sTwin) := ⟨rfl, rfl, rfl, by decide +kernel, rfl, by decide +kernel, by decide +kernel⟩
theorem ok_twin {f C fI : Addr} {fd fdI : FuncData} (F : Fun K "twin" "Charger.twin" sTwin f fd) (T : Txt K mg C) (M : Mk K C fI) (FI : Fun K "__init__" "Charger.__init__" sInit fI fdI) (bI : Binds K fdI ["self"] []) : FnOk P w K mg base CX0 3 f fd ["self"] (spTwin C) := by
  have GI : FnOk P w K mg base CX0 1 fI fdI ["self"] (spInit C) := ok_init FI T
  refine F.ok scTw (fun vs H Q E h => ?_) (fun cdv A outer s H vs Q E hr h => ?_)
  · obtain ⟨p, dx, m, l, rfl, _⟩ := h
    rfl
  · obtain ⟨p, dx, m, l, rfl, hp, k⟩ := h
    refine ⟨_, pss_cons (ps_set (i := 1) scTw.nd rfl (.inl rfl) (pe_make0 M GI hr rfl T.mgC bI .nil pass0))
      (pss_cons (ps_fld (pv 1) (pe_fld (pv 0) rfl) rfl)
      (pss_cons (ps_fld (pv 1) (pe_fld (pv 0) rfl) rfl)
      (pss_one (ps_ret (pv 1))))), ?_⟩
    intro x dy nx ndy nex
    refine ⟨x, dy, rfl, upd_same, rfl, ?_⟩
    rw [upd_upd]
    have s1 : Same H (upd (upd H dy (.own x)) x (.ins C dy (fl 0 none))) := fun b o e => by
      rw [upd_ne (ne_of_none e nx), upd_ne (ne_of_none e ndy)]
      exact e
    have npx : p ≠ x := ne_of_none hp nx
    have pu : ∀ o, upd (upd (upd H dy (.own x)) x (.ins C dy (fl 0 none))) x o p = some (.ins C dx (fl m l)) := fun o => by rw [upd_ne npx]; exact s1 _ _ hp
    refine ⟨_, rfl, p, C, dx, _, _, rfl, s1 _ _ hp, T.cl, T.nM, fl_m _ _, _, rfl, x, C, dy, _, rfl, upd_same, T.cl, T.nM, (by rw [fl_eq]; show 2 < 1000; decide), ?_⟩
    rw [fl_putM]
    refine ⟨_, rfl, p, C, dx, _, _, rfl, pu _, T.cl, T.nL, fl_l _ _, _, rfl, x, C, dy, _, rfl, upd_same, T.cl, T.nL, (by rw [fl_eq]; show 2 < 1000; decide), ?_⟩
    rw [fl_putL, upd_upd, upd_upd]
    refine ⟨_, rfl, k x dy _ nx upd_same fun b o e => ?_⟩
    rw [upd_ne (ne_of_none e nx), upd_ne (ne_of_none e ndy)]
    exact e
end
end Y

namespace Y
open PySem PySem.Spec PyProof.Rows L2 Ns
open C8 (pss_cut)
structure D59 (P : Program) (w : World) (K : PySem.W.Frag) (mg : Str → Option Value) (base : Heap) (fB fT fS fA : Addr) (dB dT dS dA : FuncData) : Prop where
  B : Fun K "_law_bag" "_law_bag" sBag fB dB
  mB : mg "_law_bag" = some (.ref fB)
  bB : Binds K dB ["script"] []
  gB : FnOk P w K mg base CX0 1 fB dB ["script"] (spBag K)
  T : Fun K "_law_take" "_law_take" sTake fT dT
  mT : mg "_law_take" = some (.ref fT)
  bT : Binds K dT ["bag", "many"] []
  gT : FnOk P w K mg base CX0 1 fT dT ["bag", "many"] (spTake)
  S : Fun K "_law_some" "_law_some" sSome fS dS
  mS : mg "_law_some" = some (.ref fS)
  bS : Binds K dS ["bag", "things"] []
  gS : FnOk P w K mg base CX0 2 fS dS ["bag", "things"] (spSome K)
  A : Fun K "_law_alike" "_law_alike" sAlike fA dA
  mA : mg "_law_alike" = some (.ref fA)
  bA : Binds K dA ["found", "due"] []
  gA : GnOk P w K mg base 1 fA dA ["found", "due"] (spAlike K)
structure X59 (P : Program) (w : World) (K : PySem.W.Frag) (mg : Str → Option Value) (base : Heap) (C mI xO xM xL xT : Addr) (eI eO eM eL eT : FuncData) : Prop extends Txt K mg C where
  hM : Mk K C mI
  bI : Binds K eI ["self"] []
  gI : FnOk P w K mg base CX0 1 mI eI ["self"] (spInit C)
  mO : Meth K C "obey" xO
  bO : Binds K eO ["self", "number", "amount"] []
  gO : FnOk P w K mg base CX0 1 xO eO ["self", "number", "amount"] (spObey C)
  mM : Meth K C "meter" xM
  bM : Binds K eM ["self"] []
  gM : FnOk P w K mg base CX0 1 xM eM ["self"] (spMeter C)
  mL : Meth K C "last" xL
  bL : Binds K eL ["self"] []
  gL : FnOk P w K mg base CX0 1 xL eL ["self"] (spLast C)
  mT : Meth K C "twin" xT
  bT : Binds K eT ["self"] []
  gT : FnOk P w K mg base CX0 3 xT eT ["self"] (spTwin C)
theorem fit_n {i : Int} (h0 : 0 ≤ i) (h : i ≤ 10 ^ 28) : Fit 300 0 (.int i) :=
  (fit_int (n := 29) (by decide) (by omega) (by decide)).mono (by decide) (Nat.le_refl _)
theorem big_ok {n : Nat} (h : n ≤ 1000000) : n ≤ sizeLine := by rw [sizeLine_eq]; omega
def lvD : Option Int → PyData
  | none => .none
  | some i => .int i
theorem dat_lv {K : PySem.W.Frag} {H : Hp} : ∀ l : Option Int, DatV K H (lv l) (lvD l)
  | none => .non
  | some i => .int i
theorem flat_lv : ∀ l : Option Int, flatB (lv l) = true
  | none => rfl
  | some _ => rfl
def OkL (l : Option Int) : Prop := ∀ i, l = some i → 0 ≤ i ∧ i ≤ 10 ^ 14
theorem fit_lv {l : Option Int} (h : OkL l) : Fit 300 0 (lvD l) := by
  cases l with
  | none => exact ⟨by decide +kernel, by decide +kernel, by decide +kernel⟩
  | some i => exact fit_n (h i rfl).1 (by have := (h i rfl).2; omega)
theorem eqT_flat {K : PySem.W.Frag} {H : Hp} {x : V} (n : Nat) (h : flatB x = true) : EqT K H (n + 1) x x := .inl ⟨rfl, h⟩
theorem fit_ml {m : Int} {l : Option Int} (m0 : 0 ≤ m) (m1 : m ≤ 10 ^ 28) (hl : OkL l) : (PyData.list [.int m, lvD l]).showable = true ∧ (PyData.list [.int m, lvD l]).shown.length ≤ sizeLine ∧ (PyData.list [.int m, lvD l]).depth ≤ 60 := by
  have f : Fit 1000 1 (.list [.int m, lvD l]) := by
    refine (fit_list (m := 300) (k := 0) fun d hd => ?_).mono (show 2 * (300 + 2) + 3 ≤ 1000 by decide) (by decide)
    simp only [List.mem_cons, List.not_mem_nil, or_false] at hd
    rcases hd with rfl | rfl
    · exact fit_n m0 m1
    · exact fit_lv hl
  exact ⟨f.1, Nat.le_trans f.2.1 (big_ok (by decide)), Nat.le_trans f.2.2 (by decide)⟩
theorem eq_ml {K : PySem.W.Frag} {H : Hp} {a1 a2 : Addr} {m : Int} {l : Option Int} (x1 : H a1 = some (.lst [.int m, lv l])) (x2 : H a2 = some (.lst [.int m, lv l])) : EqS K H 3 (.ref a1) (.ref a2) :=
  .inl (.inl ⟨a1, a2, _, _, rfl, rfl, SqL.of x1, SqL.of x2, .cons (eqT_flat 2 rfl) (.cons (eqT_flat 2 (flat_lv l)) .nil)⟩)
theorem dat_ml {K : PySem.W.Frag} {H : Hp} {a : Addr} {m : Int} {l : Option Int} (x : H a = some (.lst [.int m, lv l])) : DatV K H (.ref a) (.list [.int m, lvD l]) := .lst (SqL.of x) (.cons (.int _) (.cons (dat_lv l) .nil))
theorem fit_m {m : Int} (m0 : 0 ≤ m) (m1 : m ≤ 10 ^ 28) : (PyData.int m).showable = true ∧ (PyData.int m).shown.length ≤ sizeLine ∧ (PyData.int m).depth ≤ 60 := ⟨(fit_n m0 m1).1, Nat.le_trans (fit_n m0 m1).2.1 (big_ok (by decide)), Nat.le_trans (fit_n m0 m1).2.2 (by decide)⟩
theorem fit_b (b : Bool) : (PyData.bool b).showable = true ∧ (PyData.bool b).shown.length ≤ sizeLine ∧ (PyData.bool b).depth ≤ 60 := ⟨by cases b <;> decide +kernel, by cases b <;> exact Nat.le_trans (show _ ≤ 10 by decide +kernel) (big_ok (by decide)), by cases b <;> decide +kernel⟩
/-- a twin kept: the charger, its meter, its last -/
abbrev Tw := Addr × Int × Option Int
def TwV (C : Addr) (H : Hp) (v : V) (x : Tw) : Prop := ∃ t d, v = .ref t ∧ H t = some (.tup [.ref x.1, .int x.2.1, lv x.2.2]) ∧ H x.1 = some (.ins C d (fl x.2.1 x.2.2))
def TwOk (x : Tw) : Prop := 0 ≤ x.2.1 ∧ x.2.1 ≤ 10 ^ 14 ∧ OkL x.2.2
theorem s3u {H : Hp} {a q : Addr} {o u : HO} (hq : H q = none) (h : H a = some u) : upd H q o a = some u := by rw [upd_ne (ne_of_none h hq)]; exact h
theorem paired_imp {α β : Type} {R S : α → β → Prop} (k : ∀ a b, R a b → S a b) : ∀ {as : List α} {bs : List β}, Paired R as bs → Paired S as bs
  | _, _, .nil => .nil
  | _, _, .cons h t => .cons (k _ _ h) (paired_imp k t)
theorem paired_impM {α β : Type} {R S : α → β → Prop} : ∀ {as : List α} {bs : List β}, (∀ a b, b ∈ bs → R a b → S a b) → Paired R as bs → Paired S as bs
  | _, _, _, .nil => .nil
  | _, _, k, .cons h t => .cons (k _ _ List.mem_cons_self h) (paired_impM (fun a b hb => k a b (List.mem_cons_of_mem _ hb)) t)
theorem paired_snoc {α β : Type} {R : α → β → Prop} {a : α} {b : β} (h : R a b) : ∀ {as : List α} {bs : List β}, Paired R as bs → Paired R (as ++ [a]) (bs ++ [b])
  | _, _, .nil => .cons h .nil
  | _, _, .cons x t => .cons x (paired_snoc h t)
theorem paired_len {α β : Type} {R : α → β → Prop} : ∀ {as : List α} {bs : List β}, Paired R as bs → as.length = bs.length
  | _, _, .nil => rfl
  | _, _, .cons _ t => congrArg (· + 1) (paired_len t)
theorem sql_new {K : PySem.W.Frag} {H : Hp} {b p : Addr} {xs : List V} (e : H p = some (.lst xs)) (n : p ≠ b) : SqL K (wo H b) p xs := SqL.of ((wo_ne n).trans e)
theorem or_te {K : PySem.W.Frag} {i : Nat} {σ : L2.St} {H : Hp} {Q : VK} {l : Option Int} (hi : σ[i]? = some (some (lv l))) (k : Q (.int (l.getD 0)) H) : tOrT K (tVar i) (tC (.int 0)) σ H Q := by
  cases l with
  | none => exact ⟨_, hi, false, rfl, k⟩
  | some j =>
    refine ⟨_, hi, (j != 0), rfl, ?_⟩
    by_cases h : j = 0
    · subst h
      exact k
    · refine ite2 (fun _ => k) (fun c => absurd (bne_iff_ne.mpr h) c)
theorem new_te {i j : Nat} {σ : L2.St} {H : Hp} {Q : VK} {l : Option Int} {n : Int} (hi : σ[i]? = some (some (lv l))) (hj : σ[j]? = some (some (.int n))) (k : Q (.bl (newer l n)) H) :
    tOrV (tOp (fun x y H Q => y = V.non ∧ Q (V.bl (decide (x = V.non))) H) (tVar i) (tC .non)) (tOp (rI0 fun a b => V.bl (decide (b < a))) (tVar j) (tVar i)) σ H Q := by
  cases l with
  | none => exact ⟨_, hi, rfl, _, rfl, k⟩
  | some m =>
    refine ⟨_, hi, rfl, _, rfl, ?_⟩
    refine ite2 (fun c => absurd (of_decide_eq_true c) (fun z => nomatch z)) (fun _ => ?_)
    exact ⟨_, hj, _, hi, _, _, rfl, rfl, k⟩
theorem pick_te {i3 i4 i7 i8 i9 : Nat} {σ : L2.St} {H : Hp} {Q : VK} {l : Option Int} {n m a : Int} (h9 : σ[i9]? = some (some (.bl (newer l n)))) (h7 : σ[i7]? = some (some (.int n))) (h8 : σ[i8]? = some (some (.int a))) (h3 : σ[i3]? = some (some (lv l))) (h4 : σ[i4]? = some (some (.int m)))
    (k : ∀ (q : Addr) (H' : Hp), H' q = some (.tup [lv (lN l n), .int (mN l n m a)]) → Same H H' → Q (.ref q) H') :
    tIf (tB (tVar i9)) (tTup (tCons (tVar i7) (tCons (tOp (rI0 fun i j => V.int (i + j)) (tVar i4) (tVar i8)) tNil))) (tTup (tCons (tVar i3) (tCons (tVar i4) tNil))) σ H Q := by
  refine ⟨_, h9, _, rfl, ?_⟩
  refine ite2 (fun c => ?_) (fun c => ?_)
  · refine ⟨_, h7, _, h4, _, h8, _, _, rfl, rfl, by show 2 ≤ sizeLine; decide, fun q hq => k q _ ?_ (same_new (Same.refl H) hq)⟩
    unfold mN lN
    rw [if_pos c, if_pos c]
    exact upd_same
  · refine ⟨_, h3, _, h4, by show 2 ≤ sizeLine; decide, fun q hq => k q _ ?_ (same_new (Same.refl H) hq)⟩
    unfold mN lN
    rw [if_neg c, if_neg c]
    exact upd_same
theorem bag_lst {H : Hp} {b : Addr} (h : Bag H b) : ∃ xs, H b = some (.lst xs) := by
  obtain ⟨_, _, _, _, _, h1, _⟩ := h
  exact ⟨_, h1⟩
theorem ne_tl {H : Hp} {t p : Addr} {xs ys : List V} (h : H t = some (.tup xs)) (g : H p = some (.lst ys)) : t ≠ p := fun z => by rw [z, g] at h; cases h
theorem ne_il {H : Hp} {t p C d : Addr} {fs : List (Str × V)} {ys : List V} (h : H t = some (.ins C d fs)) (g : H p = some (.lst ys)) : t ≠ p := fun z => by rw [z, g] at h; cases h
theorem ne_ti {H : Hp} {t p C d : Addr} {fs : List (Str × V)} {xs : List V} (h : H t = some (.tup xs)) (g : H p = some (.ins C d fs)) : t ≠ p := fun z => by rw [z, g] at h; cases h
theorem twv_sb {C b : Addr} {H H' : Hp} {v : V} {x : Tw} (B : Bag H b) (s : Sb b H H') (h : TwV C H v x) : TwV C H' v x := by
  obtain ⟨t, d, e, h1, h2⟩ := h
  obtain ⟨ys, hb⟩ := bag_lst B
  exact ⟨t, d, e, s.get h1 (ne_tl h1 hb), s.get h2 (ne_il h2 hb)⟩
theorem twv_same {C : Addr} {H H' : Hp} {v : V} {x : Tw} (s : Same H H') (h : TwV C H v x) : TwV C H' v x := by
  obtain ⟨t, d, e, h1, h2⟩ := h
  exact ⟨t, d, e, s _ _ h1, s _ _ h2⟩
theorem twv_ins {C c d' : Addr} {H : Hp} {v : V} {x : Tw} {fs gs : List (Str × V)} (hc : H c = some (.ins C d' fs)) (n : x.1 ≠ c) (h : TwV C H v x) : TwV C (upd H c (.ins C d' gs)) v x := by
  obtain ⟨t, d, e, h1, h2⟩ := h
  exact ⟨t, d, e, by rw [upd_ne (ne_ti h1 hc)]; exact h1, by rw [upd_ne n]; exact h2⟩
theorem twv_lst {C tw : Addr} {H : Hp} {v : V} {x : Tw} {xs ys : List V} (ht : H tw = some (.lst xs)) (h : TwV C H v x) : TwV C (upd H tw (.lst ys)) v x := by
  obtain ⟨t, d, e, h1, h2⟩ := h
  exact ⟨t, d, e, by rw [upd_ne (ne_tl h1 ht)]; exact h1, by rw [upd_ne (ne_il h2 ht)]; exact h2⟩
theorem paired_ex {α β : Type} {R : α → β → Prop} : ∀ {as : List α} {bs : List β}, Paired R as bs → ∀ b ∈ bs, ∃ a, R a b
  | _, _, .nil, _, h => by cases h
  | _, _, .cons g t, b, h => by
    rcases List.mem_cons.mp h with rfl | h
    · exact ⟨_, g⟩
    · exact paired_ex t b h
theorem mN_bd {l : Option Int} {n m a B : Int} (h0 : 0 ≤ m) (h1 : m ≤ B) (h2 : 0 ≤ a) (h3 : a ≤ 10 ^ 12) : 0 ≤ mN l n m a ∧ mN l n m a ≤ B + 10 ^ 12 := by
  unfold mN
  split <;> omega
theorem lN_bd {l : Option Int} {n B : Int} (h : ∀ j, l = some j → 0 ≤ j ∧ j ≤ B) (h0 : 0 ≤ n) (h1 : n ≤ B + 1) : ∀ j, lN l n = some j → 0 ≤ j ∧ j ≤ B + 1 := fun j e => by
  unfold lN at e
  split at e
  · cases e
    exact ⟨h0, h1⟩
  · have := h j e
    omega
def nx : Option Int → Int
  | none => 0
  | some i => i + 1
theorem newer_nx : ∀ l : Option Int, newer l (nx l) = true
  | none => rfl
  | some i => decide_eq_true (show i < i + 1 by omega)
theorem nxt_te {i : Nat} {σ : L2.St} {H : Hp} {Q : VK} {l : Option Int} (hi : σ[i]? = some (some (lv l))) (k : Q (.int (nx l)) H) :
    tIf (tTest (tOp (fun x y H Q => y = V.non ∧ Q (V.bl (decide (x = V.non))) H) (tVar i) (tC .non))) (tC (.int 0)) (tOp (rI0 fun a b => V.int (a + b)) (tVar i) (tC (.int 1))) σ H Q := by
  cases l with
  | none =>
    refine ⟨_, hi, rfl, _, rfl, ?_⟩
    exact ite2 (fun _ => k) (fun c => absurd (by rfl) c)
  | some j =>
    refine ⟨_, hi, rfl, _, rfl, ?_⟩
    refine ite2 (fun c => absurd (of_decide_eq_true c) (fun z => nomatch z)) (fun _ => ?_)
    exact ⟨_, hi, _, _, rfl, rfl, k⟩
theorem drop_at {α : Type} {l : List α} {i : Nat} {x : α} (h : l[i]? = some x) : l.drop i = x :: l.drop (i + 1) := by
  obtain ⟨hi, e⟩ := List.getElem?_eq_some_iff.mp h
  rw [List.drop_eq_getElem_cons hi, e]
section
variable {P : Program} {w : World} {K : PySem.W.Frag} {mg : Str → Option Value} {base : Heap} {fB fT fS fA C mI xO xM xL xT : Addr} {dB dT dS dA eI eO eM eL eT : FuncData}
theorem scL : FnScope ["script", "bag", "charger", "last", "meter", "twins", "turn", "number", "amount", "is_new", "other", "its_meter", "its_last"] ["script"] (defScope sLaw) := ⟨rfl, rfl, rfl, by decide +kernel, rfl, by decide +kernel, by decide +kernel⟩
set_option maxHeartbeats 16000000 in
theorem ok_law {f : Addr} {fd : FuncData} (F : Fun K "law" "law" sLaw f fd) (T : Nat0 mg) (D : D59 P w K mg base fB fT fS fA dB dT dS dA) (X : X59 P w K mg base C mI xO xM xL xT eI eO eM eL eT) : GnOk P w K mg base 4 f fd ["script"] (spTop K) := by
  refine Fun.okG F scL (fun as H Q E h => ?_) (fun cdv A outer s H as Q E hr hgd h => ?_)
  · obtain ⟨a, ns, rfl, _⟩ := h
    rfl
  · obtain ⟨a, ns, rfl, hS, hl, k⟩ := h
    have hr1 : Room 1 _ := hr.mono (by decide)
    have hr2 : Room 2 _ := hr.mono (by decide)
    have hr3 : Room 3 _ := hr
    have hun := hr.units
    refine ⟨_, (pss_cons (ps_set (i := 1) scL.nd rfl (.inl rfl) (pe_call D.gB hr1 rfl D.mB D.B.kp D.bB .nil pass0 (pa_cons (pv 0) pa_nil)))
      (pss_cons (ps_asg (pe_tup (pa_cons (pe_make0 X.hM X.gI hr2 rfl X.mgC X.bI .nil pass0) (pa_cons pe_non (pa_cons pe_int (pa_cons (pe_lst pa_nil) pa_nil))))) (pg_tup (by rfl) (pgs_cons (pg_name (i := 2) scL.nd rfl (.inl rfl)) (pgs_cons (pg_name (i := 3) scL.nd rfl (.inl rfl)) (pgs_cons (pg_name (i := 4) scL.nd rfl (.inl rfl)) (pgs_cons (pg_name (i := 5) scL.nd rfl (.inl rfl)) pgs_nil))))))
      (pss_cons (ps_if (PW.pt (pw_or (pt_cmpR op_notN (pe_meth0 (pv 2) X.cl X.mL X.gL hr1 X.bL .nil pass0) pe_non (nomark _)) (pw_or1 (pt_not (pt_val (pe_callG D.gA hr1 hgd rfl D.mA D.A.kp D.bA (pa_cons (pe_meth0 (pv 2) X.cl X.mM X.gM hr1 X.bM .nil pass0) (pa_cons pe_int pa_nil)))))))) (pss_one (ps_ret pe_bl)) pss_nil)
      (pss_cons (ps_for PassesOwn.never rfl (pi_range1 (by rfl) T.range (pa_cons (pe_call D.gS hr2 rfl D.mS D.S.kp D.bS .nil pass0 (pa_cons (pv 1) (pa_cons (pe_lst (pa_cons pe_int (pa_cons pe_int (pa_cons pe_int pa_nil)))) pa_nil))) pa_nil)) (pg_name (i := 6) scL.nd rfl (.inl rfl))
      (pss_cons (ps_set (i := 7) scL.nd rfl (.inl rfl) (pe_call D.gS hr2 rfl D.mS D.S.kp D.bS .nil pass0 (pa_cons (pv 1) (pa_cons (pe_lst (pa_cons pe_int (pa_cons pe_int (pa_cons (pe_op op_add (pe_orT (pv 3) (pe_one pe_int)) pe_int) (pa_cons (pe_orT (pv 3) (pe_one pe_int)) (pa_cons (pe_callB (call_max2 rfl) (by rfl) T.max (by decide +kernel) (pa_cons pe_int (pa_cons (pe_op op_sub (pe_orT (pv 3) (pe_one pe_int)) pe_int) pa_nil))) (pa_cons (pe_call D.gT hr1 rfl D.mT D.T.kp D.bT .nil pass0 (pa_cons (pv 1) (pa_cons pe_int pa_nil))) (pa_cons (pe_op op_sub (pe_op op_pow pe_int pe_int) pe_int) pa_nil)))))))) pa_nil))))
      (pss_cons (ps_par (i := 8) (j := 9) rfl scL.nd rfl rfl (by decide) rfl rfl (pa_cons (pe_call D.gS hr2 rfl D.mS D.S.kp D.bS .nil pass0 (pa_cons (pv 1) (pa_cons (pe_lst (pa_cons pe_int (pa_cons pe_int (pa_cons pe_int (pa_cons (pe_op op_sub (pe_op op_pow pe_int pe_int) pe_int) pa_nil))))) pa_nil))) (pa_cons (pe_or (pe_cmpR op_isN (pv 3) pe_non (nomark _)) (pe_one (pe_cmpR op_gt (pv 7) (pv 3) (nomark _)))) pa_nil)) (by rfl))
      (pss_cons (ps_if (pt_not (pt_val (pe_callG D.gA hr1 hgd rfl D.mA D.A.kp D.bA (pa_cons (pe_meth (pv 2) X.cl X.mO X.gO hr1 X.bO .nil pass0 (pa_cons (pv 7) (pa_cons (pv 8) pa_nil))) (pa_cons (pv 9) pa_nil))))) (pss_one (ps_ret pe_bl)) pss_nil)
      (pss_cons (ps_asg (pe_ifExp (pt_val (pv 9)) (pe_tup (pa_cons (pv 7) (pa_cons (pe_op op_add (pv 4) (pv 8)) pa_nil))) (pe_tup (pa_cons (pv 3) (pa_cons (pv 4) pa_nil)))) (pg_tup (by rfl) (pgs_cons (pg_name (i := 3) scL.nd rfl (.inl rfl)) (pgs_cons (pg_name (i := 4) scL.nd rfl (.inl rfl)) pgs_nil))))
      (pss_cons (ps_if (pt_not (pt_val (pe_callG D.gA hr1 hgd rfl D.mA D.A.kp D.bA (pa_cons (pe_lst (pa_cons (pe_meth0 (pv 2) X.cl X.mM X.gM hr1 X.bM .nil pass0) (pa_cons (pe_meth0 (pv 2) X.cl X.mL X.gL hr1 X.bL .nil pass0) pa_nil))) (pa_cons (pe_lst (pa_cons (pv 4) (pa_cons (pv 3) pa_nil))) pa_nil))))) (pss_one (ps_ret pe_bl)) pss_nil)
      (pss_one (ps_if (pt_cmpR op_eq (pe_call D.gT hr1 rfl D.mT D.T.kp D.bT .nil pass0 (pa_cons (pv 1) (pa_cons pe_int pa_nil))) pe_int (nomark _)) (pss_one (ps_expr (pe_bm PySem.F.plainAttrs_list PySem.F.slot_list_append PySem.F.type_list_append mt_append (pv 5) (pa_cons (pe_tup (pa_cons (pe_meth0 (pv 2) X.cl X.mT X.gT hr3 X.bT .nil pass0) (pa_cons (pv 4) (pa_cons (pv 3) pa_nil)))) pa_nil)))) pss_nil))))))))
      (pss_cons (ps_for PassesOwn.never rfl (pi_list (pv 5)) (pg_tup (by rfl) (pgs_cons (pg_name (i := 10) scL.nd rfl (.inl rfl)) (pgs_cons (pg_name (i := 11) scL.nd rfl (.inl rfl)) (pgs_cons (pg_name (i := 12) scL.nd rfl (.inl rfl)) pgs_nil))))
      (pss_cons (ps_if (pt_not (pt_val (pe_callG D.gA hr1 hgd rfl D.mA D.A.kp D.bA (pa_cons (pe_lst (pa_cons (pe_meth0 (pv 10) X.cl X.mM X.gM hr1 X.bM .nil pass0) (pa_cons (pe_meth0 (pv 10) X.cl X.mL X.gL hr1 X.bL .nil pass0) pa_nil))) (pa_cons (pe_lst (pa_cons (pv 11) (pa_cons (pv 12) pa_nil))) pa_nil))))) (pss_one (ps_ret pe_bl)) pss_nil)
      (pss_one (ps_if (PW.pt (pw_or (pt_cmpR op_isnot_bl (pe_meth (pv 10) X.cl X.mO X.gO hr1 X.bO .nil pass0 (pa_cons (pe_ifExp (pt_cmpR op_isN (pv 12) pe_non (nomark _)) pe_int (pe_op op_add (pv 12) pe_int)) (pa_cons pe_int pa_nil))) pe_bl (nomark _)) (pw_or1 (pt_not (pt_val (pe_callG D.gA hr1 hgd rfl D.mA D.A.kp D.bA (pa_cons (pe_meth0 (pv 10) X.cl X.mM X.gM hr1 X.bM .nil pass0) (pa_cons (pe_op op_add (pv 11) pe_int) pa_nil)))))))) (pss_one (ps_ret pe_bl)) pss_nil))))
      (pss_one (ps_ret (pe_callG D.gA hr1 hgd rfl D.mA D.A.kp D.bA (pa_cons (pe_lst (pa_cons (pe_meth0 (pv 2) X.cl X.mM X.gM hr1 X.bM .nil pass0) (pa_cons (pe_meth0 (pv 2) X.cl X.mL X.gL hr1 X.bL .nil pass0) pa_nil))) (pa_cons (pe_lst (pa_cons (pv 4) (pa_cons (pv 3) pa_nil))) pa_nil)))))))))), ?_⟩
    refine ⟨_, rfl, a, ns, rfl, hS, hl, fun b Hb hBb _ smb => ?_⟩
    intro c dx nc ndx nex
    refine ⟨c, dx, rfl, upd_same, rfl, ?_⟩
    rw [upd_upd]
    have s1 : Same Hb (upd (upd Hb dx (.own c)) c (.ins C dx (fl 0 none))) := fun x o e => by
      rw [upd_ne (ne_of_none e nc), upd_ne (ne_of_none e ndx)]
      exact e
    have c1 : upd (upd Hb dx (.own c)) c (.ins C dx (fl 0 none)) c = some (.ins C dx (fl 0 none)) := upd_same
    generalize upd (upd Hb dx (.own c)) c (.ins C dx (fl 0 none)) = H1 at s1 c1 ⊢
    refine ⟨by show 0 ≤ sizeLine; decide, fun tw htw => ⟨by show 4 ≤ sizeLine; decide, fun q hq => ?_⟩⟩
    have s2 := same_new (o := .tup [.ref c, .non, .int 0, .ref tw]) (same_new (o := .lst []) s1 htw) hq
    have c2 := s3u (o := .tup [.ref c, .non, .int 0, .ref tw]) hq (s3u (o := .lst []) htw c1)
    have t2 := s3u (o := .tup [.ref c, .non, .int 0, .ref tw]) hq (upd_same (H := H1) (a := tw) (o := .lst []))
    have q2 : upd (upd H1 tw (.lst [])) q (.tup [.ref c, .non, .int 0, .ref tw]) q = some (.tup [.ref c, .non, .int 0, .ref tw]) := upd_same
    have ntw : Hb tw = none := by
      cases e : Hb tw with
      | none => rfl
      | some o => exact absurd (s1 _ _ e) (by rw [htw]; exact fun z => nomatch z)
    generalize upd (upd H1 tw (.lst [])) q (.tup [.ref c, .non, .int 0, .ref tw]) = H2 at s2 c2 t2 q2 ⊢
    refine ⟨q, _, rfl, SqT.of q2, rfl, _, _, rfl, _, _, rfl, _, _, rfl, _, _, rfl, rfl, ?_⟩
    have B2 := hBb.keep s2
    have S2 := (Sb.refl b Hb).same s2
    have ncb : c ≠ b := hBb.ne nc
    have ntb : tw ≠ b := hBb.ne ntw
    clear s1 c1 htw hq q2 s2
    -- it is new
    refine ⟨_, rfl, c, dx, _, rfl, c2, fl_no _ _ (by decide +kernel) (by decide +kernel), c, dx, _, _, rfl, c2, ?_⟩
    refine ⟨rfl, _, rfl, ?_⟩
    refine ite2 (fun c => absurd c (by decide)) (fun _ => ?_)
    refine ⟨_, rfl, c, dx, _, rfl, c2, fl_no _ _ (by decide +kernel) (by decide +kernel), c, dx, 0, none, rfl, c2, ?_⟩
    obtain ⟨f1, f2, f3⟩ := fit_m (m := 0) (by decide) (by decide)
    refine ⟨.int 0, .int 0, .int 0, rfl, .inl ⟨rfl, .inl ⟨_, rfl⟩⟩, .int _, .int _, f1, f2, f3, ?_⟩
    clear f1 f2 f3
    refine ⟨_, rfl, ?_⟩
    refine ite2 (fun h => by cases h) (fun _ => ?_)
    -- the turns
    refine ⟨_, rfl, by show 3 ≤ sizeLine; decide, fun p hp => ?_⟩
    refine ⟨b, p, [.int 9, .int 20, .int 3], rfl, B2.new hp, sql_new upd_same (B2.ne hp), (fun z => nomatch z), by show 3 ≤ 1000000; decide, fun x H3 hx B3 s3' => ?_⟩
    obtain ⟨hn, rfl, hn0⟩ : ∃ hn : Int, x = .int hn ∧ (0 ≤ hn ∧ hn ≤ 20) := by
      simp only [List.mem_cons, List.not_mem_nil, or_false] at hx
      rcases hx with rfl | rfl | rfl
      · exact ⟨_, rfl, by decide⟩
      · exact ⟨_, rfl, by decide⟩
      · exact ⟨_, rfl, by decide⟩
    have s3 := ((Sb.refl b H2).new (o := .lst [.int 9, .int 20, .int 3]) hp).trans s3'
    have S3 := S2.trans s3
    have c3 := s3.get c2 ncb
    have t3 := s3.get t2 ntb
    clear s3 s3' hp c2 t2 B2 S2 hx
    refine ⟨hn, rfl, by omega, by omega, for_range (n := hn.toNat) (fun i σ G => ∃ (m : Int) (l : Option Int) (ts : List Tw) (vs : List V) (v6 v7 v8 v9 : Option V), σ = [some (.ref a), some (.ref b), some (.ref c), some (lv l), some (.int m), some (.ref tw), v6, v7, v8, v9, none, none, none] ∧ Bag G b ∧ Sb b Hb G ∧ G c = some (.ins C dx (fl m l)) ∧ G tw = some (.lst vs) ∧ Paired (TwV C G) vs ts ∧ (ts.map (·.1)).Nodup ∧ (∀ x ∈ ts, x.1 ≠ c ∧ TwOk x) ∧ ts.length ≤ i ∧ 0 ≤ m ∧ m ≤ i * 10 ^ 12 ∧ ∀ j, l = some j → 0 ≤ j ∧ j ≤ 10 ^ 12 + i) ?_ ?_ ?_⟩
    · exact ⟨0, none, [], [], none, none, none, none, rfl, B3, S3, c3, t3, .nil, List.nodup_nil, (fun _ z => nomatch z), Nat.le_refl _, Int.le_refl _, by decide, fun j z => nomatch z⟩
    · clear B3 S3 c3 t3
      rintro i σ G hi ⟨m, l, ts, vs, v6, v7, v8, v9, rfl, hB, hS', hc, ht, hP, hd, hx, hlen, m0, m1, hl'⟩
      have L0 : 0 ≤ l.getD 0 ∧ l.getD 0 ≤ 10 ^ 12 + i := by
        cases l with
        | none => exact ⟨Int.le_refl _, by show (0 : Int) ≤ _; omega⟩
        | some j => exact hl' j rfl
      refine ⟨_, rfl, or_te (i := 3) rfl ⟨_, _, rfl, rfl, or_te (i := 3) rfl (or_te (i := 3) rfl ⟨_, _, rfl, rfl, 0, _, rfl, ?_⟩)⟩⟩
      generalize l.getD 0 = L at L0 ⊢
      refine ⟨_, rfl, b, 30, rfl, hB, by decide, by decide, fun tv H4 t0 t1 B4 s4 => ?_⟩
      refine ⟨10, 12, rfl, rfl, ⟨by decide, by decide, by decide⟩, _, _, rfl, rfl, by show 7 ≤ sizeLine; decide, fun p hp => ?_⟩
      refine ⟨b, p, [.int 0, .int 1, .int (L + 1), .int L, .int (if L - 1 > 0 then L - 1 else 0), .int tv, .int ((10 : Int) ^ (12 : Int).toNat - 1)], rfl, B4.new hp, sql_new upd_same (B4.ne hp), (fun z => nomatch z), by show 7 ≤ 1000000; decide, fun x H6 hx6 B6 s6' => ?_⟩
      have s6 := (s4.new (o := .lst [.int 0, .int 1, .int (L + 1), .int L, .int (if L - 1 > 0 then L - 1 else 0), .int tv, .int ((10 : Int) ^ (12 : Int).toNat - 1)]) hp).trans s6'
      obtain ⟨n, rfl, n0, n1⟩ : ∃ n : Int, x = .int n ∧ 0 ≤ n ∧ n ≤ 10 ^ 12 + (i : Int) + 1 := by
        have e12 : (10 : Int) ^ (12 : Int).toNat - 1 = 999999999999 := by decide
        rw [e12] at hx6
        simp only [List.mem_cons, List.not_mem_nil, or_false] at hx6
        rcases hx6 with rfl | rfl | rfl | rfl | rfl | rfl | rfl
        · exact ⟨_, rfl, by omega, by omega⟩
        · exact ⟨_, rfl, by omega, by omega⟩
        · exact ⟨_, rfl, by omega, by omega⟩
        · exact ⟨_, rfl, by omega, by omega⟩
        · exact ⟨_, rfl, by split <;> omega, by split <;> omega⟩
        · exact ⟨_, rfl, by omega, by omega⟩
        · exact ⟨_, rfl, by omega, by omega⟩
      clear hp s4 B4 s6' hx6
      -- the amount
      refine ⟨_, rfl, 10, 12, rfl, rfl, ⟨by decide, by decide, by decide⟩, _, _, rfl, rfl, by show 4 ≤ sizeLine; decide, fun p hp => ?_⟩
      refine ⟨b, p, [.int 0, .int 1, .int 7, .int ((10 : Int) ^ (12 : Int).toNat - 1)], rfl, B6.new hp, sql_new upd_same (B6.ne hp), (fun z => nomatch z), by show 4 ≤ 1000000; decide, fun x H8 hx8 B8 s8' => ?_⟩
      have s8 := (s6.new (o := .lst [.int 0, .int 1, .int 7, .int ((10 : Int) ^ (12 : Int).toNat - 1)]) hp).trans s8'
      obtain ⟨am, rfl, am0, am1⟩ : ∃ am : Int, x = .int am ∧ 0 ≤ am ∧ am ≤ 10 ^ 12 := by
        have e12 : (10 : Int) ^ (12 : Int).toNat - 1 = 999999999999 := by decide
        rw [e12] at hx8
        simp only [List.mem_cons, List.not_mem_nil, or_false] at hx8
        rcases hx8 with rfl | rfl | rfl | rfl
        · exact ⟨_, rfl, by omega, by omega⟩
        · exact ⟨_, rfl, by omega, by omega⟩
        · exact ⟨_, rfl, by omega, by omega⟩
        · exact ⟨_, rfl, by omega, by omega⟩
      clear hp s6 B6 s8' hx8
      have S8 := hS'.trans s8
      have c8 := s8.get hc ncb
      have t8 := s8.get ht ntb
      have P8 := paired_imp (fun v x h => twv_sb hB s8 h) hP
      clear hc ht hP hS' s8 hB
      refine new_te (i := 3) (j := 7) rfl rfl ?_
      refine ⟨_, _, rfl, ?_⟩
      -- it obeys
      refine ⟨_, rfl, c, dx, _, rfl, c8, fl_no _ _ (by decide +kernel) (by decide +kernel), _, rfl, _, rfl, c, dx, n, am, m, l, rfl, c8, ?_⟩
      obtain ⟨f1, f2, f3⟩ := fit_b (newer l n)
      refine ⟨_, rfl, .bl (newer l n), .bl (newer l n), .bool (newer l n), rfl, .inl ⟨rfl, .inr (.inr (.inr ⟨_, rfl⟩))⟩, .bl _, .bl _, f1, f2, f3, ?_⟩
      clear f1 f2 f3
      refine ⟨_, rfl, ?_⟩
      refine ite2 (fun h => by cases h) (fun _ => ?_)
      have B9 := hBb.wr (o := .ins C dx (fl (mN l n m am) (lN l n))) nc S8 B8
      have S9 := S8.wr (o := .ins C dx (fl (mN l n m am) (lN l n))) nc
      have c9 : upd H8 c (.ins C dx (fl (mN l n m am) (lN l n))) c = some (.ins C dx (fl (mN l n m am) (lN l n))) := upd_same
      have ntc : tw ≠ c := (ne_il c8 t8).symm
      have t9 : upd H8 c (.ins C dx (fl (mN l n m am) (lN l n))) tw = some (.lst vs) := by rw [upd_ne ntc]; exact t8
      have P9 : Paired (TwV C (upd H8 c (.ins C dx (fl (mN l n m am) (lN l n))))) vs ts := paired_impM (fun v x hm h => twv_ins c8 (hx x hm).1 h) P8
      generalize upd H8 c (.ins C dx (fl (mN l n m am) (lN l n))) = H9 at B9 S9 c9 t9 P9 ⊢
      clear c8 t8 P8 B8 S8
      refine pick_te (i3 := 3) (i4 := 4) (i7 := 7) (i8 := 8) (i9 := 9) rfl rfl rfl rfl rfl (fun q H10 hq m10 => ?_)
      refine ⟨q, _, rfl, SqT.of hq, rfl, _, _, rfl, _, _, rfl, rfl, ?_⟩
      obtain ⟨m0', m1'⟩ := mN_bd (l := l) (n := n) m0 m1 am0 am1
      have l1' := lN_bd (n := n) hl' n0 (by omega)
      generalize mN l n m am = m' at c9 m0' m1' ⊢
      generalize lN l n = l' at c9 l1' ⊢
      have S10 := S9.same m10
      have B10 := B9.keep m10
      have c10 := m10 _ _ c9
      have t10 := m10 _ _ t9
      have P10 := paired_imp (fun v x h => twv_same m10 h) P9
      clear S9 B9 c9 t9 P9 hq m10 am0 am1 n0 n1 hl' m0 m1 L0
      have okl : OkL l' := fun j e => by have := l1' j e; omega
      have i20 : (i : Int) ≤ 20 := by omega
      -- it tells
      refine ⟨_, rfl, c, dx, _, rfl, c10, fl_no _ _ (by decide +kernel) (by decide +kernel), c, dx, m', l', rfl, c10, _, rfl, c, dx, _, rfl, c10, fl_no _ _ (by decide +kernel) (by decide +kernel), c, dx, m', l', rfl, c10, by show 2 ≤ sizeLine; decide, fun a1 h1 => ⟨_, rfl, _, rfl, by show 2 ≤ sizeLine; decide, fun a2 h2 => ?_⟩⟩
      have m11 := same_new (o := .lst [.int m', lv l']) (same_new (o := .lst [.int m', lv l']) (Same.refl H10) h1) h2
      have x1 := s3u (o := .lst [.int m', lv l']) h2 (upd_same (H := H10) (a := a1) (o := .lst [.int m', lv l']))
      have x2 : upd (upd H10 a1 (.lst [.int m', lv l'])) a2 (.lst [.int m', lv l']) a2 = some (.lst [.int m', lv l']) := upd_same
      generalize upd (upd H10 a1 (.lst [.int m', lv l'])) a2 (.lst [.int m', lv l']) = H11 at m11 x1 x2 ⊢
      obtain ⟨f1, f2, f3⟩ := fit_ml m0' (show m' ≤ 10 ^ 28 by omega) okl
      refine ⟨.ref a1, .ref a2, .list [.int m', lvD l'], rfl, .inr ⟨3, by decide, eq_ml x1 x2⟩, dat_ml x1, dat_ml x2, f1, f2, f3, ?_⟩
      clear f1 f2 f3 x1 x2 h1 h2
      refine ⟨_, rfl, ?_⟩
      refine ite2 (fun h => by cases h) (fun _ => ?_)
      -- a twin now and then
      refine ⟨_, rfl, b, 5, rfl, B10.keep m11, by decide, by decide, fun v H12 v0 v1 B12 s12 => ⟨rfl, _, rfl, ?_⟩⟩
      have S12 := (S10.same m11).trans s12
      have c12 := s12.get (m11 _ _ c10) ncb
      have t12 := s12.get (m11 _ _ t10) ntb
      have P12 := paired_imp (fun v x h => twv_sb (B10.keep m11) s12 (twv_same m11 h)) P10
      clear S10 B10 c10 t10 P10 m11 s12
      have hb : ∀ B : Int, m' ≤ (i : Int) * 10 ^ 12 + 10 ^ 12 → m' ≤ ((i + 1 : Nat) : Int) * 10 ^ 12 := fun _ h => by omega
      have m1'' := hb 0 m1'
      have l1'' : ∀ j, l' = some j → 0 ≤ j ∧ j ≤ 10 ^ 12 + ((i + 1 : Nat) : Int) := fun j e => by have := l1' j e; omega
      refine ite2 (fun _ => ?_) (fun _ => ?_)
      · refine ⟨_, rfl, .inl ⟨rfl, _, SqL.of t12⟩, _, rfl, c, dx, _, rfl, c12, fl_no _ _ (by decide +kernel) (by decide +kernel), c, dx, m', l', rfl, c12, fun y dy H13 ny hy m13 => ?_⟩
        refine ⟨_, rfl, _, rfl, by show 3 ≤ sizeLine; decide, fun t hT => ?_⟩
        have lvs := paired_len P12
        have m14 := same_new (o := .tup [.ref y, .int m', lv l']) m13 hT
        have y14 := s3u (o := .tup [.ref y, .int m', lv l']) hT hy
        have t14 : upd H13 t (.tup [.ref y, .int m', lv l']) t = some (.tup [.ref y, .int m', lv l']) := upd_same
        generalize upd H13 t (.tup [.ref y, .int m', lv l']) = H14 at m14 y14 t14 ⊢
        have tw14 := m14 _ _ t12
        have c14 := m14 _ _ c12
        refine ⟨tw, vs, .ref t, rfl, rfl, tw14, small1000 (by omega), m', l', ts ++ [(y, m', l')], vs ++ [.ref t], _, _, _, _, rfl, hBb.wr ntw (S12.same m14) (B12.keep m14), (S12.same m14).wr ntw, by rw [upd_ne ntc.symm]; exact c14, upd_same, ?_, ?_, ?_, ?_, m0', m1'', l1''⟩
        · refine paired_snoc ⟨t, dy, rfl, by rw [upd_ne (ne_tl t14 tw14)]; exact t14, by rw [upd_ne (ne_il y14 tw14)]; exact y14⟩ (paired_imp (fun v x h => twv_lst tw14 (twv_same m14 h)) P12)
        · rw [List.map_append]
          refine List.nodup_append.mpr ⟨hd, by simp, fun o ho o' ho' z => ?_⟩
          obtain ⟨x, hxm, rfl⟩ := List.mem_map.mp ho
          have e' : o' = y := by simpa using ho'
          obtain ⟨v', t', d', _, _, h2⟩ := paired_ex P12 x hxm
          rw [z, e', ny] at h2
          cases h2
        · intro x hxm
          rcases List.mem_append.mp hxm with h | h
          · exact hx x h
          · rw [List.mem_singleton.mp h]
            exact ⟨(fun z => by have z : y = c := z; rw [z, c12] at ny; cases ny), m0', (by show m' ≤ 10 ^ 14; omega), okl⟩
        · rw [List.length_append]
          show ts.length + 1 ≤ i + 1
          omega
      · exact ⟨m', l', ts, vs, _, _, _, _, rfl, B12, S12, c12, t12, P12, hd, hx, by omega, m0', m1'', l1''⟩
    clear B3 S3 c3 t3
    rintro σ G ⟨m, l, ts, vs, v6, v7, v8, v9, rfl, hB, hS', hc, ht, hP, hd, hx, hlen, m0, m1, hl'⟩
    have okl : OkL l := fun j e => by have := hl' j e; omega
    have mB : m ≤ 10 ^ 28 := by omega
    have lvs := paired_len hP
    clear hB hS' m1 hl' hlen
    refine ⟨_, rfl, tw, rfl, ⟨_, SqL.of ht⟩, ?_⟩
    refine for_list (K := K) (a := tw) (xs := vs) (fun j σ G' => ∃ v10 v11 v12 : Option V, σ = [some (.ref a), some (.ref b), some (.ref c), some (lv l), some (.int m), some (.ref tw), v6, v7, v8, v9, v10, v11, v12] ∧ G' c = some (.ins C dx (fl m l)) ∧ G' tw = some (.lst vs) ∧ Paired (TwV C G') (vs.drop j) (ts.drop j)) ?_ ?_ ?_ ?_
    · exact ⟨_, _, _, rfl, hc, ht, hP⟩
    · rintro j σ G' _ ⟨_, _, _, _, _, z, _⟩
      exact SqL.of z
    · rintro j z σ G' hz ⟨v10, v11, v12, rfl, hc', ht', hP'⟩
      have hj : j < vs.length := (List.getElem?_eq_some_iff.mp hz).1
      obtain ⟨x, hxj⟩ : ∃ x, ts[j]? = some x := ⟨_, List.getElem?_eq_getElem (by omega)⟩
      rw [drop_at hz, drop_at hxj] at hP'
      have xm := List.mem_of_getElem? hxj
      obtain ⟨nxc, x0, x1', okx⟩ := hx x xm
      have nds : ∀ y ∈ ts.drop (j + 1), y.1 ≠ x.1 := fun y hy e => by
        have h1 := hd.sublist ((List.drop_sublist j ts).map (·.1))
        rw [drop_at hxj, List.map_cons] at h1
        exact (List.nodup_cons.mp h1).1 (e ▸ List.mem_map.mpr ⟨y, hy, rfl⟩)
      cases hP' with
      | cons g rest =>
        obtain ⟨o, mj, lj⟩ := x
        obtain ⟨t, d, rfl, hT, ho⟩ := g
        have ho : G' o = some (.ins C d (fl mj lj)) := ho
        have hT : G' t = some (.tup [.ref o, .int mj, lv lj]) := hT
        have x0 : 0 ≤ mj := x0
        have x1' : mj ≤ 10 ^ 14 := x1'
        have okx : OkL lj := okx
        refine ⟨t, _, rfl, SqT.of hT, rfl, _, _, rfl, _, _, rfl, _, _, rfl, rfl, ?_⟩
        refine ⟨_, rfl, o, d, _, rfl, ho, fl_no _ _ (by decide +kernel) (by decide +kernel), o, d, mj, lj, rfl, ho, _, rfl, o, d, _, rfl, ho, fl_no _ _ (by decide +kernel) (by decide +kernel), o, d, mj, lj, rfl, ho, by show 2 ≤ sizeLine; decide, fun a1 h1 => ⟨_, rfl, _, rfl, by show 2 ≤ sizeLine; decide, fun a2 h2 => ?_⟩⟩
        have m11 := same_new (o := .lst [.int mj, lv lj]) (same_new (o := .lst [.int mj, lv lj]) (Same.refl G') h1) h2
        have x1 := s3u (o := .lst [.int mj, lv lj]) h2 (upd_same (H := G') (a := a1) (o := .lst [.int mj, lv lj]))
        have x2 : upd (upd G' a1 (.lst [.int mj, lv lj])) a2 (.lst [.int mj, lv lj]) a2 = some (.lst [.int mj, lv lj]) := upd_same
        generalize upd (upd G' a1 (.lst [.int mj, lv lj])) a2 (.lst [.int mj, lv lj]) = H11 at m11 x1 x2 ⊢
        obtain ⟨f1, f2, f3⟩ := fit_ml x0 (show mj ≤ 10 ^ 28 by omega) okx
        refine ⟨.ref a1, .ref a2, .list [.int mj, lvD lj], rfl, .inr ⟨3, by decide, eq_ml x1 x2⟩, dat_ml x1, dat_ml x2, f1, f2, f3, ?_⟩
        clear f1 f2 f3 x1 x2 h1 h2
        refine ⟨_, rfl, ?_⟩
        refine ite2 (fun h => by cases h) (fun _ => ?_)
        have ho1 := m11 _ _ ho
        have hc1 := m11 _ _ hc'
        have ht1 := m11 _ _ ht'
        have hP1 := paired_imp (fun v x h => twv_same m11 h) rest
        refine ⟨_, rfl, o, d, _, rfl, ho1, fl_no _ _ (by decide +kernel) (by decide +kernel), nxt_te (i := 12) rfl ⟨o, d, nx lj, 5, mj, lj, rfl, ho1, ?_⟩⟩
        have en : mN lj (nx lj) mj 5 = mj + 5 := if_pos (newer_nx lj)
        rw [newer_nx, en]
        have o2 : upd H11 o (.ins C d (fl (mj + 5) (lN lj (nx lj)))) o = some (.ins C d (fl (mj + 5) (lN lj (nx lj)))) := upd_same
        have c2 : upd H11 o (.ins C d (fl (mj + 5) (lN lj (nx lj)))) c = some (.ins C dx (fl m l)) := by rw [upd_ne (fun z => nxc z.symm)]; exact hc1
        have t2 : upd H11 o (.ins C d (fl (mj + 5) (lN lj (nx lj)))) tw = some (.lst vs) := by rw [upd_ne (ne_il ho1 ht1).symm]; exact ht1
        have P2 : Paired (TwV C (upd H11 o (.ins C d (fl (mj + 5) (lN lj (nx lj)))))) (vs.drop (j + 1)) (ts.drop (j + 1)) := paired_impM (fun v x hm h => twv_ins ho1 (nds x hm) h) hP1
        generalize upd H11 o (.ins C d (fl (mj + 5) (lN lj (nx lj)))) = H12 at o2 c2 t2 P2 ⊢
        refine ⟨_, _, rfl, rfl, _, rfl, ?_⟩
        refine ite2 (fun h => absurd h (by decide)) (fun _ => ?_)
        refine ⟨_, rfl, o, d, _, rfl, o2, fl_no _ _ (by decide +kernel) (by decide +kernel), o, d, mj + 5, _, rfl, o2, _, rfl, _, _, rfl, rfl, ?_⟩
        obtain ⟨f1, f2, f3⟩ := fit_m (m := mj + 5) (by omega) (by omega)
        refine ⟨.int (mj + 5), .int (mj + 5), .int (mj + 5), rfl, .inl ⟨rfl, .inl ⟨_, rfl⟩⟩, .int _, .int _, f1, f2, f3, ?_⟩
        refine ⟨_, rfl, ?_⟩
        refine ite2 (fun h => by cases h) (fun _ => ?_)
        exact ⟨_, _, _, rfl, c2, t2, P2⟩
    rintro σ G' ⟨v10, v11, v12, rfl, hc', ht', _⟩
    refine ⟨_, rfl, c, dx, _, rfl, hc', fl_no _ _ (by decide +kernel) (by decide +kernel), c, dx, m, l, rfl, hc', _, rfl, c, dx, _, rfl, hc', fl_no _ _ (by decide +kernel) (by decide +kernel), c, dx, m, l, rfl, hc', by show 2 ≤ sizeLine; decide, fun a1 h1 => ⟨_, rfl, _, rfl, by show 2 ≤ sizeLine; decide, fun a2 h2 => ?_⟩⟩
    have x1 := s3u (o := .lst [.int m, lv l]) h2 (upd_same (H := G') (a := a1) (o := .lst [.int m, lv l]))
    have x2 : upd (upd G' a1 (.lst [.int m, lv l])) a2 (.lst [.int m, lv l]) a2 = some (.lst [.int m, lv l]) := upd_same
    obtain ⟨f1, f2, f3⟩ := fit_ml m0 mB okl
    exact ⟨.ref a1, .ref a2, .list [.int m, lvD l], rfl, .inr ⟨3, by decide, eq_ml x1 x2⟩, dat_ml x1, dat_ml x2, f1, f2, f3, k _⟩
end
end Y

namespace Y
open PySem PySem.Spec PyProof.Rows L2 Ns
/-- the def's data -/
def fdOf {K : PySem.W.Frag} {x q : Str} {st : Stmt} {f : Addr} {fd : FuncData} (_ : Fun K x q st f fd) : FuncData := fd
set_option maxHeartbeats 4000000 in
theorem all_mk {l : PySem.W.OpenLaw} {w : World} {K : PySem.W.Frag} {h : Heap} {mg : Str → Option Value} {fa : Addr} (X : K.In h) (G : h.Ns mainGlobals mg) (hfa : mg "law" = some (.ref fa))
    {fB fT fS fA fL fI fO fM fN fW cC : Addr}
    {oddB andB : Option Addr} {sldB : Array (Option Value)} {ocdB kVdB dcdB pmdB cddB ctdB : Value}
    {oddT andT : Option Addr} {sldT : Array (Option Value)} {ocdT kVdT dcdT pmdT cddT ctdT : Value}
    {oddS andS : Option Addr} {sldS : Array (Option Value)} {ocdS kVdS dcdS pmdS cddS ctdS : Value}
    {oddA andA : Option Addr} {sldA : Array (Option Value)} {ocdA kVdA dcdA pmdA cddA ctdA : Value}
    {oddL andL : Option Addr} {sldL : Array (Option Value)} {ocdL kVdL dcdL pmdL cddL ctdL : Value}
    {oddI andI : Option Addr} {sldI : Array (Option Value)} {ocdI kVdI dcdI pmdI cddI ctdI : Value}
    {oddO andO : Option Addr} {sldO : Array (Option Value)} {ocdO kVdO dcdO pmdO cddO ctdO : Value}
    {oddM andM : Option Addr} {sldM : Array (Option Value)} {ocdM kVdM dcdM pmdM cddM ctdM : Value}
    {oddN andN : Option Addr} {sldN : Array (Option Value)} {ocdN kVdN dcdN pmdN cddN ctdN : Value}
    {oddW andW : Option Addr} {sldW : Array (Option Value)} {ocdW kVdW dcdW pmdW cddW ctdW : Value}
    (adB : PySem.W.nsIn K mainGlobals "_law_bag" = some (some (.ref fB)))
    (ldB : K.lookup fB = some ⟨ocdB, oddB, .func (PySem.W.fnOf "_law_bag" "_law_bag" (defArgs sBag) (defBody sBag) (defScope sBag) .none kVdB dcdB pmdB andB cddB ctdB), sldB⟩)
    (cdB : PySem.W.codeIn K cddB "_law_bag" = true)
    (kdB : PySem.W.keepIn K (.ref fB) = true)
    (adT : PySem.W.nsIn K mainGlobals "_law_take" = some (some (.ref fT)))
    (ldT : K.lookup fT = some ⟨ocdT, oddT, .func (PySem.W.fnOf "_law_take" "_law_take" (defArgs sTake) (defBody sTake) (defScope sTake) .none kVdT dcdT pmdT andT cddT ctdT), sldT⟩)
    (cdT : PySem.W.codeIn K cddT "_law_take" = true)
    (kdT : PySem.W.keepIn K (.ref fT) = true)
    (adS : PySem.W.nsIn K mainGlobals "_law_some" = some (some (.ref fS)))
    (ldS : K.lookup fS = some ⟨ocdS, oddS, .func (PySem.W.fnOf "_law_some" "_law_some" (defArgs sSome) (defBody sSome) (defScope sSome) .none kVdS dcdS pmdS andS cddS ctdS), sldS⟩)
    (cdS : PySem.W.codeIn K cddS "_law_some" = true)
    (kdS : PySem.W.keepIn K (.ref fS) = true)
    (adA : PySem.W.nsIn K mainGlobals "_law_alike" = some (some (.ref fA)))
    (ldA : K.lookup fA = some ⟨ocdA, oddA, .func (PySem.W.fnOf "_law_alike" "_law_alike" (defArgs sAlike) (defBody sAlike) (defScope sAlike) .none kVdA dcdA pmdA andA cddA ctdA), sldA⟩)
    (cdA : PySem.W.codeIn K cddA "_law_alike" = true)
    (kdA : PySem.W.keepIn K (.ref fA) = true)
    (adL : PySem.W.nsIn K mainGlobals "law" = some (some (.ref fL)))
    (ldL : K.lookup fL = some ⟨ocdL, oddL, .func (PySem.W.fnOf "law" "law" (defArgs sLaw) (defBody sLaw) (defScope sLaw) .none kVdL dcdL pmdL andL cddL ctdL), sldL⟩)
    (cdL : PySem.W.codeIn K cddL "law" = true)
    (kdL : PySem.W.keepIn K (.ref fL) = true)
    (aC : PySem.W.nsIn K mainGlobals "Charger" = some (some (.ref cC)))
    (pgC : PySem.W.plainGet K cC Str.empty = true) (hdC : PySem.W.hasDictIn K cC = true) (poC : PySem.W.plainOver K cC = true) (saC : PySem.W.findIn K (.ref cC) "__setattr__" = some (some (.builtin "object.__setattr__"))) (mkC : PySem.W.makesIn K cC = true) (kcC : PySem.W.keepIn K (.ref cC) = true)
    (nC__meter : PySem.W.findIn K (.ref cC) "_meter" = some none)
    (nC__last : PySem.W.findIn K (.ref cC) "_last" = some none)
    (adI : PySem.W.findIn K (.ref cC) "__init__" = some (some (.ref fI))) (isI : PySem.W.isFn K (.ref fI) = true)
    (ldI : K.lookup fI = some ⟨ocdI, oddI, .func (PySem.W.fnOf "__init__" "Charger.__init__" (defArgs sInit) (defBody sInit) (defScope sInit) .none kVdI dcdI pmdI andI cddI ctdI), sldI⟩)
    (cdI : PySem.W.codeIn K cddI "Charger.__init__" = true)
    (kdI : PySem.W.keepIn K (.ref fI) = true)
    (adO : PySem.W.findIn K (.ref cC) "obey" = some (some (.ref fO))) (isO : PySem.W.isFn K (.ref fO) = true)
    (ldO : K.lookup fO = some ⟨ocdO, oddO, .func (PySem.W.fnOf "obey" "Charger.obey" (defArgs sObey) (defBody sObey) (defScope sObey) .none kVdO dcdO pmdO andO cddO ctdO), sldO⟩)
    (cdO : PySem.W.codeIn K cddO "Charger.obey" = true)
    (kdO : PySem.W.keepIn K (.ref fO) = true)
    (adM : PySem.W.findIn K (.ref cC) "meter" = some (some (.ref fM))) (isM : PySem.W.isFn K (.ref fM) = true)
    (ldM : K.lookup fM = some ⟨ocdM, oddM, .func (PySem.W.fnOf "meter" "Charger.meter" (defArgs sMeter) (defBody sMeter) (defScope sMeter) .none kVdM dcdM pmdM andM cddM ctdM), sldM⟩)
    (cdM : PySem.W.codeIn K cddM "Charger.meter" = true)
    (kdM : PySem.W.keepIn K (.ref fM) = true)
    (adN : PySem.W.findIn K (.ref cC) "last" = some (some (.ref fN))) (isN : PySem.W.isFn K (.ref fN) = true)
    (ldN : K.lookup fN = some ⟨ocdN, oddN, .func (PySem.W.fnOf "last" "Charger.last" (defArgs sLast) (defBody sLast) (defScope sLast) .none kVdN dcdN pmdN andN cddN ctdN), sldN⟩)
    (cdN : PySem.W.codeIn K cddN "Charger.last" = true)
    (kdN : PySem.W.keepIn K (.ref fN) = true)
    (adW : PySem.W.findIn K (.ref cC) "twin" = some (some (.ref fW))) (isW : PySem.W.isFn K (.ref fW) = true)
    (ldW : K.lookup fW = some ⟨ocdW, oddW, .func (PySem.W.fnOf "twin" "Charger.twin" (defArgs sTwin) (defBody sTwin) (defScope sTwin) .none kVdW dcdW pmdW andW cddW ctdW), sldW⟩)
    (cdW : PySem.W.codeIn K cddW "Charger.twin" = true)
    (kdW : PySem.W.keepIn K (.ref fW) = true)
    (zabs : PySem.W.nsIn K mainGlobals "abs" = some none)
    (zint : PySem.W.nsIn K mainGlobals "int" = some none)
    (zlen : PySem.W.nsIn K mainGlobals "len" = some none)
    (zrepr : PySem.W.nsIn K mainGlobals "repr" = some none)
    (zisinstance : PySem.W.nsIn K mainGlobals "isinstance" = some none)
    (zrange : PySem.W.nsIn K mainGlobals "range" = some none)
    (zsorted : PySem.W.nsIn K mainGlobals "sorted" = some none)
    (ztuple : PySem.W.nsIn K mainGlobals "tuple" = some none)
    (zlist : PySem.W.nsIn K mainGlobals "list" = some none)
    (zdict : PySem.W.nsIn K mainGlobals "dict" = some none)
    (zset : PySem.W.nsIn K mainGlobals "set" = some none)
    (zsum : PySem.W.nsIn K mainGlobals "sum" = some none)
    (zmax : PySem.W.nsIn K mainGlobals "max" = some none)
    (zmin : PySem.W.nsIn K mainGlobals "min" = some none)
    (zstr : PySem.W.nsIn K mainGlobals "str" = some none)
    (zall : PySem.W.nsIn K mainGlobals "all" = some none)
    (zany : PySem.W.nsIn K mainGlobals "any" = some none)
    (zzip : PySem.W.nsIn K mainGlobals "zip" = some none) :
    ∃ fd : FuncData, (∀ (s : Shared) (v : Value), BindsTo s fd ⟨[v], []⟩ [("script", v)]) ∧ ∀ base : Heap, K.In base → base.Ns mainGlobals mg → GnOk l.prog w K mg base 4 fa fd ["script"] (spTop K) := by
  have e := hfa.symm.trans (PySem.W.mg_of X G adL)
  cases e
  have T : Nat0 mg := ⟨PySem.W.mg_none_of X G zabs, PySem.W.mg_none_of X G zint, PySem.W.mg_none_of X G zlen, PySem.W.mg_none_of X G zrepr, PySem.W.mg_none_of X G zisinstance, PySem.W.mg_none_of X G zrange, PySem.W.mg_none_of X G zsorted, PySem.W.mg_none_of X G ztuple, PySem.W.mg_none_of X G zlist, PySem.W.mg_none_of X G zdict, PySem.W.mg_none_of X G zset, PySem.W.mg_none_of X G zsum, PySem.W.mg_none_of X G zmax, PySem.W.mg_none_of X G zmin, PySem.W.mg_none_of X G zstr, PySem.W.mg_none_of X G zall, PySem.W.mg_none_of X G zany, PySem.W.mg_none_of X G zzip⟩
  have FB := fun_mk (st := sBag) ldB cdB kdB
  have bB := FB.binds (ps := ["script"]) fun _ _ _ _ _ _ us hl => match us, hl with | [_], _ => rfl
  have mB := PySem.W.mg_of X G adB
  have FT := fun_mk (st := sTake) ldT cdT kdT
  have bT := FT.binds (ps := ["bag", "many"]) fun _ _ _ _ _ _ us hl => match us, hl with | [_, _], _ => rfl
  have mT := PySem.W.mg_of X G adT
  have FS := fun_mk (st := sSome) ldS cdS kdS
  have bS := FS.binds (ps := ["bag", "things"]) fun _ _ _ _ _ _ us hl => match us, hl with | [_, _], _ => rfl
  have mS := PySem.W.mg_of X G adS
  have FA := fun_mk (st := sAlike) ldA cdA kdA
  have bA := FA.binds (ps := ["found", "due"]) fun _ _ _ _ _ _ us hl => match us, hl with | [_, _], _ => rfl
  have mA := PySem.W.mg_of X G adA
  have FL := fun_mk (st := sLaw) ldL cdL kdL
  have FI := fun_mk (st := sInit) ldI cdI kdI
  have bI := FI.binds (ps := ["self"]) fun _ _ _ _ _ _ us hl => match us, hl with | [_], _ => rfl
  have FO := fun_mk (st := sObey) ldO cdO kdO
  have bO := FO.binds (ps := ["self", "number", "amount"]) fun _ _ _ _ _ _ us hl => match us, hl with | [_, _, _], _ => rfl
  have FM := fun_mk (st := sMeter) ldM cdM kdM
  have bM := FM.binds (ps := ["self"]) fun _ _ _ _ _ _ us hl => match us, hl with | [_], _ => rfl
  have FN := fun_mk (st := sLast) ldN cdN kdN
  have bN := FN.binds (ps := ["self"]) fun _ _ _ _ _ _ us hl => match us, hl with | [_], _ => rfl
  have FW := fun_mk (st := sTwin) ldW cdW kdW
  have bW := FW.binds (ps := ["self"]) fun _ _ _ _ _ _ us hl => match us, hl with | [_], _ => rfl
  exact ⟨_, fun s v => .of_eq rfl, fun base _ _ =>
    have TX : Txt K mg cC := { cl := ⟨pgC, hdC, poC, saC⟩, nM := nC__meter, nL := nC__last, mgC := PySem.W.mg_of X G aC }
    have D : D59 l.prog w K mg base fB fT fS fA _ _ _ _ := { B := FB, mB := mB, bB := bB, gB := ok_bag FB T, T := FT, mT := mT, bT := bT, gT := ok_take FT T, S := FS, mS := mS, bS := bS, gS := ok_some FS T FT mT bT, A := FA, mA := mA, bA := bA, gA := ok_alike FA T }
    have XX : X59 l.prog w K mg base cC fI fO fM fN fW _ _ _ _ _ := { toTxt := TX, hM := ⟨mkC, adI, isI, kcC⟩, bI := bI, gI := ok_init FI TX, mO := ⟨adO, isO, kdO⟩, bO := bO, gO := ok_obey FO TX, mM := ⟨adM, isM, kdM⟩, bM := bM, gM := ok_meter FM TX, mL := ⟨adN, isN, kdN⟩, bL := bN, gL := ok_last FN TX, mT := ⟨adW, isW, kdW⟩, bT := bW, gT := ok_twin FW TX ⟨mkC, adI, isI, kcC⟩ FI bI }
    ok_law FL T D XX⟩
end Y
open PySem PySem.W PyProof.Rows in
set_option maxRecDepth 100000 in
set_option maxHeartbeats 0 in
theorem PySem.Challenge.cw_nightstairs_k59_chargers_holds : PySem.Challenge.rw_nightstairs_k59_chargers.Holds := by
  w_on; o_law; k_head; (case hw => w_witness2)
  k_fill
  refine Ns.walk_ofG (l := PySem.Challenge.rw_nightstairs_k59_chargers) (k := 4) rfl rfl ⟨rfl, by decide, by decide⟩ (fun w h Y => PySem.W.kIn_of Y) ?F
  case F =>
    intro w mg fa h KX G hmg
    refine' Y.all_mk KX G hmg ?adB ?ldB ?cdB ?kdB ?adT ?ldT ?cdT ?kdT ?adS ?ldS ?cdS ?kdS ?adA ?ldA ?cdA ?kdA ?adL ?ldL ?cdL ?kdL ?aC ?pgC ?hdC ?poC ?saC ?mkC ?kcC ?nC__meter ?nC__last ?adI ?isI ?ldI ?cdI ?kdI ?adO ?isO ?ldO ?cdO ?kdO ?adM ?isM ?ldM ?cdM ?kdM ?adN ?isN ?ldN ?cdN ?kdN ?adW ?isW ?ldW ?cdW ?kdW ?zabs ?zint ?zlen ?zrepr ?zisinstance ?zrange ?zsorted ?ztuple ?zlist ?zdict ?zset ?zsum ?zmax ?zmin ?zstr ?zall ?zany ?zzip
    (case adB => k_is)
    (case ldB => k_is)
    (case cdB => k_is)
    (case kdB => k_is)
    (case adT => k_is)
    (case ldT => k_is)
    (case cdT => k_is)
    (case kdT => k_is)
    (case adS => k_is)
    (case ldS => k_is)
    (case cdS => k_is)
    (case kdS => k_is)
    (case adA => k_is)
    (case ldA => k_is)
    (case cdA => k_is)
    (case kdA => k_is)
    (case adL => k_is)
    (case ldL => k_is)
    (case cdL => k_is)
    (case kdL => k_is)
    (case aC => k_is)
    (case pgC => k_is)
    (case hdC => k_is)
    (case poC => k_is)
    (case saC => k_is)
    (case mkC => k_is)
    (case kcC => k_is)
    (case nC__meter => k_is)
    (case nC__last => k_is)
    (case adI => k_is)
    (case isI => k_is)
    (case ldI => k_is)
    (case cdI => k_is)
    (case kdI => k_is)
    (case adO => k_is)
    (case isO => k_is)
    (case ldO => k_is)
    (case cdO => k_is)
    (case kdO => k_is)
    (case adM => k_is)
    (case isM => k_is)
    (case ldM => k_is)
    (case cdM => k_is)
    (case kdM => k_is)
    (case adN => k_is)
    (case isN => k_is)
    (case ldN => k_is)
    (case cdN => k_is)
    (case kdN => k_is)
    (case adW => k_is)
    (case isW => k_is)
    (case ldW => k_is)
    (case cdW => k_is)
    (case kdW => k_is)
    (case zabs => k_is)
    (case zint => k_is)
    (case zlen => k_is)
    (case zrepr => k_is)
    (case zisinstance => k_is)
    (case zrange => k_is)
    (case zsorted => k_is)
    (case ztuple => k_is)
    (case zlist => k_is)
    (case zdict => k_is)
    (case zset => k_is)
    (case zsum => k_is)
    (case zmax => k_is)
    (case zmin => k_is)
    (case zstr => k_is)
    (case zall => k_is)
    (case zany => k_is)
    (case zzip => k_is)

