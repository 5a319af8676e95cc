import PyProof.Rows.All
import Wide.All
import OpenK.AllK
import Wide.FinOn
import PyProof.ReprRoads
import HandS.ForMost
import HandS.DeepEq
import HandS.Ends
import HandS.Wide
import HandS.Codes
import KE.KEqNest
import HandS.More
import HandS.Text
import HandS.Conv
import KE.SortData
import HandS.TupLen
import HandS.DictTup
import PyProof.DictUpdate
import KE.KItemsList
import KE.KDictSum
import HandS.DictComp
import HandS.SetTxt0
import HandS.Set
import HandS.SetFor
import HandS.SetKeys
import HandS.Walk
import HandS.TupAny
import HandS.Zip
import HandS.TryOnly
import HandS.Style
import PySem.Challenge.RW_nightstairs_k05_needs_charged_and_joined
set_option Elab.async false
set_option linter.all false
set_option maxRecDepth 100000
set_option pp.maxSteps 150
set_option pp.deepTerms false
set_option maxHeartbeats 4000000
/-! NsA: data as a whole over the abstract heap; its repr; its ==. -/
namespace Ns
open PySem PySem.Spec PyProof.Rows L2

/-- a key as data -/
def kD : Key → PyData
  | .inl i => .int i
  | .inr x => .str x

mutual
/-- the value x is the datum d -/
inductive DatV (K : PySem.W.Frag) (H : Hp) : V → PyData → Prop
  | non : DatV K H .non .none
  | bl (b : Bool) : DatV K H (.bl b) (.bool b)
  | int (i : Int) : DatV K H (.int i) (.int i)
  | str (x : Str) : DatV K H (.str x) (.str x)
  | lst {a : Addr} {xs : List V} {ds : List PyData} : SqL K H a xs → DatA K H xs ds → DatV K H (.ref a) (.list ds)
  | tup {a : Addr} {xs : List V} {ds : List PyData} : SqT K H a xs → DatA K H xs ds → DatV K H (.ref a) (.tuple ds)
  | dic {a : Addr} {kvs : List (Key × V)} {ds : List PyData} : H a = some (.dK kvs) → DatA K H (kvs.map (·.2)) ds → DatV K H (.ref a) (.dict ((kvs.map fun p => kD p.1).zip ds))
inductive DatA (K : PySem.W.Frag) (H : Hp) : List V → List PyData → Prop
  | nil : DatA K H [] []
  | cons {x : V} {d : PyData} {xs : List V} {ds : List PyData} : DatV K H x d → DatA K H xs ds → DatA K H (x :: xs) (d :: ds)
end

theorem DatA.len {K : PySem.W.Frag} {H : Hp} : ∀ {xs : List V} {ds : List PyData}, DatA K H xs ds → xs.length = ds.length
  | _, _, .nil => rfl
  | _, _, .cons _ t => by rw [List.length_cons, List.length_cons, t.len]

mutual
/-- what stood stands: the datum too -/
theorem DatV.more {K : PySem.W.Frag} {H H' : Hp} (m : Same H H') : ∀ {x : V} {d : PyData}, DatV K H x d → DatV K H' x d
  | _, _, .non => .non
  | _, _, .bl b => .bl b
  | _, _, .int i => .int i
  | _, _, .str x => .str x
  | _, _, .lst h t => .lst (m.seq h) (t.more m)
  | _, _, .tup h t => .tup (h.elim (fun z => .inl (z.elim (fun z => .inl (m _ _ z)) fun ⟨o, z⟩ => .inr ⟨o, m _ _ z⟩)) .inr) (t.more m)
  | _, _, .dic h t => .dic (m _ _ h) (t.more m)
theorem DatA.more {K : PySem.W.Frag} {H H' : Hp} (m : Same H H') : ∀ {xs : List V} {ds : List PyData}, DatA K H xs ds → DatA K H' xs ds
  | _, _, .nil => .nil
  | _, _, .cons h t => .cons (h.more m) (t.more m)
end

theorem map_fst_zip {α β : Type} : ∀ {as : List α} {bs : List β}, as.length = bs.length → (as.zip bs).map (·.1) = as
  | [], [], _ => rfl
  | a :: as, b :: bs, h => by
    have h' : as.length = bs.length := by simpa using h
    simp [map_fst_zip h']
theorem map_snd_zip {α β : Type} : ∀ {as : List α} {bs : List β}, as.length = bs.length → (as.zip bs).map (·.2) = bs
  | [], [], _ => rfl
  | a :: as, b :: bs, h => by
    have h' : as.length = bs.length := by simpa using h
    simp [map_snd_zip h']

section
variable {X : Cx} {pins : List (Addr × Obj)} {σ : L2.St} {H : Hp} {s : Shared}

/-- the keys of a dict's entries are read -/
theorem keys_read {h : Heap} {P : Program} {w : World} : ∀ {es : List DictEntry} {vs : List (Key × Value)}, Pairs (mixKind P w) es vs → ReadsAll h (es.map (·.key)) (vs.map fun p => kD p.1) []
  | _, _, .nil => .nil
  | e :: es, kv :: vs, .cons h1 _ t => by
    have q : Reads h e.key (kD kv.1) [] := by
      rcases keyIs_shape (show keyIs kv.1 e.key = true from h1) with ⟨i, t, ek, ev⟩ | ⟨x, t, ek, ev⟩
      · rw [ek, ev]; exact .int i t
      · rw [ek, ev]; exact .str x t
    exact ReadsAll.cons (as := []) (bs := []) q (keys_read t)
theorem pairs_vals {P : Program} {w : World} : ∀ {es : List DictEntry} {vs : List (Key × Value)}, Pairs (mixKind P w) es vs → es.map (·.val) = vs.map (·.2)
  | _, _, .nil => rfl
  | e :: es, kv :: vs, .cons _ h2 t => by
    rw [List.map_cons, List.map_cons, h2, pairs_vals t]
theorem kv_fst : ∀ {ks : List (Key × V)} {vs : List (Key × Value)}, KV ks vs → vs.map (fun p => kD p.1) = ks.map fun p => kD p.1
  | _, _, .nil => rfl
  | _, _, .cons h t => by rw [List.map_cons, List.map_cons, h.1, kv_fst t]
theorem kv_vals : ∀ {ks : List (Key × V)} {vs : List (Key × Value)}, KV ks vs → Vals (ks.map (·.2)) (vs.map (·.2))
  | _, _, .nil => .nil
  | _, _, .cons h t => .cons h.2 (kv_vals t)

mutual
/-- what the heap reads of it -/
theorem reads_of (I : Inv X pins σ H s) : ∀ {x : V} {d : PyData}, DatV X.K H x d → ∀ {v : Value}, RelV x v → ∃ as, Reads s.heap v d as
  | _, _, .non, v, r => by cases (show v = Value.none from r); exact ⟨_, .none⟩
  | _, _, .bl b, v, r => by cases (show v = Value.bool b from r); exact ⟨_, .bool b⟩
  | _, _, .int i, v, r => by obtain ⟨t, rfl⟩ := (show ∃ t, v = Value.int i t from r); exact ⟨_, .int i t⟩
  | _, _, .str x, v, r => by obtain ⟨t, rfl⟩ := (show ∃ t, v = Value.str x t from r); exact ⟨_, .str x t⟩
  | _, _, .lst (a := a) h t, v, r => by
    cases (show v = Value.ref a from r)
    obtain ⟨its, rv, ⟨o, n, h1, h2, h3, h4⟩, _⟩ := I.list h
    obtain ⟨as, q⟩ := readsA_of I t rv
    exact ⟨_, .list h1 h2 (by first | exact h3 | exact h4) (by simpa using q)⟩
  | _, _, .tup (a := a) h t, v, r => by
    cases (show v = Value.ref a from r)
    obtain ⟨its, rv, ⟨o, h1, h2, n, h3⟩, _⟩ := I.tuple h
    obtain ⟨as, q⟩ := readsA_of I t rv
    exact ⟨_, .tuple h1 h2 h3 (by simpa using q)⟩
  | _, _, .dic (a := a) (kvs := kvs) (ds := ds) h t, v, r => by
    cases (show v = Value.ref a from r)
    obtain ⟨_, _, vs, rv, o, es, ep, h1, h2, h3, _, h5, _⟩ := (show ObjOk X.prog X.w H s.heap a (.dK kvs) from I.hok a _ h)
    obtain ⟨as, q⟩ := readsA_of I t (kv_vals rv)
    have hl : (kvs.map fun p => kD p.1).length = ds.length := by
      have z := t.len
      rw [List.length_map] at z ⊢
      exact z
    refine ⟨_, Reads.dict (as := []) (bs := as) h1 h2.1 h3 ?_ ?_⟩
    · rw [map_fst_zip hl, ← kv_fst rv]
      exact keys_read h5
    · rw [map_snd_zip hl, pairs_vals h5]
      exact q
theorem readsA_of (I : Inv X pins σ H s) : ∀ {xs : List V} {ds : List PyData}, DatA X.K H xs ds → ∀ {us : List Value}, Vals xs us → ∃ as, ReadsAll s.heap us ds as
  | _, _, .nil, us, r => by cases r; exact ⟨_, .nil⟩
  | _, _, .cons h t, us, r => by
    cases r with
    | cons r1 r2 =>
      obtain ⟨as, q⟩ := reads_of I h r1
      obtain ⟨bs, q2⟩ := readsA_of I t r2
      exact ⟨_, .cons q q2⟩
end
end
end Ns

/-! NsB: repr of data. -/
namespace Ns
open PySem PySem.Spec PyProof.Rows L2
section
variable {X : Cx} {pins : List (Addr × Obj)} {σ : L2.St} {H : Hp} {s : Shared}

theorem zip_kv : ∀ {as : List Key} {ds : List PyData}, as.length = ds.length → ((as.map kD).zip ds).map (·.1) = as.map kD := fun {as ds} h => map_fst_zip (by rw [List.length_map]; exact h)

theorem kv_of_zip {α : Type} {f : α → PyData} {l : List α} {ds : List PyData} (h : l.length = ds.length) : (((l.map f).zip ds).map (·.1) = l.map f) ∧ (((l.map f).zip ds).map (·.2) = ds) :=
  ⟨map_fst_zip (by rw [List.length_map]; exact h), map_snd_zip (by rw [List.length_map]; exact h)⟩

/-- keys show themselves, whatever stands -/
theorem keys_shown {P : Program} {w : World} {h : Heap} {n : Nat} : ∀ {es : List DictEntry} {vs : List (Key × Value)}, Pairs (mixKind P w) es vs → (∀ p ∈ vs, (kD p.1).showable = true ∧ (kD p.1).shown.length ≤ sizeLine) →
    ReprAllK P w [] h n (es.map (·.key)) (PyData.shownAll (vs.map fun p => kD p.1))
  | _, _, .nil, _ => by simp only [List.map_nil, PyData.shownAll]; exact .nil
  | e :: es, kv :: vs, .cons h1 _ t, hz => by
    rw [List.map_cons, List.map_cons, PyData.shownAll_cons]
    obtain ⟨z1, z2⟩ := hz kv List.mem_cons_self
    refine .cons (ReprK.of_is ?_ _ _ _) (keys_shown t fun p hp => hz p (List.mem_cons_of_mem _ hp))
    rcases keyIs_shape (show keyIs kv.1 e.key = true from h1) with ⟨i, tk, ek, ev⟩ | ⟨x, tk, ek, ev⟩
    · rw [ek] at z1 ⊢
      rw [ev]
      show ReprIs P w _ (PyData.int i).shown
      rw [PyData.shown_int]
      exact ReprIs.int tk (of_decide_eq_true (by simpa [kD, PyData.showable] using z1))
    · rw [ek] at z2 ⊢
      rw [ev]
      show ReprIs P w _ (PyData.str x).shown
      have z2' : (PyData.str x).shown.length ≤ sizeLine := z2
      rw [PyData.shown_str] at z2' ⊢
      exact ReprIs.str x tk z2'

theorem all_of : ∀ {l : List PyData}, PyData.showableAll l = true → ∀ d ∈ l, d.showable = true
  | [], _, _, hd => nomatch hd
  | x :: l, h, d, hd => by
    have h' : x.showable = true ∧ PyData.showableAll l = true := by simpa [PyData.showableAll] using h
    rcases List.mem_cons.mp hd with e | e
    · rw [e]; exact h'.1
    · exact all_of h'.2 d e
theorem shown_mem : ∀ {l : List PyData} {d : PyData}, d ∈ l → d.shown ∈ PyData.shownAll l
  | [], _, h => nomatch h
  | x :: l, d, h => by
    rw [PyData.shownAll_cons]
    rcases List.mem_cons.mp h with e | e
    · rw [e]; exact List.mem_cons_self
    · exact List.mem_cons_of_mem _ (shown_mem e)

mutual
theorem reprK_of (I : Inv X pins σ H s) : ∀ {x : V} {d : PyData}, DatV X.K H x d → ∀ {v : Value}, RelV x v → d.showable = true → d.shown.length ≤ sizeLine →
    ∃ bs, ReadAtMost s.heap d.depth bs ∧ ReprK X.prog X.w bs s.heap d.depth v d.shown
  | _, _, .non, v, r, _, _ => by
    cases (show v = Value.none from r)
    exact ⟨[], (fun _ z => nomatch z), by rw [PyData.shown_none]; exact .of_is ReprIs.none _ _ _⟩
  | _, _, .bl b, v, r, _, _ => by
    cases (show v = Value.bool b from r)
    refine ⟨[], (fun _ z => nomatch z), ?_⟩
    simp only [PyData.shown]
    exact .of_is (ReprIs.bool b) _ _ _
  | _, _, .int i, v, r, hs, _ => by
    obtain ⟨t, rfl⟩ := (show ∃ t, v = Value.int i t from r)
    refine ⟨[], (fun _ z => nomatch z), ?_⟩
    rw [PyData.shown_int]
    exact .of_is (ReprIs.int t (by simpa [PyData.showable] using hs)) _ _ _
  | _, _, .str x, v, r, _, hz => by
    obtain ⟨t, rfl⟩ := (show ∃ t, v = Value.str x t from r)
    refine ⟨[], (fun _ z => nomatch z), ?_⟩
    rw [PyData.shown_str] at hz ⊢
    exact .of_is (ReprIs.str x t hz) _ _ _
  | _, _, .lst (a := a) (ds := ds) h t, v, r, hs, hz => by
    cases (show v = Value.ref a from r)
    have hz1 : (listText (PyData.shownAll ds)).length ≤ sizeLine := by simpa only [PyData.shown] using hz
    have hs1 : PyData.showableAll ds = true := by simpa [PyData.showable] using hs
    obtain ⟨as, rd⟩ := reads_of I (.lst h t) (v := .ref a) rfl
    obtain ⟨its, rv, ⟨o, n, h1, h2, h3, h4⟩, _⟩ := I.list h
    have h5 : o.data = .seq its.toArray n := by first | exact h3 | exact h4
    obtain ⟨bs, hb, hk⟩ := reprA_of I t rv hs1 fun u hu => Nat.le_trans (listText_mem_le hu) hz1
    have dp : (PyData.list ds).depth = PyData.depthAll ds + 1 := by simp only [PyData.depth] <;> omega
    have hna : a ∉ bs := not_mem_of_deeper rd (by rw [dp]; omega) hb
    refine ⟨a :: bs, ReadAtMost.cons rd (by rw [dp]; omega) hb, ?_⟩
    rw [dp]
    simp only [PyData.shown]
    cases its with
    | nil =>
      have e0 : PyData.shownAll ds = [] := List.length_eq_zero_iff.mp (by simpa using hk.length_eq)
      rw [e0, listText_nil]
      exact ReprK.listEmpty h1 h2 h5
    | cons y l => exact ReprK.list h1 h2 h5 hna (by simpa using hk.length_eq) fun i u e => hk.item i u (by simpa using e)
  | _, _, .tup (a := a) (ds := ds) h t, v, r, hs, hz => by
    cases (show v = Value.ref a from r)
    have hz1 : (tupleText (PyData.shownAll ds)).length ≤ sizeLine := by simpa only [PyData.shown] using hz
    have hs1 : PyData.showableAll ds = true := by simpa [PyData.showable] using hs
    obtain ⟨as, rd⟩ := reads_of I (.tup h t) (v := .ref a) rfl
    obtain ⟨its, rv, ⟨o, h1, h2, n, h3⟩, _⟩ := I.tuple h
    obtain ⟨bs, hb, hk⟩ := reprA_of I t rv hs1 fun u hu => Nat.le_trans (tupleText_mem_le hu) hz1
    have dp : (PyData.tuple ds).depth = PyData.depthAll ds + 1 := by simp only [PyData.depth] <;> omega
    have hna : a ∉ bs := not_mem_of_deeper rd (by rw [dp]; omega) hb
    refine ⟨a :: bs, ReadAtMost.cons rd (by rw [dp]; omega) hb, ?_⟩
    rw [dp]
    simp only [PyData.shown]
    exact ReprK.tuple h1 h2 h3 hna (by simpa using hk)
  | _, _, .dic (a := a) (kvs := kvs) (ds := ds) h t, v, r, hs, hz => by
    cases (show v = Value.ref a from r)
    have hl : kvs.length = ds.length := by
      have z := t.len
      rw [List.length_map] at z
      exact z
    obtain ⟨e1, e2⟩ := kv_of_zip (f := fun p : Key × V => kD p.1) (l := kvs) hl
    have hz1 : (dictText (PyData.shownKv ((kvs.map fun p => kD p.1).zip ds))).length ≤ sizeLine := by simpa only [PyData.shown] using hz
    have hs1 : PyData.showableKv ((kvs.map fun p => kD p.1).zip ds) = true := by simpa [PyData.showable] using hs
    obtain ⟨s1, s2⟩ := PyData.showableKv_split _ hs1
    rw [e1] at s1
    rw [e2] at s2
    obtain ⟨as, rd⟩ := reads_of I (.dic h t) (v := .ref a) rfl
    obtain ⟨_, hsy, vs, rv, o, es, ep, h1, h2, h3, _, h5, _⟩ := (show ObjOk X.prog X.w H s.heap a (.dK kvs) from I.hok a _ h)
    have vl : ∀ u ∈ PyData.shownAll ds, u.length ≤ sizeLine := fun u hu => by
      obtain ⟨p, hp, hq⟩ := PyData.shownKv_val_le _ u (by rw [e2]; exact hu)
      exact Nat.le_trans hq (Nat.le_trans (dictText_mem_le hp) hz1)
    have kl : ∀ u ∈ PyData.shownAll (kvs.map fun p => kD p.1), u.length ≤ sizeLine := fun u hu => by
      obtain ⟨p, hp, hq⟩ := PyData.shownKv_key_le _ u (by rw [e1]; exact hu)
      exact Nat.le_trans hq (Nat.le_trans (dictText_mem_le hp) hz1)
    obtain ⟨bs, hb, hk⟩ := reprA_of I t (kv_vals rv) s2 vl
    have kk : ReprAllK X.prog X.w [] s.heap (PyData.depthKv ((kvs.map fun p => kD p.1).zip ds)) (es.toList.map (·.key)) (PyData.shownAll (kvs.map fun p => kD p.1)) := by
      rw [← kv_fst rv]
      refine keys_shown h5 fun p hp => ?_
      have hm : kD p.1 ∈ kvs.map fun p => kD p.1 := by
        rw [← kv_fst rv]
        exact List.mem_map.mpr ⟨p, hp, rfl⟩
      exact ⟨all_of s1 _ hm, kl _ (shown_mem hm)⟩
    have dv : PyData.depthAll ds ≤ PyData.depthKv ((kvs.map fun p => kD p.1).zip ds) := by
      have z := PyData.depthAll_vals_le ((kvs.map fun p => kD p.1).zip ds)
      rw [e2] at z
      exact z
    have hb2 : ReadAtMost s.heap (PyData.depthKv ((kvs.map fun p => kD p.1).zip ds)) bs := hb.mono dv
    have dp : (PyData.dict ((kvs.map fun p => kD p.1).zip ds)).depth = PyData.depthKv ((kvs.map fun p => kD p.1).zip ds) + 1 := by simp only [PyData.depth] <;> omega
    have hna : a ∉ bs := not_mem_of_deeper rd (by rw [dp]; omega) hb2
    refine ⟨a :: bs, ReadAtMost.cons rd (by rw [dp]; omega) hb2, ?_⟩
    rw [dp]
    simp only [PyData.shown, PyData.shownKv_eq]
    rw [e1, e2]
    refine ReprK.dict h1 h2.1 h3 hsy hna (ReprEntriesK.of_two es.toList _ _ (kk.more_le (fun b z => absurd z List.not_mem_nil) (Nat.le_refl _)) ?_)
    rw [pairs_vals h5]
    exact hk.more_le (fun b z => z) dv
theorem reprA_of (I : Inv X pins σ H s) : ∀ {xs : List V} {ds : List PyData}, DatA X.K H xs ds → ∀ {us : List Value}, Vals xs us → PyData.showableAll ds = true → (∀ t ∈ PyData.shownAll ds, t.length ≤ sizeLine) →
    ∃ bs, ReadAtMost s.heap (PyData.depthAll ds) bs ∧ ReprAllK X.prog X.w bs s.heap (PyData.depthAll ds) us (PyData.shownAll ds)
  | _, _, .nil, us, r, _, _ => by
    cases r
    exact ⟨[], (fun _ z => nomatch z), by simp only [PyData.shownAll]; exact .nil⟩
  | _, _, .cons (d := d) (ds := ds) h t, us, r, hs, hz => by
    cases r with
    | cons r1 r2 =>
      have hs1 : d.showable = true ∧ PyData.showableAll ds = true := by simpa [PyData.showableAll] using hs
      rw [PyData.shownAll_cons] at hz ⊢
      obtain ⟨b1, g1, k1⟩ := reprK_of I h r1 hs1.1 (hz _ List.mem_cons_self)
      obtain ⟨b2, g2, k2⟩ := reprA_of I t r2 hs1.2 fun u hu => hz u (List.mem_cons_of_mem _ hu)
      have dp : PyData.depthAll (d :: ds) = max d.depth (PyData.depthAll ds) := by simp only [PyData.depthAll]
      refine ⟨b1 ++ b2, ?_, ?_⟩
      · rw [dp]
        exact (g1.mono (Nat.le_max_left _ _)).append (g2.mono (Nat.le_max_right _ _))
      · rw [dp]
        exact .cons ((k1.more fun b z => List.mem_append_left _ z).level_le (Nat.le_max_left _ _)) (k2.more_le (fun b z => List.mem_append_right _ z) (Nat.le_max_right _ _))
end
theorem dict_entries (I : Inv X pins σ H s) {a : Addr} {kvs : List (Key × V)} {ds : List PyData} {vs : List (Key × Value)} {o : Obj} {es : Array DictEntry} {ep : Nat} (h : H a = some (.dK kvs)) (t : DatA X.K H (kvs.map (·.2)) ds)
    (hs : (PyData.dict ((kvs.map fun p => kD p.1).zip ds)).showable = true) (hz : (PyData.dict ((kvs.map fun p => kD p.1).zip ds)).shown.length ≤ sizeLine) (h1 : s.heap.get? a = some o) (h3 : o.data = .dict es ep)
    (h5 : Pairs (mixKind X.prog X.w) es.toList vs) (rv : KV kvs vs) :
    ∃ n bs, a ∉ bs ∧ ReprEntriesK X.prog X.w bs s.heap n es.toList (PyData.shownKv ((kvs.map fun p => kD p.1).zip ds)) ∧ n + 1 ≤ (PyData.dict ((kvs.map fun p => kD p.1).zip ds)).depth := by
  have hl : kvs.length = ds.length := by
    have z := t.len
    rw [List.length_map] at z
    exact z
  obtain ⟨e1, e2⟩ := kv_of_zip (f := fun p : Key × V => kD p.1) (l := kvs) hl
  have hz1 : (dictText (PyData.shownKv ((kvs.map fun p => kD p.1).zip ds))).length ≤ sizeLine := by simpa only [PyData.shown] using hz
  have hs1 : PyData.showableKv ((kvs.map fun p => kD p.1).zip ds) = true := by simpa [PyData.showable] using hs
  obtain ⟨s1, s2⟩ := PyData.showableKv_split _ hs1
  rw [e1] at s1
  rw [e2] at s2
  obtain ⟨as, rd⟩ := reads_of I (.dic h t) (v := .ref a) rfl
  obtain ⟨bs, hb, hk⟩ := reprA_of I t (kv_vals rv) s2 fun u hu => by
    obtain ⟨p, hp, hq⟩ := PyData.shownKv_val_le _ u (by rw [e2]; exact hu)
    exact Nat.le_trans hq (Nat.le_trans (dictText_mem_le hp) hz1)
  have kk : ReprAllK X.prog X.w [] s.heap (PyData.depthKv ((kvs.map fun p => kD p.1).zip ds)) (es.toList.map (·.key)) (PyData.shownAll (kvs.map fun p => kD p.1)) := by
    rw [← kv_fst rv]
    refine keys_shown h5 fun p hp => ?_
    have hm : kD p.1 ∈ kvs.map fun p => kD p.1 := by
      rw [← kv_fst rv]
      exact List.mem_map.mpr ⟨p, hp, rfl⟩
    obtain ⟨y, hy, hq⟩ := PyData.shownKv_key_le _ _ (by rw [e1]; exact shown_mem hm)
    exact ⟨all_of s1 _ hm, Nat.le_trans hq (Nat.le_trans (dictText_mem_le hy) hz1)⟩
  have dv : PyData.depthAll ds ≤ PyData.depthKv ((kvs.map fun p => kD p.1).zip ds) := by
    have z := PyData.depthAll_vals_le ((kvs.map fun p => kD p.1).zip ds)
    rw [e2] at z
    exact z
  have dp : (PyData.dict ((kvs.map fun p => kD p.1).zip ds)).depth = PyData.depthKv ((kvs.map fun p => kD p.1).zip ds) + 1 := by simp only [PyData.depth] <;> omega
  have hna : a ∉ bs := not_mem_of_deeper rd (by rw [dp]; omega) (hb.mono dv)
  refine ⟨_, bs, hna, ?_, Nat.le_of_eq dp.symm⟩
  rw [PyData.shownKv_eq, e1, e2]
  refine ReprEntriesK.of_two es.toList _ _ (kk.more_le (fun b z => absurd z List.not_mem_nil) (Nat.le_refl _)) ?_
  rw [pairs_vals h5]
  exact hk.more_le (fun b z => z) dv
end
end Ns

/-! NsC: the call of repr; == of equal data. -/
namespace Ns
open PySem PySem.Spec PyProof.Rows L2
section
variable {X : Cx} {pins : List (Addr × Obj)} {σ : L2.St} {H : Hp} {s : Shared}

theorem repr_run (I : Inv X pins σ H s) {A : Around} (hg : A.guards = some []) {x : V} {d : PyData} (D : DatV X.K H x d) {v : Value} (r : RelV x v) (hs : d.showable = true) (hz : d.shown.length ≤ sizeLine) (hu : A.units + (d.depth + 2) < cLine)
    {E Q : Value → Shared → Prop} (q : ∀ h' u tk, (∀ b o, s.heap.get? b = some o → h'.get? b = some o) → Q (.str d.shown u) { s with heap := h', toks := tk }) :
    wpAny (model X.prog X.w) A (call (.builtin "repr") [v]) Q E s := by
  cases D with
  | non =>
    cases (show v = Value.none from r)
    rw [PyData.shown_none] at q
    exact PySem.P.repr_of_none (q s.heap _ _ fun _ _ e => e)
  | bl b =>
    cases (show v = Value.bool b from r)
    rw [PyData.shown_bool] at q
    exact PySem.P.repr_of_bool (q s.heap _ _ fun _ _ e => e)
  | int i =>
    obtain ⟨t, rfl⟩ := (show ∃ t, v = Value.int i t from r)
    rw [PyData.shown_int] at q
    exact PySem.P.repr_of_int (of_decide_eq_true (by simpa [PyData.showable] using hs)) (q s.heap _ _ fun _ _ e => e)
  | str y =>
    obtain ⟨t, rfl⟩ := (show ∃ t, v = Value.str y t from r)
    rw [PyData.shown_str] at q hz
    exact PySem.P.repr_of_str (q s.heap _ _ fun _ _ e => e) hz
  | @lst a xs ds h t =>
    cases (show v = Value.ref a from r)
    have hz1 : (listText (PyData.shownAll ds)).length ≤ sizeLine := by simpa only [PyData.shown] using hz
    have hs1 : PyData.showableAll ds = true := by simpa [PyData.showable] using hs
    obtain ⟨as, rd⟩ := reads_of I (.lst h t) (v := .ref a) rfl
    obtain ⟨its, rv, ⟨o, n, h1, h2, h3, h4⟩, _⟩ := I.list h
    have h5 : o.data = .seq its.toArray n := by first | exact h3 | exact h4
    obtain ⟨bs, hb, hk⟩ := reprA_of I t rv hs1 fun u hu => Nat.le_trans (listText_mem_le hu) hz1
    have dp : (PyData.list ds).depth = PyData.depthAll ds + 1 := by simp only [PyData.depth] <;> omega
    have hna : a ∉ bs := not_mem_of_deeper rd (by rw [dp]; omega) hb
    simp only [PyData.shown] at q
    rw [dp] at hu
    refine call_repr_slot (by omega) ⟨o, h1, h2⟩ F.slot_list_repr.toG ?_
    cases its with
    | nil =>
      have e0 : PyData.shownAll ds = [] := List.length_eq_zero_iff.mp (by simpa using hk.length_eq)
      rw [e0, listText_nil] at q
      exact call_list_repr_empty ⟨o, h1, h2⟩ h1 h5 ⟨_, _, rfl, q s.heap _ _ fun _ _ e => e⟩
    | cons y l =>
      exact call_list_reprK (A := A.in1) (g := []) h1 h2 h5 hna (by simpa using hk.length_eq) (fun i u e => hk.item i u (by simpa using e)) hg (fun b _ => Clear.nil b) (by show A.units + 1 + _ < _; omega) (fun _ _ e => e)
        (fun h' u tk k => ⟨_, _, rfl, q h' u tk k⟩) hz1
  | @tup a xs ds h t =>
    cases (show v = Value.ref a from r)
    have hz1 : (tupleText (PyData.shownAll ds)).length ≤ sizeLine := by simpa only [PyData.shown] using hz
    have hs1 : PyData.showableAll ds = true := by simpa [PyData.showable] using hs
    obtain ⟨as, rd⟩ := reads_of I (.tup h t) (v := .ref a) rfl
    obtain ⟨its, rv, ⟨o, h1, h2, n, h3⟩, _⟩ := I.tuple h
    obtain ⟨bs, hb, hk⟩ := reprA_of I t rv hs1 fun u hu => Nat.le_trans (tupleText_mem_le hu) hz1
    have dp : (PyData.tuple ds).depth = PyData.depthAll ds + 1 := by simp only [PyData.depth] <;> omega
    have hna : a ∉ bs := not_mem_of_deeper rd (by rw [dp]; omega) hb
    simp only [PyData.shown] at q
    rw [dp] at hu
    refine call_repr_slot (by omega) ⟨o, h1, h2⟩ F.slot_tuple_repr ?_
    exact call_tuple_reprK (A := A.in1) (g := []) h1 h2 h3 hna (by simpa using hk) hg (fun b _ => Clear.nil b) (by show A.units + 1 + _ < _; omega) (fun _ _ e => e)
      (fun h' u tk k => ⟨_, _, rfl, q h' u tk k⟩) hz1
  | @dic a kvs ds h t =>
    cases (show v = Value.ref a from r)
    obtain ⟨_, hsy, vs, rv, o, es, ep, h1, h2, h3, _, h5, _⟩ := (show ObjOk X.prog X.w H s.heap a (.dK kvs) from I.hok a _ h)
    obtain ⟨n, bs, hna, hE, hd⟩ := dict_entries I h t hs hz h1 h3 h5 rv
    simp only [PyData.shown] at q hz
    refine call_repr_slot (by omega) ⟨o, h1, h2.1⟩ F.slot_dict_repr ?_
    exact call_dict_reprK (A := A.in1) (g := []) h1 h2.1 h3 hsy hna hE hg (fun b _ => Clear.nil b) (by show A.units + 1 + _ < _; omega) (fun _ _ e => e)
      (fun h' u tk k => ⟨_, _, rfl, q h' u tk k⟩) hz

/-- repr(x), x data -/
def rRep (K : PySem.W.Frag) : List V → Hp → VK → Prop := fun xs H Q => ∃ x d, xs = [x] ∧ DatV K H x d ∧ d.showable = true ∧ d.shown.length ≤ sizeLine ∧ d.depth ≤ 60 ∧ Q (.str d.shown) H
theorem call_reprD (hg : X.A.guards = some []) (hu : X.A.units + 64 < cLine) : CallR X (.builtin "repr") (rRep X.K) := by
  intro pins s σ H xs us Q I r h
  obtain ⟨x, d, rfl, D, hs, hz, hd, q⟩ := h
  obtain ⟨u, rfl, r1⟩ := vals1 r
  exact repr_run I hg D r1 hs hz (by omega) fun h' u tk k => ⟨.str d.shown, H, I.kept (t' := tk) k, ⟨u, rfl⟩, q⟩
end
end Ns

/-! NsG: defs that are called where no repr is under way (the guards are known to be none); xs[i] op= e of a list; the end of a law over such a def. -/
namespace Ns
open PySem PySem.Spec PyProof.Rows L2

/-- as FnOk, for calls with no guard around -/
structure GnOk (P : Program) (w : World) (K : PySem.W.Frag) (mg : Str → Option Value) (base : Heap) (k : Nat) (f : Addr) (fd : FuncData) (ps : List Str) (sp : Sp) : Prop where
  glen : ∀ as H Q E, sp as H Q E → as.length = ps.length
  grun : ∀ (A : Around) (outer : List Env) (s : Shared) (H : Hp) (args : Args) (us : List Value) (as : List V) (Q : VK) (E : XK), Room k A → A.guards = some [] → Env0 P w K mg base A outer s H →
    BindsTo s fd args (ps.zip us) → Vals as us → sp as H Q E → codeAny (model P w) A (.call (.ref f) args) (CR CX0 outer P w H s Q E) s
theorem FnOk.guarded {P : Program} {w : World} {K : PySem.W.Frag} {mg : Str → Option Value} {base : Heap} {k : Nat} {f : Addr} {fd : FuncData} {ps : List Str} {sp : Sp} (F : FnOk P w K mg base CX0 k f fd ps sp) : GnOk P w K mg base k f fd ps sp :=
  ⟨F.len, fun A outer s H args us as Q E hr _ e b v h => F.run A outer s H args us as Q E hr e b v h⟩

section
variable {X : Cx} {k : Nat} {f : Addr} {fd : FuncData} {ps : List Str} {sp : Sp} {x : Str} {p pos : Pos} {e : Expr} {es : List Expr} {t : TA}
theorem run_g {pins : List (Addr × Obj)} {σ : L2.St} {H : Hp} {s : Shared} {Q : VK} {us : List Value} {as : List V} (F : GnOk X.prog X.w X.K X.mg X.base k f fd ps sp) (hr : Room k X.A) (hgd : X.A.guards = some []) (hb : Binds X.K fd ps [])
    (I : Inv X pins σ H s) (r : Vals as us) (h : sp as H Q E0) : wpAny (model X.prog X.w) X.A (call (.ref f) us) (EP X pins σ Q) X.xe s := by
  have hl : us.length = ps.length := r.length.symm.trans (F.glen _ _ _ _ h)
  have bb := hb s us I.kIn (by rw [List.append_nil]; exact hl)
  rw [List.append_nil] at bb
  refine wpAny_call (codeAny_mono (F.grun X.A X.stack s H ⟨us, []⟩ us as Q E0 hr hgd I.env0 bb r h) fun z s' hz => ?_)
  match z, hz with
  | .error _, hz => exact (show False from hz).elim
  | .ok (.ret u), hz => exact I.after hz
  | .ok .next, hz => exact (show False from hz).elim
  | .ok .brk, hz => exact (show False from hz).elim
  | .ok .cont, hz => exact (show False from hz).elim
theorem pe_callG (F : GnOk X.prog X.w X.K X.mg X.base k f fd ps sp) (hr : Room k X.A) (hgd : X.A.guards = some []) (hg : Gl X x) (hm : X.mg x = some (.ref f)) (hk : PySem.W.keepIn X.K (.ref f) = true) (hb : Binds X.K fd ps [])
    (ha : PA X (e :: es) t) (hdb : (x == ("__debug__" : Str)) = false := by decide) (he : starEach (e :: es) X.env = (false, eval e X.env) :: starEach es X.env := by rfl) (hpl : (backTo pos (starEach es X.env)).any (·.1) = false := by rfl) :
    PE X (.Call (.Name x p) (e :: es) [] pos) (tCall sp [] E0 t) :=
  ⟨fun pins s σ H Q I h => wpAny_Call_Name_kw (ld_glob I hg hm (PySem.W.callWith_K (h₀ := X.base) I.ok.mod.kin hk (thn (ha.run pos pins s σ H _ I h) fun us s1 ⟨as, H1, I1, r, q⟩ => ⟨I1.kIn, run_g F hr hgd hb I1 r (by have q' : sp (as ++ []) H1 Q E0 := q; rw [List.append_nil] at q'; exact q')⟩) he hpl) hdb)⟩
end

/-- the def by its body: the guards are known within -/
theorem Fun.okG {P : Program} {w : World} {K : PySem.W.Frag} {mg : Str → Option Value} {base : Heap} {x qual : Str} {st : Stmt} {f : Addr} {fd : FuncData} {N ps : List Str} {k : Nat} {sp : Sp} (F : Fun K x qual st f fd) (S : FnScope N ps (defScope st))
    (len : ∀ as H Q E, sp as H Q E → as.length = ps.length)
    (body : ∀ (cdv : Value) (A : Around) (outer : List Env) (s : Shared) (H : Hp) (as : List V) (Q : VK) (E : XK), Room k (A.deeper (envOfC qual (defScope st) s.heap.objs.size f cdv)) → (A.deeper (envOfC qual (defScope st) s.heap.objs.size f cdv)).guards = some [] → sp as H Q E →
      ∃ t, PSs (cxOf CX0 P w K mg base N qual (defScope st) f cdv A outer s H E).nox (defBody st) t ∧ t { nx := fun _ H' => Q .non H', rt := Q } (start N as) H) : GnOk P w K mg base (k + 1) f fd ps sp := by
  obtain ⟨oc, od, kV, doc, pm, an, cdv, ct, osl, rfl, lk, hcd⟩ := F.ex
  refine ⟨len, fun A outer s H args us as Q E hr hgd e0 hb r hsp => ?_⟩
  have old : ∀ b o, base.get? b = some o → s.heap.get? b = some o := fun b o z => (e0.bs b o z).1
  have kin : K.In s.heap := e0.mod.kin.keeps old
  refine codeAny_call_function hr.depth (kin _ _ lk) rfl S.co S.gen rfl (PySem.W.codeRec_of kin hcd) (hb _ _ _ _ (wpAny_newFunctionEnv_cells S.kind (fun y hy => ?_) fun env he s1 x => ?_))
  · have hm := (List.of_mem_zip (show (y.1, y.2) ∈ ps.zip us from hy)).1
    exact (S.par y.1 hm).imp (fun z => z) fun z => ⟨z, PySem.W.cellsFrom_some _ _ _ (.inl z)⟩
  · cases he
    refine ⟨(e0.mod.nolimit.keeps old).keeps x.toInCall.keep, codeAny_func ?_⟩
    obtain ⟨t, ht, hq⟩ := body cdv A outer s H as Q E (hr.deeper _) hgd hsp
    have J := inv_start (CX := CX0) (E := E) S hr.hd e0 (len _ _ _ _ hsp) r x
    refine wpAny_mono (ht.nox.run [] s1 (start N as) H _ J hq) (fun fl s' hs => ?_) fun e s' hs => hs
    match fl, hs with
    | .ret u, ⟨v, _, H', J', rv, q⟩ => exact ⟨v, H', J'.os, J'.bare, J'.base, J'.hok, rv, q⟩
    | .next, ⟨_, H', J', q⟩ => exact ⟨V.non, H', J'.os, J'.bare, J'.base, J'.hok, rfl, q⟩
    | .brk, ⟨_, _, _, q⟩ => exact (show False from q).elim
    | .cont, ⟨_, _, _, q⟩ => exact (show False from q).elim
end Ns

/-! NsH: the end of a law over a guarded def; xs[i] op= e. -/
namespace Ns
open PySem PySem.Spec PyProof.Rows L2

/-- what a law's def promises: of a list of ints, True -/
def spTop (K : PySem.W.Frag) : Sp := fun as H Q _ => ∃ (a : Addr) (ns : List Int), as = [.ref a] ∧ SqL K H a (ns.map V.int) ∧ ns.length ≤ 63 ∧ ∀ H', Q (.bl true) H'

/-- the abstract heap at the entry: the script at a alone, unless it is a written object -/
theorem entry_core {P : Program} {w : World} {K : PySem.W.Frag} {mg mb : Str → Option Value} {k : Nat} {fa a : Addr} {fd : FuncData} {s : Shared} {vs : List Value} {ns : List Int} (kin : K.In s.heap) (gl : s.heap.Ns mainGlobals mg)
    (bl : s.heap.Ns builtinsNs mb) (bb : ∀ x : Str, x ≠ "__name__" → mb x = bootBuiltins x) (nl : s.heap.NoLimit) (ge : s.gens = #[]) (sc : s.heap.get? a = some { cls := .type "list", data := .seq vs.toArray }) (l63 : ns.length ≤ 63)
    (hr : Room k callerA) (F : ∀ base : Heap, K.In base → base.Ns mainGlobals mg → GnOk P w K mg base k fa fd ["script"] (spTop K)) (bd : ∀ (z : Shared) (u : Value), BindsTo z fd ⟨[u], []⟩ [("script", u)])
    (H : Hp) (only : ∀ b o, H b = some o → b = a ∧ ∃ ob xs, o = .frz ob (.lst xs)) (free : H a ≠ none → K.lookup a = none) (hok : HOk P w H s.heap) (sq : SqL K H a (ns.map V.int)) :
    codeAny (model P w) callerA (.call (.ref fa) ⟨[.ref a], []⟩) (fun r s' => r = .ok (.ret (.bool true)) ∧ OldK s.heap s'.heap ∧ s'.os = s.os ∧ AllBare s'.gens) s := by
  have noD : ∀ {b : Addr} {o : Obj} {es : Array DictEntry} {n : Nat}, s.heap.get? b = some o → o.data = .dict es n → H b = none := by
    intro b o es n e d
    cases q : H b with
    | none => rfl
    | some u =>
      obtain ⟨rfl, _⟩ := only b u q
      rw [sc] at e
      cases e
      cases d
  have ns' : ∀ {b : Addr} {m : Str → Option Value}, s.heap.Ns b m → (hidT s.heap H).Ns b m := by
    rintro b m ⟨o, es, n, e, d, r⟩
    exact ⟨o, es, n, hidT_get e (noD e d), d, r⟩
  have kin' : K.In (hidT s.heap H) := by
    intro b o e
    refine hidT_get (kin b o e) ?_
    cases q : H b with
    | none => rfl
    | some u =>
      obtain ⟨rfl, _⟩ := only b u q
      rw [free (by rw [q]; exact fun z => nomatch z)] at e
      cases e
  have md : Mod K mg (hidT s.heap H) := by
    obtain ⟨mc, n1, n2⟩ := nl
    exact { kin := kin', glob := ns' gl, blt := ⟨mb, ns' bl, bb⟩, nolimit := ⟨mc, ns' n1, n2⟩ }
  have e0 : Env0 P w K mg (hidT s.heap H) callerA [] s H :=
    { frames := rfl, mod := md, bs := fun b o e => of_hidT e, bsz := Nat.le_of_eq (hidT_size _ _), funs := trivial, frf := fun b hb => (List.not_mem_nil hb).elim, hok := hok, bare := .of_eq ge }
  have run := (F _ kin' (ns' gl)).grun callerA [] s H ⟨[.ref a], []⟩ [.ref a] [.ref a] (fun v _ => v = .bl true) E0 hr rfl e0 (bd s (.ref a)) (.cons rfl .nil) ⟨a, ns, rfl, sq, l63, fun _ => rfl⟩
  refine codeAny_mono run fun r s' h => ?_
  match r, h with
  | .error _, h => exact (show False from h).elim
  | .ok .next, h => exact (show False from h).elim
  | .ok .brk, h => exact (show False from h).elim
  | .ok .cont, h => exact (show False from h).elim
  | .ok (.ret u), ⟨v, H', o', bare, un, hok', rv, q⟩ =>
    have q' : v = .bl true := q
    rw [q'] at rv
    have eu : u = Value.bool true := rv
    rw [eu]
    refine ⟨rfl, OldK.of_keep fun b o e => ?_, o', bare⟩
    cases z : H b with
    | none => exact un.keep b o e z (fun y => List.not_mem_nil y) List.not_mem_nil
    | some u' =>
      obtain ⟨_, ob, xs, rfl⟩ := only b u' z
      have h1 : s.heap.get? b = some ob := (hok b _ z).1
      have h2 : s'.heap.get? b = some ob := (hok' b _ (un.frzs b ob _ z)).1
      rw [e] at h1
      cases h1
      exact h2

theorem walk_ofG {l : PySem.W.OpenLaw} {k : Nat} {q : Program} {loose : List Str} {XP : (Str → Option Value) → Heap → Prop} {YP : World → Heap → Prop} {d : DefRec} {K : Params → PySem.W.Frag} (hn : l.most = some 63) (hdf : d.params.defaults = []) (hr : Room k callerA)
    (hY : ∀ (w : World) (h : Heap), YP w h → (K w.params).In h)
    (F : ∀ (w : World) (mg : Str → Option Value) (fa : Addr) (h : Heap), (K w.params).In h → h.Ns mainGlobals mg → mg d.name = some (.ref fa) →
      ∃ fd : FuncData, (∀ (z : Shared) (u : Value), BindsTo z fd ⟨[u], []⟩ [("script", u)]) ∧ ∀ base : Heap, (K w.params).In base → base.Ns mainGlobals mg → GnOk l.prog w (K w.params) mg base k fa fd ["script"] (spTop (K w.params))) :
    PySem.W.WalkO q loose XP YP l.row.toRowW d [] (fun f vs => PySem.call f vs) := by
  refine Att.attach_call hn hdf ?_
  intro w s0 s mg mb fa o pm cd doc a vs ns G Y ho hd hcd hmg hobj hints hlen hg
  obtain ⟨fd, bd, hF⟩ := F w mg fa _ (hY w _ Y) G.T.g hmg
  have rv := vals_ints hints
  have hz : (ns.map V.int).length ≤ sizeLine := by
    rw [List.length_map]
    exact Nat.le_trans hlen (by decide)
  have go := entry_core (P := l.prog) (w := w) (a := a) (ns := ns) (hY w _ Y) G.T.g G.T.b G.T.builtins G.T.nolimit hg hobj hlen hr hF bd
  cases hk : (K w.params).lookup a with
  | some ok =>
    have e := hY w _ Y a ok hk
    rw [hobj] at e
    cases e
    refine go (fun _ => none) (fun b o z => nomatch z) (fun z => absurd rfl z) (fun b u z => nomatch z) (.inr ⟨_, vs.toArray, _, hk, rfl, rfl, rfl, ?_, by simpa using rv⟩)
    rw [List.size_toArray, ← rv.length]
    exact hz
  | none =>
    have at_a : (fun b => if b = a then some (HO.frz { cls := .type "list", data := .seq vs.toArray } (.lst (ns.map V.int))) else none) a = some (HO.frz { cls := .type "list", data := .seq vs.toArray } (.lst (ns.map V.int))) := if_pos rfl
    have un_a : ∀ (b : Addr) (u : HO), (if b = a then some (HO.frz { cls := .type "list", data := .seq vs.toArray } (.lst (ns.map V.int))) else none) = some u → b = a ∧ u = HO.frz { cls := .type "list", data := .seq vs.toArray } (.lst (ns.map V.int)) := by
      intro b u z
      by_cases hb : b = a
      · rw [if_pos hb] at z
        exact ⟨hb, (Option.some.inj z).symm⟩
      · rw [if_neg hb] at z
        cases z
    refine go (fun b => if b = a then some (HO.frz { cls := .type "list", data := .seq vs.toArray } (.lst (ns.map V.int))) else none) (fun b u z => ?_) (fun _ => hk) (fun b u z => ?_) (.inl (.inr ⟨_, at_a⟩))
    · obtain ⟨e1, e2⟩ := un_a b u z
      exact ⟨e1, _, _, e2⟩
    · obtain ⟨e1, e2⟩ := un_a b u z
      subst e1
      subst e2
      exact ⟨hobj, hz, vs, _, rv, hobj⟩

/-- o[i] of a list, by values -/
theorem get_list {X : Cx} : PGet X (rIxL X.K) := by
  intro pins s σ H o i ov iv Q I ro ri h
  obtain ⟨p, xs, j, v, rfl, rfl, hS, hat, q⟩ := h
  cases (show ov = Value.ref p from ro)
  obtain ⟨t, rfl⟩ := (show ∃ t, iv = Value.int j t from ri)
  obtain ⟨its, rv, pl, hz⟩ := I.list hS
  obtain ⟨n, h1, h2, h3, h4, h5⟩ := atI_get hat
  obtain ⟨u, eu, ru⟩ := rv.get h2
  have ln := rv.length
  have l63 := line63
  have done : EP X pins σ Q u s := ⟨v, H, I, ru, q⟩
  rcases Int.lt_or_le j 0 with c | c
  · refine wpAny_getItem_list_neg pl.isList (by omega) (by rw [List.size_toArray]; omega) (by omega) ?_ done
    have e : (j + (its.toArray.size : Int)).toNat = n := by
      rw [seqIndex_neg (by omega) h4] at h1
      rw [List.size_toArray, ← ln]
      exact Option.some.inj h1
    rw [e]
    simpa using eu
  · refine wpAny_getItem_list pl.isList c (by omega) ?_ done
    have e : j.toNat = n := by
      rw [seqIndex_of c h5] at h1
      exact Option.some.inj h1
    rw [e]
    simpa using eu
end Ns

/-! the tops of the text -/
namespace Y
open PySem PySem.Spec PyProof.Rows L2 Ns
def top (i : Nat) : Stmt := PySem.Challenge.pw_nightstairs_k05_needs_charged_and_joined.main.body.getD i (.Pass ⟨0, 0, 0, 0⟩)
abbrev sNeedsOf : Stmt := top 1
abbrev sWithNeeds : Stmt := top 2
abbrev sFits : Stmt := top 3
abbrev sCharged : Stmt := top 4
abbrev sAmountsBetween : Stmt := top 5
abbrev sJoinedAmounts : Stmt := top 6
abbrev sBag : Stmt := top 8
abbrev sTake : Stmt := top 9
abbrev sSome : Stmt := top 10
abbrev sMixed : Stmt := top 11
abbrev sAlike : Stmt := top 12
abbrev sName : Stmt := top 13
abbrev sNames : Stmt := top 14
abbrev sSize : Stmt := top 15
abbrev sCables : Stmt := top 16
abbrev sCars : Stmt := top 17
abbrev sYardOf : Stmt := top 18
abbrev sSmall : Stmt := top 19
abbrev sWide : Stmt := top 20
abbrev sGreat : Stmt := top 21
abbrev sAllCars : Stmt := top 22
abbrev sLCharged : Stmt := top 23
abbrev sALot : Stmt := top 24
abbrev sTurned : Stmt := top 25
abbrev sSomeAmounts : Stmt := top 26
abbrev sBetween : Stmt := top 27
abbrev sNear : Stmt := top 28
abbrev sJoined : Stmt := top 29
abbrev sNeedsRight : Stmt := top 30
abbrev sLaw : Stmt := top 31
end Y

/-! the bag over the heap -/
namespace Y
open PySem PySem.Spec PyProof.Rows L2 Ns
/-- the heap but for b -/
def wo (H : Hp) (b : Addr) : Hp := fun c => if c = b then none else H c
theorem wo_ne {H : Hp} {b c : Addr} (h : c ≠ b) : wo H b c = H c := if_neg h
theorem wo_at {H : Hp} {b : Addr} : wo H b b = none := if_pos rfl
theorem wo_of {H : Hp} {b c : Addr} {o : HO} (h : wo H b c = some o) : c ≠ b ∧ H c = some o := by
  by_cases e : c = b
  · rw [e, wo_at] at h
    cases h
  · exact ⟨e, (wo_ne e).symm.trans h⟩
theorem wo_sub (H : Hp) (b : Addr) : Same (wo H b) H := fun _ _ h => (wo_of h).2
/-- all but b stands; b keeps its row of numbers -/
def Sb (b : Addr) (H H' : Hp) : Prop := Same (wo H b) (wo H' b) ∧ ∀ (n0 n1 n2 : Int) (l : Addr), H b = some (.lst [.int n0, .int n1, .int n2, .ref l]) → ∃ m0 m1 m2 : Int, H' b = some (.lst [.int m0, .int m1, .int m2, .ref l])
theorem Sb.refl (b : Addr) (H : Hp) : Sb b H H := ⟨Same.refl _, fun n0 n1 n2 _ h => ⟨n0, n1, n2, h⟩⟩
theorem Sb.trans {b : Addr} {H H1 H2 : Hp} (h : Sb b H H1) (g : Sb b H1 H2) : Sb b H H2 := ⟨Same.trans h.1 g.1, fun n0 n1 n2 l e => by
  obtain ⟨m0, m1, m2, e1⟩ := h.2 n0 n1 n2 l e
  exact g.2 _ _ _ _ e1⟩
theorem Sb.get {b c : Addr} {H H' : Hp} {o : HO} (h : Sb b H H') (e : H c = some o) (n : c ≠ b) : H' c = some o := (wo_of (h.1 c o ((wo_ne n).trans e))).2
theorem Sb.new {b p : Addr} {H H' : Hp} {o : HO} (h : Sb b H H') (n : H' p = none) : Sb b H (upd H' p o) := ⟨fun c u e => by
  have q := h.1 c u e
  obtain ⟨q1, q2⟩ := wo_of q
  rw [wo_ne q1, upd_ne (ne_of_none q2 n)]
  exact q2, fun n0 n1 n2 l e => by
  obtain ⟨m0, m1, m2, e1⟩ := h.2 n0 n1 n2 l e
  exact ⟨m0, m1, m2, by rw [upd_ne (ne_of_none e1 n)]; exact e1⟩⟩
theorem Sb.put {b l : Addr} {H H' : Hp} {n0 n1 n2 m0 m1 m2 : Int} (h : Sb b H H') (e0 : H' b = some (.lst [.int n0, .int n1, .int n2, .ref l])) : Sb b H (upd H' b (.lst [.int m0, .int m1, .int m2, .ref l])) := ⟨fun c u e => by
  obtain ⟨q1, q2⟩ := wo_of (h.1 c u e)
  rw [wo_ne q1, upd_ne q1]
  exact q2, fun k0 k1 k2 l' e => by
  obtain ⟨j0, j1, j2, e1⟩ := h.2 _ _ _ _ e
  rw [e0] at e1
  cases e1
  exact ⟨m0, m1, m2, upd_same⟩⟩
theorem Sb.same {b : Addr} {H H' H2 : Hp} (h : Sb b H H') (m : Same H' H2) : Sb b H H2 := ⟨fun c u e => by
  obtain ⟨q1, q2⟩ := wo_of (h.1 c u e)
  rw [wo_ne q1]
  exact m _ _ q2, fun n0 n1 n2 l e => by
  obtain ⟨m0, m1, m2, e1⟩ := h.2 n0 n1 n2 l e
  exact ⟨m0, m1, m2, m _ _ e1⟩⟩
/-- the bag at b -/
def Bag (H : Hp) (b : Addr) : Prop := ∃ (n0 n1 n2 : Int) (l : Addr) (ns : List Int), H b = some (.lst [.int n0, .int n1, .int n2, .ref l]) ∧ H l = some (.lst (ns.map V.int)) ∧ l ≠ b ∧ 0 ≤ n0 ∧ 0 ≤ n1 ∧ n1 < 2147483647 ∧ 0 ≤ n2 ∧ (∀ n ∈ ns, 0 ≤ n) ∧ ns.length ≤ 63
theorem Bag.new {H : Hp} {b p : Addr} {o : HO} (h : Bag H b) (n : H p = none) : Bag (upd H p o) b := by
  obtain ⟨n0, n1, n2, l, ns, h1, h2, r⟩ := h
  exact ⟨n0, n1, n2, l, ns, by rw [upd_ne (ne_of_none h1 n)]; exact h1, by rw [upd_ne (ne_of_none h2 n)]; exact h2, r⟩
theorem Bag.keep {H H' : Hp} {b : Addr} (h : Bag H b) (m : Same H H') : Bag H' b := by
  obtain ⟨n0, n1, n2, l, ns, h1, h2, r⟩ := h
  exact ⟨n0, n1, n2, l, ns, m _ _ h1, m _ _ h2, r⟩
theorem Bag.ne {H : Hp} {b p : Addr} (h : Bag H b) (n : H p = none) : p ≠ b := fun e => by
  obtain ⟨_, _, _, _, _, h1, _⟩ := h
  rw [e, h1] at n
  cases n
/-- a place that was free at first is written: the bag stands -/
theorem Bag.wr {H H' : Hp} {b p : Addr} {o : HO} (h : Bag H b) (n : H p = none) (s : Sb b H H') (g : Bag H' b) : Bag (upd H' p o) b := by
  obtain ⟨n0, n1, n2, l, ns, h1, h2, h3, _⟩ := id h
  obtain ⟨k0, k1, k2, l', ns', g1, g2, r⟩ := g
  obtain ⟨m0, m1, m2, e⟩ := s.2 _ _ _ _ h1
  rw [g1] at e
  cases e
  exact ⟨_, _, _, _, ns', by rw [upd_ne (h.ne n).symm]; exact g1, by rw [upd_ne (ne_of_none h2 n)]; exact g2, r⟩
theorem Sb.wr {b p : Addr} {H H' : Hp} {o : HO} (s : Sb b H H') (n : H p = none) : Sb b H (upd H' p o) := ⟨fun c u e => by
  obtain ⟨q1, q2⟩ := wo_of (s.1 c u e)
  rw [wo_ne q1, upd_ne (ne_of_none (wo_of e).2 n)]
  exact q2, fun n0 n1 n2 l e => by
  obtain ⟨m0, m1, m2, e1⟩ := s.2 n0 n1 n2 l e
  exact ⟨m0, m1, m2, by rw [upd_ne (ne_of_none e n)]; exact e1⟩⟩
theorem Sb.free {b p : Addr} {H H' : Hp} (h : Sb b H H') (hp : H' p = none) (n : p ≠ b) : H p = none := by
  cases e : H p with
  | none => rfl
  | some o => rw [h.get e n] at hp; cases hp
/-- what stood but for the bag: lists, tuples -/
theorem Sb.sl {K : PySem.W.Frag} {b a : Addr} {H H' : Hp} {xs : List V} (s : Sb b H H') (h : SqL K (wo H b) a xs) : SqL K (wo H' b) a xs := Same.seq s.1 h
theorem wo_same {H H' : Hp} {b : Addr} (m : Same H H') : Same (wo H b) (wo H' b) := fun c o e => by
  obtain ⟨q1, q2⟩ := wo_of e
  rw [wo_ne q1]
  exact m _ _ q2
theorem ints_at {ns : List Int} {i : Nat} {v : V} (h : (ns.map V.int)[i]? = some v) : ∃ z, ns[i]? = some z ∧ v = .int z := by
  rw [List.getElem?_map] at h
  obtain ⟨z, e, q⟩ := Option.map_eq_some_iff.mp h
  exact ⟨z, e, q.symm⟩
theorem cut_ints (ns : List Int) (lo hi : Option Int) : ∃ ms : List Int, cutV (ns.map V.int) lo hi = ms.map V.int ∧ (∀ n ∈ ms, n ∈ ns) ∧ ms.length ≤ ns.length := by
  refine ⟨(ns.drop (HT.sIx (ns.map V.int).length 0 lo)).take (HT.sIx (ns.map V.int).length (ns.map V.int).length hi - HT.sIx (ns.map V.int).length 0 lo), ?_, fun n h => List.mem_of_mem_drop (List.mem_of_mem_take h), ?_⟩
  · unfold cutV
    rw [List.map_take, List.map_drop]
  · rw [List.length_take, List.length_drop]
    omega
theorem same_new {H H' : Hp} {p : Addr} {o : HO} (h : Same H H') (n : H' p = none) : Same H (upd H' p o) := fun c u e => by
  rw [upd_ne (ne_of_none (h c u e) n)]
  exact h c u e
theorem same_put {H H' : Hp} {p : Addr} {o : HO} (h : Same H H') (n : H p = none) : Same H (upd H' p o) := fun c u e => by
  rw [upd_ne (ne_of_none e n)]
  exact h c u e
/-- a thing put amid is among -/
theorem put_perm {α : Type} {xs ys : List α} {x : α} {i j : Nat} (h : ys.Perm (xs.take i)) (hx : xs[i]? = some x) : (ys.take j ++ [x] ++ ys.drop j).Perm (xs.take (i + 1)) := by
  have e : xs.take (i + 1) = xs.take i ++ [x] := by rw [List.take_succ, hx]; rfl
  rw [e]
  have p1 : (ys.take j ++ [x] ++ ys.drop j).Perm (x :: ys) := by
    rw [List.append_assoc, List.singleton_append]
    refine List.perm_middle.trans ?_
    rw [List.take_append_drop]
  exact p1.trans ((h.cons x).trans (List.perm_append_singleton x (xs.take i)).symm)
/-- what the top has left of the built-in names -/
structure Nat0 (mg : Str → Option Value) : Prop where
  abs : mg "abs" = none
  int : mg "int" = none
  len : mg "len" = none
  repr : mg "repr" = none
  isi : mg "isinstance" = none
  range : mg "range" = none
  sorted : mg "sorted" = none
  tuple : mg "tuple" = none
  list_ : mg "list" = none
  dict : mg "dict" = none
  set_ : mg "set" = none
  sum : mg "sum" = none
  max : mg "max" = none
  min : mg "min" = none
  str : mg "str" = none
  all : mg "all" = none
  any : mg "any" = none
  zip : mg "zip" = none
end Y

namespace Y
open PySem PySem.Spec PyProof.Rows L2 Ns
open C8 (pss_cut)
def spBag (K : PySem.W.Frag) : Sp := fun as H Q _ => ∃ (a : Addr) (ns : List Int), as = [.ref a] ∧ SqL K H a (ns.map V.int) ∧ ns.length ≤ 63 ∧ ∀ (b : Addr) (H' : Hp), Bag H' b → H b = none → Same H H' → Q (.ref b) H'
def spTake : Sp := fun as H Q _ => ∃ (b : Addr) (m : Int), as = [.ref b, .int m] ∧ Bag H b ∧ 0 < m ∧ m.natAbs < 2 ^ 200 ∧ ∀ (v : Int) (H' : Hp), 0 ≤ v → v < m → Bag H' b → Sb b H H' → Q (.int v) H'
section
variable {P : Program} {w : World} {K : PySem.W.Frag} {mg : Str → Option Value} {base : Heap}
theorem scB : FnScope ["script", "cell"] ["script"] (defScope sBag) := ⟨rfl, rfl, rfl, by decide +kernel, rfl, by decide +kernel, by decide +kernel⟩
theorem ok_bag {f : Addr} {fd : FuncData} (F : Fun K "_law_bag" "_law_bag" sBag f fd) (T : Nat0 mg) : FnOk P w K mg base CX0 1 f fd ["script"] (spBag K) := by
  refine F.ok scB (fun as H Q E h => ?_) (fun cdv A outer s H as Q E hr h => ?_)
  · obtain ⟨a, ns, rfl, _⟩ := h
    rfl
  · obtain ⟨a, ns, rfl, hS, hl, k⟩ := h
    refine ⟨_, pss_one (ps_ret (pe_lst (pa_cons pe_int (pa_cons pe_int (pa_cons pe_int (pa_cons
      (pe_lc (own := [("cell", 1)]) (g := gName 1) (tt := tYes) rfl scB.nd (pi_list (pe_slice sl_list (pv 0) po_none (po_some pe_int))) (blkOk_by (N := ["script", "cell"]) (sc := defScope sBag) (by decide +kernel)) (fun _ _ _ _ _ => pg_name (i := 1) scB.nd rfl (Or.inl rfl)) (fun _ _ _ _ _ => pts_nil)
        (fun _ _ _ _ _ => pe_callB call_abs (by rfl) T.abs (by decide +kernel) (pa_cons (pv 1) pa_nil))) pa_nil)))))), ?_⟩
    obtain ⟨ms, ec, hin, hlm⟩ := cut_ints ns none (some 63)
    refine ⟨_, rfl, _, rfl, a, _, rfl, hS, fun p hp => ?_⟩
    rw [ec]
    have lm : ms.length ≤ 63 := Nat.le_trans hlm hl
    refine ⟨p, rfl, ⟨_, .inl (.inl upd_same)⟩, fun D hD => ?_⟩
    refine lc_list (K := K) (a := p) (xs := ms.map V.int) (fun i H' => ∃ ks : List Int, H' D = some (.lst (ks.map V.int)) ∧ ks.length = i ∧ (∀ n ∈ ks, 0 ≤ n) ∧ H' p = some (.lst (ms.map V.int)) ∧ Same H H') ?_ ?_ ?_ ?_
    · have npd : p ≠ D := fun e => by rw [← e, upd_same] at hD; cases hD
      refine ⟨[], upd_same, rfl, (fun _ z => nomatch z), by rw [upd_ne npd, upd_same], fun c o e => ?_⟩
      have hD' : H D = none := by rw [upd_ne npd.symm] at hD; exact hD
      rw [upd_ne (ne_of_none e hD'), upd_ne (ne_of_none e hp)]
      exact e
    · rintro i H' hi ⟨ks, _, _, _, h, _⟩
      exact .inl (.inl h)
    · rintro i x H' hx ⟨ks, h1, h2, h3, h4, h5⟩
      obtain ⟨z, hz, rfl⟩ := ints_at hx
      have hi : i < ms.length := (List.getElem?_eq_some_iff.mp hz).1
      refine ⟨rfl, _, rfl, z, rfl, ks.map V.int, h1, by rw [List.length_map, h2]; exact small1000 (by omega), ks ++ [if z < 0 then -z else z], ?_, ?_, ?_, ?_, ?_⟩
      · rw [upd_same, List.map_append]
        rfl
      · rw [List.length_append, h2]
        rfl
      · intro n hn
        rcases List.mem_append.mp hn with q | q
        · exact h3 n q
        · rw [List.mem_singleton] at q
          subst q
          split <;> omega
      · have npd : p ≠ D := fun e => by rw [← e, upd_same] at hD; cases hD
        rw [upd_ne npd]
        exact h4
      · intro c o e
        have hD' : H D = none := by
          have npd : p ≠ D := fun e => by rw [← e, upd_same] at hD; cases hD
          rw [upd_ne npd.symm] at hD
          exact hD
        rw [upd_ne (ne_of_none e hD')]
        exact h5 c o e
    · rintro H' ⟨ks, h1, h2, h3, h4, h5⟩
      rw [List.length_map] at h2
      refine ⟨by show 4 ≤ sizeLine; decide, fun b hb => ?_⟩
      refine k b _ ⟨0, 1234567891, 0, D, ks, upd_same, by rw [upd_ne (ne_of_none h1 hb)]; exact h1, ne_of_none h1 hb, by decide, by decide, by decide, by decide, h3, by omega⟩ (h5.free hb) fun c o e => ?_
      rw [upd_ne (ne_of_none (h5 c o e) hb)]
      exact h5 c o e
end
section
variable {P : Program} {w : World} {K : PySem.W.Frag} {mg : Str → Option Value} {base : Heap}
theorem scT : FnScope ["bag", "many", "cell", "stirred", "value", "begin", "second"] ["bag", "many"] (defScope sTake) := ⟨rfl, rfl, rfl, by decide +kernel, rfl, by decide +kernel, by decide +kernel⟩
theorem at0 {α : Type} {x : α} {xs : List α} : atI (x :: xs) (0 : Int) = some x := atI_nat (j := 0) rfl
theorem at1 {α : Type} {x y : α} {xs : List α} : atI (x :: y :: xs) (1 : Int) = some y := atI_nat (j := 1) rfl
theorem at2 {α : Type} {x y z : α} {xs : List α} : atI (x :: y :: z :: xs) (2 : Int) = some z := atI_nat (j := 2) rfl
theorem at3 {α : Type} {x y z u : α} {xs : List α} : atI (x :: y :: z :: u :: xs) (3 : Int) = some u := atI_nat (j := 3) rfl
theorem fm {x m : Int} (h : 0 < m) : 0 ≤ x.fmod m ∧ x.fmod m < m := by
  rw [Int.fmod_eq_emod_of_nonneg x (by omega)]
  exact ⟨Int.emod_nonneg _ (by omega), Int.emod_lt_of_pos _ h⟩
theorem head_int {ms : List Int} (h : ∀ n ∈ ms, 0 ≤ n) : ∃ z : Int, 0 ≤ z ∧ atI (ms.map V.int ++ [V.int 0]) (0 : Int) = some (.int z) := by
  cases ms with
  | nil => exact ⟨0, by decide, at0⟩
  | cons n ms => exact ⟨n, h n List.mem_cons_self, at0⟩
theorem ok_take {f : Addr} {fd : FuncData} (F : Fun K "_law_take" "_law_take" sTake f fd) (T : Nat0 mg) : FnOk P w K mg base CX0 1 f fd ["bag", "many"] spTake := by
  refine F.ok scT (fun as H Q E h => ?_) (fun cdv A outer s H as Q E hr h => ?_)
  · obtain ⟨b, m, rfl, _⟩ := h
    rfl
  · obtain ⟨b, m, rfl, hB, hm, hmz, k⟩ := h
    refine ⟨_, pss_cut (ps_if (pt_cmpR op_eq (pe_ix ix_list (pv 0) pe_int (fun _ _ => rfl)) pe_int (nomark _))
        (pss_cons (ps_set (i := 2) scT.nd rfl (.inl rfl) (pe_ix ix_list (pe_op op_cat (pe_slice sl_list (pe_ix ix_list (pv 0) pe_int (fun _ _ => rfl)) (po_some (pe_ix ix_list (pv 0) pe_int (fun _ _ => rfl))) po_none) (pe_lst (pa_cons pe_int pa_nil))) pe_int (fun _ _ => rfl)))
        (pss_cons (ps_augS (pv 0) pe_int get_list pe_int ip_add set_list)
        (pss_cut (ps_if (pt_cmpR op_ge (pv 2) (pe_op op_pow pe_int pe_int) (nomark _)) (pss_one (ps_asg (pv 2) (pg_sub (pv 0) pe_int set_list))) pss_nil)
        (pss_cons (ps_set (i := 3) scT.nd rfl (.inl rfl) (pe_op op_add (pe_op op_add (pe_op op_mul (pe_ix ix_list (pv 0) pe_int (fun _ _ => rfl)) pe_int)
            (pe_op op_modN (pe_callTy call_int1 (by rfl) T.int (by decide +kernel) (pa_cons (pv 2) pa_nil)) pe_int)) (pe_op op_mul pe_int (pe_ix ix_list (pv 0) pe_int (fun _ _ => rfl)))))
        (pss_one (ps_asg (pe_op op_modN (pe_callTy call_int1 (by rfl) T.int (by decide +kernel) (pa_cons (pv 3) pa_nil)) pe_int) (pg_sub (pv 0) pe_int set_list))))))) pss_nil)
      (pss_cons (ps_if (pt_cmpR op_gt (pe_ix ix_list (pv 0) pe_int (fun _ _ => rfl)) pe_int (nomark _))
        (pss_cons (ps_set (i := 4) scT.nd rfl (.inl rfl) (pe_op op_modN (pe_callTy call_int1 (by rfl) T.int (by decide +kernel) (pa_cons (pe_ix ix_list (pv 0) pe_int (fun _ _ => rfl)) pa_nil)) (pv 1)))
        (pss_cons (ps_asg (pe_op op_fdivW (pe_callTy call_int1 (by rfl) T.int (by decide +kernel) (pa_cons (pe_ix ix_list (pv 0) pe_int (fun _ _ => rfl)) pa_nil)) (pv 1)) (pg_sub (pv 0) pe_int set_list))
        (pss_one (ps_ret (pv 4))))) pss_nil)
      (pss_cons (ps_set (i := 5) scT.nd rfl (.inl rfl) (pe_op op_modN (pe_callTy call_int1 (by rfl) T.int (by decide +kernel) (pa_cons (pe_op op_mul (pe_op op_add (pe_ix ix_list (pv 0) pe_int (fun _ _ => rfl)) pe_int) pe_int) pa_nil)) pe_int))
      (pss_cons (ps_set (i := 6) scT.nd rfl (.inl rfl) (pe_op op_modN (pe_callTy call_int1 (by rfl) T.int (by decide +kernel) (pa_cons (pe_op op_mul (pe_op op_modN (pe_callTy call_int1 (by rfl) T.int (by decide +kernel) (pa_cons (pe_op op_mul (pv 5) (pv 5)) pa_nil)) pe_int) pe_int) pa_nil)) pe_int))
      (pss_one (ps_ret (pe_op op_modN (pe_callTy call_int1 (by rfl) T.int (by decide +kernel) (pa_cons (pe_op op_fdivN (pv 6) pe_int) pa_nil)) (pv 1))))))), ?_⟩
    refine ⟨fun σ' H' => ∃ c s : Option V, σ' = [some (.ref b), some (.int m), c, s, none, none, none] ∧ Bag H' b ∧ Sb b H H', ?_, ?_⟩
    · obtain ⟨n0, n1, n2, l, ns, h1, h2, hlb, z0, z1, z1', z2, hn, hlen⟩ := id hB
      refine ⟨_, rfl, b, _, _, _, rfl, rfl, SqL.of h1, at0, rfl, _, rfl, ?_⟩
      refine ite2 (fun c => ?_) (fun c => ⟨none, none, rfl, hB, Sb.refl _ _⟩)
      obtain ⟨ms, ec, hin, hlm⟩ := cut_ints ns (some n2) none
      refine ⟨_, rfl, b, _, _, _, rfl, rfl, SqL.of h1, at3, _, rfl, b, _, _, _, rfl, rfl, SqL.of h1, at2, n2, rfl, l, _, rfl, SqL.of h2, fun p hp => ?_⟩
      rw [ec]
      refine ⟨by show 1 ≤ sizeLine; decide, fun q hq => ?_⟩
      have npq : p ≠ q := fun e => by rw [← e, upd_same] at hq; cases hq
      have lmz : (ms.map V.int).length + [V.int 0].length ≤ sizeLine := by
        rw [List.length_map]
        exact Nat.le_of_lt (small1000 (show ms.length + 1 ≤ 1000 by omega))
      refine ⟨p, q, _, _, rfl, rfl, by rw [upd_ne npq, upd_same], upd_same, lmz, fun r hr => ?_⟩
      obtain ⟨z, hz, hat⟩ := head_int (ms := ms) fun n h => hn n (hin n h)
      refine ⟨r, _, _, _, rfl, rfl, SqL.of upd_same, hat, ?_⟩
      have hb3 : upd (upd (upd H p (.lst (ms.map V.int))) q (.lst [V.int 0])) r (.lst (ms.map V.int ++ [V.int 0])) b = some (.lst [.int n0, .int n1, .int n2, .ref l]) := by
        have e1 : upd H p (.lst (ms.map V.int)) b = some (.lst [.int n0, .int n1, .int n2, .ref l]) := by rw [upd_ne (ne_of_none h1 hp)]; exact h1
        have e2 : upd (upd H p (.lst (ms.map V.int))) q (.lst [V.int 0]) b = some (.lst [.int n0, .int n1, .int n2, .ref l]) := by rw [upd_ne (ne_of_none e1 hq)]; exact e1
        rw [upd_ne (ne_of_none e2 hr)]
        exact e2
      have hl3 : upd (upd (upd H p (.lst (ms.map V.int))) q (.lst [V.int 0])) r (.lst (ms.map V.int ++ [V.int 0])) l = some (.lst (ns.map V.int)) := by
        have e1 : upd H p (.lst (ms.map V.int)) l = some (.lst (ns.map V.int)) := by rw [upd_ne (ne_of_none h2 hp)]; exact h2
        have e2 : upd (upd H p (.lst (ms.map V.int))) q (.lst [V.int 0]) l = some (.lst (ns.map V.int)) := by rw [upd_ne (ne_of_none e1 hq)]; exact e1
        rw [upd_ne (ne_of_none e2 hr)]
        exact e2
      have sb3 : Sb b H (upd (upd (upd H p (.lst (ms.map V.int))) q (.lst [V.int 0])) r (.lst (ms.map V.int ++ [V.int 0]))) := (((Sb.refl b H).new hp).new hq).new hr
      generalize upd (upd (upd H p (.lst (ms.map V.int))) q (.lst [V.int 0])) r (.lst (ms.map V.int ++ [V.int 0])) = H3 at hb3 hl3 sb3 ⊢
      refine ⟨_, rfl, b, _, _, _, rfl, rfl, SqL.of hb3, at2, n2, 1, rfl, rfl, b, _, _, 2, rfl, rfl, hb3, rfl, ?_⟩
      refine ⟨fun σ' H' => ∃ n0' : Int, σ' = [some (.ref b), some (.int m), some (.int z), none, none, none, none] ∧ H' b = some (.lst [.int n0', .int n1, .int (n2 + 1), .ref l]) ∧ H' l = some (.lst (ns.map V.int)) ∧ 0 ≤ n0' ∧ Sb b H H', ?_, ?_⟩
      · have hb4 : upd H3 b (.lst (([.int n0, .int n1, .int n2, .ref l] : List V).set 2 (.int (n2 + 1)))) b = some (.lst [.int n0, .int n1, .int (n2 + 1), .ref l]) := upd_same
        have hl4 : upd H3 b (.lst (([.int n0, .int n1, .int n2, .ref l] : List V).set 2 (.int (n2 + 1)))) l = some (.lst (ns.map V.int)) := by rw [upd_ne hlb]; exact hl3
        have sb4 : Sb b H (upd H3 b (.lst (([.int n0, .int n1, .int n2, .ref l] : List V).set 2 (.int (n2 + 1))))) := sb3.put hb3
        generalize upd H3 b (.lst (([.int n0, .int n1, .int n2, .ref l] : List V).set 2 (.int (n2 + 1)))) = H4 at hb4 hl4 sb4 ⊢
        refine ⟨_, rfl, 10, 18, rfl, rfl, ⟨by decide, by decide, by decide⟩, z, _, rfl, rfl, _, rfl, ?_⟩
        refine ite2 (fun _ => ?_) (fun _ => ⟨n0, rfl, hb4, hl4, z0, sb4⟩)
        exact ⟨_, rfl, _, rfl, b, _, _, 0, rfl, rfl, hb4, rfl, z, rfl, upd_same, by rw [upd_ne hlb]; exact hl4, hz, sb4.put hb4⟩
      · rintro σ' H' ⟨n0', rfl, hb5, hl5, z0', sb5⟩
        refine ⟨_, rfl, b, _, _, _, rfl, rfl, SqL.of hb5, at1, n1, _, rfl, rfl, .inl ⟨by omega, by omega⟩, _, rfl, .inl ⟨z, rfl, z, _, rfl, rfl, (show (2147483647 : Int) ≠ 0 by decide), _, _, rfl, rfl, _, rfl, b, _, _, _, rfl, rfl, SqL.of hb5, at2, 7919, _, rfl, rfl, .inl ⟨by decide, by decide⟩, _, _, rfl, rfl, ?_⟩⟩
        refine ⟨_, rfl, .inl ⟨_, rfl, _, _, rfl, rfl, (show (2147483647 : Int) ≠ 0 by decide), _, rfl, b, _, _, 1, rfl, rfl, hb5, rfl, ?_⟩⟩
        exact ⟨_, _, rfl, ⟨n0', _, n2 + 1, l, ns, upd_same, by rw [upd_ne hlb]; exact hl5, hlb, z0', (fm (by decide)).1, (fm (by decide)).2, by omega, hn, hlen⟩, sb5.put hb5⟩
    · rintro σ' H' ⟨c, s', rfl, hB', sb⟩
      obtain ⟨n0, n1, n2, l, ns, h1, h2, hlb, z0, z1, z1', z2, hn, hlen⟩ := id hB'
      refine ⟨_, rfl, b, _, _, _, rfl, rfl, SqL.of h1, at0, _, _, rfl, rfl, _, rfl, ?_⟩
      refine ite2 (fun _ => ?_) (fun _ => ?_)
      · refine ⟨_, rfl, b, _, _, _, rfl, rfl, SqL.of h1, at0, .inl ⟨n0, rfl, _, rfl, n0, m, rfl, rfl, by omega, ?_⟩⟩
        refine ⟨_, rfl, b, _, _, _, rfl, rfl, SqL.of h1, at0, .inl ⟨n0, rfl, _, rfl, n0, m, rfl, rfl, wide_div hm hmz (by decide) (by decide), _, rfl, b, _, _, 0, rfl, rfl, h1, rfl, ?_⟩⟩
        refine ⟨_, rfl, k _ _ (fm hm).1 (fm hm).2 ⟨n0 / m, n1, n2, l, ns, upd_same, by rw [upd_ne hlb]; exact h2, hlb, Int.ediv_nonneg z0 (by omega), z1, z1', z2, hn, hlen⟩ (sb.put h1)⟩
      · have b1 := fm (x := (n1 + 1) * 39373) (m := 1000000007) (by decide)
        refine ⟨_, rfl, b, _, _, _, rfl, rfl, SqL.of h1, at1, n1, 1, rfl, rfl, n1 + 1, _, rfl, rfl, .inl ⟨by omega, by omega⟩, .inl ⟨_, rfl, _, _, rfl, rfl, (show (1000000007 : Int) ≠ 0 by decide), ?_⟩⟩
        have b2 := fm (x := ((n1 + 1) * 39373).fmod 1000000007 * ((n1 + 1) * 39373).fmod 1000000007) (m := 998244353) (by decide)
        refine ⟨_, rfl, _, rfl, _, _, rfl, rfl, .inl ⟨by omega, by omega⟩, .inl ⟨_, rfl, _, _, rfl, rfl, (show (998244353 : Int) ≠ 0 by decide), _, _, rfl, rfl, .inl ⟨by omega, by omega⟩, .inl ⟨_, rfl, _, _, rfl, rfl, (show (998244353 : Int) ≠ 0 by decide), ?_⟩⟩⟩
        exact ⟨_, rfl, _, _, rfl, rfl, ⟨by decide, by decide⟩, .inl ⟨_, rfl, _, rfl, _, m, rfl, rfl, by omega, k _ _ (fm hm).1 (fm hm).2 hB' sb⟩⟩
end
end Y

namespace Y
open PySem PySem.Spec PyProof.Rows L2 Ns
open C8 (pss_cut)
def spSome (K : PySem.W.Frag) : Sp := fun as H Q _ => ∃ (b a : Addr) (xs : List V), as = [.ref b, .ref a] ∧ Bag H b ∧ SqL K (wo H b) a xs ∧ xs ≠ [] ∧ xs.length ≤ 1000000 ∧ ∀ (x : V) (H' : Hp), x ∈ xs → Bag H' b → Sb b H H' → Q x H'
section
variable {P : Program} {w : World} {K : PySem.W.Frag} {mg : Str → Option Value} {base : Heap}
theorem scS : FnScope ["bag", "things"] ["bag", "things"] (defScope sSome) := ⟨rfl, rfl, rfl, by decide +kernel, rfl, by decide +kernel, by decide +kernel⟩
theorem ok_some {f fT : Addr} {fd fdT : FuncData} (F : Fun K "_law_some" "_law_some" sSome f fd) (T : Nat0 mg) (FT : Fun K "_law_take" "_law_take" sTake fT fdT) (mT : mg "_law_take" = some (.ref fT)) (bT : Binds K fdT ["bag", "many"] []) :
    FnOk P w K mg base CX0 2 f fd ["bag", "things"] (spSome K) := by
  have GT : FnOk P w K mg base CX0 1 fT fdT ["bag", "many"] spTake := ok_take FT T
  refine F.ok scS (fun as H Q E h => ?_) (fun cdv A outer s H as Q E hr h => ?_)
  · obtain ⟨b, a, xs, rfl, _⟩ := h
    rfl
  · obtain ⟨b, a, xs, rfl, hB, hS, hne, hl, k⟩ := h
    have pos : 0 < xs.length := List.length_pos_iff.mpr hne
    refine ⟨_, pss_one (ps_ret (pe_ix ix_list (pv 1) (pe_call GT hr rfl mT FT.kp bT .nil pass0 (pa_cons (pv 0) (pa_cons (pe_callB call_len_seq (by rfl) T.len PySem.boot_len (pa_cons (pv 1) pa_nil)) pa_nil))) (fun _ _ => rfl))), ?_⟩
    refine ⟨_, rfl, _, rfl, _, rfl, a, _, rfl, .inl ((wo_sub H b).seq hS), b, _, rfl, hB, by omega, ?_, fun v H' h0 h1 hB' sb => ?_⟩
    · exact Nat.lt_of_le_of_lt (show ((xs.length : Int)).natAbs ≤ 1000000 by omega) (by decide)
    · have hi : v.toNat < xs.length := by omega
      have e : v = ((v.toNat : Nat) : Int) := by omega
      have hx : xs[v.toNat]? = some xs[v.toNat] := List.getElem?_eq_getElem hi
      obtain ⟨x, ex⟩ : ∃ x, xs[v.toNat]? = some x := ⟨_, hx⟩
      exact ⟨a, xs, v, x, rfl, rfl, (wo_sub H' b).seq (sb.sl hS), by rw [e]; exact atI_nat ex, k _ _ (List.mem_of_getElem? ex) hB' sb⟩
end
end Y

/-! NsD: how long the text of data is. -/
namespace Ns
open PySem PySem.Spec PyProof.Rows L2
/-- shown in at most m signs, nested at most k deep -/
def Fit (m k : Nat) (d : PyData) : Prop := d.showable = true ∧ d.shown.length ≤ m ∧ d.depth ≤ k
theorem Fit.mono {m m' k k' : Nat} {d : PyData} (h : Fit m k d) (hm : m ≤ m') (hk : k ≤ k') : Fit m' k' d := ⟨h.1, Nat.le_trans h.2.1 hm, Nat.le_trans h.2.2 hk⟩
theorem sum_le {m : Nat} : ∀ {l : List Nat}, (∀ n ∈ l, n ≤ m) → l.sum ≤ l.length * m
  | [], _ => Nat.zero_le _
  | n :: l, h => by
    have h1 := h n List.mem_cons_self
    have h2 := sum_le (l := l) fun k hk => h k (List.mem_cons_of_mem _ hk)
    rw [List.sum_cons, List.length_cons, Nat.succ_mul]
    omega
theorem depthAll_le {k : Nat} : ∀ {ds : List PyData}, (∀ d ∈ ds, d.depth ≤ k) → PyData.depthAll ds ≤ k
  | [], _ => by simp [PyData.depthAll]
  | d :: ds, h => by
    simp only [PyData.depthAll]
    exact Nat.max_le.mpr ⟨h d List.mem_cons_self, depthAll_le fun e he => h e (List.mem_cons_of_mem _ he)⟩
theorem mem_shown : ∀ {ds : List PyData} {t : Str}, t ∈ PyData.shownAll ds → ∃ d ∈ ds, t = d.shown
  | [], t, h => by rw [PyData.shownAll_nil] at h; exact nomatch h
  | d :: ds, t, h => by
    rw [PyData.shownAll_cons] at h
    rcases List.mem_cons.mp h with e | e
    · exact ⟨d, List.mem_cons_self, e⟩
    · obtain ⟨d', h1, h2⟩ := mem_shown e
      exact ⟨d', List.mem_cons_of_mem _ h1, h2⟩
theorem lens_le {m k : Nat} {ds : List PyData} (h : ∀ d ∈ ds, Fit m k d) : ((PyData.shownAll ds).map (·.length)).sum ≤ ds.length * m := by
  have e : ((PyData.shownAll ds).map (·.length)).length = ds.length := by rw [List.length_map, PyData.shownAll_length]
  have z := sum_le (l := (PyData.shownAll ds).map (·.length)) (m := m) fun n hn => by
    obtain ⟨t, ht, rfl⟩ := List.mem_map.mp hn
    obtain ⟨d, hd, rfl⟩ := mem_shown ht
    exact (h d hd).2.1
  rw [e] at z
  exact z
theorem fit_list {m k : Nat} {ds : List PyData} (h : ∀ d ∈ ds, Fit m k d) : Fit (ds.length * (m + 2) + 3) (k + 1) (.list ds) := by
  refine ⟨?_, ?_, ?_⟩
  · simp only [PyData.showable]
    exact showableAll_of fun d hd => (h d hd).1
  · simp only [PyData.shown]
    have z1 := listText_len_le (PyData.shownAll ds)
    have z2 := lens_le h
    rw [PyData.shownAll_length] at z1
    rw [Nat.mul_add]
    omega
  · have e : (PyData.list ds).depth = PyData.depthAll ds + 1 := by simp only [PyData.depth] <;> omega
    rw [e]
    exact Nat.succ_le_succ (depthAll_le fun d hd => (h d hd).2.2)
theorem fit_tuple {m k : Nat} {ds : List PyData} (h : ∀ d ∈ ds, Fit m k d) : Fit (ds.length * (m + 2) + 3) (k + 1) (.tuple ds) := by
  refine ⟨?_, ?_, ?_⟩
  · simp only [PyData.showable]
    exact showableAll_of fun d hd => (h d hd).1
  · simp only [PyData.shown]
    have z1 := tupleText_len_le (PyData.shownAll ds)
    have z2 := lens_le h
    rw [PyData.shownAll_length] at z1
    rw [Nat.mul_add]
    omega
  · have e : (PyData.tuple ds).depth = PyData.depthAll ds + 1 := by simp only [PyData.depth] <;> omega
    rw [e]
    exact Nat.succ_le_succ (depthAll_le fun d hd => (h d hd).2.2)
theorem kvs_le {m k : Nat} : ∀ {kvs : List (PyData × PyData)}, (∀ p ∈ kvs, Fit m k p.1 ∧ Fit m k p.2) → ((PyData.shownKv kvs).map (·.length)).sum ≤ kvs.length * (2 * m + 2) ∧ PyData.depthKv kvs ≤ k
  | [], _ => by simp [PyData.shownKv, PyData.depthKv]
  | (a, b) :: r, h => by
    obtain ⟨h1, h2⟩ := h (a, b) List.mem_cons_self
    obtain ⟨z1, z2⟩ := kvs_le (kvs := r) fun p hp => h p (List.mem_cons_of_mem _ hp)
    have e : (a.shown ++ ": " ++ b.shown).length = a.shown.length + 2 + b.shown.length := by
      rw [strLen_append, strLen_append]
      rfl
    have y1 := h1.2.1
    have y2 := h2.2.1
    refine ⟨?_, ?_⟩
    · rw [PyData.shownKv_cons, List.map_cons, List.sum_cons, List.length_cons, Nat.succ_mul, e]
      have y1' : a.shown.length ≤ m := y1
      have y2' : b.shown.length ≤ m := y2
      omega
    · have y3 : a.depth ≤ k := h1.2.2
      have y4 : b.depth ≤ k := h2.2.2
      simp only [PyData.depthKv]
      omega
theorem fit_dict {m k : Nat} {kvs : List (PyData × PyData)} (h : ∀ p ∈ kvs, Fit m k p.1 ∧ Fit m k p.2) : Fit (kvs.length * (2 * m + 4) + 3) (k + 1) (.dict kvs) := by
  obtain ⟨z1, z2⟩ := kvs_le h
  refine ⟨?_, ?_, ?_⟩
  · simp only [PyData.showable]
    exact showableKv_of fun p hp => ⟨(h p hp).1.1, (h p hp).2.1⟩
  · simp only [PyData.shown]
    have y := dictText_len_le (PyData.shownKv kvs)
    rw [PyData.shownKv_length] at y
    have e : kvs.length * (2 * m + 4) = kvs.length * (2 * m + 2) + 2 * kvs.length := by
      rw [Nat.mul_add, Nat.mul_add]
      omega
    omega
  · have e : (PyData.dict kvs).depth = PyData.depthKv kvs + 1 := by simp only [PyData.depth] <;> omega
    omega
theorem fit_int {i : Int} {n : Nat} (h0 : 0 < n) (h : i.natAbs < 10 ^ n) (hn : n ≤ 500) : Fit (n + 1) 0 (.int i) := by
  have z : (10 : Nat) ^ n < 2 ^ 1920 := Nat.lt_of_le_of_lt (Nat.pow_le_pow_right (by decide) hn) (by decide +kernel)
  refine ⟨decide_eq_true (log2_small (Nat.lt_trans h z)), ?_, by simp [PyData.depth]⟩
  rw [PyData.shown_int, PySem.ofString_length]
  exact int_text_length_le10 h0 h
/-- a datum is equal to itself -/
theorem eqv_self {K : PySem.W.Frag} {H : Hp} {x : V} {d : PyData} (D : DatV K H x d) (n : Nat) : EqV K H (n + 1) x x := by
  cases D with
  | non => exact .inl ⟨rfl, rfl⟩
  | bl b => exact .inl ⟨rfl, rfl⟩
  | int i => exact .inl ⟨rfl, rfl⟩
  | str y => exact .inl ⟨rfl, rfl⟩
  | lst _ _ => exact .inr (.inl ⟨_, rfl, rfl⟩)
  | tup _ _ => exact .inr (.inl ⟨_, rfl, rfl⟩)
  | dic _ _ => exact .inr (.inl ⟨_, rfl, rfl⟩)
theorem paired_rep {α β : Type} {F : α → β → Prop} {a : α} {b : β} (h : F a b) : ∀ n : Nat, Paired F (List.replicate n a) (List.replicate n b)
  | 0 => .nil
  | n + 1 => .cons h (paired_rep h n)
theorem datA_rep {K : PySem.W.Frag} {H : Hp} {x : V} {d : PyData} (D : DatV K H x d) : ∀ n : Nat, DatA K H (List.replicate n x) (List.replicate n d)
  | 0 => .nil
  | n + 1 => .cons D (datA_rep D n)
end Ns

/-! NsE: == of equal nested lists, tuples and dicts. -/
namespace Ns
open PySem PySem.Spec PyProof.Rows L2
/-- two tuples of equal items -/
def EqU (K : PySem.W.Frag) (H : Hp) (E : V → V → Prop) (x y : V) : Prop := ∃ a b xs ys, x = .ref a ∧ y = .ref b ∧ SqT K H a xs ∧ SqT K H b ys ∧ Paired E xs ys
/-- equal, of nesting below n, tuples too -/
def EqT (K : PySem.W.Frag) (H : Hp) : Nat → V → V → Prop
  | 0 => fun _ _ => False
  | n + 1 => fun x y => (x = y ∧ flatB x = true) ∨ (∃ a, x = .ref a ∧ y = .ref a) ∨ EqR K H (EqT K H n) x y ∨ EqU K H (EqT K H n) x y
section
variable {X : Cx} {pins : List (Addr × Obj)} {σ : L2.St} {H : Hp} {s : Shared}
theorem eqU_run (I : Inv X pins σ H s) {A : Around} {F : V → V → Prop} (hu : A.units < cLine) (ih : ∀ x y v u, F x y → RelV x v → RelV y u → SeqAt.EqP X.prog X.w A.in1 s v u true) {x y : V} {v u : Value} (h : EqU X.K H F x y) (rx : RelV x v) (ry : RelV y u)
    (E Q : Value → Shared → Prop) (q : Q (.bool true) s) : wpAny (model X.prog X.w) A (richCompare .Eq v u) Q E s := by
  obtain ⟨a, b, xs, ys, rfl, rfl, ha, hb, hp⟩ := h
  cases (show v = Value.ref a from rx)
  cases (show u = Value.ref b from ry)
  obtain ⟨us, r1, ⟨o1, h1, h2, n1, h3⟩, _⟩ := I.tuple ha
  obtain ⟨ws, r2, ⟨o2, g1, g2, n2, g3⟩, _⟩ := I.tuple hb
  have hsz : us.toArray.size = ws.toArray.size := by
    rw [List.size_toArray, List.size_toArray, ← r1.length, ← r2.length]
    exact Paired.length hp
  refine SeqAt.rcIn_tuples (e := fun _ => true) ⟨o1, h1, h2, n1, h3⟩ ⟨o2, g1, g2, n2, g3⟩ hu (fun j h1 h2 => ?_) ?_
  · have k := items_run ih hp r1 r2 j (by simpa using h1) (by simpa using h2)
    simp only [List.getElem_toArray]
    exact fun E Q q => k E Q q
  · rw [hsz, show ((List.range (min ws.toArray.size ws.toArray.size)).all fun _ => true) = true from List.all_eq_true.mpr fun _ _ => rfl]
    simpa using q
theorem eqT_run (I : Inv X pins σ H s) : ∀ (n : Nat) (A : Around), A.units + n < cLine → ∀ (x y : V) (v u : Value), EqT X.K H n x y → RelV x v → RelV y u → SeqAt.EqP X.prog X.w A s v u true
  | 0, _, _, _, _, _, _, h, _, _ => (show False from h).elim
  | n + 1, A, hu, x, y, v, u, h, rx, ry => by
    have ih := eqT_run I n A.in1 (by show A.units + 1 + n < cLine; omega)
    rcases h with ⟨rfl, f⟩ | ⟨a, rfl, rfl⟩ | h | h
    · exact (eqAt_same rx ry f).eqP
    · cases (show v = Value.ref a from rx)
      cases (show u = Value.ref a from ry)
      exact (SeqAt.EqAt.same _).eqP
    · have step := eqR_run I (A := A) (by omega) ih h rx ry
      obtain ⟨a, b, rfl, rfl⟩ : ∃ a b, x = .ref a ∧ y = .ref b := by
        rcases h with ⟨a, b, _, _, e1, e2, _⟩ | ⟨a, b, _, _, e1, e2, _⟩
        · exact ⟨a, b, e1, e2⟩
        · exact ⟨a, b, e1, e2⟩
      cases (show v = Value.ref a from rx)
      cases (show u = Value.ref b from ry)
      by_cases e : a = b
      · subst e
        exact (SeqAt.EqAt.same _).eqP
      · exact SeqAt.eqP_refs e step
    · have step := eqU_run I (A := A) (by omega) ih h rx ry
      obtain ⟨a, b, _, _, rfl, rfl, _⟩ := h
      cases (show v = Value.ref a from rx)
      cases (show u = Value.ref b from ry)
      by_cases e : a = b
      · subst e
        exact (SeqAt.EqAt.same _).eqP
      · exact SeqAt.eqP_refs e step
end
/-- flat, or a list, a tuple, a dict, the two of them equal -/
def EqS (K : PySem.W.Frag) (H : Hp) (n : Nat) (x y : V) : Prop := EqR K H (EqT K H n) x y ∨ EqU K H (EqT K H n) x y
section
variable {X : Cx}
/-- a == b, equal: flat ones, or lists, tuples, dicts -/
def rEqT (K : PySem.W.Frag) : R2 := fun x y H Q => ((x = y ∧ ((∃ i, x = .int i) ∨ (∃ z, x = .str z) ∨ x = .non ∨ ∃ b, x = .bl b)) ∨ ∃ n, n ≤ 60 ∧ EqS K H n x y) ∧ Q (.bl true) H
theorem op_eqT (hu : X.A.units + 64 < cLine) : OpR X (compareOp .Eq) (rEqT X.K) := by
  intro pins s σ H x y v u Q I rx ry h
  obtain ⟨h, q⟩ := h
  have qq : EP X pins σ Q (Value.bool true) s := ⟨.bl true, H, I, rfl, q⟩
  rcases h with ⟨rfl, ⟨i, rfl⟩ | ⟨z, rfl⟩ | rfl | ⟨b, rfl⟩⟩ | ⟨n, hn, h | h⟩
  · obtain ⟨t, rfl⟩ := (show ∃ t, v = Value.int i t from rx)
    obtain ⟨t', rfl⟩ := (show ∃ t, u = Value.int i t from ry)
    exact SeqAt.RcAt.int_int i t i t' _ _ _ _ (by rw [beq_self_eq_true]; exact qq)
  · obtain ⟨t, rfl⟩ := (show ∃ t, v = Value.str z t from rx)
    obtain ⟨t', rfl⟩ := (show ∃ t, u = Value.str z t from ry)
    exact SeqAt.RcAt.str_str z t z t' _ _ _ _ (by rw [beq_self_eq_true]; exact qq)
  · cases (show v = Value.none from rx)
    cases (show u = Value.none from ry)
    exact SeqAt.RcAt.none_none _ _ _ _ qq
  · cases (show v = Value.bool b from rx)
    cases (show u = Value.bool b from ry)
    exact SeqAt.RcAt.bool_bool b b _ _ _ _ (by rw [beq_self_eq_true]; exact qq)
  · exact eqR_run I (A := X.A) (by omega) (eqT_run I n X.A.in1 (by show X.A.units + 1 + n < cLine; omega)) h rx ry _ _ qq
  · exact eqU_run I (A := X.A) (by omega) (eqT_run I n X.A.in1 (by show X.A.units + 1 + n < cLine; omega)) h rx ry _ _ qq
end
end Ns

namespace Y
open PySem PySem.Spec PyProof.Rows L2 Ns
/-- equal data: True -/
def spAlike (K : PySem.W.Frag) : Sp := fun as H Q _ => ∃ (x y : V) (d : PyData), as = [x, y] ∧ ((x = y ∧ ((∃ i, x = .int i) ∨ (∃ z, x = .str z) ∨ x = .non ∨ ∃ b, x = .bl b)) ∨ ∃ n, n ≤ 60 ∧ EqS K H n x y) ∧ DatV K H x d ∧ DatV K H y d ∧ d.showable = true ∧ d.shown.length ≤ sizeLine ∧ d.depth ≤ 60 ∧ Q (.bl true) H
section
variable {P : Program} {w : World} {K : PySem.W.Frag} {mg : Str → Option Value} {base : Heap}
theorem scA : FnScope ["found", "due"] ["found", "due"] (defScope sAlike) := ⟨rfl, rfl, rfl, by decide +kernel, rfl, by decide +kernel, by decide +kernel⟩
theorem ok_alike {f : Addr} {fd : FuncData} (F : Fun K "_law_alike" "_law_alike" sAlike f fd) (T : Nat0 mg) : GnOk P w K mg base 1 f fd ["found", "due"] (spAlike K) := by
  refine Fun.okG F scA (fun as H Q E h => ?_) (fun cdv A outer s H as Q E hr hgd h => ?_)
  · obtain ⟨x, y, d, rfl, _⟩ := h
    rfl
  · obtain ⟨x, y, d, rfl, he, dx, dy, hs, hz, hd, k⟩ := h
    have hu : (A.deeper (envOfC "_law_alike" (defScope sAlike) s.heap.objs.size f cdv)).units + 64 < cLine := hr.units
    refine ⟨_, pss_one (ps_ret (pe_and (pe_cmpR (op_eqT hu) (pv 0) (pv 1) (nomark _)) (pe_one (pe_cmpR op_eq
      (pe_callB (call_reprD hgd hu) (by rfl) T.repr (by decide +kernel) (pa_cons (pv 0) pa_nil)) (pe_callB (call_reprD hgd hu) (by rfl) T.repr (by decide +kernel) (pa_cons (pv 1) pa_nil)) (nomark _))))), ?_⟩
    refine ⟨_, rfl, _, rfl, he, true, rfl, ?_⟩
    refine iteT ?_
    refine ⟨_, rfl, x, d, rfl, dx, hs, hz, hd, _, rfl, y, d, rfl, dy, hs, hz, hd, rfl, ?_⟩
    rw [decide_eq_true rfl]
    exact k
end
end Y

namespace Y
open PySem PySem.Spec PyProof.Rows L2 Ns
open C8 (pss_cut)
/-- the things in some order: a new list -/
def spMixed (K : PySem.W.Frag) : Sp := fun as H Q _ => ∃ (b a : Addr) (xs : List V), as = [.ref b, .ref a] ∧ Bag H b ∧ SqL K (wo H b) a xs ∧ xs.length ≤ 1000 ∧
  ∀ (p : Addr) (ys : List V) (H' : Hp), ys.Perm xs → H' p = some (.lst ys) → H p = none → p ≠ b → Bag H' b → Sb b H H' → Q (.ref p) H'
/-- one sign of a text -/
def spSomeS : Sp := fun as H Q _ => ∃ (b : Addr) (z : Str), as = [.ref b, .str z] ∧ Bag H b ∧ z.length ≠ 0 ∧ z.length ≤ 1000 ∧ ∀ (c : Nat) (H' : Hp), c ∈ z.cps.toList → Bag H' b → Sb b H H' → Q (.str ⟨#[c]⟩) H'
section
variable {P : Program} {w : World} {K : PySem.W.Frag} {mg : Str → Option Value} {base : Heap}
theorem scM : FnScope ["bag", "things", "found", "thing"] ["bag", "things"] (defScope sMixed) := ⟨rfl, rfl, rfl, by decide +kernel, rfl, by decide +kernel, by decide +kernel⟩
theorem ok_mixed {f fT : Addr} {fd fdT : FuncData} (F : Fun K "_law_mixed" "_law_mixed" sMixed f fd) (T : Nat0 mg) (FT : Fun K "_law_take" "_law_take" sTake fT fdT) (mT : mg "_law_take" = some (.ref fT)) (bT : Binds K fdT ["bag", "many"] []) :
    FnOk P w K mg base CX0 2 f fd ["bag", "things"] (spMixed K) := by
  have GT : FnOk P w K mg base CX0 1 fT fdT ["bag", "many"] spTake := ok_take FT T
  refine F.ok scM (fun as H Q E h => ?_) (fun cdv A outer s H as Q E hr h => ?_)
  · obtain ⟨b, a, xs, rfl, _⟩ := h
    rfl
  · obtain ⟨b, a, xs, rfl, hB, hS, hl, k⟩ := h
    refine ⟨_, pss_cons (ps_set (i := 2) scM.nd rfl (.inl rfl) (pe_lst pa_nil))
      (pss_cons (ps_for PassesOwn.never rfl (pi_list (pv 1)) (pg_name (i := 3) scM.nd rfl (.inl rfl))
        (pss_one (ps_expr (pe_bm PySem.F.plainAttrs_list PySem.F.slot_list_insert PySem.F.type_list_insert mt_insert (pv 2)
          (pa_cons (pe_call GT hr rfl mT FT.kp bT .nil pass0 (pa_cons (pv 0) (pa_cons (pe_op op_add (pe_callB call_len_seq (by rfl) T.len PySem.boot_len (pa_cons (pv 2) pa_nil)) pe_int) pa_nil))) (pa_cons (pv 3) pa_nil))))))
      (pss_one (ps_ret (pv 2)))), ?_⟩
    refine ⟨by show 0 ≤ sizeLine; decide, fun p hp => ?_⟩
    have npb : p ≠ b := hB.ne hp
    have hS0 : SqL K (upd H p (.lst [])) a xs := Same.seq (same_new (Same.refl H) hp) ((wo_sub H b).seq hS)
    refine ⟨_, rfl, a, rfl, ⟨_, hS0⟩, ?_⟩
    refine for_list (K := K) (a := a) (xs := xs) (fun i σ H' => ∃ (v : Option V) (ys : List V), σ = [some (.ref b), some (.ref a), some (.ref p), v] ∧ H' p = some (.lst ys) ∧ ys.Perm (xs.take i) ∧ Bag H' b ∧ Sb b H H') ?_ ?_ ?_ ?_
    · exact ⟨none, [], rfl, upd_same, by rw [List.take_zero], hB.new hp, (Sb.refl b H).new hp⟩
    · rintro i σ H' _ ⟨v, ys, _, _, _, _, s⟩
      exact (wo_sub H' b).seq (s.sl hS)
    · rintro i x σ H' hx ⟨v, ys, rfl, h1, h2, h3, h4⟩
      have hi : i < xs.length := (List.getElem?_eq_some_iff.mp hx).1
      have hyl : ys.length = i := by rw [h2.length_eq, List.length_take]; omega
      refine ⟨_, rfl, .inl ⟨rfl, _, SqL.of h1⟩, _, rfl, _, rfl, p, _, rfl, .inl (SqL.of h1), ys.length, 1, rfl, rfl, b, _, rfl, h3, by omega, Nat.lt_of_le_of_lt (show ((ys.length : Int) + 1).natAbs ≤ 2000 by omega) (by decide), fun j H2 h0 hj hB2 sb2 => ?_⟩
      have e2 := sb2.get h1 npb
      refine ⟨_, rfl, p, ys, j, x, rfl, rfl, e2, small1000 (by omega), h0, by omega, some x, _, rfl, upd_same, put_perm h2 hx, ?_, ?_⟩
      · exact hB.wr hp (h4.trans sb2) hB2
      · exact (h4.trans sb2).wr hp
    · rintro σ H' ⟨v, ys, rfl, h1, h2, h3, h4⟩
      rw [List.take_length] at h2
      exact ⟨_, rfl, k p ys H' h2 h1 hp npb h3 h4⟩
theorem ok_someS {f fT : Addr} {fd fdT : FuncData} (F : Fun K "_law_some" "_law_some" sSome f fd) (T : Nat0 mg) (FT : Fun K "_law_take" "_law_take" sTake fT fdT) (mT : mg "_law_take" = some (.ref fT)) (bT : Binds K fdT ["bag", "many"] []) :
    FnOk P w K mg base CX0 2 f fd ["bag", "things"] spSomeS := by
  have GT : FnOk P w K mg base CX0 1 fT fdT ["bag", "many"] spTake := ok_take FT T
  refine F.ok scS (fun as H Q E h => ?_) (fun cdv A outer s H as Q E hr h => ?_)
  · obtain ⟨b, z, rfl, _⟩ := h
    rfl
  · obtain ⟨b, z, rfl, hB, hne, hl, k⟩ := h
    refine ⟨_, pss_one (ps_ret (pe_ix ix_str (pv 1) (pe_call GT hr rfl mT FT.kp bT .nil pass0 (pa_cons (pv 0) (pa_cons (pe_callB call_len_str (by rfl) T.len PySem.boot_len (pa_cons (pv 1) pa_nil)) pa_nil))) (fun _ _ => rfl))), ?_⟩
    refine ⟨_, rfl, _, rfl, _, rfl, z, rfl, Nat.le_of_lt (small1000 hl), b, _, rfl, hB, by omega, ?_, fun v H' h0 h1 hB' sb => ?_⟩
    · exact Nat.lt_of_le_of_lt (show ((z.length : Int)).natAbs ≤ 1000 by omega) (by decide)
    · have hi : v.toNat < z.cps.toList.length := by
        have e : z.cps.toList.length = z.length := by first | rfl | simp [PySem.Str.length]
        omega
      have ev : v = ((v.toNat : Nat) : Int) := by omega
      obtain ⟨c, ec⟩ : ∃ c, z.cps.toList[v.toNat]? = some c := ⟨_, List.getElem?_eq_getElem hi⟩
      refine ⟨z, v, c, rfl, rfl, Nat.le_of_lt (small1000 hl), by rw [ev]; exact atI_nat ec, ?_⟩
      exact k c H' (List.mem_of_getElem? ec) hB' sb
end
end Y

/-! names, as texts: what is one, and that a row of tries comes to a new one -/
namespace Y
open PySem PySem.Spec PyProof.Rows L2 Ns
def isL (c : Nat) : Prop := 97 ≤ c ∧ c ≤ 122
def isD (c : Nat) : Prop := 48 ≤ c ∧ c ≤ 57
def isS (c : Nat) : Prop := isL c ∨ isD c
instance (c : Nat) : Decidable (isL c) := inferInstanceAs (Decidable (_ ∧ _))
instance (c : Nat) : Decidable (isD c) := inferInstanceAs (Decidable (_ ∧ _))
instance (c : Nat) : Decidable (isS c) := inferInstanceAs (Decidable (_ ∨ _))
/-- the signs of a name -/
def NmL (n : List Nat) : Prop := ∃ c r, n = c :: r ∧ isL c ∧ (∀ d ∈ r, isS d) ∧ r.length ≤ 19
def Nm (x : Str) : Prop := NmL x.cps.toList
abbrev letters : Str := "abcdefghijklmnopqrstuvwxyz"
abbrev signs : Str := "abcdefghijklmnopqrstuvwxyz0123456789"
theorem letters_ok : ∀ c ∈ letters.cps.toList, isL c := by decide +kernel
theorem signs_ok : ∀ c ∈ signs.cps.toList, isS c := by decide +kernel
theorem len_cps (z : Str) : z.cps.toList.length = z.length := by first | rfl | simp [PySem.Str.length]
theorem str_ext {x y : Str} (h : x.cps.toList = y.cps.toList) : x = y := by
  cases x
  cases y
  exact congrArg PySem.Str.mk (Array.toList_inj.mp h)
theorem Nm.len {x : Str} (h : Nm x) : 1 ≤ x.length ∧ x.length ≤ 20 := by
  obtain ⟨c, r, e, _, _, h⟩ := h
  rw [← len_cps, e, List.length_cons]
  omega
theorem nm_one {c : Nat} (h : isL c) : Nm ⟨#[c]⟩ := ⟨c, [], rfl, h, (fun _ z => nomatch z), by decide⟩
theorem nm_snoc {x : Str} {c : Nat} (h : Nm x) (hl : x.length ≤ 19) (hc : isS c) : Nm (x ++ ⟨#[c]⟩) := by
  obtain ⟨d, r, e, h1, h2, h3⟩ := h
  refine ⟨d, r ++ [c], by rw [cps_toList_append, e]; rfl, h1, fun k hk => ?_, ?_⟩
  · rcases List.mem_append.mp hk with q | q
    · exact h2 k q
    · rw [List.mem_singleton] at q
      rw [q]; exact hc
  · have q : x.cps.toList.length ≤ 19 := by rw [len_cps]; exact hl
    rw [e, List.length_cons] at q
    rw [List.length_append, List.length_singleton]
    omega
theorem cut_list (z : Str) (k : Nat) : (cutS z none (some (k : Int))).cps.toList = z.cps.toList.take k := by
  have e : HT.sIx z.length 0 none = 0 := rfl
  unfold cutS
  show ((z.cps.toList.drop (HT.sIx z.length 0 none)).take (HT.sIx z.length z.length (some (k : Int)) - HT.sIx z.length 0 none)) = _
  rw [e, List.drop_zero, Nat.sub_zero]
  have h : HT.sIx z.length z.length (some (k : Int)) = min k z.length := by
    unfold HT.sIx
    simp
    try omega
  rw [h, ← len_cps]
  rw [List.take_eq_take_iff]
  omega
theorem nm_cut {x : Str} {k : Nat} (h : Nm x) (hk : 1 ≤ k) : Nm (cutS x none (some (k : Int))) ∧ (cutS x none (some (k : Int))).length ≤ k := by
  obtain ⟨c, r, e, h1, h2, h3⟩ := h
  have q := cut_list x k
  obtain ⟨m, rfl⟩ : ∃ m, k = m + 1 := ⟨k - 1, by omega⟩
  rw [e, List.take_succ_cons] at q
  refine ⟨⟨c, r.take m, q, h1, fun d hd => h2 d (List.mem_of_mem_take hd), ?_⟩, ?_⟩
  · rw [List.length_take]; omega
  · rw [← len_cps, q, List.length_cons, List.length_take]; omega
/-- the digits of a number -/
def Dg (k : Nat) : List Nat := (toString (k : Int) : PySem.Str).cps.toList
theorem dg_digits : ∀ k, k < 101 → (∀ c ∈ Dg k, isD c) ∧ (Dg k).length ≤ 3 := by decide +kernel
theorem dg_inj : ∀ j, j < 101 → ∀ k, k < 101 → Dg j = Dg k → j = k := by decide +kernel
theorem not_both {c : Nat} (h : isL c) (g : isD c) : False := by
  unfold isL at h
  unfold isD at g
  omega
theorem split_same : ∀ {a b : List Nat} {c d : Nat} {r t : List Nat}, (∀ x ∈ a, isD x) → (∀ x ∈ b, isD x) → isL c → isL d → a ++ c :: r = b ++ d :: t → a = b
  | [], [], _, _, _, _, _, _, _, _, _ => rfl
  | [], y :: b, c, d, r, t, _, hb, hc, _, h => by
    injection h with h1 h2
    rw [h1] at hc
    exact (not_both hc (hb y List.mem_cons_self)).elim
  | x :: a, [], c, d, r, t, ha, _, _, hd, h => by
    injection h with h1 h2
    rw [← h1] at hd
    exact (not_both hd (ha x List.mem_cons_self)).elim
  | x :: a, y :: b, c, d, r, t, ha, hb, hc, hd, h => by
    injection h with h1 h2
    rw [h1, split_same (fun z hz => ha z (List.mem_cons_of_mem _ hz)) (fun z hz => hb z (List.mem_cons_of_mem _ hz)) hc hd h2]
/-- the k-th try -/
def Tr (k : Nat) (x : Str) : Prop := ∃ c r, isL c ∧ x.cps.toList = 120 :: (Dg k ++ c :: r)
theorem tr_inj {j k : Nat} {x : Str} (hj : j < 101) (hk : k < 101) (h : Tr j x) (g : Tr k x) : j = k := by
  obtain ⟨c, r, h1, h2⟩ := h
  obtain ⟨d, t, g1, g2⟩ := g
  rw [h2] at g2
  injection g2 with _ e
  exact dg_inj j hj k hk (split_same (dg_digits j hj).1 (dg_digits k hk).1 h1 g1 e)
def tryOf (k : Nat) (x : Str) : Str := ("x" : Str) ++ toString (k : Int) ++ cutS x none (some (16 : Int))
theorem tryOf_cps (k : Nat) (x : Str) : (tryOf k x).cps.toList = 120 :: (Dg k ++ x.cps.toList.take 16) := by
  unfold tryOf
  rw [cps_toList_append, cps_toList_append, show (16 : Int) = ((16 : Nat) : Int) from rfl, cut_list]
  rfl
theorem tr_try {k : Nat} {x : Str} (h : Nm x) : Tr k (tryOf k x) := by
  obtain ⟨c, r, e, h1, _⟩ := h
  exact ⟨c, r.take 15, h1, by rw [tryOf_cps, e]; rfl⟩
theorem nm_try {k : Nat} {x : Str} (h : Nm x) (hk : k < 101) : Nm (tryOf k x) := by
  obtain ⟨c, r, e, h1, h2, h3⟩ := h
  obtain ⟨d1, d2⟩ := dg_digits k hk
  refine ⟨120, Dg k ++ x.cps.toList.take 16, tryOf_cps k x, by decide, fun d hd => ?_, ?_⟩
  · rcases List.mem_append.mp hd with q | q
    · exact .inr (d1 d q)
    · have q' := List.mem_of_mem_take q
      rw [e] at q'
      rcases List.mem_cons.mp q' with z | z
      · rw [z]; exact .inl h1
      · exact h2 d z
  · rw [List.length_append, List.length_take]
    omega
abbrev feed : Str := "feed"
theorem tr_feed {k : Nat} {x : Str} (h : Tr k x) : x ≠ feed := by
  rintro rfl
  obtain ⟨c, r, _, e⟩ := h
  have e' : feed.cps.toList = [102, 101, 101, 100] := by decide +kernel
  rw [e'] at e
  cases e
theorem sub_len {α : Type} [DecidableEq α] : ∀ {l m : List α}, l.Nodup → (∀ x ∈ l, x ∈ m) → l.length ≤ m.length
  | [], _, _, _ => Nat.zero_le _
  | x :: l, m, hn, hs => by
    have hx := hs x List.mem_cons_self
    have q := sub_len (l := l) (m := m.erase x) (List.nodup_cons.mp hn).2 fun y hy => by
      have ne : y ≠ x := fun e => (List.nodup_cons.mp hn).1 (e ▸ hy)
      exact (List.mem_erase_of_ne ne).mpr (hs y (List.mem_cons_of_mem _ hy))
    rw [List.length_erase_of_mem hx] at q
    have := List.length_pos_of_mem hx
    rw [List.length_cons]
    omega
/-- ahead of the i-th turn -/
def Ahead (taken : List Str) (i : Nat) (x : Str) : Prop := Nm x ∧ ((x ∉ taken ∧ x ≠ feed) ∨ i = 0 ∨ ∃ seen : List Str, seen.length + 1 = i ∧ seen.Nodup ∧ (∀ s ∈ seen, s ∈ taken ∧ ∃ k, k + 1 < i ∧ Tr k s) ∧ Tr (i - 1) x)
theorem ahead_good {taken : List Str} {i : Nat} {x : Str} (h : Nm x) (h1 : x ∉ taken) (h2 : x ≠ feed) : Ahead taken (i + 1) x := ⟨h, .inl ⟨h1, h2⟩⟩
theorem ahead_bad {taken : List Str} {i : Nat} {x : Str} (hi : i < 101) (h : Ahead taken i x) (hb : x ∈ taken ∨ x = feed) : Ahead taken (i + 1) (tryOf i x) := by
  obtain ⟨n, h⟩ := h
  refine ⟨nm_try n hi, ?_⟩
  rcases h with ⟨h1, h2⟩ | rfl | ⟨seen, h1, h2, h3, h4⟩
  · rcases hb with q | q
    · exact absurd q h1
    · exact absurd q h2
  · exact .inr (.inr ⟨[], rfl, List.nodup_nil, (fun _ z => nomatch z), tr_try n⟩)
  · have hx : x ∈ taken := by
      rcases hb with q | q
      · exact q
      · exact absurd q (tr_feed h4)
    refine .inr (.inr ⟨x :: seen, by rw [List.length_cons]; omega, List.nodup_cons.mpr ⟨fun hm => ?_, h2⟩, fun s hs => ?_, tr_try n⟩)
    · obtain ⟨_, k, hk, ht⟩ := h3 x hm
      have := tr_inj (by omega) (by omega) ht h4
      omega
    · rcases List.mem_cons.mp hs with e | e
      · rw [e]
        exact ⟨hx, i - 1, by omega, h4⟩
      · obtain ⟨g1, k, g2, g3⟩ := h3 s e
        exact ⟨g1, k, by omega, g3⟩
theorem ahead_end {taken : List Str} {x : Str} (hl : taken.length ≤ 100) (h : Ahead taken (taken.length + 1) x) : Nm x ∧ x ∉ taken ∧ x ≠ feed := by
  obtain ⟨n, h⟩ := h
  refine ⟨n, ?_⟩
  rcases h with h | h | ⟨seen, h1, h2, h3, h4⟩
  · exact h
  · cases h
  · refine ⟨fun hx => ?_, tr_feed h4⟩
    have q := sub_len (l := x :: seen) (m := taken) (List.nodup_cons.mpr ⟨fun hm => ?_, h2⟩) fun s hs => by
      rcases List.mem_cons.mp hs with e | e
      · rw [e]; exact hx
      · exact (h3 s e).1
    · rw [List.length_cons] at q
      omega
    · obtain ⟨_, k, hk, ht⟩ := h3 x hm
      have := tr_inj (by omega) (by omega) ht h4
      omega
end Y

namespace Y
open PySem PySem.Spec PyProof.Rows L2 Ns
open C8 (pss_cut)
def txs (l : List Str) : List V := l.map V.str
def spName (K : PySem.W.Frag) : Sp := fun as H Q _ => ∃ (b a : Addr) (ts : List Str), as = [.ref b, .ref a] ∧ Bag H b ∧ SqL K (wo H b) a (txs ts) ∧ ts.length ≤ 100 ∧ (∀ t ∈ ts, Nm t) ∧ ∀ (x : Str) (H' : Hp), Nm x → x ∉ ts → x ≠ feed → Bag H' b → Sb b H H' → Q (.str x) H'
theorem dp_txs {K : PySem.W.Frag} {H : Hp} : ∀ ts : List Str, DpAll K H (txs ts) (ts.map PyData.str)
  | [] => .nil
  | t :: ts => .cons (.str t) (dp_txs ts)
theorem nm_ok {t : Str} (h : Nm t) : PyData.strOk t = true := by
  obtain ⟨c, r, e, h1, h2, _⟩ := h
  unfold PyData.strOk
  rw [Array.all_eq_true_iff_forall_mem]
  intro x hx
  have hx' : x ∈ t.cps.toList := by simpa using hx
  rw [e] at hx'
  refine decide_eq_true ?_
  rcases List.mem_cons.mp hx' with q | q
  · rw [q]; unfold isL at h1; omega
  · rcases h2 x q with z | z
    · unfold isL at z; omega
    · unfold isD at z; omega
theorem lay_txs : ∀ ts : List Str, (∀ t ∈ ts, Nm t) → PyData.canLayAll0 (ts.map PyData.str) = true ∧ PyData.depthAll (ts.map PyData.str) = 0
  | [], _ => ⟨rfl, rfl⟩
  | t :: ts, h => by
    obtain ⟨h1, h2⟩ := lay_txs ts fun t ht => h t (List.mem_cons_of_mem _ ht)
    exact ⟨by simp [PyData.canLayAll0, PyData.canLay0, h1, nm_ok (h t List.mem_cons_self)], by simp [PyData.depthAll, PyData.depth, h2]⟩
theorem shaped_txs {ts : List Str} (h : ∀ t ∈ ts, Nm t) : SeqAt.shaped (.list (ts.map PyData.str)) = true := by
  obtain ⟨h1, h2⟩ := lay_txs ts h
  simp [SeqAt.shaped, PyData.canLay0, PyData.depth, h1, h2]
theorem flat_txs (ts : List Str) : (txs ts).all flatV = true := by
  rw [List.all_eq_true]
  intro x hx
  obtain ⟨t, _, rfl⟩ := List.mem_map.mp hx
  rfl
theorem in_txs {x : Str} {ts : List Str} : inV (.str x) (txs ts) = true ↔ x ∈ ts := by
  unfold inV txs
  rw [List.any_map, List.any_eq_true]
  constructor
  · rintro ⟨y, hy, h⟩
    have e : y = x := by simpa [L2.eqV] using h
    rw [← e]; exact hy
  · intro h
    exact ⟨x, h, by simp [L2.eqV]⟩
theorem hx20 {x : Str} (h : Nm x) : x.length ≤ sizeLine := Nat.le_of_lt (small1000 (show x.length ≤ 1000 by have := h.len; omega))
section
variable {P : Program} {w : World} {K : PySem.W.Frag} {mg : Str → Option Value} {base : Heap}
theorem scN : FnScope ["bag", "taken", "letters", "signs", "name", "way", "k", "near"] ["bag", "taken"] (defScope sName) := ⟨rfl, rfl, rfl, by decide +kernel, rfl, by decide +kernel, by decide +kernel⟩
theorem ok_name {f fT fS : Addr} {fd fdT fdS : FuncData} (F : Fun K "_law_name" "_law_name" sName f fd) (T : Nat0 mg) (FT : Fun K "_law_take" "_law_take" sTake fT fdT) (mT : mg "_law_take" = some (.ref fT)) (bT : Binds K fdT ["bag", "many"] [])
    (FS : Fun K "_law_some" "_law_some" sSome fS fdS) (mS : mg "_law_some" = some (.ref fS)) (bS : Binds K fdS ["bag", "things"] []) :
    FnOk P w K mg base CX0 3 f fd ["bag", "taken"] (spName K) := by
  have GT : FnOk P w K mg base CX0 1 fT fdT ["bag", "many"] spTake := ok_take FT T
  have GS : FnOk P w K mg base CX0 2 fS fdS ["bag", "things"] (spSome K) := ok_some FS T FT mT bT
  have GZ : FnOk P w K mg base CX0 2 fS fdS ["bag", "things"] spSomeS := ok_someS FS T FT mT bT
  refine F.ok scN (fun as H Q E h => ?_) (fun cdv A outer s H as Q E hr h => ?_)
  · obtain ⟨b, a, ts, rfl, _⟩ := h
    rfl
  · obtain ⟨b, a, ts, rfl, hB, hS, hl, hn, k⟩ := h
    have hr1 : Room 1 _ := hr.mono (by decide)
    refine ⟨_, pss_cons (ps_asg (pe_tup (pa_cons pe_str (pa_cons pe_str pa_nil))) (pg_tup (by rfl) (pgs_cons (pg_name (i := 2) scN.nd rfl (.inl rfl)) (pgs_cons (pg_name (i := 3) scN.nd rfl (.inl rfl)) pgs_nil))))
      (pss_cons (ps_par (i := 4) (j := 5) rfl scN.nd rfl rfl (by decide) rfl rfl (pa_cons (pe_call GZ hr rfl mS FS.kp bS .nil pass0 (pa_cons (pv 0) (pa_cons (pv 2) pa_nil))) (pa_cons (pe_call GT hr1 rfl mT FT.kp bT .nil pass0 (pa_cons (pv 0) (pa_cons pe_int pa_nil))) pa_nil)) (by rfl))
      (pss_cons (ps_for PassesOwn.never rfl (pi_range1 (by rfl) T.range (pa_cons (pe_ix ix_list (pe_lst (pa_cons pe_int (pa_cons pe_int (pa_cons pe_int (pa_cons pe_int (pa_cons pe_int (pa_cons pe_int pa_nil))))))) (pv 5) (fun _ _ => rfl)) pa_nil)) (pg_name (i := 6) scN.nd rfl (.inl rfl))
        (pss_one (ps_set (i := 4) scN.nd rfl (.inl rfl) (pe_op op_add_str (pv 4) (pe_call GZ hr rfl mS FS.kp bS .nil pass0 (pa_cons (pv 0) (pa_cons (pv 3) pa_nil)))))))
      (pss_cut (ps_if (PW.pt (pw_and (pt_cmpR (op_neD hr.units) (pv 1) (pe_lst pa_nil) (nomark _)) (pw_and1 (pt_cmpR op_eq (pe_call GT hr1 rfl mT FT.kp bT .nil pass0 (pa_cons (pv 0) (pa_cons pe_int pa_nil))) pe_int (nomark _)))))
        (pss_cons (ps_set (i := 7) scN.nd rfl (.inl rfl) (pe_call GS hr rfl mS FS.kp bS .nil pass0 (pa_cons (pv 0) (pa_cons (pv 1) pa_nil))))
        (pss_one (ps_set (i := 4) scN.nd rfl (.inl rfl) (pe_op op_add_str (pe_ifExp (pt_cmpR op_eq (pe_call GT hr1 rfl mT FT.kp bT .nil pass0 (pa_cons (pv 0) (pa_cons pe_int pa_nil))) pe_int (nomark _)) (pe_slice sl_str (pv 7) po_none (po_some pe_int)) (pe_slice sl_str (pv 7) po_none (po_some pe_int)))
          (pe_call GZ hr rfl mS FS.kp bS .nil pass0 (pa_cons (pv 0) (pa_cons (pv 3) pa_nil))))))) pss_nil)
      (pss_cons (ps_for PassesOwn.never rfl (pi_range1 (by rfl) T.range (pa_cons (pe_op op_add (pe_callB call_len_seq (by rfl) T.len PySem.boot_len (pa_cons (pv 1) pa_nil)) pe_int) pa_nil)) (pg_name (i := 6) scN.nd rfl (.inl rfl))
        (pss_one (ps_if (PW.pt (pw_or (pt_cmpR op_in_seq (pv 4) (pv 1) (by rfl)) (pw_or1 (pt_cmpR op_eq (pv 4) pe_str (nomark _)))))
          (pss_one (ps_set (i := 4) scN.nd rfl (.inl rfl) (pe_op op_add_str (pe_op op_add_str pe_str (pe_callTy call_str_int (by rfl) T.str (by decide +kernel) (pa_cons (pv 6) pa_nil))) (pe_slice sl_str (pv 4) po_none (po_some pe_int))))) pss_nil)))
      (pss_one (ps_ret (pv 4))))))), ?_⟩
    refine ⟨by show 2 ≤ sizeLine; decide, fun p hp => ?_⟩
    refine ⟨p, _, rfl, SqT.of upd_same, rfl, ?_⟩
    have hB0 : Bag (upd H p (.tup [.str letters, .str signs])) b := hB.new hp
    have s0 : Sb b H (upd H p (.tup [.str letters, .str signs])) := (Sb.refl b H).new hp
    refine ⟨_, _, rfl, _, _, rfl, rfl, ?_⟩
    refine ⟨_, rfl, _, rfl, b, letters, rfl, hB0, by decide, by decide, fun c0 H1 hc0 hB1 s1 => ?_⟩
    refine ⟨_, rfl, b, 6, rfl, hB1, by decide, by decide, fun way H2 w0 w1 hB2 s2 => ?_⟩
    refine ⟨_, _, rfl, ?_⟩
    have s02 := (s0.trans s1).trans s2
    refine ⟨by show 6 ≤ sizeLine; decide, fun q hq => ⟨_, rfl, ?_⟩⟩
    obtain ⟨m, hm, hat⟩ : ∃ m : Nat, m ≤ 19 ∧ atI [V.int 0, V.int 1, V.int 2, V.int 5, V.int 12, V.int 19] way = some (.int m) := by
      have : way = 0 ∨ way = 1 ∨ way = 2 ∨ way = 3 ∨ way = 4 ∨ way = 5 := by omega
      rcases this with rfl | rfl | rfl | rfl | rfl | rfl
      · exact ⟨0, by decide, atI_nat (j := 0) rfl⟩
      · exact ⟨1, by decide, atI_nat (j := 1) rfl⟩
      · exact ⟨2, by decide, atI_nat (j := 2) rfl⟩
      · exact ⟨5, by decide, atI_nat (j := 3) rfl⟩
      · exact ⟨12, by decide, atI_nat (j := 4) rfl⟩
      · exact ⟨19, by decide, atI_nat (j := 5) rfl⟩
    refine ⟨q, _, way, _, rfl, rfl, SqL.of upd_same, hat, ?_⟩
    have hB3 := hB2.new (o := .lst [V.int 0, V.int 1, V.int 2, V.int 5, V.int 12, V.int 19]) hq
    have s3 := s02.new (o := .lst [V.int 0, V.int 1, V.int 2, V.int 5, V.int 12, V.int 19]) hq
    refine ⟨m, rfl, by omega, by omega, for_range (n := (m : Int).toNat) (fun i σ H' => ∃ (x : Str) (kk : Option V), σ = [some (.ref b), some (.ref a), some (.str letters), some (.str signs), some (.str x), some (.int way), kk, none] ∧ Nm x ∧ x.length ≤ i + 1 ∧ Bag H' b ∧ Sb b H H') ?_ ?_ ?_⟩
    · exact ⟨⟨#[c0]⟩, none, rfl, nm_one (letters_ok c0 hc0), Nat.le_refl 1, hB3, s3⟩
    · rintro i σ H' hi ⟨x, kk, rfl, hx, hxl, hB4, s4⟩
      refine ⟨_, rfl, _, rfl, _, rfl, b, signs, rfl, hB4, by decide, by decide, fun c H5 hc hB5 s5 => ?_⟩
      have hz : x.length ≤ 19 := by omega
      refine ⟨x, ⟨#[c]⟩, rfl, rfl, ?_, x ++ ⟨#[c]⟩, _, rfl, nm_snoc hx hz (signs_ok c hc), ?_, hB5, s4.trans s5⟩
      · exact Nat.le_of_lt (small1000 (show x.length + 1 ≤ 1000 by omega))
      · rw [strLen_append]
        show x.length + 1 ≤ _
        omega
    rintro σ H' ⟨x, kk, rfl, hx, hxl, hB4, s4⟩
    refine ⟨fun σ' H' => ∃ (x : Str) (kk nn : Option V), σ' = [some (.ref b), some (.ref a), some (.str letters), some (.str signs), some (.str x), some (.int way), kk, nn] ∧ Nm x ∧ Bag H' b ∧ Sb b H H', ?_, ?_⟩
    · refine ⟨_, rfl, by show 0 ≤ sizeLine; decide, fun r hr' => ?_⟩
      have hB5 := hB4.new (o := .lst []) hr'
      have s5 := s4.new (o := .lst []) hr'
      have hSn : SqL K (upd H' r (.lst [])) a (txs ts) := (wo_sub _ b).seq (s5.sl hS)
      refine ⟨.list (ts.map PyData.str), .list [], .lst hSn (dp_txs ts), .lst (SqL.of upd_same) .nil, shaped_txs hn, by decide +kernel, _, rfl, ?_⟩
      refine ite2 (fun hne => ?_) (fun _ => ⟨x, _, _, rfl, hx, hB5, s5⟩)
      have ne : txs ts ≠ [] := by
        rintro e
        have e' : ts = [] := List.map_eq_nil_iff.mp e
        rw [e'] at hne
        revert hne
        decide
      refine ⟨_, rfl, b, 3, rfl, hB5, by decide, by decide, fun v H6 v0 v1 hB6 s6 => ⟨rfl, _, rfl, ?_⟩⟩
      refine ite2 (fun _ => ?_) (fun _ => ⟨x, _, _, rfl, hx, hB6, s5.trans s6⟩)
      have s06 := s5.trans s6
      refine ⟨_, rfl, _, rfl, b, a, _, rfl, hB6, s06.sl hS, ne, ?_, fun y H7 hy hB7 s7 => ?_⟩
      · rw [show (txs ts).length = ts.length from List.length_map _]
        omega
      obtain ⟨t, ht, rfl⟩ := List.mem_map.mp hy
      have nt := hn t ht
      have s07 := s06.trans s7
      have tl : t.length ≤ sizeLine := Nat.le_of_lt (small1000 (show t.length ≤ 1000 by have := nt.len; omega))
      refine ⟨_, rfl, b, 2, rfl, hB7, by decide, by decide, fun v2 H8 v20 v21 hB8 s8 => ⟨rfl, _, rfl, ?_⟩⟩
      have s08 := s07.trans s8
      refine ite2 (fun _ => ?_) (fun _ => ?_)
      · refine ⟨_, rfl, _, rfl, t, rfl, tl, _, rfl, _, rfl, b, signs, rfl, hB8, by decide, by decide, fun c H9 hc hB9 s9 => ?_⟩
        obtain ⟨n1, n2⟩ : Nm (cutS t none (some (19 : Int))) ∧ (cutS t none (some (19 : Int))).length ≤ 19 := nm_cut nt (k := 19) (by decide)
        refine ⟨_, _, rfl, rfl, ?_, _, _, _, rfl, nm_snoc n1 n2 (signs_ok c hc), hB9, s08.trans s9⟩
        exact Nat.le_of_lt (small1000 (show _ + 1 ≤ 1000 by omega))
      · refine ⟨_, rfl, _, rfl, t, rfl, tl, _, rfl, _, rfl, b, signs, rfl, hB8, by decide, by decide, fun c H9 hc hB9 s9 => ?_⟩
        obtain ⟨n1, n2⟩ : Nm (cutS t none (some (1 : Int))) ∧ (cutS t none (some (1 : Int))).length ≤ 1 := nm_cut nt (k := 1) (by decide)
        refine ⟨_, _, rfl, rfl, ?_, _, _, _, rfl, nm_snoc n1 (Nat.le_trans n2 (by decide)) (signs_ok c hc), hB9, s08.trans s9⟩
        exact Nat.le_of_lt (small1000 (show _ + 1 ≤ 1000 by omega))
    rintro σ' H5 ⟨x, kk, nn, rfl, hx, hB5, s5⟩
    have tz : (txs ts).length = ts.length := List.length_map _
    refine ⟨_, rfl, a, _, rfl, .inl ((wo_sub _ b).seq (s5.sl hS)), ((txs ts).length : Nat), 1, rfl, rfl, ?_⟩
    refine ⟨_, rfl, by omega, by omega, for_range (n := (((txs ts).length : Int) + 1).toNat) (fun i σ H' => ∃ (x : Str) (kk : Option V), σ = [some (.ref b), some (.ref a), some (.str letters), some (.str signs), some (.str x), some (.int way), kk, nn] ∧ Ahead ts i x ∧ Bag H' b ∧ Sb b H H') ?_ ?_ ?_⟩
    · exact ⟨x, kk, rfl, ⟨hx, .inr (.inl rfl)⟩, hB5, s5⟩
    · rintro i σ H' hi ⟨x, kk, rfl, hA, hB6, s6⟩
      refine ⟨_, rfl, _, rfl, a, _, rfl, .inl ((wo_sub _ b).seq (s6.sl hS)), rfl, flat_txs ts, _, rfl, ?_⟩
      have i100 : i < 101 := by omega
      have xl := hx20 hA.1
      have go : ∀ (Z : Str → Hp → Prop), Z (tryOf i x) H' → Z ("x" ++ toString (0 + (i : Int)) ++ cutS x none (some 16)) H' := fun Z z => by rw [Int.zero_add]; exact z
      have l1 : (0 + (i : Int)).natAbs.log2 < 1920 := log2_small (Nat.lt_of_le_of_lt (show (0 + (i : Int)).natAbs ≤ 100 by omega) (by decide +kernel))
      have l2 : ("x" : Str).length + (toString (0 + (i : Int)) : Str).length ≤ sizeLine := by
        rw [Int.zero_add]
        have := (dg_digits i i100).2
        unfold Dg at this
        rw [len_cps] at this
        exact Nat.le_of_lt (small1000 (show 1 + _ ≤ 1000 by omega))
      have l3 : (("x" : Str) ++ (toString (0 + (i : Int)) : Str)).length + (cutS x none (some 16)).length ≤ sizeLine := by
        rw [Int.zero_add, strLen_append]
        have := (dg_digits i i100).2
        unfold Dg at this
        rw [len_cps] at this
        have : (cutS x none (some (16 : Int))).length ≤ 16 := (nm_cut hA.1 (k := 16) (by decide)).2
        exact Nat.le_of_lt (small1000 (show 1 + _ + _ ≤ 1000 by omega))
      refine ite2 (fun hin => ?_) (fun hin => ?_)
      · refine iteT ?_
        refine ⟨_, rfl, _, rfl, l1, _, _, rfl, rfl, l2, _, rfl, _, rfl, _, rfl, xl, _, _, rfl, rfl, l3, _, _, rfl, ?_, hB6, s6⟩
        rw [Int.zero_add]
        exact ahead_bad i100 hA (.inl (in_txs.mp hin))
      · refine ⟨_, rfl, rfl, _, rfl, ?_⟩
        refine ite2 (fun heq => ?_) (fun hne => ?_)
        · refine ⟨_, rfl, _, rfl, l1, _, _, rfl, rfl, l2, _, rfl, _, rfl, _, rfl, xl, _, _, rfl, rfl, l3, _, _, rfl, ?_, hB6, s6⟩
          rw [Int.zero_add]
          exact ahead_bad i100 hA (.inr (by simpa using heq))
        · exact ⟨x, _, rfl, ahead_good hA.1 (fun z => hin (in_txs.mpr z)) (by simpa using hne), hB6, s6⟩
    · rintro σ H' ⟨x, kk, rfl, hA, hB6, s6⟩
      obtain ⟨n1, n2, n3⟩ := ahead_end (x := x) hl (by rw [tz] at hA; exact hA)
      exact ⟨_, rfl, k x H' n1 n2 n3 hB6 s6⟩
end
end Y

namespace Y
open PySem PySem.Spec PyProof.Rows L2 Ns
open C8 (pss_cut)
theorem cut_from (xs : List V) (k : Nat) : cutV xs (some (k : Int)) none = xs.drop k := by
  unfold cutV
  rw [HT.sIx_nat, HT.sIx_none]
  rcases Nat.lt_or_ge xs.length k with h | h
  · rw [Nat.min_eq_right (Nat.le_of_lt h), Nat.sub_self, List.take_zero, List.drop_of_length_le (Nat.le_of_lt h)]
  · rw [Nat.min_eq_left h]
    exact List.take_of_length_le (by rw [List.length_drop]; exact Nat.le_refl _)
theorem cut_upto (xs : List V) (k : Nat) : cutV xs none (some (k : Int)) = xs.take k := by
  unfold cutV
  rw [HT.sIx_nat, HT.sIx_none, List.drop_zero, Nat.sub_zero]
  rw [List.take_eq_take_iff]
  omega
/-- a list that stands apart from the bag -/
theorem sql_new {K : PySem.W.Frag} {H : Hp} {b p : Addr} {xs : List V} (e : H p = some (.lst xs)) (n : p ≠ b) : SqL K (wo H b) p xs := SqL.of ((wo_ne n).trans e)
theorem sqt_new {K : PySem.W.Frag} {H : Hp} {b p : Addr} {xs : List V} (e : H p = some (.tup xs)) (n : p ≠ b) : SqT K (wo H b) p xs := SqT.of ((wo_ne n).trans e)
/-- new names -/
structure Nms (ts xs : List Str) : Prop where
  nm : ∀ x ∈ xs, Nm x
  nodup : xs.Nodup
  off : ∀ x ∈ xs, x ∉ ts ∧ x ≠ feed
def spNames (K : PySem.W.Frag) : Sp := fun as H Q _ => ∃ (b a : Addr) (m : Nat) (ts : List Str), as = [.ref b, .int m, .ref a] ∧ Bag H b ∧ SqL K (wo H b) a (txs ts) ∧ ts.length + m ≤ 100 ∧ (∀ t ∈ ts, Nm t) ∧
  ∀ (p : Addr) (xs : List Str) (H' : Hp), xs.length = m → Nms ts xs → H' p = some (.lst (txs xs)) → H p = none → Bag H' b → Sb b H H' → Q (.ref p) H'
def spSize : Sp := fun as H Q _ => ∃ (b : Addr) (m : Int), as = [.ref b, .int m] ∧ Bag H b ∧ 0 ≤ m ∧ m ≤ 10 ^ 13 ∧ ∀ (v : Int) (H' : Hp), 0 ≤ v → v ≤ m → Bag H' b → Sb b H H' → Q (.int v) H'
section
variable {P : Program} {w : World} {K : PySem.W.Frag} {mg : Str → Option Value} {base : Heap}
theorem scNs : FnScope ["bag", "many", "taken", "found", "k"] ["bag", "many", "taken"] (defScope sNames) := ⟨rfl, rfl, rfl, by decide +kernel, rfl, by decide +kernel, by decide +kernel⟩
theorem ok_names {f fN : Addr} {fd fdN : FuncData} (F : Fun K "_law_names" "_law_names" sNames f fd) (T : Nat0 mg) (GN : FnOk P w K mg base CX0 3 fN fdN ["bag", "taken"] (spName K)) (FN : Fun K "_law_name" "_law_name" sName fN fdN) (mN : mg "_law_name" = some (.ref fN)) (bN : Binds K fdN ["bag", "taken"] []) :
    FnOk P w K mg base CX0 4 f fd ["bag", "many", "taken"] (spNames K) := by
  refine F.ok scNs (fun as H Q E h => ?_) (fun cdv A outer s H as Q E hr h => ?_)
  · obtain ⟨b, a, m, ts, rfl, _⟩ := h
    rfl
  · obtain ⟨b, a, m, ts, rfl, hB, hS, hl, hn, k⟩ := h
    refine ⟨_, pss_cons (ps_set (i := 3) scNs.nd rfl (.inl rfl) (pe_callTy call_list_of (by rfl) T.list_ (by decide +kernel) (pa_cons (pv 2) pa_nil)))
      (pss_cons (ps_for PassesOwn.never rfl (pi_range1 (by rfl) T.range (pa_cons (pv 1) pa_nil)) (pg_name (i := 4) scNs.nd rfl (.inl rfl))
        (pss_one (ps_expr (pe_bm PySem.F.plainAttrs_list PySem.F.slot_list_append PySem.F.type_list_append mt_append (pv 3) (pa_cons (pe_call GN hr rfl mN FN.kp bN .nil pass0 (pa_cons (pv 0) (pa_cons (pv 3) pa_nil))) pa_nil)))))
      (pss_one (ps_ret (pe_slice sl_list (pv 3) (po_some (pe_callB call_len_seq (by rfl) T.len PySem.boot_len (pa_cons (pv 2) pa_nil))) po_none)))), ?_⟩
    refine ⟨_, rfl, a, _, rfl, .inl ((wo_sub H b).seq hS), fun p hp => ?_⟩
    have npb : p ≠ b := hB.ne hp
    refine ⟨_, rfl, m, rfl, by omega, by omega, for_range (n := ((m : Int)).toNat) (fun i σ H' => ∃ (kk : Option V) (xs : List Str), σ = [some (.ref b), some (.int m), some (.ref a), some (.ref p), kk] ∧ xs.length = i ∧ Nms ts xs ∧ H' p = some (.lst (txs (ts ++ xs))) ∧ Bag H' b ∧ Sb b H H') ?_ ?_ ?_⟩
    · exact ⟨none, [], rfl, rfl, ⟨(fun _ z => nomatch z), List.nodup_nil, (fun _ z => nomatch z)⟩, by rw [upd_same, List.append_nil], hB.new hp, (Sb.refl b H).new hp⟩
    · rintro i σ H' hi ⟨kk, xs, rfl, hx, N, e, hB1, s1⟩
      have hlen : (ts ++ xs).length ≤ 100 := by rw [List.length_append]; omega
      refine ⟨_, rfl, .inl ⟨rfl, _, SqL.of e⟩, _, rfl, _, rfl, b, p, ts ++ xs, rfl, hB1, sql_new e npb, hlen, fun t ht => ?_, fun x H2 nx n1 n2 hB2 s2 => ?_⟩
      · rcases List.mem_append.mp ht with q | q
        · exact hn t q
        · exact N.nm t q
      · have e2 := s2.get e npb
        refine ⟨p, _, _, rfl, rfl, e2, small1000 ?_, ⟨_, xs ++ [x], rfl, by rw [List.length_append, hx]; rfl, ⟨fun y hy => ?_, ?_, fun y hy => ?_⟩, ?_, hB.wr hp (s1.trans s2) hB2, (s1.trans s2).wr hp⟩⟩
        · rw [show (txs (ts ++ xs)).length = (ts ++ xs).length from List.length_map _]
          omega
        · rcases List.mem_append.mp hy with q | q
          · exact N.nm y q
          · rw [List.mem_singleton.mp q]; exact nx
        · rw [List.nodup_append]
          refine ⟨N.nodup, List.nodup_cons.mpr ⟨(fun z => nomatch z), List.nodup_nil⟩, fun y hy z hz => ?_⟩
          rw [List.mem_singleton.mp hz]
          rintro rfl
          exact n1 (List.mem_append_right _ hy)
        · rcases List.mem_append.mp hy with q | q
          · exact N.off y q
          · rw [List.mem_singleton.mp q]
            exact ⟨fun z => n1 (List.mem_append_left _ z), n2⟩
        · rw [upd_same, ← List.append_assoc]
          unfold txs
          rw [List.map_append (l₁ := ts ++ xs)]
          rfl
    · rintro σ H' ⟨kk, xs, rfl, hx, N, e, hB1, s1⟩
      refine ⟨_, rfl, _, rfl, a, _, rfl, .inl ((wo_sub H' b).seq (s1.sl hS)), _, rfl, p, _, rfl, SqL.of e, fun q hq => ?_⟩
      have e4 : cutV (txs (ts ++ xs)) (some (((txs ts).length : Nat) : Int)) none = txs xs := by
        rw [cut_from]
        unfold txs
        rw [List.map_append, List.drop_left]
      rw [e4]
      exact k q xs _ (by omega) N upd_same (s1.free hq (hB1.ne hq)) (hB1.new hq) (s1.new hq)
theorem scZ : FnScope ["bag", "most", "small"] ["bag", "most"] (defScope sSize) := ⟨rfl, rfl, rfl, by decide +kernel, rfl, by decide +kernel, by decide +kernel⟩
theorem ok_size {f fT fS : Addr} {fd fdT fdS : FuncData} (F : Fun K "_law_size" "_law_size" sSize f fd) (T : Nat0 mg) (FT : Fun K "_law_take" "_law_take" sTake fT fdT) (mT : mg "_law_take" = some (.ref fT)) (bT : Binds K fdT ["bag", "many"] [])
    (FS : Fun K "_law_some" "_law_some" sSome fS fdS) (mS : mg "_law_some" = some (.ref fS)) (bS : Binds K fdS ["bag", "things"] []) :
    FnOk P w K mg base CX0 3 f fd ["bag", "most"] spSize := by
  have GT : FnOk P w K mg base CX0 1 fT fdT ["bag", "many"] spTake := ok_take FT T
  have GS : FnOk P w K mg base CX0 2 fS fdS ["bag", "things"] (spSome K) := ok_some FS T FT mT bT
  refine F.ok scZ (fun as H Q E h => ?_) (fun cdv A outer s H as Q E hr h => ?_)
  · obtain ⟨b, m, rfl, _⟩ := h
    rfl
  · obtain ⟨b, m, rfl, hB, h0, h1, k⟩ := h
    have hr1 : Room 1 _ := hr.mono (by decide)
    refine ⟨_, pss_cons (ps_set (i := 2) scZ.nd rfl (.inl rfl) (pe_call GT hr1 rfl mT FT.kp bT .nil pass0 (pa_cons (pv 0) (pa_cons (pe_op op_add (pe_callB (call_min2 rfl) (by rfl) T.min (by decide +kernel) (pa_cons (pv 1) (pa_cons pe_int pa_nil))) pe_int) pa_nil))))
      (pss_one (ps_ret (pe_call GS hr rfl mS FS.kp bS .nil pass0 (pa_cons (pv 0) (pa_cons (pe_lst (pa_cons (pv 2) (pa_cons (pv 2) (pa_cons (pv 2) (pa_cons (pe_callB (call_min2 rfl) (by rfl) T.min (by decide +kernel) (pa_cons (pv 1) (pa_cons pe_int pa_nil)))
        (pa_cons (pe_call GT hr1 rfl mT FT.kp bT .nil pass0 (pa_cons (pv 0) (pa_cons (pe_op op_add (pv 1) pe_int) pa_nil))) (pa_cons (pv 1) pa_nil))))))) pa_nil))))), ?_⟩
    have big : ((10 : Int) ^ 13 + 1).natAbs < 2 ^ 200 := by decide +kernel
    refine ⟨_, rfl, _, rfl, m, 6, rfl, _, 1, rfl, rfl, b, _, rfl, hB, ?_, ?_, fun v H1 v0 v1 hB1 s1 => ?_⟩
    · split <;> omega
    · refine Nat.lt_of_le_of_lt ?_ big
      split <;> omega
    refine ⟨_, rfl, _, rfl, _, rfl, _, rfl, _, rfl, m, 1, rfl, _, rfl, _, rfl, m, 1, rfl, rfl, b, _, rfl, hB1, by omega, Nat.lt_of_le_of_lt (show (m + 1).natAbs ≤ _ by omega) big, fun u H2 u0 u1 hB2 s2 => ?_⟩
    refine ⟨_, rfl, by show 6 ≤ sizeLine; decide, fun p hp => ?_⟩
    refine ⟨b, p, _, rfl, hB2.new hp, sql_new upd_same (hB2.ne hp), (fun z => nomatch z), by show 6 ≤ 1000000; decide, fun x H' hx hB' s' => ?_⟩
    have fin : ∀ i : Int, x = .int i → 0 ≤ i → i ≤ m → Q x H' := fun i e g0 g1 => by
      rw [e]
      exact k i H' g0 g1 hB' (((s1.trans s2).new hp).trans s')
    have v1' : v ≤ m := by
      by_cases c : (6 : Int) < m
      · rw [if_pos c] at v1; omega
      · rw [if_neg c] at v1; omega
    simp only [List.mem_cons, List.not_mem_nil, or_false] at hx
    rcases hx with rfl | rfl | rfl | rfl | rfl | rfl
    · exact fin v rfl v0 v1'
    · exact fin v rfl v0 v1'
    · exact fin v rfl v0 v1'
    · refine fin _ rfl ?_ ?_ <;> split <;> omega
    · exact fin u rfl u0 (by omega)
    · exact fin m rfl h0 (Int.le_refl m)
end
end Y

/-! NsS: sorted(xs) of data that are alike; sorted(d), d with pairs of texts as keys. -/
namespace Ns
open PySem PySem.Spec PyProof.Rows L2
open PySem.W (dataLe AllAlike Sortable EachIs)
section
variable {X : Cx}
theorem each_vals {bs : List (V × PyData)} : ∀ {out : List Value}, EachIs (fun v (b : V × PyData) => RelV b.1 v) out bs → Vals (bs.map (·.1)) out
  | _, .nil => .nil
  | _, .cons h t => .cons h (each_vals t)
theorem vals_each {bs : List (V × PyData)} : ∀ {us : List Value}, Vals (bs.map (·.1)) us → EachIs (fun v (b : V × PyData) => RelV b.1 v) us bs := by
  induction bs with
  | nil => intro us r; cases r; exact .nil
  | cons b bs ih => intro us r; cases r with
    | cons h t => exact .cons h (ih t)
theorem each_and {α β : Type} {R S : α → β → Prop} : ∀ {as : List α} {bs : List β}, EachIs R as bs → (∀ b ∈ bs, ∀ a, R a b → S a b) → EachIs S as bs
  | _, _, .nil, _ => .nil
  | _, _, .cons h t, k => .cons (k _ List.mem_cons_self _ h) (each_and t fun b hb => k b (List.mem_cons_of_mem _ hb))
/-- sorted(xs): alike data in Python's order -/
def rSortG (K : PySem.W.Frag) : List V → Hp → VK → Prop := fun vs H Q => ∃ (a : Addr) (bs : List (V × PyData)), vs = [V.ref a] ∧ SqL K H a (bs.map (·.1)) ∧ (∀ p ∈ bs, DatV K H p.1 p.2 ∧ p.2.depth ≤ 60) ∧ AllAlike (bs.map (·.2)) ∧ Sortable (bs.map (·.2)) ∧ bs.length ≤ sizeLine ∧
  ∀ p, H p = none → Q (.ref p) (upd H p (.lst ((bs.mergeSort (dataLe false (·.2))).map (·.1))))
theorem cr_sortG (hu : X.A.units + 64 < cLine) : CallR X (.builtin "sorted") (rSortG X.K) := by
  intro pins s σ H vs us Q I r h
  obtain ⟨a, bs, rfl, hs, hD, ha, hk, hz, q⟩ := h
  obtain ⟨its, rv, hl, _⟩ := I.list hs
  rw [Vals.ref1 r]
  have e := vals_each rv
  refine PySem.W.sorted_data (enc := fun b : V × PyData => b.2) hl.isList e (each_and e fun b hb v rb => reads_of I (hD b hb).1 rb) ha hk hz (fun b hb => by have := (hD b hb).2; omega) fun out hlo ho => ?_
  obtain ⟨ep, he'⟩ := PyProof.Rows.sortedAll_at s.heap its out.toArray
  have hlen : ((bs.mergeSort (dataLe false (·.2))).map (·.1)).length ≤ sizeLine := by rw [List.length_map, List.length_mergeSort]; exact hz
  exact ⟨.ref _, upd H (s.heap.objs.size + 1) (.lst ((bs.mergeSort (dataLe false (·.2))).map (·.1))), I.laid (t' := s.toks) (fun _ _ => PyProof.Rows.sortedAll_old) (Nat.le_succ _) ⟨hlen, out, ep, each_vals ho, by simpa using he'⟩, rfl, q _ (I.hok.fresh (Nat.le_succ _))⟩
/-- two rows of one length that agree at each place -/
theorem rows_same {α β : Type} {f : α → β} : ∀ {xs : List β} {ks : List α}, xs.length = ks.length → (∀ (j : Nat) (v : β) (b : α), xs[j]? = some v → ks[j]? = some b → v = f b) → xs = ks.map f
  | [], [], _, _ => rfl
  | v :: xs, b :: ks, hl, h => by
    rw [List.map_cons, h 0 v b rfl rfl, rows_same (Nat.succ.inj hl) fun j u c h1 h2 => h (j + 1) u c h1 h2]
/-- a pair of texts as data -/
def pD (k : Str × Str) : PyData := .tuple [.str k.1, .str k.2]
def pK (k : Str × Str) : List Key := [.inr k.1, .inr k.2]
/-- sorted(d), d with pairs of texts as keys: the keys' own tuples -/
def rSortDT : List V → Hp → VK → Prop := fun vs H Q => ∃ (a : Addr) (kvs : List (List Key × V)) (ks : List (Str × Str)), vs = [V.ref a] ∧ Rd H a (.dT kvs) ∧ kvs.map (·.1) = ks.map pK ∧ ks.length ≤ 1000 ∧
  ∀ (p : Addr) (qs : List Addr), H p = none → Paired (fun (q : Addr) (k : Str × Str) => H q = some (.tup [.str k.1, .str k.2])) qs (ks.mergeSort (dataLe false pD)) → Q (.ref p) (upd H p (.lst (qs.map V.ref)))
theorem isKeys_pairs {H : Hp} : ∀ {kvs : List (List Key × V)} {bs : List Addr} {ks : List (Str × Str)}, IsKeys H kvs bs → kvs.map (·.1) = ks.map pK → Paired (fun (q : Addr) (k : Str × Str) => H q = some (.tup [.str k.1, .str k.2])) bs ks
  | [], _, [], .nil, _ => .nil
  | [], _, _ :: _, _, e => by cases e
  | _ :: _, _, [], _, e => by cases e
  | kv :: kvs, _, k :: ks, .cons h t, e => by
    injection e with e1 e2
    refine .cons ?_ (isKeys_pairs t e2)
    rw [show kv.1 = pK k from e1] at h
    exact h
theorem pair_each {R : Addr → Str × Str → Prop} : ∀ {qs : List Addr} {ks : List (Str × Str)}, Paired R qs ks → EachIs (fun v k => ∃ q, v = Value.ref q ∧ R q k) (qs.map Value.ref) ks
  | _, _, .nil => .nil
  | _, _, .cons h t => .cons ⟨_, rfl, h⟩ (pair_each t)
theorem each_pair {R : Addr → Str × Str → Prop} : ∀ {out : List Value} {ks : List (Str × Str)}, EachIs (fun v k => ∃ q, v = Value.ref q ∧ R q k) out ks → ∃ qs : List Addr, out = qs.map Value.ref ∧ Paired R qs ks
  | _, _, .nil => ⟨[], rfl, .nil⟩
  | _, _, .cons ⟨q, e, h⟩ t => by
    obtain ⟨qs, e2, p⟩ := each_pair t
    exact ⟨q :: qs, by rw [e, e2]; rfl, .cons h p⟩
theorem alike_pD (ks : List (Str × Str)) : AllAlike (ks.map pD) := AllAlike.of fun _ _ => by simp [PySem.W.alike, PySem.W.alikeAll, pD]
theorem sortable_pD (ks : List (Str × Str)) : Sortable (ks.map pD) := Sortable.tuples fun _ => ⟨_, _, rfl⟩
theorem cr_sortDT (hc : X.calm = true) (hu : X.A.units + 64 < cLine) : CallR X (.builtin "sorted") rSortDT := by
  intro pins s σ H xs us Q I r h
  obtain ⟨d, kvs, kk, rfl, hd, hkk, h1000, q⟩ := h
  obtain ⟨u, rfl, rx⟩ := r.one
  cases rx
  obtain ⟨z, hs, ks, pr, o, es, ep, ho, hx, hdt, he, hn⟩ := (show ObjOk X.prog X.w H s.heap d (.dT kvs) from hd.ok I.hok)
  have l1 : es.size = ks.length := size_of_entries he
  have l2 : kvs.length = ks.length := Paired.length pr
  have l3 : kvs.length = kk.length := by
    have := congrArg List.length hkk
    rw [List.length_map, List.length_map] at this
    exact this
  have z16 : sizeLine = 16777216 := sizeLine_eq
  refine Calls.call_function_entry PyProof.Rows.kind_sorted PyProof.Rows.plain_sorted PyProof.Rows.entry_sorted (PyProof.Rows.args_sorted1 _) ?_
  unfold Builtin.«sorted»
  refine wpAny_bind (m := checkCount "sorted" 1 1 _) (wpAny_pure ?_)
  refine wpAny_bind (PySem.W.kdu_collect (A := X.A.in1) (kdl_raw hs hx hdt) (I.ok.hd hc) ho (by omega) fun h' tk acc hk it => ?_)
  have hsz : acc.toList.length = ks.length := (Array.length_toList).trans (it.1.trans l1)
  have ea : acc.toList = ks.map fun x => Value.ref x.2.1 := by
    refine rows_same hsz fun j v b hv hb => ?_
    obtain ⟨en, hen, rfl⟩ := it.2 j v ((Array.getElem?_toList).symm.trans hv)
    have q := (entry_at he j).symm.trans hen
    rw [hb] at q
    cases q
    rfl
  have eb : acc.toList = (ks.map fun x => x.2.1).map Value.ref := by rw [ea, List.map_map]; all_goals rfl
  have hP := isKeys_pairs (isKeys_of pr) hkk
  have hal : acc.toList.length = kk.length := by rw [Array.length_toList, it.1, l1, ← l2, l3]
  have I1 : Inv X pins σ H { s with heap := h', toks := tk } := I.kept hk
  refine wpAny_bind (wpAny_newList ?_ (by rw [hal]; omega))
  have hoL : (h'.push (seqObj "list" acc.toList.toArray 0)).get? h'.objs.size = some (seqObj "list" acc.toList.toArray 0) := Heap.get?_push_size _ rfl
  show wpAny _ _ _ _ _ { s with heap := h'.push (seqObj "list" acc.toList.toArray 0), toks := tk }
  have e0 : EachIs (fun v (k : Str × Str) => ∃ q, v = Value.ref q ∧ H q = some (.tup [.str k.1, .str k.2])) acc.toList kk := by
    rw [eb]
    exact pair_each hP
  refine wpAny_bind (wpAny_holding (PySem.W.list_sort_data (enc := pD) (s := { s with heap := h'.push (seqObj "list" acc.toList.toArray 0), toks := tk }) hoL e0 (each_and e0 fun k _ v rv => ?_) (alike_pD kk) (sortable_pD kk) (by omega) (fun k _ => ?_) fun out hlo hO => ?_))
  · obtain ⟨q, rfl, hq⟩ := rv
    obtain ⟨_, its, rv2, ot, hot, hct, nt, hdtt⟩ := (show ObjOk X.prog X.w H h' q (.tup [.str k.1, .str k.2]) from I1.hok q _ hq)
    obtain ⟨u1, u2, rfl, r1, r2⟩ := rv2.two
    obtain ⟨t1, rfl⟩ := r1
    obtain ⟨t2, rfl⟩ := r2
    refine ⟨[], Reads.tuple (Heap.get?_push_of_some _ hot) hct hdtt ?_, fun z => nomatch z⟩
    exact ReadsAll.cons (as := []) (bs := []) (.str _ _) (ReadsAll.cons (as := []) (bs := []) (.str _ _) .nil)
  · have : (pD k).depth = 1 := by simp [pD, PyData.depth, PyData.depthAll]
    show X.A.units + 1 + 1 + _ < _
    omega
  · obtain ⟨qs, eo, pq⟩ := each_pair hO
    obtain ⟨e', he'⟩ := PyProof.Rows.sortedHeap_at (vs := acc.toList) (out := out.toArray) hoL
    have hlen : (qs.map V.ref).length ≤ sizeLine := by
      have : out.length = qs.length := by rw [eo, List.length_map]
      rw [List.length_map]
      omega
    refine wpAny_pure ⟨_, rfl, .ref h'.objs.size, upd H h'.objs.size (.lst (qs.map V.ref)), I1.laid (t' := tk) (fun b u e => ?_) (Nat.le_refl _)
      (show ObjOk X.prog X.w _ _ _ (.lst (qs.map V.ref)) from ⟨hlen, out, e', by rw [eo]; exact vals_refs qs, by simpa using he'⟩), rfl, q _ qs (I1.hok.fresh (Nat.le_refl _)) pq⟩
    have hb : b < h'.objs.size := Heap.lt_size e
    rw [PyProof.Rows.sortedHeap_old (Nat.ne_of_lt hb) (by rw [size_push']; exact Nat.lt_succ_of_lt hb)]
    exact Heap.get?_push_of_some _ e
end
end Ns

/-! cables and cars: what is known of them; dicts of pairs -/
namespace Y
open PySem PySem.Spec PyProof.Rows L2 Ns
open PySem.W (dataLe)
abbrev Cab := Str × Str × Int
abbrev Car := Str × Str × Int × Int
def ckey (c : Cab) : Str × Str := (c.1, c.2.1)
/-- a dict of pairs, its entries -/
def kvs (fs : List ((Str × Str) × Int)) : List (List Key × V) := fs.map fun f => (pK f.1, .int f.2)
theorem pK_inj {k j : Str × Str} (h : pK k = pK j) : k = j := by
  obtain ⟨a, b⟩ := k
  obtain ⟨c, d⟩ := j
  injection h with h1 h2
  injection h2 with h2 _
  injection h1 with h1
  injection h2 with h2
  exact Prod.ext h1 h2
def put (fs : List ((Str × Str) × Int)) (k : Str × Str) (v : Int) : List ((Str × Str) × Int) := if (fs.any fun f => decide (f.1 = k)) = true then fs.map (fun f => if f.1 = k then (f.1, v) else f) else fs ++ [(k, v)]
theorem kvs_any (k : Str × Str) : ∀ fs : List ((Str × Str) × Int), ((kvs fs).any fun kv => decide (kv.1 = pK k)) = fs.any fun f => decide (f.1 = k)
  | [] => rfl
  | f :: fs => by
    have ih := kvs_any k fs
    unfold kvs at ih ⊢
    rw [List.map_cons, List.any_cons, List.any_cons, ih]
    congr 1
    rw [decide_eq_decide]
    exact ⟨fun h => pK_inj h, fun h => by rw [h]⟩
theorem kvs_put (fs : List ((Str × Str) × Int)) (k : Str × Str) (v : Int) : putK (kvs fs) (pK k) (.int v) = kvs (put fs k v) := by
  unfold putK put
  rw [kvs_any]
  by_cases h : (fs.any fun f => decide (f.1 = k)) = true
  · rw [if_pos h, if_pos h]
    unfold kvs
    rw [List.map_map, List.map_map]
    apply List.map_congr_left
    intro f _
    by_cases e : f.1 = k
    · simp [e]
    · have e' : ¬ pK f.1 = pK k := fun z => e (pK_inj z)
      simp [e, e']
  · rw [if_neg h, if_neg h]
    unfold kvs
    rw [List.map_append]
    rfl
/-- what a dict of drawn cables holds -/
structure Fs (ns : List Str) (most : Int) (many : Nat) (fs : List ((Str × Str) × Int)) : Prop where
  len : fs.length ≤ many
  nodup : (fs.map (·.1)).Nodup
  each : ∀ f ∈ fs, f.1.1 ≠ f.1.2 ∧ f.1.1 ∈ feed :: ns ∧ f.1.2 ∈ ns ∧ 0 ≤ f.2 ∧ f.2 ≤ most
theorem Fs.nil (ns : List Str) (most : Int) (many : Nat) : Fs ns most many [] := ⟨Nat.zero_le _, List.nodup_nil, fun _ z => nomatch z⟩
theorem Fs.put {ns : List Str} {most v : Int} {many : Nat} {fs : List ((Str × Str) × Int)} {s e : Str} (h : Fs ns most many fs) (hl : fs.length < many) (h1 : s ≠ e) (h2 : s ∈ feed :: ns) (h3 : e ∈ ns) (h4 : 0 ≤ v) (h5 : v ≤ most) : Fs ns most many (put fs (s, e) v) := by
  unfold Y.put
  by_cases c : (fs.any fun f => decide (f.1 = (s, e))) = true
  · rw [if_pos c]
    refine ⟨by rw [List.length_map]; exact h.len, ?_, fun f hf => ?_⟩
    · have e1 : (fs.map (fun f => if f.1 = (s, e) then (f.1, v) else f)).map (·.1) = fs.map (·.1) := by
        rw [List.map_map]
        apply List.map_congr_left
        intro f _
        by_cases z : f.1 = (s, e)
        · simp [z]
        · simp [z]
      rw [e1]
      exact h.nodup
    · obtain ⟨g, hg, rfl⟩ := List.mem_map.mp hf
      by_cases z : g.1 = (s, e)
      · rw [if_pos z]
        obtain ⟨g1, g2, g3, _⟩ := h.each g hg
        exact ⟨g1, g2, g3, h4, h5⟩
      · rw [if_neg z]
        exact h.each g hg
  · rw [if_neg c]
    have nc : (s, e) ∉ fs.map (·.1) := fun z => c (by
      obtain ⟨f, hf, ef⟩ := List.mem_map.mp z
      exact List.any_eq_true.mpr ⟨f, hf, decide_eq_true ef⟩)
    refine ⟨by rw [List.length_append]; exact hl, ?_, fun f hf => ?_⟩
    · rw [List.map_append, List.nodup_append]
      refine ⟨h.nodup, List.nodup_cons.mpr ⟨(fun z => nomatch z), List.nodup_nil⟩, fun y hy z hz => ?_⟩
      rw [List.mem_singleton.mp hz]
      rintro rfl
      exact nc hy
    · rcases List.mem_append.mp hf with q | q
      · exact h.each f q
      · rw [List.mem_singleton.mp q]
        exact ⟨h1, h2, h3, h4, h5⟩
/-- drawn cables, in their order -/
structure Cabs (ns : List Str) (most : Int) (many : Nat) (cs : List Cab) : Prop where
  len : cs.length ≤ many
  nodup : (cs.map ckey).Nodup
  each : ∀ c ∈ cs, c.1 ≠ c.2.1 ∧ c.1 ∈ feed :: ns ∧ c.2.1 ∈ ns ∧ 0 ≤ c.2.2 ∧ c.2.2 ≤ most
  srt : ∃ ks : List (Str × Str), cs.map ckey = ks.mergeSort (dataLe false pD)
/-- a cable as a value, a car -/
def CabV (K : PySem.W.Frag) (H : Hp) (x : V) (c : Cab) : Prop := ∃ t, x = .ref t ∧ SqT K H t [.str c.1, .str c.2.1, .int c.2.2]
def CarV (K : PySem.W.Frag) (H : Hp) (x : V) (c : Car) : Prop := ∃ t, x = .ref t ∧ SqT K H t [.str c.1, .str c.2.1, .int c.2.2.1, .int c.2.2.2]
theorem sqt_more {K : PySem.W.Frag} {H H' : Hp} (m : Same H H') {a : Addr} {xs : List V} (h : SqT K H a xs) : SqT K H' a xs := h.elim (fun z => .inl (z.elim (fun z => .inl (m _ _ z)) fun ⟨o, z⟩ => .inr ⟨o, m _ _ z⟩)) .inr
theorem CabV.more {K : PySem.W.Frag} {H H' : Hp} (m : Same H H') {x : V} {c : Cab} (h : CabV K H x c) : CabV K H' x c := by
  obtain ⟨t, e, q⟩ := h
  exact ⟨t, e, sqt_more m q⟩
theorem CarV.more {K : PySem.W.Frag} {H H' : Hp} (m : Same H H') {x : V} {c : Car} (h : CarV K H x c) : CarV K H' x c := by
  obtain ⟨t, e, q⟩ := h
  exact ⟨t, e, sqt_more m q⟩
theorem paired_imp {α β : Type} {R S : α → β → Prop} (k : ∀ a b, R a b → S a b) : ∀ {as : List α} {bs : List β}, Paired R as bs → Paired S as bs
  | _, _, .nil => .nil
  | _, _, .cons h t => .cons (k _ _ h) (paired_imp k t)
theorem paired_snoc {α β : Type} {R : α → β → Prop} {a : α} {b : β} (h : R a b) : ∀ {as : List α} {bs : List β}, Paired R as bs → Paired R (as ++ [a]) (bs ++ [b])
  | _, _, .nil => .cons h .nil
  | _, _, .cons g t => .cons g (paired_snoc h t)
theorem rows_nodup {ns : List Str} (N : Nms [] ns) : (feed :: ns).Nodup := List.nodup_cons.mpr ⟨fun z => (N.off _ z).2 rfl, N.nodup⟩
theorem row_ne {α : Type} {l : List α} (n : l.Nodup) {i j : Nat} {x y : α} (h : l[i]? = some x) (g : l[j]? = some y) (ne : i ≠ j) : x ≠ y := by
  rintro rfl
  exact ne ((List.getElem?_inj (List.getElem?_eq_some_iff.mp h).1 n).mp (h.trans g.symm))
theorem txs_at {l : List Str} {j : Nat} {s : Str} (h : l[j]? = some s) : (txs l)[j]? = some (.str s) := by
  unfold txs
  rw [List.getElem?_map, h]
  rfl
/-- the value of a pair in a dict of pairs -/
theorem kvs_get {fs : List ((Str × Str) × Int)} (n : (fs.map (·.1)).Nodup) {k : Str × Str} {v : Int} (h : (k, v) ∈ fs) : valV (kvs fs) (pK k) = some (.int v) := by
  induction fs with
  | nil => cases h
  | cons f fs ih =>
    rw [List.map_cons, List.nodup_cons] at n
    show valV ((pK f.1, V.int f.2) :: kvs fs) (pK k) = _
    rcases List.mem_cons.mp h with e | e
    · rw [← e]
      exact valV_pos rfl
    · rw [valV_neg (fun z => n.1 ?_)]
      · exact ih n.2 e
      · rw [show f.1 = k from pK_inj z]
        exact List.mem_map.mpr ⟨(k, v), e, rfl⟩
end Y

namespace Y
open PySem PySem.Spec PyProof.Rows L2 Ns
open C8 (pss_cut)
open PySem.W (dataLe)
def spCables (K : PySem.W.Frag) : Sp := fun as H Q _ => ∃ (b a : Addr) (ns : List Str) (many : Nat) (most : Int), as = [.ref b, .ref a, .int many, .int most] ∧ Bag H b ∧ H a = some (.lst (txs ns)) ∧ Nms [] ns ∧ ns.length ≤ 50 ∧ many ≤ 60 ∧ 2 ≤ most ∧ most ≤ 10 ^ 12 ∧
  ∀ (p : Addr) (xs : List V) (cs : List Cab) (H' : Hp), Cabs ns most many cs → H' p = some (.tup xs) → Paired (CabV K (wo H' b)) xs cs → H p = none → p ≠ b → Bag H' b → Sb b H H' → Q (.ref p) H'
theorem s3u {H : Hp} {a q : Addr} {o u : HO} (hq : H q = none) (h : H a = some u) : upd H q o a = some u := by rw [upd_ne (ne_of_none h hq)]; exact h
theorem paired_len {α β : Type} {R : α → β → Prop} : ∀ {as : List α} {bs : List β}, Paired R as bs → as.length = bs.length
  | _, _, .nil => rfl
  | _, _, .cons _ t => by rw [List.length_cons, List.length_cons, paired_len t]
/-- a new tuple of a cable -/
def CabT (H : Hp) (b : Addr) (x : V) (c : Cab) : Prop := ∃ t, x = .ref t ∧ t ≠ b ∧ H t = some (.tup [.str c.1, .str c.2.1, .int c.2.2])
theorem CabT.more {H H' : Hp} {b : Addr} (m : Same H H') {x : V} {c : Cab} (h : CabT H b x c) : CabT H' b x c := by
  obtain ⟨t, e, n, q⟩ := h
  exact ⟨t, e, n, m _ _ q⟩
theorem CabT.upd {H : Hp} {b D : Addr} {ys : List V} {o : HO} (hD : H D = some (.lst ys)) {x : V} {c : Cab} (h : CabT H b x c) : CabT (L2.upd H D o) b x c := by
  obtain ⟨t, e, n, q⟩ := h
  exact ⟨t, e, n, by rw [upd_ne (fun z => by rw [z, hD] at q; cases q)]; exact q⟩
theorem paired_at {α β : Type} {R : α → β → Prop} : ∀ {as : List α} {bs : List β}, Paired R as bs → ∀ {i : Nat} {a : α}, as[i]? = some a → ∃ b, bs[i]? = some b ∧ R a b
  | _, _, .cons h _, 0, a, e => by
    rw [List.getElem?_cons_zero] at e
    cases e
    exact ⟨_, rfl, h⟩
  | _, _, .cons _ t, i + 1, a, e => by
    rw [List.getElem?_cons_succ] at e
    exact paired_at t e
theorem ne_at {H : Hp} {a b : Addr} {o u : HO} (h : H a = some o) (g : H b = some u) (n : o ≠ u) : a ≠ b := fun e => by
  rw [e, g] at h
  exact n (Option.some.inj h).symm
/-- amid the loops -/
def CabI (H : Hp) (b a d r : Addr) (ns : List Str) (many : Nat) (most : Int) (σ : L2.St) (H' : Hp) : Prop := ∃ (kk tt cc : Option V) (fs : List ((Str × Str) × Int)), σ = [some (.ref b), some (.ref a), some (.int many), some (.int most), some (.ref d), some (.ref r), kk, tt, cc, none, none] ∧
  H' d = some (.dT (kvs fs)) ∧ H' r = some (.lst (txs (feed :: ns))) ∧ Fs ns most many fs ∧ Bag H' b ∧ Sb b H H'
theorem cab_put {H H' : Hp} {b d r : Addr} {fs : List ((Str × Str) × Int)} {s e : Str} {v : Int} {ns : List Str} (hB : Bag H b) (hd : H d = none) (hr : H r = none) (nrd : r ≠ d) (e1 : H' d = some (.dT (kvs fs))) (e2 : H' r = some (.lst (txs (feed :: ns)))) (hB' : Bag H' b) (s' : Sb b H H') :
    upd H' d (.dT (putK (kvs fs) (pK (s, e)) (.int v))) d = some (.dT (kvs (put fs (s, e) v))) ∧ upd H' d (.dT (putK (kvs fs) (pK (s, e)) (.int v))) r = some (.lst (txs (feed :: ns))) ∧ Bag (upd H' d (.dT (putK (kvs fs) (pK (s, e)) (.int v)))) b ∧ Sb b H (upd H' d (.dT (putK (kvs fs) (pK (s, e)) (.int v)))) :=
  ⟨by rw [upd_same, kvs_put], by rw [upd_ne nrd]; exact e2, hB.wr hd s' hB', s'.wr hd⟩
section
variable {P : Program} {w : World} {K : PySem.W.Frag} {mg : Str → Option Value} {base : Heap}
theorem scC : FnScope ["bag", "knots", "many", "most", "found", "rows", "k", "turn", "couple", "one", "other"] ["bag", "knots", "many", "most"] (defScope sCables) := ⟨rfl, rfl, rfl, by decide +kernel, rfl, by decide +kernel, by decide +kernel⟩
theorem ok_cables {f fT fS fZ : Addr} {fd fdT fdS fdZ : FuncData} (F : Fun K "_law_cables" "_law_cables" sCables f fd) (T : Nat0 mg) (FT : Fun K "_law_take" "_law_take" sTake fT fdT) (mT : mg "_law_take" = some (.ref fT)) (bT : Binds K fdT ["bag", "many"] [])
    (FS : Fun K "_law_some" "_law_some" sSome fS fdS) (mS : mg "_law_some" = some (.ref fS)) (bS : Binds K fdS ["bag", "things"] [])
    (GZ : FnOk P w K mg base CX0 3 fZ fdZ ["bag", "most"] spSize) (FZ : Fun K "_law_size" "_law_size" sSize fZ fdZ) (mZ : mg "_law_size" = some (.ref fZ)) (bZ : Binds K fdZ ["bag", "most"] []) :
    FnOk P w K mg base CX0 4 f fd ["bag", "knots", "many", "most"] (spCables K) := by
  have GT : FnOk P w K mg base CX0 1 fT fdT ["bag", "many"] spTake := ok_take FT T
  have GS : FnOk P w K mg base CX0 2 fS fdS ["bag", "things"] (spSome K) := ok_some FS T FT mT bT
  refine F.ok scC (fun as H Q E h => ?_) (fun cdv A outer s H as Q E hr h => ?_)
  · obtain ⟨b, a, ns, many, most, rfl, _⟩ := h
    rfl
  · obtain ⟨b, a, ns, many, most, rfl, hB, hS, N, hns, hm, hmo, hmo2, k⟩ := h
    have hr1 : Room 1 _ := hr.mono (by decide)
    have hr2 : Room 2 _ := hr.mono (by decide)
    have hu := hu_of hr
    refine ⟨_, pss_cons (ps_asg (pe_tup (pa_cons pe_dnewT (pa_cons (pe_op op_cat (pe_lst (pa_cons pe_str pa_nil)) (pv 1)) pa_nil))) (pg_tup (by rfl) (pgs_cons (pg_name (i := 4) scC.nd rfl (.inr rfl)) (pgs_cons (pg_name (i := 5) scC.nd rfl (.inl rfl)) pgs_nil))))
      (pss_cons (ps_for PassesOwn.never rfl (pi_range2 (by rfl) T.range (pa_cons pe_int (pa_cons (pe_callB call_len_seq (by rfl) T.len PySem.boot_len (pa_cons (pv 5) pa_nil)) pa_nil))) (pg_name (i := 6) scC.nd rfl (.inl rfl))
        (pss_one (ps_if (PW.pt (pw_and (pt_cmpR op_gt (pe_call GT hr1 rfl mT FT.kp bT .nil pass0 (pa_cons (pv 0) (pa_cons pe_int pa_nil))) pe_int (nomark _)) (pw_and1 (pt_cmpR op_lt (pe_callB call_len_dT (by rfl) T.len PySem.boot_len (pa_cons (pv 4) pa_nil)) (pv 2) (nomark _)))))
          (pss_one (ps_dput hu (pv 4) (pe_tup (pa_cons (pe_ix ix_list (pv 5) (pe_call GT hr1 rfl mT FT.kp bT .nil pass0 (pa_cons (pv 0) (pa_cons (pv 6) pa_nil))) (fun _ _ => rfl)) (pa_cons (pe_ix ix_list (pv 5) (pv 6) (fun _ _ => rfl)) pa_nil)))
            (pe_callB (call_max2 rfl) (by rfl) T.max (by decide +kernel) (pa_cons (pe_call GS hr2 rfl mS FS.kp bS .nil pass0 (pa_cons (pv 0) (pa_cons (pe_lst (pa_cons pe_int (pa_cons pe_int (pa_cons pe_int (pa_cons pe_int pa_nil))))) pa_nil)))
              (pa_cons (pe_call GZ hr rfl mZ FZ.kp bZ .nil pass0 (pa_cons (pv 0) (pa_cons (pv 3) pa_nil))) pa_nil))) rfl)) pss_nil)))
      (pss_cons (ps_for PassesOwn.never rfl (pi_range1 (by rfl) T.range (pa_cons (pe_call GT hr1 rfl mT FT.kp bT .nil pass0 (pa_cons (pv 0) (pa_cons (pe_op op_add (pv 2) pe_int) pa_nil))) pa_nil)) (pg_name (i := 7) scC.nd rfl (.inl rfl))
        (pss_cons (ps_set (i := 8) scC.nd rfl (.inl rfl) (pe_tup (pa_cons (pe_call GS hr2 rfl mS FS.kp bS .nil pass0 (pa_cons (pv 0) (pa_cons (pv 5) pa_nil))) (pa_cons (pe_call GS hr2 rfl mS FS.kp bS .nil pass0 (pa_cons (pv 0) (pa_cons (pv 5) pa_nil))) pa_nil))))
        (pss_one (ps_if (PW.pt (pw_and (pt_cmpR op_ne (pe_ix ix_tup (pv 8) pe_int (fun _ _ => rfl)) (pe_ix ix_tup (pv 8) pe_int (fun _ _ => rfl)) (nomark _)) (pw_and (pt_cmpR op_ne (pe_ix ix_tup (pv 8) pe_int (fun _ _ => rfl)) pe_str (nomark _))
            (pw_and1 (pt_cmpR op_lt (pe_callB call_len_dT (by rfl) T.len PySem.boot_len (pa_cons (pv 4) pa_nil)) (pv 2) (nomark _))))))
          (pss_one (ps_dput hu (pv 4) (pv 8) (pe_call GZ hr rfl mZ FZ.kp bZ .nil pass0 (pa_cons (pv 0) (pa_cons (pv 3) pa_nil))) rfl)) pss_nil))))
      (pss_one (ps_ret (pe_callTy call_tuple_of (by rfl) T.tuple (by decide +kernel) (pa_cons
        (pe_lc (own := [("one", 9), ("other", 10)]) (g := gTup K 2 (gCons (gName 9) (gCons (gName 10) gNil))) (tt := tYes) rfl scC.nd (pi_list (pe_callB (cr_sortDT rfl hr.units) (by rfl) T.sorted (by decide +kernel) (pa_cons (pv 4) pa_nil)))
          (blkOk_by (N := ["bag", "knots", "many", "most", "found", "rows", "k", "turn", "couple", "one", "other"]) (sc := defScope sCables) (by decide +kernel)) (fun _ _ _ _ _ => pg_tup rfl (pgs_cons (pg_name (i := 9) scC.nd rfl (Or.inl rfl)) (pgs_cons (pg_name (i := 10) scC.nd rfl (Or.inl rfl)) pgs_nil))) (fun _ _ _ _ _ => pts_nil)
          (fun _ _ _ _ _ => pe_tup (pa_cons (pv 9) (pa_cons (pv 10) (pa_cons (pe_dget hu (pv 4) (pe_tup (pa_cons (pv 9) (pa_cons (pv 10) pa_nil))) (fun _ _ => rfl)) pa_nil))))) pa_nil)))))), ?_⟩
    refine fun d hd => ⟨by show 1 ≤ sizeLine; decide, fun q hq => ⟨_, rfl, q, a, [.str feed], txs ns, rfl, rfl, upd_same, ?_, ?_, fun r hr' => ⟨by show 2 ≤ sizeLine; decide, fun t ht => ⟨t, _, rfl, SqT.of upd_same, rfl, _, _, rfl, _, _, rfl, rfl, ?_⟩⟩⟩⟩
    · exact same_new (same_new (Same.refl H) hd) hq _ _ hS
    · rw [show (txs ns).length = ns.length from List.length_map _]
      exact Nat.le_of_lt (small1000 (show 1 + ns.length ≤ 1000 by omega))
    have ndb : d ≠ b := hB.ne hd
    have s0 : Sb b H (upd H d (.dT [])) := (Sb.refl b H).new hd
    have s1 := s0.new (o := .lst [.str feed]) hq
    have s2 := s1.new (o := .lst ([.str feed] ++ txs ns)) hr'
    have s3 := s2.new (o := .tup [.ref d, .ref r]) ht
    have b0 := ((((hB.new (o := .dT []) hd).new (o := .lst [.str feed]) hq).new (o := .lst ([.str feed] ++ txs ns)) hr').new (o := .tup [.ref d, .ref r]) ht)
    have nrb : r ≠ b := ((hB.new (o := .dT []) hd).new (o := .lst [.str feed]) hq).ne hr'
    have fr : H r = none := s1.free hr' nrb
    have e1 : upd (upd (upd (upd H d (.dT [])) q (.lst [.str feed])) r (.lst ([.str feed] ++ txs ns))) t (.tup [.ref d, .ref r]) d = some (.dT (kvs [])) := by
      have f0 : upd H d (.dT []) d = some (.dT (kvs [])) := upd_same
      have f1 : upd (upd H d (.dT [])) q (.lst [.str feed]) d = some (.dT (kvs [])) := by rw [upd_ne (ne_of_none f0 hq)]; exact f0
      have f2 : upd (upd (upd H d (.dT [])) q (.lst [.str feed])) r (.lst ([.str feed] ++ txs ns)) d = some (.dT (kvs [])) := by rw [upd_ne (ne_of_none f1 hr')]; exact f1
      rw [upd_ne (ne_of_none f2 ht)]; exact f2
    have e2 : upd (upd (upd (upd H d (.dT [])) q (.lst [.str feed])) r (.lst ([.str feed] ++ txs ns))) t (.tup [.ref d, .ref r]) r = some (.lst (txs (feed :: ns))) := by
      have f2 : upd (upd (upd H d (.dT [])) q (.lst [.str feed])) r (.lst ([.str feed] ++ txs ns)) r = some (.lst (txs (feed :: ns))) := upd_same
      rw [upd_ne (ne_of_none f2 ht)]; exact f2
    have nrd : r ≠ d := ne_at e2 e1 (fun z => by cases z)
    have tz : (txs (feed :: ns)).length = ns.length + 1 := by show (List.map _ _).length = _; rw [List.length_map]; rfl
    have big : ((10 : Int) ^ 13).natAbs < 2 ^ 200 := by decide +kernel
    have posR : txs (feed :: ns) ≠ [] := fun z => nomatch z
    refine ⟨_, rfl, r, _, rfl, .inl (SqL.of e2), 1, ((txs (feed :: ns)).length : Int), rfl, ⟨by decide, by decide, by omega, by omega⟩, for_range (lo := 1) (n := (((txs (feed :: ns)).length : Int) - 1).toNat) (fun i σ H' => CabI H b a d r ns many most σ H') ?_ ?_ ?_⟩
    · exact ⟨none, none, none, [], rfl, e1, e2, Fs.nil _ _ _, b0, s3⟩
    · rintro i σ H' hi ⟨kk, tt, cc, fs, rfl, g1, g2, FF, hB', s'⟩
      have hi' : i < ns.length := by omega
      refine ⟨_, rfl, b, 8, rfl, hB', by decide, by decide, fun v H2 v0 v1 hB2 s2' => ⟨v, 0, rfl, rfl, _, rfl, ?_⟩⟩
      have h1 := s2'.get g1 ndb
      have h2 := s2'.get g2 nrb
      have s02 := s'.trans s2'
      refine ite2 (fun _ => ?_) (fun _ => ⟨_, tt, cc, fs, rfl, h1, h2, FF, hB2, s02⟩)
      refine ⟨_, rfl, d, _, rfl, h1, _, rfl, _, _, rfl, rfl, _, rfl, ?_⟩
      refine ite2 (fun lt => ?_) (fun _ => ⟨_, tt, cc, fs, rfl, h1, h2, FF, hB2, s02⟩)
      have hlt : fs.length < many := by
        have q := of_decide_eq_true lt
        rw [show (kvs fs).length = fs.length from List.length_map _] at q
        omega
      refine ⟨_, rfl, by show 4 ≤ sizeLine; decide, fun q4 hq4 => ⟨b, q4, _, rfl, hB2.new hq4, sql_new upd_same (hB2.ne hq4), (fun z => nomatch z), by show 4 ≤ 1000000; decide, fun x H3 hx hB3 s3' => ?_⟩⟩
      obtain ⟨c, rfl, c0, c2⟩ : ∃ c : Int, x = .int c ∧ 0 ≤ c ∧ c ≤ 2 := by
        simp only [List.mem_cons, List.not_mem_nil, or_false] at hx
        rcases hx with rfl | rfl | rfl | rfl
        · exact ⟨1, rfl, by decide, by decide⟩
        · exact ⟨2, rfl, by decide, by decide⟩
        · exact ⟨1, rfl, by decide, by decide⟩
        · exact ⟨0, rfl, by decide, by decide⟩
      have s03 := (s02.new (o := .lst [.int 1, .int 2, .int 1, .int 0]) hq4).trans s3'
      refine ⟨_, rfl, _, rfl, b, most, rfl, hB3, by omega, by omega, fun u H4 u0 u1 hB4 s4 => ⟨c, u, rfl, _, rfl, ?_⟩⟩
      have s04 := s03.trans s4
      refine ⟨_, rfl, _, rfl, _, rfl, b, _, rfl, hB4, by omega, Nat.lt_of_le_of_lt (show (1 + (i : Int)).natAbs ≤ _ by omega) big, fun j H5 j0 j1 hB5 s5 => ?_⟩
      have s05 := s04.trans s5
      obtain ⟨sx, hsx⟩ : ∃ sx, (feed :: ns)[j.toNat]? = some sx := ⟨_, List.getElem?_eq_getElem (by rw [List.length_cons]; omega)⟩
      obtain ⟨ex, hex⟩ : ∃ ex, (feed :: ns)[1 + i]? = some ex := ⟨_, List.getElem?_eq_getElem (by rw [List.length_cons]; omega)⟩
      have m1 : sx ∈ feed :: ns := List.mem_of_getElem? hsx
      have m2 : ex ∈ ns := by
        rw [Nat.add_comm, List.getElem?_cons_succ] at hex
        exact List.mem_of_getElem? hex
      have ne : sx ≠ ex := row_ne (rows_nodup N) hsx hex (by omega)
      have k1 := s5.get (s4.get (s3'.get (s3u hq4 h1) ndb) ndb) ndb
      have k2 := s5.get (s4.get (s3'.get (s3u hq4 h2) nrb) nrb) nrb
      refine ⟨r, _, j, .str sx, rfl, rfl, SqL.of k2, by rw [show j = ((j.toNat : Nat) : Int) by omega]; exact atI_nat (txs_at hsx), ?_⟩
      refine ⟨_, rfl, _, rfl, r, _, _, .str ex, rfl, rfl, SqL.of k2, by rw [show (1 + (i : Int)) = ((1 + i : Nat) : Int) by omega]; exact atI_nat (txs_at hex), ?_⟩
      refine ⟨by show 2 ≤ sizeLine; decide, fun t' ht' => ?_⟩
      have k1' : upd H5 t' (.tup [.str sx, .str ex]) d = some (.dT (kvs fs)) := by rw [upd_ne (ne_of_none k1 ht')]; exact k1
      have k2' : upd H5 t' (.tup [.str sx, .str ex]) r = some (.lst (txs (feed :: ns))) := by rw [upd_ne (ne_of_none k2 ht')]; exact k2
      have hz : (kvs fs).length < sizeLine := by
        rw [show (kvs fs).length = fs.length from List.length_map _]
        exact small1000 (by omega)
      refine ⟨d, _, rfl, DPut.t (k := pK (sx, ex)) k1' upd_same hz, ?_⟩
      obtain ⟨p1, p2, p3, p4⟩ := cab_put (s := sx) (e := ex) (v := if u > c then u else c) hB hd fr nrd k1' k2' (hB5.new ht') (s05.new ht')
      exact ⟨_, tt, cc, _, rfl, p1, p2, FF.put hlt ne m1 m2 (by split <;> omega) (by split <;> omega), p3, p4⟩
    rintro σ H' ⟨kk, tt, cc, fs, rfl, g1, g2, FF, hB', s'⟩
    refine ⟨_, rfl, _, rfl, _, _, rfl, rfl, b, _, rfl, hB', by omega, Nat.lt_of_le_of_lt (show ((many : Int) + 1).natAbs ≤ _ by omega) big, fun n H2 n0 n1 hB2 s2' => ?_⟩
    refine ⟨n, rfl, by omega, by omega, for_range (n := n.toNat) (fun i σ H' => CabI H b a d r ns many most σ H') ?_ ?_ ?_⟩
    · exact ⟨kk, tt, cc, fs, rfl, s2'.get g1 ndb, s2'.get g2 nrb, FF, hB2, s'.trans s2'⟩
    · clear g1 g2 FF hB' s' s2' hB2
      rintro i σ H3 hi ⟨kk, tt, cc, fs, rfl, g1, g2, FF, hB3, s3'⟩
      refine ⟨_, rfl, _, rfl, b, r, _, rfl, hB3, sql_new g2 nrb, posR, by omega, fun x H4 hx hB4 s4 => ?_⟩
      obtain ⟨sx, m1, rfl⟩ := List.mem_map.mp hx
      have q1 := s4.get g1 ndb
      have q2 := s4.get g2 nrb
      refine ⟨_, rfl, _, rfl, b, r, _, rfl, hB4, sql_new q2 nrb, posR, by omega, fun y H5 hy hB5 s5 => ?_⟩
      obtain ⟨ex, m2, rfl⟩ := List.mem_map.mp hy
      have s05 := (s3'.trans s4).trans s5
      have k1 := s5.get q1 ndb
      have k2 := s5.get q2 nrb
      refine ⟨by show 2 ≤ sizeLine; decide, fun t' ht' => ?_⟩
      have k1' : upd H5 t' (.tup [.str sx, .str ex]) d = some (.dT (kvs fs)) := by rw [upd_ne (ne_of_none k1 ht')]; exact k1
      have k2' : upd H5 t' (.tup [.str sx, .str ex]) r = some (.lst (txs (feed :: ns))) := by rw [upd_ne (ne_of_none k2 ht')]; exact k2
      have kt : upd H5 t' (.tup [.str sx, .str ex]) t' = some (.tup [.str sx, .str ex]) := upd_same
      have hB6 := hB5.new (o := .tup [.str sx, .str ex]) ht'
      have s06 := s05.new (o := .tup [.str sx, .str ex]) ht'
      generalize upd H5 t' (.tup [.str sx, .str ex]) = H6 at k1' k2' kt hB6 s06 ⊢
      have stay : CabI H b a d r ns many most [some (.ref b), some (.ref a), some (.int many), some (.int most), some (.ref d), some (.ref r), kk, some (.int (0 + (i : Int))), some (.ref t'), none, none] H6 := ⟨kk, _, _, fs, rfl, k1', k2', FF, hB6, s06⟩
      refine ⟨_, rfl, t', _, 0, _, rfl, rfl, SqT.of kt, at0, _, rfl, t', _, 1, _, rfl, rfl, SqT.of kt, at1, rfl, _, rfl, ?_⟩
      refine ite2 (fun ne => ?_) (fun _ => stay)
      refine ⟨_, rfl, t', _, 1, _, rfl, rfl, SqT.of kt, at1, rfl, _, rfl, ?_⟩
      refine ite2 (fun nf => ?_) (fun _ => stay)
      refine ⟨_, rfl, d, _, rfl, k1', _, rfl, _, _, rfl, rfl, _, rfl, ?_⟩
      refine ite2 (fun lt => ?_) (fun _ => stay)
      have hlt : fs.length < many := by
        have q := of_decide_eq_true lt
        rw [show (kvs fs).length = fs.length from List.length_map _] at q
        omega
      have ne' : sx ≠ ex := fun e => by
        rw [e] at ne
        simp at ne
      have nf' : ex ≠ feed := fun e => by
        rw [e] at nf
        simp at nf
      have m2' : ex ∈ ns := (List.mem_cons.mp m2).resolve_left nf'
      refine ⟨_, rfl, _, rfl, b, most, rfl, hB6, by omega, by omega, fun v H7 v0 v1 hB7 s7 => ?_⟩
      have hz : (kvs fs).length < sizeLine := by
        rw [show (kvs fs).length = fs.length from List.length_map _]
        exact small1000 (by omega)
      have ntb : t' ≠ b := hB5.ne ht'
      refine ⟨_, rfl, _, rfl, d, _, rfl, DPut.t (k := pK (sx, ex)) (s7.get k1' ndb) (s7.get kt ntb) hz, ?_⟩
      obtain ⟨p1, p2, p3, p4⟩ := cab_put (s := sx) (e := ex) (v := v) hB hd fr nrd (s7.get k1' ndb) (s7.get k2' nrb) hB7 (s06.trans s7)
      exact ⟨kk, _, _, _, rfl, p1, p2, FF.put hlt ne' m1 m2' v0 v1, p3, p4⟩
    clear g1 g2 FF hB' s' s2' hB2
    rintro σ H3 ⟨kk, tt, cc, fs, rfl, g1, g2, FF, hB3, s3'⟩
    refine ⟨_, rfl, d, kvs fs, fs.map (·.1), rfl, Rd.of g1, by unfold kvs; rw [List.map_map, List.map_map]; rfl, by rw [List.length_map]; have := FF.len; omega, fun p qs hp pq => ?_⟩
    refine ⟨p, rfl, ⟨_, .inl (.inl upd_same)⟩, fun D hD => ?_⟩
    have npd : p ≠ D := fun e => by rw [← e, upd_same] at hD; cases hD
    have hD' : H3 D = none := by rw [upd_ne npd.symm] at hD; exact hD
    refine lc_list (K := K) (a := p) (xs := qs.map V.ref) (fun i H' => ∃ (ys : List V) (cs : List Cab), H' D = some (.lst ys) ∧ ys.length = i ∧ cs.map ckey = ((fs.map (·.1)).mergeSort (dataLe false pD)).take i ∧ (∀ c ∈ cs, (ckey c, c.2.2) ∈ fs) ∧
      Paired (CabT H' b) ys cs ∧ H' p = some (.lst (qs.map V.ref)) ∧ Same H3 H' ∧ Bag H' b) ?_ ?_ ?_ ?_
    · refine ⟨[], [], upd_same, rfl, by rw [List.take_zero]; rfl, (fun _ z => nomatch z), .nil, by rw [upd_ne npd, upd_same], same_new (same_new (Same.refl H3) hp) hD, (hB3.new hp).new hD⟩
    · rintro i H' hi ⟨ys, cs, _, _, _, _, _, h, _⟩
      exact .inl (.inl h)
    · rintro i x H' hx ⟨ys, cs, h1, h2, h3, h4, h5, h6, h7, h8⟩
      rw [List.getElem?_map] at hx
      obtain ⟨t', ht', rfl⟩ := Option.map_eq_some_iff.mp hx
      obtain ⟨kx, hkx, hq'⟩ := paired_at pq ht'
      have memk : kx ∈ fs.map (·.1) := (List.mergeSort_perm _ _).mem_iff.mp (List.mem_of_getElem? hkx)
      obtain ⟨fx, hfx, rfl⟩ := List.mem_map.mp memk
      have hv : valV (kvs fs) (pK fx.1) = some (.int fx.2) := kvs_get FF.nodup hfx
      refine ⟨t', _, rfl, SqT.of (h7 _ _ hq'), rfl, _, _, rfl, _, _, rfl, rfl, ?_⟩
      refine ⟨rfl, _, rfl, _, rfl, _, rfl, _, rfl, _, rfl, by show 2 ≤ sizeLine; decide, fun u hu' => ?_⟩
      have gd : upd H' u (.tup [.str fx.1.1, .str fx.1.2]) d = some (.dT (kvs fs)) := s3u hu' (h7 _ _ g1)
      have dg := DGet.t (k := pK fx.1) gd (upd_same (H := H') (a := u) (o := .tup [.str fx.1.1, .str fx.1.2]))
      rw [hv] at dg
      refine ⟨d, _, rfl, dg, by show 3 ≤ sizeLine; decide, fun v hv' => ?_⟩
      have nvb : v ≠ b := (h8.new hu').ne hv'
      have q1 : upd (upd H' u (.tup [.str fx.1.1, .str fx.1.2])) v (.tup [.str fx.1.1, .str fx.1.2, .int fx.2]) D = some (.lst ys) := s3u hv' (s3u hu' h1)
      have nDu : D ≠ b := (hB3.new hp).ne hD
      have nvD : v ≠ D := ne_at upd_same q1 (fun z => by cases z)
      refine ⟨ys, q1, by rw [h2]; exact small1000 (by have := (List.getElem?_eq_some_iff.mp hkx).1; rw [List.length_mergeSort, List.length_map] at this; have := FF.len; omega), ?_⟩
      have s9 : Same H' (upd (upd H' u (.tup [.str fx.1.1, .str fx.1.2])) v (.tup [.str fx.1.1, .str fx.1.2, .int fx.2])) := same_new (same_new (Same.refl H') hu') hv'
      have b9 : Bag (upd (upd H' u (.tup [.str fx.1.1, .str fx.1.2])) v (.tup [.str fx.1.1, .str fx.1.2, .int fx.2])) b := (h8.new hu').new hv'
      have v9 : upd (upd H' u (.tup [.str fx.1.1, .str fx.1.2])) v (.tup [.str fx.1.1, .str fx.1.2, .int fx.2]) v = some (.tup [.str fx.1.1, .str fx.1.2, .int fx.2]) := upd_same
      generalize upd (upd H' u (.tup [.str fx.1.1, .str fx.1.2])) v (.tup [.str fx.1.1, .str fx.1.2, .int fx.2]) = H9 at q1 s9 b9 v9 ⊢
      refine ⟨ys ++ [.ref v], cs ++ [(fx.1.1, fx.1.2, fx.2)], upd_same, by rw [List.length_append, h2]; rfl, ?_, fun c hc => ?_, ?_, ?_, ?_, ?_⟩
      · rw [List.map_append, h3, List.take_succ, hkx]
        rfl
      · rcases List.mem_append.mp hc with z | z
        · exact h4 c z
        · rw [List.mem_singleton.mp z]
          exact hfx
      · exact paired_snoc ⟨v, rfl, nvb, by rw [upd_ne nvD]; exact v9⟩ (paired_imp (fun x c h => (CabT.more s9 h).upd q1) h5)
      · rw [upd_ne npd]
        exact s9 _ _ h6
      · exact same_put (h7.trans s9) hD'
      · exact hB3.wr hD' ((Sb.refl b H3).same (h7.trans s9)) b9
    · rintro H' ⟨ys, cs, h1, h2, h3, h4, h5, h6, h7, h8⟩
      refine ⟨D, ys, rfl, .inl ⟨SqL.of h1, fun l hl => ?_⟩⟩
      have nlb : l ≠ b := h8.ne hl
      have ea : cs.map ckey = (fs.map (·.1)).mergeSort (dataLe false pD) := by
        rw [h3, List.take_of_length_le]
        rw [List.length_map, ← paired_len pq]
        exact Nat.le_refl _
      have pm := List.mergeSort_perm (fs.map (·.1)) (dataLe false pD)
      have s4 : Sb b H (upd H' l (.tup ys)) := (s3'.same h7).new hl
      refine k l ys cs _ ⟨?_, ?_, fun c hc => FF.each _ (h4 c hc), _, ea⟩ upd_same ?_ ((s3'.same h7).free hl nlb) nlb (h8.new hl) s4
      · have := congrArg List.length ea
        rw [List.length_map, pm.length_eq, List.length_map] at this
        rw [this]
        exact FF.len
      · rw [ea]
        exact pm.nodup_iff.mpr FF.nodup
      · refine paired_imp (fun x c h => ?_) h5
        obtain ⟨t', e, n, q⟩ := h
        exact ⟨t', e, sqt_new (s3u hl q) n⟩
end
end Y

namespace Y
open PySem PySem.Spec PyProof.Rows L2 Ns
open C8 (pss_cut)
/-- drawn cars, in their order -/
structure Cars (ns nm : List Str) (cs : List Car) : Prop where
  srt : sortedS (cs.map (·.1)) = true
  perm : (cs.map (·.1)).Perm nm
  each : ∀ c ∈ cs, c.2.1 ∈ feed :: ns ∧ 1 ≤ c.2.2.1 ∧ c.2.2.1 ≤ 10 ^ 12 ∧ 0 ≤ c.2.2.2 ∧ c.2.2.2 < 10 ^ 12
/-- a new tuple of a car -/
def CarT (H : Hp) (b : Addr) (x : V) (c : Car) : Prop := ∃ t, x = .ref t ∧ t ≠ b ∧ H t = some (.tup [.str c.1, .str c.2.1, .int c.2.2.1, .int c.2.2.2])
theorem CarT.more {H H' : Hp} {b : Addr} (m : ∀ t xs, t ≠ b → H t = some (.tup xs) → H' t = some (.tup xs)) {x : V} {c : Car} (h : CarT H b x c) : CarT H' b x c := by
  obtain ⟨t, e, n, q⟩ := h
  exact ⟨t, e, n, m _ _ n q⟩
def spCars (K : PySem.W.Frag) : Sp := fun as H Q _ => ∃ (b a c : Addr) (nm ns : List Str) (most : Int), as = [.ref b, .ref a, .ref c, .int most] ∧ Bag H b ∧ SqL K (wo H b) a (txs nm) ∧ H c = some (.lst (txs ns)) ∧ c ≠ b ∧ nm.length ≤ 30 ∧ ns.length ≤ 50 ∧ 2 ≤ most ∧ most < 10 ^ 12 ∧
  ∀ (p : Addr) (xs : List V) (cs : List Car) (H' : Hp), Cars ns nm cs → H' p = some (.tup xs) → Paired (CarV K (wo H' b)) xs cs → H p = none → p ≠ b → Bag H' b → Sb b H H' → Q (.ref p) H'
section
variable {P : Program} {w : World} {K : PySem.W.Frag} {mg : Str → Option Value} {base : Heap}
theorem scR : FnScope ["bag", "names", "knots", "most", "found", "name", "knot", "rate", "need"] ["bag", "names", "knots", "most"] (defScope sCars) := ⟨rfl, rfl, rfl, by decide +kernel, rfl, by decide +kernel, by decide +kernel⟩
theorem ok_cars {f fT fS fZ : Addr} {fd fdT fdS fdZ : FuncData} (F : Fun K "_law_cars" "_law_cars" sCars f fd) (T : Nat0 mg) (FT : Fun K "_law_take" "_law_take" sTake fT fdT) (mT : mg "_law_take" = some (.ref fT)) (bT : Binds K fdT ["bag", "many"] [])
    (FS : Fun K "_law_some" "_law_some" sSome fS fdS) (mS : mg "_law_some" = some (.ref fS)) (bS : Binds K fdS ["bag", "things"] [])
    (GZ : FnOk P w K mg base CX0 3 fZ fdZ ["bag", "most"] spSize) (FZ : Fun K "_law_size" "_law_size" sSize fZ fdZ) (mZ : mg "_law_size" = some (.ref fZ)) (bZ : Binds K fdZ ["bag", "most"] []) :
    FnOk P w K mg base CX0 4 f fd ["bag", "names", "knots", "most"] (spCars K) := by
  have GT : FnOk P w K mg base CX0 1 fT fdT ["bag", "many"] spTake := ok_take FT T
  have GS : FnOk P w K mg base CX0 2 fS fdS ["bag", "things"] (spSome K) := ok_some FS T FT mT bT
  refine F.ok scR (fun as H Q E h => ?_) (fun cdv A outer s H as Q E hr h => ?_)
  · obtain ⟨b, a, c, nm, ns, most, rfl, _⟩ := h
    rfl
  · obtain ⟨b, a, c, nm, ns, most, rfl, hB, hS, hC, ncb, hnm, hns, hmo, hmo2, k⟩ := h
    have hr1 : Room 1 _ := hr.mono (by decide)
    have hr2 : Room 2 _ := hr.mono (by decide)
    refine ⟨_, pss_cons (ps_set (i := 4) scR.nd rfl (.inl rfl) (pe_lst pa_nil))
      (pss_cons (ps_for PassesOwn.never rfl (pi_list (pe_callB cr_sortedS (by rfl) T.sorted (by decide +kernel) (pa_cons (pv 1) pa_nil))) (pg_name (i := 5) scR.nd rfl (.inl rfl))
        (pss_cons (ps_set (i := 6) scR.nd rfl (.inl rfl) (pe_call GS hr2 rfl mS FS.kp bS .nil pass0 (pa_cons (pv 0) (pa_cons (pe_op op_cat (pe_op op_cat (pe_lst (pa_cons pe_str pa_nil)) (pv 2)) (pv 2)) pa_nil))))
        (pss_cons (ps_set (i := 7) scR.nd rfl (.inl rfl) (pe_callB (call_max2 rfl) (by rfl) T.max (by decide +kernel) (pa_cons pe_int (pa_cons (pe_call GS hr2 rfl mS FS.kp bS .nil pass0 (pa_cons (pv 0) (pa_cons (pe_lst (pa_cons pe_int (pa_cons pe_int (pa_cons (pe_call GZ hr rfl mZ FZ.kp bZ .nil pass0 (pa_cons (pv 0) (pa_cons (pv 3) pa_nil))) (pa_cons pe_int pa_nil))))) pa_nil))) pa_nil))))
        (pss_cons (ps_set (i := 8) scR.nd rfl (.inl rfl) (pe_call GS hr2 rfl mS FS.kp bS .nil pass0 (pa_cons (pv 0) (pa_cons (pe_lst (pa_cons (pe_op op_add pe_int (pe_call GZ hr rfl mZ FZ.kp bZ .nil pass0 (pa_cons (pv 0) (pa_cons (pv 3) pa_nil)))) (pa_cons (pv 7)
            (pa_cons (pe_op op_add (pe_op op_mul pe_int (pv 7)) pe_int) (pa_cons pe_int (pa_cons pe_int (pa_cons (pe_op op_mul pe_int (pv 7)) (pa_cons (pe_call GT hr1 rfl mT FT.kp bT .nil pass0 (pa_cons (pv 0) (pa_cons (pe_op op_add (pv 3) pe_int) pa_nil))) pa_nil)))))))) pa_nil))))
        (pss_one (ps_expr (pe_bm PySem.F.plainAttrs_list PySem.F.slot_list_append PySem.F.type_list_append mt_append (pv 4) (pa_cons (pe_tup (pa_cons (pv 5) (pa_cons (pv 6) (pa_cons (pv 7) (pa_cons (pe_callB (call_min2 rfl) (by rfl) T.min (by decide +kernel) (pa_cons (pv 8) (pa_cons (pe_op op_sub (pe_op op_pow pe_int pe_int) pe_int) pa_nil))) pa_nil))))) pa_nil))))))))
      (pss_one (ps_ret (pe_callTy call_tuple_of (by rfl) T.tuple (by decide +kernel) (pa_cons (pv 4) pa_nil))))), ?_⟩
    refine ⟨by show 0 ≤ sizeLine; decide, fun d hd => ?_⟩
    have ndb : d ≠ b := hB.ne hd
    have ncd : c ≠ d := ne_of_none hC hd
    refine ⟨_, rfl, a, nm, rfl, Same.seq (same_new (Same.refl H) hd) ((wo_sub H b).seq hS), by omega, fun ys p perm srt hp => ⟨p, rfl, ⟨_, .inl (.inl upd_same)⟩, ?_⟩⟩
    have npd : p ≠ d := fun e => by rw [e, upd_same] at hp; cases hp
    have hp0 : H p = none := by rw [upd_ne npd] at hp; exact hp
    have npb : p ≠ b := hB.ne hp0
    have hlen : ys.length = nm.length := perm.length_eq
    refine for_list (K := K) (a := p) (xs := ys.map V.str) (fun i σ H' => ∃ (v5 v6 v7 v8 : Option V) (zs : List V) (cs : List Car), σ = [some (.ref b), some (.ref a), some (.ref c), some (.int most), some (.ref d), v5, v6, v7, v8] ∧ H' d = some (.lst zs) ∧ cs.map (·.1) = ys.take i ∧
      (∀ c ∈ cs, c.2.1 ∈ feed :: ns ∧ 1 ≤ c.2.2.1 ∧ c.2.2.1 ≤ 10 ^ 12 ∧ 0 ≤ c.2.2.2 ∧ c.2.2.2 < 10 ^ 12) ∧ Paired (CarT H' b) zs cs ∧ H' p = some (.lst (ys.map V.str)) ∧ Bag H' b ∧ Sb b H H') ?_ ?_ ?_ ?_
    · exact ⟨none, none, none, none, [], [], rfl, by rw [upd_ne npd.symm, upd_same], by rw [List.take_zero]; rfl, (fun _ z => nomatch z), .nil, upd_same, (hB.new hd).new hp, ((Sb.refl b H).new hd).new hp⟩
    · rintro i σ H' _ ⟨v5, v6, v7, v8, zs, cs, _, _, _, _, _, e, _⟩
      exact .inl (.inl e)
    · rintro i x σ H' hx ⟨v5, v6, v7, v8, zs, cs, rfl, g1, g2, g3, g4, g5, hB1, s1⟩
      rw [List.getElem?_map] at hx
      obtain ⟨y, hy, rfl⟩ := Option.map_eq_some_iff.mp hx
      have tl : (txs ns).length = ns.length := List.length_map _
      -- the knot
      refine ⟨_, rfl, by show 1 ≤ sizeLine; decide, fun q1 hq1 => ⟨_, rfl, q1, c, [.str feed], txs ns, rfl, rfl, upd_same, s3u hq1 (s1.get hC ncb), ?_, fun q2 hq2 => ⟨_, rfl, q2, c, [.str feed] ++ txs ns, txs ns, rfl, rfl, upd_same, s3u hq2 (s3u hq1 (s1.get hC ncb)), ?_, fun q3 hq3 => ?_⟩⟩⟩
      · exact Nat.le_of_lt (small1000 (show 1 + _ ≤ 1000 by omega))
      · rw [List.length_append]
        exact Nat.le_of_lt (small1000 (show 1 + _ + _ ≤ 1000 by omega))
      have hB2 := ((hB1.new (o := .lst [.str feed]) hq1).new (o := .lst ([.str feed] ++ txs ns)) hq2).new (o := .lst ([.str feed] ++ txs ns ++ txs ns)) hq3
      have s2 := ((s1.new (o := .lst [.str feed]) hq1).new (o := .lst ([.str feed] ++ txs ns)) hq2).new (o := .lst ([.str feed] ++ txs ns ++ txs ns)) hq3
      have m2 : Same H' (upd (upd (upd H' q1 (.lst [.str feed])) q2 (.lst ([.str feed] ++ txs ns))) q3 (.lst ([.str feed] ++ txs ns ++ txs ns))) := same_new (same_new (same_new (Same.refl H') hq1) hq2) hq3
      refine ⟨b, q3, _, rfl, hB2, sql_new upd_same (((hB1.new (o := .lst [.str feed]) hq1).new (o := .lst ([.str feed] ++ txs ns)) hq2).ne hq3), (fun z => nomatch z), ?_, fun kn H2 hkn hB3 s3 => ?_⟩
      · rw [List.length_append, List.length_append]
        show 1 + _ + _ ≤ _
        omega
      obtain ⟨kx, hkx, rfl⟩ : ∃ kx, kx ∈ feed :: ns ∧ kn = .str kx := by
        rcases List.mem_append.mp hkn with z | z
        · rcases List.mem_append.mp z with z | z
          · exact ⟨feed, List.mem_cons_self, List.mem_singleton.mp z⟩
          · obtain ⟨u, hu, rfl⟩ := List.mem_map.mp z
            exact ⟨u, List.mem_cons_of_mem _ hu, rfl⟩
        · obtain ⟨u, hu, rfl⟩ := List.mem_map.mp z
          exact ⟨u, List.mem_cons_of_mem _ hu, rfl⟩
      have s03 := s2.trans s3
      have b5 := s3
      -- the rate
      refine ⟨_, rfl, _, rfl, _, rfl, b, most, rfl, hB3, by omega, by omega, fun v H3 v0 v1 hB4 s4 => ⟨by show 4 ≤ sizeLine; decide, fun q4 hq4 => ⟨b, q4, _, rfl, hB4.new hq4, sql_new upd_same (hB4.ne hq4), (fun z => nomatch z), by show 4 ≤ 1000000; decide, fun x H4 hx hB5 s5 => ?_⟩⟩⟩
      obtain ⟨r0, rfl, r1, r2⟩ : ∃ r : Int, x = .int r ∧ 0 ≤ r ∧ r ≤ 10 ^ 12 := by
        simp only [List.mem_cons, List.not_mem_nil, or_false] at hx
        rcases hx with rfl | rfl | rfl | rfl
        · exact ⟨1, rfl, by decide, by decide⟩
        · exact ⟨2, rfl, by decide, by decide⟩
        · exact ⟨v, rfl, v0, by omega⟩
        · exact ⟨3, rfl, by decide, by decide⟩
      refine ⟨1, r0, rfl, ?_⟩
      obtain ⟨R, hR, R1, R2⟩ : ∃ R : Int, (if r0 > 1 then r0 else 1) = R ∧ 1 ≤ R ∧ R ≤ 10 ^ 12 := ⟨_, rfl, by split <;> omega, by split <;> omega⟩
      rw [hR]
      have s05 := ((s03.trans s4).new (o := .lst [.int 1, .int 2, .int v, .int 3]) hq4).trans s5
      -- the need
      refine ⟨_, rfl, _, rfl, _, rfl, b, most, rfl, hB5, by omega, by omega, fun v' H5 v0' v1' hB6 s6 => ⟨1, v', rfl, rfl, _, rfl, _, rfl, 2, R, rfl, rfl, .inl ⟨by decide, by decide⟩, _, 1, rfl, rfl, _, rfl, 3, R, rfl, rfl, .inl ⟨by decide, by decide⟩, _, rfl, _, rfl, most, 1, rfl, rfl, b, _, rfl, hB6, by omega, Nat.lt_of_le_of_lt (show (most + 1).natAbs ≤ (10 ^ 13 : Nat) by omega) (by decide +kernel), fun u H6 u0 u1 hB7 s7 => ?_⟩⟩
      refine ⟨by show 7 ≤ sizeLine; decide, fun q5 hq5 => ⟨b, q5, _, rfl, hB7.new hq5, sql_new upd_same (hB7.ne hq5), (fun z => nomatch z), by show 7 ≤ 1000000; decide, fun x H7 hx hB8 s8 => ?_⟩⟩
      obtain ⟨w', rfl, w0⟩ : ∃ r : Int, x = .int r ∧ 0 ≤ r := by
        simp only [List.mem_cons, List.not_mem_nil, or_false] at hx
        rcases hx with rfl | rfl | rfl | rfl | rfl | rfl | rfl
        · exact ⟨_, rfl, by omega⟩
        · exact ⟨_, rfl, by omega⟩
        · exact ⟨_, rfl, by omega⟩
        · exact ⟨_, rfl, by omega⟩
        · exact ⟨_, rfl, by omega⟩
        · exact ⟨_, rfl, by omega⟩
        · exact ⟨_, rfl, by omega⟩
      have s08 := (((s05.trans s6).trans s7).new (o := .lst [.int (1 + v'), .int R, .int (2 * R + 1), .int 0, .int 3, .int (3 * R), .int u]) hq5).trans s8
      -- what stood
      have sk : Sb b H' H7 := ((((((((Sb.refl b H').same m2).trans s3).trans s4).new (o := .lst [.int 1, .int 2, .int v, .int 3]) hq4).trans s5).trans s6).trans s7).new (o := .lst [.int (1 + v'), .int R, .int (2 * R + 1), .int 0, .int 3, .int (3 * R), .int u]) hq5 |>.trans s8
      have e1 := sk.get g1 ndb
      have e5 := sk.get g5 npb
      refine ⟨_, rfl, .inl ⟨rfl, _, SqL.of e1⟩, _, rfl, _, rfl, _, rfl, _, rfl, 10, 12, rfl, rfl, ⟨by decide, by decide, by decide⟩, _, 1, rfl, rfl, w', _, rfl, by show 4 ≤ sizeLine; decide, fun t ht => ?_⟩
      have ntb : t ≠ b := hB8.ne ht
      have ntd : t ≠ d := fun z => by rw [z, e1] at ht; cases ht
      have hz : zs.length ≤ 30 := by
        have h1 := paired_len g4
        have h2 := congrArg List.length g2
        rw [List.length_map, List.length_take] at h2
        omega
      refine ⟨d, zs, .ref t, rfl, rfl, s3u ht e1, small1000 (by omega), _, _, _, _, zs ++ [.ref t], cs ++ [(y, kx, R, if 10 ^ 12 - 1 < w' then 10 ^ 12 - 1 else w')], rfl, upd_same, ?_, fun cc hcc => ?_, ?_, ?_, ?_, ?_⟩
      · rw [List.map_append, g2, List.take_succ, hy]
        rfl
      · rcases List.mem_append.mp hcc with z | z
        · exact g3 cc z
        · rw [List.mem_singleton.mp z]
          refine ⟨hkx, R1, R2, ?_, ?_⟩
          · show 0 ≤ if (10 : Int) ^ 12 - 1 < w' then (10 : Int) ^ 12 - 1 else w'
            split <;> omega
          · show (if (10 : Int) ^ 12 - 1 < w' then (10 : Int) ^ 12 - 1 else w') < _
            split <;> omega
      · refine paired_snoc ⟨t, rfl, ntb, by rw [upd_ne ntd, upd_same]; rfl⟩ (paired_imp (fun x c h => CarT.more (fun t' xs' n q => ?_) h) g4)
        have n2 : t' ≠ d := fun z => by rw [z, g1] at q; cases q
        rw [upd_ne n2]
        exact s3u ht (sk.get q n)
      · rw [upd_ne npd]
        exact s3u ht e5
      · exact hB.wr hd (s08.new (o := .tup [.str y, .str kx, .int R, .int (if (10 : Int) ^ 12 - 1 < w' then 10 ^ 12 - 1 else w')]) ht) (hB8.new ht)
      · exact (s08.new (o := .tup [.str y, .str kx, .int R, .int (if (10 : Int) ^ 12 - 1 < w' then 10 ^ 12 - 1 else w')]) ht).wr hd
    · rintro σ H' ⟨v5, v6, v7, v8, zs, cs, rfl, g1, g2, g3, g4, g5, hB1, s1⟩
      rw [List.length_map, List.take_length] at g2
      refine ⟨_, rfl, d, zs, rfl, .inl ⟨SqL.of g1, fun l hl => ?_⟩⟩
      have nlb : l ≠ b := hB1.ne hl
      refine k l zs cs _ ⟨by rw [g2]; exact srt, by rw [g2]; exact perm, g3⟩ upd_same ?_ (s1.free hl nlb) nlb (hB1.new hl) (s1.new hl)
      refine paired_imp (fun x c h => ?_) g4
      obtain ⟨t', e, n, q⟩ := h
      exact ⟨t', e, sqt_new (s3u hl q) n⟩
end
end Y

namespace Y
open PySem PySem.Spec PyProof.Rows L2 Ns
open C8 (pss_cut)
theorem Cabs.mono {ns : List Str} {m m' : Int} {k k' : Nat} {cs : List Cab} (h : Cabs ns m k cs) (hm : m ≤ m') (hk : k ≤ k') : Cabs ns m' k' cs :=
  ⟨Nat.le_trans h.len hk, h.nodup, fun c hc => by
    obtain ⟨h1, h2, h3, h4, h5⟩ := h.each c hc
    exact ⟨h1, h2, h3, h4, by omega⟩, h.srt⟩
/-- what a drawn yard is -/
structure YardF (most : Int) (cs : List Cab) (rs : List Car) : Prop where
  ex : ∃ ns nm : List Str, Nms [] ns ∧ ns.length ≤ 8 ∧ Nms [] nm ∧ nm.length ≤ 24 ∧ Cabs ns most 40 cs ∧ Cars ns nm rs
theorem YardF.mono {m m' : Int} {cs : List Cab} {rs : List Car} (h : YardF m cs rs) (hm : m ≤ m') : YardF m' cs rs := by
  obtain ⟨ns, nm, h1, h2, h3, h4, h5, h6⟩ := h.ex
  exact ⟨ns, nm, h1, h2, h3, h4, h5.mono hm (Nat.le_refl _), h6⟩
/-- a yard as a value -/
def YardV (K : PySem.W.Frag) (H : Hp) (y : V) (cs : List Cab) (rs : List Car) : Prop := ∃ (t a b : Addr) (xs zs : List V), y = .ref t ∧ SqT K H t [.ref a, .ref b] ∧ SqT K H a xs ∧ SqT K H b zs ∧ Paired (CabV K H) xs cs ∧ Paired (CarV K H) zs rs
theorem YardV.more {K : PySem.W.Frag} {H H' : Hp} (m : Same H H') {y : V} {cs : List Cab} {rs : List Car} (h : YardV K H y cs rs) : YardV K H' y cs rs := by
  obtain ⟨t, a, b, xs, zs, e, h1, h2, h3, h4, h5⟩ := h
  exact ⟨t, a, b, xs, zs, e, sqt_more m h1, sqt_more m h2, sqt_more m h3, paired_imp (fun _ _ => CabV.more m) h4, paired_imp (fun _ _ => CarV.more m) h5⟩
def spYardOf (K : PySem.W.Frag) : Sp := fun as H Q _ => ∃ (b : Addr) (cars knots cables : Nat) (most : Int), as = [.ref b, .int cars, .int knots, .int cables, .int most] ∧ Bag H b ∧ 2 ≤ cars ∧ cars ≤ 24 ∧ knots ≤ 8 ∧ cables ≤ 40 ∧ 2 ≤ most ∧ most < 10 ^ 12 ∧
  ∀ (y : V) (cs : List Cab) (rs : List Car) (H' : Hp), YardF most cs rs → YardV K (wo H' b) y cs rs → Bag H' b → Sb b H H' → Q y H'
/-- a yard drawn, numbers up to most -/
def spYard (K : PySem.W.Frag) (most : Int) : Sp := fun as H Q _ => ∃ (b : Addr), as = [.ref b] ∧ Bag H b ∧ ∀ (y : V) (cs : List Cab) (rs : List Car) (H' : Hp), YardF most cs rs → YardV K (wo H' b) y cs rs → Bag H' b → Sb b H H' → Q y H'
/-- the yards' defs -/
structure Gen (P : Program) (w : World) (K : PySem.W.Frag) (mg : Str → Option Value) (base : Heap) (fT fS fN fNs fC fR : Addr) (dT dS dN dNs dC dR : FuncData) : Prop where
  T : Fun K "_law_take" "_law_take" sTake fT dT
  mT : mg "_law_take" = some (.ref fT)
  bT : Binds K dT ["bag", "many"] []
  S : Fun K "_law_some" "_law_some" sSome fS dS
  mS : mg "_law_some" = some (.ref fS)
  bS : Binds K dS ["bag", "things"] []
  N : Fun K "_law_names" "_law_names" sNames fNs dNs
  mN : mg "_law_names" = some (.ref fNs)
  bN : Binds K dNs ["bag", "many", "taken"] []
  gN : FnOk P w K mg base CX0 4 fNs dNs ["bag", "many", "taken"] (spNames K)
  C : Fun K "_law_cables" "_law_cables" sCables fC dC
  mC : mg "_law_cables" = some (.ref fC)
  bC : Binds K dC ["bag", "knots", "many", "most"] []
  gC : FnOk P w K mg base CX0 5 fC dC ["bag", "knots", "many", "most"] (spCables K)
  R : Fun K "_law_cars" "_law_cars" sCars fR dR
  mR : mg "_law_cars" = some (.ref fR)
  bR : Binds K dR ["bag", "names", "knots", "most"] []
  gR : FnOk P w K mg base CX0 5 fR dR ["bag", "names", "knots", "most"] (spCars K)
section
variable {P : Program} {w : World} {K : PySem.W.Frag} {mg : Str → Option Value} {base : Heap} {fT fS fN fNs fC fR : Addr} {dT dS dN dNs dC dR : FuncData}
theorem scY : FnScope ["bag", "cars", "knots", "cables", "most", "many", "some"] ["bag", "cars", "knots", "cables", "most"] (defScope sYardOf) := ⟨rfl, rfl, rfl, by decide +kernel, rfl, by decide +kernel, by decide +kernel⟩
theorem ok_yardOf {f : Addr} {fd : FuncData} (F : Fun K "_law_yard_of" "_law_yard_of" sYardOf f fd) (T : Nat0 mg) (G : Gen P w K mg base fT fS fN fNs fC fR dT dS dN dNs dC dR) : FnOk P w K mg base CX0 6 f fd ["bag", "cars", "knots", "cables", "most"] (spYardOf K) := by
  have GT : FnOk P w K mg base CX0 1 fT dT ["bag", "many"] spTake := ok_take G.T T
  have GS : FnOk P w K mg base CX0 2 fS dS ["bag", "things"] (spSome K) := ok_some G.S T G.T G.mT G.bT
  refine F.ok scY (fun as H Q E h => ?_) (fun cdv A outer s H as Q E hr h => ?_)
  · obtain ⟨b, cars, knots, cables, most, rfl, _⟩ := h
    rfl
  · obtain ⟨b, cars, knots, cables, most, rfl, hB, hc1, hc2, hk, hb, hmo, hmo2, k⟩ := h
    have hr1 : Room 1 _ := hr.mono (by decide)
    have hr2 : Room 2 _ := hr.mono (by decide)
    have hr4 : Room 4 _ := hr.mono (by decide)
    have hr5 : Room 5 _ := hr
    refine ⟨_, pss_cons (ps_set (i := 5) scY.nd rfl (.inl rfl) (pe_call GS hr2 rfl G.mS G.S.kp G.bS .nil pass0 (pa_cons (pv 0) (pa_cons (pe_lst (pa_cons (pv 1) (pa_cons (pe_op op_add pe_int (pe_call GT hr1 rfl G.mT G.T.kp G.bT .nil pass0 (pa_cons (pv 0) (pa_cons (pv 1) pa_nil)))) (pa_cons (pv 1)
        (pa_cons (pe_callB (call_max2 rfl) (by rfl) T.max (by decide +kernel) (pa_cons pe_int (pa_cons (pe_op op_sub (pv 1) pe_int) pa_nil))) (pa_cons (pe_call GT hr1 rfl G.mT G.T.kp G.bT .nil pass0 (pa_cons (pv 0) (pa_cons (pe_op op_add (pv 1) pe_int) pa_nil))) pa_nil)))))) pa_nil))))
      (pss_cons (ps_set (i := 6) scY.nd rfl (.inl rfl) (pe_call G.gN hr4 rfl G.mN G.N.kp G.bN .nil pass0 (pa_cons (pv 0) (pa_cons (pe_call GT hr1 rfl G.mT G.T.kp G.bT .nil pass0 (pa_cons (pv 0) (pa_cons (pe_op op_add (pv 2) pe_int) pa_nil))) (pa_cons (pe_lst pa_nil) pa_nil)))))
      (pss_one (ps_ret (pe_tup (pa_cons (pe_call G.gC hr5 rfl G.mC G.C.kp G.bC .nil pass0 (pa_cons (pv 0) (pa_cons (pv 6) (pa_cons (pv 3) (pa_cons (pv 4) pa_nil)))))
        (pa_cons (pe_call G.gR hr5 rfl G.mR G.R.kp G.bR .nil pass0 (pa_cons (pv 0) (pa_cons (pe_call G.gN hr4 rfl G.mN G.N.kp G.bN .nil pass0 (pa_cons (pv 0) (pa_cons (pv 5) (pa_cons (pe_lst pa_nil) pa_nil)))) (pa_cons (pv 6) (pa_cons (pv 4) pa_nil))))) pa_nil)))))), ?_⟩
    have big : (2000 : Nat) < 2 ^ 200 := by decide +kernel
    refine ⟨_, rfl, _, rfl, _, rfl, _, rfl, b, cars, rfl, hB, by omega, by omega, fun v H1 v0 v1 hB1 s1 => ⟨1, v, rfl, rfl, _, rfl, _, rfl, cars, 1, rfl, rfl, 1, _, rfl, _, rfl, _, rfl, cars, 1, rfl, rfl, b, _, rfl, hB1, by omega, by omega, fun u H2 u0 u1 hB2 s2 => ?_⟩⟩
    refine ⟨by show 5 ≤ sizeLine; decide, fun q hq => ⟨b, q, _, rfl, hB2.new hq, sql_new upd_same (hB2.ne hq), (fun z => nomatch z), by show 5 ≤ 1000000; decide, fun x H3 hx hB3 s3 => ?_⟩⟩
    obtain ⟨m, rfl, hm⟩ : ∃ m : Nat, x = .int m ∧ m ≤ 24 := by
      have key : ∀ i : Int, 0 ≤ i → i ≤ 24 → ∃ m : Nat, V.int i = .int m ∧ m ≤ 24 := fun i h0 h1 => ⟨i.toNat, by rw [Int.toNat_of_nonneg h0], by omega⟩
      simp only [List.mem_cons, List.not_mem_nil, or_false] at hx
      rcases hx with rfl | rfl | rfl | rfl | rfl
      · exact key _ (by omega) (by omega)
      · exact key _ (by omega) (by omega)
      · exact key _ (by omega) (by omega)
      · exact key _ (by split <;> omega) (by split <;> omega)
      · exact key _ (by omega) (by omega)
    have s03 := ((s1.trans s2).new (o := .lst [.int cars, .int (1 + v), .int cars, .int (if (cars : Int) - 1 > 1 then (cars : Int) - 1 else 1), .int u]) hq).trans s3
    refine ⟨_, rfl, _, rfl, _, rfl, knots, 1, rfl, rfl, b, _, rfl, hB3, by omega, by omega, fun kn H4 k0 k1 hB4 s4 => ⟨by show 0 ≤ sizeLine; decide, fun q2 hq2 => ?_⟩⟩
    obtain ⟨kn', rfl⟩ : ∃ n : Nat, kn = n := ⟨kn.toNat, by omega⟩
    refine ⟨b, q2, kn', [], rfl, hB4.new hq2, sql_new upd_same (hB4.ne hq2), by show 0 + kn' ≤ 100; omega, (fun _ z => nomatch z), fun p ns H5 hns N5 e5 f5 hB5 s5 => ?_⟩
    have s05 := ((s03.trans s4).new (o := .lst []) hq2).trans s5
    have npb : p ≠ b := (hB4.new (o := .lst []) hq2).ne f5
    refine ⟨_, rfl, _, rfl, _, rfl, _, rfl, b, p, ns, cables, most, rfl, hB5, e5, N5, by omega, by omega, hmo, by omega, fun pc xs cs H6 C6 e6 p6 f6 n6 hB6 s6 => ?_⟩
    refine ⟨_, rfl, _, rfl, _, rfl, by show 0 ≤ sizeLine; decide, fun q3 hq3 => ⟨b, q3, m, [], rfl, hB6.new hq3, sql_new upd_same (hB6.ne hq3), by show 0 + m ≤ 100; omega, (fun _ z => nomatch z), fun pn nm H7 hnm N7 e7 f7 hB7 s7 => ?_⟩⟩
    have npn : pn ≠ b := (hB6.new (o := .lst []) hq3).ne f7
    have s67 := ((Sb.refl b H6).new (o := .lst []) hq3).trans s7
    refine ⟨_, rfl, _, rfl, b, pn, p, nm, ns, most, rfl, hB7, sql_new e7 npn, s67.get (s6.get e5 npb) npb, npb, by omega, by omega, hmo, hmo2, fun pr zs rs H8 R8 e8 p8 f8 n8 hB8 s8 => ?_⟩
    have s68 := s67.trans s8
    refine ⟨by show 2 ≤ sizeLine; decide, fun t ht => ?_⟩
    have sT : Same (wo H8 b) (wo (upd H8 t (.tup [.ref pc, .ref pr])) b) := wo_same (same_new (Same.refl H8) ht)
    refine k (.ref t) cs rs _ ⟨ns, nm, N5, by omega, N7, by omega, C6.mono (Int.le_refl _) hb, R8⟩ ⟨t, pc, pr, xs, zs, rfl, sqt_new upd_same (hB8.ne ht), ?_, ?_, ?_, ?_⟩ (hB8.new ht) (((s05.trans s6).trans s68).new ht)
    · exact sqt_new (s3u ht (s68.get e6 n6)) n6
    · exact sqt_new (s3u ht e8) n8
    · exact paired_imp (fun _ _ h => (h.more s68.1).more sT) p6
    · exact paired_imp (fun _ _ h => h.more sT) p8
end
end Y

namespace Y
open PySem PySem.Spec PyProof.Rows L2 Ns
open C8 (pss_cut)
section
variable {P : Program} {w : World} {K : PySem.W.Frag} {mg : Str → Option Value} {base : Heap} {fT fS fN fNs fC fR : Addr} {dT dS dN dNs dC dR : FuncData}
theorem scSm : FnScope ["bag"] ["bag"] (defScope sSmall) := ⟨rfl, rfl, rfl, by decide +kernel, rfl, by decide +kernel, by decide +kernel⟩
theorem scW : FnScope ["bag", "most"] ["bag"] (defScope sWide) := ⟨rfl, rfl, rfl, by decide +kernel, rfl, by decide +kernel, by decide +kernel⟩
theorem ok_small {f fY : Addr} {fd dY : FuncData} (F : Fun K "_law_small_yard" "_law_small_yard" sSmall f fd) (T : Nat0 mg) (G : Gen P w K mg base fT fS fN fNs fC fR dT dS dN dNs dC dR)
    (FY : Fun K "_law_yard_of" "_law_yard_of" sYardOf fY dY) (mY : mg "_law_yard_of" = some (.ref fY)) (bY : Binds K dY ["bag", "cars", "knots", "cables", "most"] []) : FnOk P w K mg base CX0 7 f fd ["bag"] (spYard K 7) := by
  have GS : FnOk P w K mg base CX0 2 fS dS ["bag", "things"] (spSome K) := ok_some G.S T G.T G.mT G.bT
  have GY : FnOk P w K mg base CX0 6 fY dY ["bag", "cars", "knots", "cables", "most"] (spYardOf K) := ok_yardOf FY T G
  refine F.ok scSm (fun as H Q E h => ?_) (fun cdv A outer s H as Q E hr h => ?_)
  · obtain ⟨b, rfl, _⟩ := h
    rfl
  · obtain ⟨b, rfl, hB, k⟩ := h
    have hr2 : Room 2 _ := hr.mono (by decide)
    refine ⟨_, pss_one (ps_ret (pe_call GY hr rfl mY FY.kp bY .nil pass0 (pa_cons (pv 0) (pa_cons (pe_call GS hr2 rfl G.mS G.S.kp G.bS .nil pass0 (pa_cons (pv 0) (pa_cons (pe_lst (pa_cons pe_int (pa_cons pe_int (pa_cons pe_int (pa_cons pe_int pa_nil))))) pa_nil)))
      (pa_cons pe_int (pa_cons (pe_call GS hr2 rfl G.mS G.S.kp G.bS .nil pass0 (pa_cons (pv 0) (pa_cons (pe_lst (pa_cons pe_int (pa_cons pe_int (pa_cons pe_int pa_nil)))) pa_nil)))
      (pa_cons (pe_call GS hr2 rfl G.mS G.S.kp G.bS .nil pass0 (pa_cons (pv 0) (pa_cons (pe_lst (pa_cons pe_int (pa_cons pe_int (pa_cons pe_int pa_nil)))) pa_nil))) pa_nil))))))), ?_⟩
    refine ⟨_, rfl, _, rfl, by show 4 ≤ sizeLine; decide, fun q1 hq1 => ⟨b, q1, _, rfl, hB.new hq1, sql_new upd_same (hB.ne hq1), (fun z => nomatch z), by show 4 ≤ 1000000; decide, fun x H1 hx hB1 s1 => ?_⟩⟩
    obtain ⟨m1, rfl, a1, a2⟩ : ∃ m : Nat, x = .int m ∧ 2 ≤ m ∧ m ≤ 24 := by
      simp only [List.mem_cons, List.not_mem_nil, or_false] at hx
      rcases hx with rfl | rfl | rfl | rfl
      · exact ⟨3, rfl, by decide, by decide⟩
      · exact ⟨4, rfl, by decide, by decide⟩
      · exact ⟨5, rfl, by decide, by decide⟩
      · exact ⟨2, rfl, by decide, by decide⟩
    refine ⟨_, rfl, by show 3 ≤ sizeLine; decide, fun q2 hq2 => ⟨b, q2, _, rfl, hB1.new hq2, sql_new upd_same (hB1.ne hq2), (fun z => nomatch z), by show 3 ≤ 1000000; decide, fun x H2 hx hB2 s2 => ?_⟩⟩
    obtain ⟨m2, rfl, a3⟩ : ∃ m : Nat, x = .int m ∧ m ≤ 40 := by
      simp only [List.mem_cons, List.not_mem_nil, or_false] at hx
      rcases hx with rfl | rfl | rfl
      · exact ⟨4, rfl, by decide⟩
      · exact ⟨6, rfl, by decide⟩
      · exact ⟨3, rfl, by decide⟩
    refine ⟨_, rfl, by show 3 ≤ sizeLine; decide, fun q3 hq3 => ⟨b, q3, _, rfl, hB2.new hq3, sql_new upd_same (hB2.ne hq3), (fun z => nomatch z), by show 3 ≤ 1000000; decide, fun x H3 hx hB3 s3 => ?_⟩⟩
    obtain ⟨m3, rfl, a4, a5⟩ : ∃ m : Int, x = .int m ∧ 2 ≤ m ∧ m ≤ 7 := by
      simp only [List.mem_cons, List.not_mem_nil, or_false] at hx
      rcases hx with rfl | rfl | rfl
      · exact ⟨3, rfl, by decide, by decide⟩
      · exact ⟨7, rfl, by decide, by decide⟩
      · exact ⟨2, rfl, by decide, by decide⟩
    have s03 := ((((((Sb.refl b H).new (o := .lst [.int 3, .int 4, .int 5, .int 2]) hq1).trans s1).new (o := .lst [.int 4, .int 6, .int 3]) hq2).trans s2).new (o := .lst [.int 3, .int 7, .int 2]) hq3).trans s3
    exact ⟨b, m1, 4, m2, m3, rfl, hB3, a1, a2, by decide, a3, a4, by omega, fun y cs rs H' hY hV hB' s' => k y cs rs H' (hY.mono a5) hV hB' (s03.trans s')⟩
theorem ok_wide {f fY : Addr} {fd dY : FuncData} (F : Fun K "_law_wide_yard" "_law_wide_yard" sWide f fd) (T : Nat0 mg) (G : Gen P w K mg base fT fS fN fNs fC fR dT dS dN dNs dC dR)
    (FY : Fun K "_law_yard_of" "_law_yard_of" sYardOf fY dY) (mY : mg "_law_yard_of" = some (.ref fY)) (bY : Binds K dY ["bag", "cars", "knots", "cables", "most"] []) : FnOk P w K mg base CX0 7 f fd ["bag"] (spYard K (10 ^ 12)) := by
  have GS : FnOk P w K mg base CX0 2 fS dS ["bag", "things"] (spSome K) := ok_some G.S T G.T G.mT G.bT
  have GY : FnOk P w K mg base CX0 6 fY dY ["bag", "cars", "knots", "cables", "most"] (spYardOf K) := ok_yardOf FY T G
  refine F.ok scW (fun as H Q E h => ?_) (fun cdv A outer s H as Q E hr h => ?_)
  · obtain ⟨b, rfl, _⟩ := h
    rfl
  · obtain ⟨b, rfl, hB, k⟩ := h
    have hr2 : Room 2 _ := hr.mono (by decide)
    refine ⟨_, pss_cons (ps_set (i := 1) scW.nd rfl (.inl rfl) (pe_call GS hr2 rfl G.mS G.S.kp G.bS .nil pass0 (pa_cons (pv 0) (pa_cons (pe_lst (pa_cons pe_int (pa_cons pe_int (pa_cons (pe_op op_sub (pe_op op_pow pe_int pe_int) pe_int) (pa_cons (pe_op op_pow pe_int pe_int) pa_nil))))) pa_nil))))
      (pss_one (ps_ret (pe_call GY hr rfl mY FY.kp bY .nil pass0 (pa_cons (pv 0) (pa_cons (pe_call GS hr2 rfl G.mS G.S.kp G.bS .nil pass0 (pa_cons (pv 0) (pa_cons (pe_lst (pa_cons pe_int (pa_cons pe_int (pa_cons pe_int pa_nil)))) pa_nil)))
      (pa_cons pe_int (pa_cons (pe_call GS hr2 rfl G.mS G.S.kp G.bS .nil pass0 (pa_cons (pv 0) (pa_cons (pe_lst (pa_cons pe_int (pa_cons pe_int (pa_cons pe_int pa_nil)))) pa_nil)))
      (pa_cons (pv 1) pa_nil)))))))), ?_⟩
    refine ⟨_, rfl, 10, 12, rfl, rfl, ⟨by decide, by decide, by decide⟩, _, 1, rfl, rfl, 10, 6, rfl, rfl, ⟨by decide, by decide, by decide⟩, by show 4 ≤ sizeLine; decide, fun q1 hq1 => ⟨b, q1, _, rfl, hB.new hq1, sql_new upd_same (hB.ne hq1), (fun z => nomatch z), by show 4 ≤ 1000000; decide, fun x H1 hx hB1 s1 => ?_⟩⟩
    obtain ⟨m3, rfl, a4, a5⟩ : ∃ m : Int, x = .int m ∧ 2 ≤ m ∧ m < 10 ^ 12 := by
      simp only [List.mem_cons, List.not_mem_nil, or_false] at hx
      rcases hx with rfl | rfl | rfl | rfl
      · exact ⟨9, rfl, by decide, by decide⟩
      · exact ⟨40, rfl, by decide, by decide⟩
      · exact ⟨_, rfl, by decide, by decide⟩
      · exact ⟨_, rfl, by decide, by decide⟩
    refine ⟨_, rfl, _, rfl, by show 3 ≤ sizeLine; decide, fun q2 hq2 => ⟨b, q2, _, rfl, hB1.new hq2, sql_new upd_same (hB1.ne hq2), (fun z => nomatch z), by show 3 ≤ 1000000; decide, fun x H2 hx hB2 s2 => ?_⟩⟩
    obtain ⟨m1, rfl, a1, a2⟩ : ∃ m : Nat, x = .int m ∧ 2 ≤ m ∧ m ≤ 24 := by
      simp only [List.mem_cons, List.not_mem_nil, or_false] at hx
      rcases hx with rfl | rfl | rfl
      · exact ⟨8, rfl, by decide, by decide⟩
      · exact ⟨12, rfl, by decide, by decide⟩
      · exact ⟨24, rfl, by decide, by decide⟩
    refine ⟨_, rfl, by show 3 ≤ sizeLine; decide, fun q3 hq3 => ⟨b, q3, _, rfl, hB2.new hq3, sql_new upd_same (hB2.ne hq3), (fun z => nomatch z), by show 3 ≤ 1000000; decide, fun x H3 hx hB3 s3 => ?_⟩⟩
    obtain ⟨m2, rfl, a3⟩ : ∃ m : Nat, x = .int m ∧ m ≤ 40 := by
      simp only [List.mem_cons, List.not_mem_nil, or_false] at hx
      rcases hx with rfl | rfl | rfl
      · exact ⟨9, rfl, by decide⟩
      · exact ⟨16, rfl, by decide⟩
      · exact ⟨40, rfl, by decide⟩
    have s03 := ((((((Sb.refl b H).new (o := .lst [.int 9, .int 40, .int (10 ^ 12 - 1), .int (10 ^ 6)]) hq1).trans s1).new (o := .lst [.int 8, .int 12, .int 24]) hq2).trans s2).new (o := .lst [.int 9, .int 16, .int 40]) hq3).trans s3
    exact ⟨_, rfl, b, m1, 8, m2, m3, rfl, hB3, a1, a2, by decide, a3, a4, a5, fun y cs rs H' hY hV hB' s' => k y cs rs H' (hY.mono (Int.le_of_lt a5)) hV hB' (s03.trans s')⟩
end
end Y

namespace Y
open PySem PySem.Spec PyProof.Rows L2 Ns
open C8 (pss_cut)
theorem min_ok {v : Int} (h : 0 ≤ v) : (1 ≤ v → 1 ≤ if (10 : Int) ^ 12 - 1 < v then (10 : Int) ^ 12 - 1 else v) ∧ 0 ≤ (if (10 : Int) ^ 12 - 1 < v then (10 : Int) ^ 12 - 1 else v) ∧ (if (10 : Int) ^ 12 - 1 < v then (10 : Int) ^ 12 - 1 else v) < 10 ^ 12 := by
  split <;> omega
section
variable {P : Program} {w : World} {K : PySem.W.Frag} {mg : Str → Option Value} {base : Heap} {fT fS fN fNs fC fR : Addr} {dT dS dN dNs dC dR : FuncData}
def NG : List Str := ["bag", "yard", "times", "cables", "cars", "most", "one", "other", "cap", "name", "knot", "rate", "need"]
theorem scG : FnScope ["bag", "yard", "times", "cables", "cars", "most", "one", "other", "cap", "name", "knot", "rate", "need"] ["bag"] (defScope sGreat) := ⟨rfl, rfl, rfl, by decide +kernel, rfl, by decide +kernel, by decide +kernel⟩
theorem ok_great {f fY : Addr} {fd dY : FuncData} (F : Fun K "_law_great_yard" "_law_great_yard" sGreat f fd) (T : Nat0 mg) (G : Gen P w K mg base fT fS fN fNs fC fR dT dS dN dNs dC dR)
    (GY : FnOk P w K mg base CX0 7 fY dY ["bag"] (spYard K 7)) (FY : Fun K "_law_small_yard" "_law_small_yard" sSmall fY dY) (mY : mg "_law_small_yard" = some (.ref fY)) (bY : Binds K dY ["bag"] []) : FnOk P w K mg base CX0 8 f fd ["bag"] (spYard K (10 ^ 12)) := by
  have GS : FnOk P w K mg base CX0 2 fS dS ["bag", "things"] (spSome K) := ok_some G.S T G.T G.mT G.bT
  refine F.ok scG (fun as H Q E h => ?_) (fun cdv A outer s H as Q E hr h => ?_)
  · obtain ⟨b, rfl, _⟩ := h
    rfl
  · obtain ⟨b, rfl, hB, k⟩ := h
    have hr2 : Room 2 _ := hr.mono (by decide)
    refine ⟨_, pss_cons (ps_asg (pe_tup (pa_cons (pe_call GY hr rfl mY FY.kp bY .nil pass0 (pa_cons (pv 0) pa_nil)) (pa_cons (pe_call GS hr2 rfl G.mS G.S.kp G.bS .nil pass0 (pa_cons (pv 0) (pa_cons (pe_lst (pa_cons (pe_op op_pow pe_int pe_int) (pa_cons (pe_op op_add (pe_op op_pow pe_int pe_int) pe_int) (pa_cons pe_int (pa_cons pe_int pa_nil))))) pa_nil))) pa_nil)))
        (pg_tup (by rfl) (pgs_cons (pg_name (i := 1) scG.nd rfl (.inl rfl)) (pgs_cons (pg_name (i := 2) scG.nd rfl (.inr rfl)) pgs_nil))))
      (pss_cons (ps_set (i := 3) scG.nd rfl (.inl rfl) (pe_callTy call_tuple_of (by rfl) T.tuple (by decide +kernel) (pa_cons
        (pe_lc (own := [("one", 6), ("other", 7), ("cap", 8)]) (g := gTup K 3 (gCons (gName 6) (gCons (gName 7) (gCons (gName 8) gNil)))) (tt := tYes) rfl scG.nd (pi_tup (pe_ix ix_tup (pv 1) pe_int (fun _ _ => rfl)))
          (blkOk_by (N := ["bag", "yard", "times", "cables", "cars", "most", "one", "other", "cap", "name", "knot", "rate", "need"]) (sc := defScope sGreat) (by decide +kernel)) (fun _ _ _ _ _ => pg_tup rfl (pgs_cons (pg_name (i := 6) scG.nd rfl (Or.inl rfl)) (pgs_cons (pg_name (i := 7) scG.nd rfl (Or.inl rfl)) (pgs_cons (pg_name (i := 8) scG.nd rfl (Or.inl rfl)) pgs_nil)))) (fun _ _ _ _ _ => pts_nil)
          (fun _ _ _ _ _ => pe_tup (pa_cons (pv 6) (pa_cons (pv 7) (pa_cons (pe_op op_mul (pv 8) (pv 2)) pa_nil))))) pa_nil)))
      (pss_cons (ps_par (i := 4) (j := 5) rfl scG.nd rfl rfl (by decide) rfl rfl (pa_cons (pe_lst pa_nil) (pa_cons (pe_op op_sub (pe_op op_pow pe_int pe_int) pe_int) pa_nil)) (by rfl))
      (pss_cons (ps_for PassesOwn.never rfl (pi_tup (pe_ix ix_tup (pv 1) pe_int (fun _ _ => rfl))) (pg_tup rfl (pgs_cons (pg_name (i := 9) scG.nd rfl (.inl rfl)) (pgs_cons (pg_name (i := 10) scG.nd rfl (.inl rfl)) (pgs_cons (pg_name (i := 11) scG.nd rfl (.inl rfl)) (pgs_cons (pg_name (i := 12) scG.nd rfl (.inl rfl)) pgs_nil)))))
        (pss_one (ps_expr (pe_bm PySem.F.plainAttrs_list PySem.F.slot_list_append PySem.F.type_list_append mt_append (pv 4) (pa_cons (pe_tup (pa_cons (pv 9) (pa_cons (pv 10) (pa_cons (pe_callB (call_min2 rfl) (by rfl) T.min (by decide +kernel) (pa_cons (pe_op op_mul (pv 11) (pv 2)) (pa_cons (pv 5) pa_nil)))
          (pa_cons (pe_callB (call_min2 rfl) (by rfl) T.min (by decide +kernel) (pa_cons (pe_op op_mul (pv 12) (pv 2)) (pa_cons (pv 5) pa_nil))) pa_nil))))) pa_nil)))))
      (pss_one (ps_ret (pe_tup (pa_cons (pv 3) (pa_cons (pe_callTy call_tuple_of (by rfl) T.tuple (by decide +kernel) (pa_cons (pv 4) pa_nil)) pa_nil)))))))), ?_⟩
    refine ⟨_, rfl, b, rfl, hB, fun y cs rs H1 hY hV hB1 s1 => ?_⟩
    refine ⟨_, rfl, 10, 11, rfl, rfl, ⟨by decide, by decide, by decide⟩, 10, 9, rfl, rfl, ⟨by decide, by decide, by decide⟩, _, 7, rfl, rfl, by show 4 ≤ sizeLine; decide, fun q1 hq1 => ⟨b, q1, _, rfl, hB1.new hq1, sql_new upd_same (hB1.ne hq1), (fun z => nomatch z), by show 4 ≤ 1000000; decide, fun x H2 hx hB2 s2 => ?_⟩⟩
    obtain ⟨m, rfl, a4, a5⟩ : ∃ m : Int, x = .int m ∧ 1 ≤ m ∧ m ≤ 10 ^ 11 := by
      simp only [List.mem_cons, List.not_mem_nil, or_false] at hx
      rcases hx with rfl | rfl | rfl | rfl
      · exact ⟨_, rfl, by decide, by decide⟩
      · exact ⟨_, rfl, by decide, by decide⟩
      · exact ⟨999, rfl, by decide, by decide⟩
      · exact ⟨1, rfl, by decide, by decide⟩
    have s02 := (s1.new (o := .lst [.int (10 ^ 11), .int (10 ^ 9 + 7), .int 999, .int 1]) hq1).trans s2
    have s12 := ((Sb.refl b H1).new (o := .lst [.int (10 ^ 11), .int (10 ^ 9 + 7), .int 999, .int 1]) hq1).trans s2
    refine ⟨by show 2 ≤ sizeLine; decide, fun t ht => ⟨t, _, rfl, SqT.of upd_same, rfl, _, _, rfl, _, _, rfl, rfl, ?_⟩⟩
    have hB3 := hB2.new (o := .tup [y, .int m]) ht
    have s3 := s02.new (o := .tup [y, .int m]) ht
    have hV3 := hV.more (s12.new (o := .tup [y, .int m]) ht).1
    generalize upd H2 t (.tup [y, .int m]) = H3 at hB3 s3 hV3 ⊢
    obtain ⟨ty, ya, yb, xs, zs, rfl, v1, v2, v3, v4, v5⟩ := hV3
    obtain ⟨ns, nm, N1, N2, N3, N4, CC, RR⟩ := hY.ex
    have m64 : (10 : Int) ^ 12 < 2 ^ 64 := by decide
    refine ⟨_, rfl, ty, _, 0, .ref ya, rfl, rfl, sqt_more (wo_sub H3 b) v1, at0, ya, rfl, ⟨_, sqt_more (wo_sub H3 b) v2⟩, fun D hD => ?_⟩
    have lx : xs.length = cs.length := paired_len v4
    refine lc_tup (K := K) (a := ya) (xs := xs) (fun i H' => ∃ (ys : List V), H' D = some (.lst ys) ∧ ys.length = i ∧ Paired (CabT H' b) ys ((cs.take i).map fun c => (c.1, c.2.1, c.2.2 * m)) ∧ Same H3 H' ∧ Bag H' b) ?_ ?_ ?_ ?_
    · exact ⟨[], upd_same, rfl, by rw [List.take_zero]; exact .nil, same_new (Same.refl H3) hD, hB3.new hD⟩
    · rintro i H' hi ⟨ys, _, _, _, sm, _⟩
      exact sqt_more sm (sqt_more (wo_sub H3 b) v2)
    · rintro i x H' hx ⟨ys, g1, g2, g3, g4, g5⟩
      obtain ⟨c, hc, t', rfl, hq⟩ := paired_at v4 hx
      obtain ⟨c1, c2, c3, c4, c5⟩ := CC.each c (List.mem_of_getElem? hc)
      refine ⟨t', _, rfl, sqt_more g4 (sqt_more (wo_sub H3 b) hq), rfl, _, _, rfl, _, _, rfl, _, _, rfl, rfl, ?_⟩
      refine ⟨rfl, _, rfl, _, rfl, _, rfl, _, rfl, c.2.2, m, rfl, rfl, .inl ⟨by omega, by omega⟩, by show 3 ≤ sizeLine; decide, fun v hv => ?_⟩
      have nvb : v ≠ b := g5.ne hv
      have q1 : upd H' v (.tup [.str c.1, .str c.2.1, .int (c.2.2 * m)]) D = some (.lst ys) := s3u hv g1
      have nvD : v ≠ D := ne_at upd_same q1 (fun z => by cases z)
      have hi' : i < cs.length := (List.getElem?_eq_some_iff.mp hc).1
      have := CC.len
      refine ⟨ys, q1, small1000 (by omega), ys ++ [.ref v], upd_same, by rw [List.length_append, g2]; rfl, ?_, ?_, ?_⟩
      · rw [List.take_succ, hc, List.map_append]
        exact paired_snoc ⟨v, rfl, nvb, by rw [upd_ne nvD, upd_same]⟩ (paired_imp (fun x c h => (CabT.more (same_new (Same.refl H') hv) h).upd q1) g3)
      · exact same_put (same_new g4 hv) hD
      · exact hB3.wr hD ((Sb.refl b H3).same (same_new g4 hv)) (g5.new hv)
    rintro H4 ⟨ys, g1, g2, g3, g4, g5⟩
    rw [lx, List.take_length] at g3
    refine ⟨D, ys, rfl, .inl ⟨SqL.of g1, fun l hl => ?_⟩⟩
    have nlb : l ≠ b := g5.ne hl
    have hB5 := g5.new (o := .tup ys) hl
    have m5 := same_new (o := .tup ys) g4 hl
    have e5 : upd H4 l (.tup ys) l = some (.tup ys) := upd_same
    have p5 : Paired (CabT (upd H4 l (.tup ys)) b) ys (cs.map fun c => (c.1, c.2.1, c.2.2 * m)) := paired_imp (fun x c h => CabT.more (same_new (Same.refl H4) hl) h) g3
    generalize upd H4 l (.tup ys) = H5 at hB5 m5 e5 p5 ⊢
    clear g1 g2 g3 g4 g5
    refine ⟨by show 0 ≤ sizeLine; decide, fun d hd => ⟨10, 12, rfl, rfl, ⟨by decide, by decide, by decide⟩, _, 1, rfl, rfl, _, _, rfl, ?_⟩⟩
    have ndb : d ≠ b := hB5.ne hd
    have nld : l ≠ d := ne_of_none e5 hd
    refine ⟨_, rfl, ty, _, 1, .ref yb, rfl, rfl, sqt_more (same_new m5 hd) (sqt_more (wo_sub H3 b) v1), at1, yb, rfl, ⟨_, sqt_more (same_new m5 hd) (sqt_more (wo_sub H3 b) v3)⟩, ?_⟩
    have lz : zs.length = rs.length := paired_len v5
    refine for_tup (K := K) (a := yb) (xs := zs) (fun i σ H' => ∃ (w9 w10 w11 w12 : Option V) (us : List V), σ = [some (.ref b), some (.ref ty), some (.int m), some (.ref l), some (.ref d), some (.int (10 ^ 12 - 1)), none, none, none, w9, w10, w11, w12] ∧ H' d = some (.lst us) ∧
      us.length = i ∧ Paired (CarT H' b) us ((rs.take i).map fun c => (c.1, c.2.1, (if 10 ^ 12 - 1 < c.2.2.1 * m then 10 ^ 12 - 1 else c.2.2.1 * m), (if 10 ^ 12 - 1 < c.2.2.2 * m then 10 ^ 12 - 1 else c.2.2.2 * m))) ∧ Same H5 H' ∧ Bag H' b) ?_ ?_ ?_ ?_
    · exact ⟨none, none, none, none, [], rfl, upd_same, rfl, by rw [List.take_zero]; exact .nil, same_new (Same.refl H5) hd, hB5.new hd⟩
    · rintro i σ H' hi ⟨w9, w10, w11, w12, us, _, _, _, _, sm, _⟩
      exact sqt_more (m5.trans sm) (sqt_more (wo_sub H3 b) v3)
    · rintro i x σ H' hx ⟨w9, w10, w11, w12, us, rfl, g1, g2, g3, g4, g5⟩
      obtain ⟨c, hc, t', rfl, hq⟩ := paired_at v5 hx
      obtain ⟨c1, c2, c3, c4, c5⟩ := RR.each c (List.mem_of_getElem? hc)
      refine ⟨t', _, rfl, sqt_more (m5.trans g4) (sqt_more (wo_sub H3 b) hq), rfl, _, _, rfl, _, _, rfl, _, _, rfl, _, _, rfl, rfl, ?_⟩
      refine ⟨_, rfl, .inl ⟨rfl, _, SqL.of g1⟩, _, rfl, _, rfl, _, rfl, _, rfl, c.2.2.1, m, rfl, rfl, .inl ⟨by omega, by omega⟩, _, rfl, _, _, rfl, _, rfl, _, rfl, c.2.2.2, m, rfl, rfl, .inl ⟨by omega, by omega⟩, _, rfl, _, _, rfl, by show 4 ≤ sizeLine; decide, fun v hv => ?_⟩
      have nvb : v ≠ b := g5.ne hv
      have nvd : v ≠ d := fun z => by rw [z, g1] at hv; cases hv
      have hi' : i < rs.length := (List.getElem?_eq_some_iff.mp hc).1
      have rl : rs.length ≤ 24 := by
        have := RR.perm.length_eq
        rw [List.length_map] at this
        omega
      refine ⟨d, us, .ref v, rfl, rfl, s3u hv g1, small1000 (by omega), _, _, _, _, us ++ [.ref v], rfl, upd_same, by rw [List.length_append, g2]; rfl, ?_, ?_, ?_⟩
      · rw [List.take_succ, hc, List.map_append]
        refine paired_snoc ⟨v, rfl, nvb, by rw [upd_ne nvd, upd_same]⟩ (paired_imp (fun x c h => CarT.more (fun t' xs' n q => ?_) h) g3)
        rw [upd_ne (fun z => by rw [z, g1] at q; cases q)]
        exact s3u hv q
      · exact same_put (same_new g4 hv) hd
      · exact hB5.wr hd ((Sb.refl b H5).same (same_new g4 hv)) (g5.new hv)
    rintro σ H6 ⟨w9, w10, w11, w12, us, rfl, g1, g2, g3, g4, g5⟩
    rw [lz, List.take_length] at g3
    refine ⟨_, rfl, _, rfl, d, us, rfl, .inl ⟨SqL.of g1, fun u hu => ⟨by show 2 ≤ sizeLine; decide, fun z hz => ?_⟩⟩⟩
    have nub : u ≠ b := g5.ne hu
    have nzb : z ≠ b := (g5.new (o := .tup us) hu).ne hz
    have mE : Same H6 (upd (upd H6 u (.tup us)) z (.tup [.ref l, .ref u])) := same_new (same_new (Same.refl H6) hu) hz
    refine k (.ref z) (cs.map fun c => (c.1, c.2.1, c.2.2 * m)) (rs.map fun c => (c.1, c.2.1, (if 10 ^ 12 - 1 < c.2.2.1 * m then 10 ^ 12 - 1 else c.2.2.1 * m), (if 10 ^ 12 - 1 < c.2.2.2 * m then 10 ^ 12 - 1 else c.2.2.2 * m))) _
      ⟨ns, nm, N1, N2, N3, N4, ⟨by rw [List.length_map]; exact CC.len, ?_, fun c hc => ?_, ?_⟩, ⟨?_, ?_, fun c hc => ?_⟩⟩ ⟨z, l, u, ys, us, rfl, sqt_new upd_same nzb, sqt_new (mE _ _ (g4 _ _ e5)) nlb, sqt_new (s3u hz upd_same) nub, ?_, ?_⟩ ((g5.new hu).new hz) (s3.same ((m5.trans g4).trans mE))
    · rw [List.map_map]
      exact CC.nodup
    · obtain ⟨c', hc', rfl⟩ := List.mem_map.mp hc
      obtain ⟨c1, c2, c3, c4, c5⟩ := CC.each c' hc'
      refine ⟨c1, c2, c3, Int.mul_nonneg c4 (by omega), ?_⟩
      have := Int.mul_le_mul c5 a5 (by omega) (by decide)
      show c'.2.2 * m ≤ _
      omega
    · rw [List.map_map]
      exact CC.srt
    · rw [List.map_map]
      exact RR.srt
    · rw [List.map_map]
      exact RR.perm
    · obtain ⟨c', hc', rfl⟩ := List.mem_map.mp hc
      obtain ⟨c1, c2, c3, c4, c5⟩ := RR.each c' hc'
      have h1 : c'.2.2.1 * 1 ≤ c'.2.2.1 * m := Int.mul_le_mul_of_nonneg_left a4 (by omega)
      have h2 : 0 ≤ c'.2.2.2 * m := Int.mul_nonneg c4 (by omega)
      obtain ⟨z1, _, z3⟩ := min_ok (v := c'.2.2.1 * m) (by omega)
      obtain ⟨_, z5, z6⟩ := min_ok (v := c'.2.2.2 * m) h2
      exact ⟨c1, z1 (by omega), Int.le_of_lt z3, z5, z6⟩
    · refine paired_imp (fun x c h => ?_) p5
      obtain ⟨t', e, n, q⟩ := h
      exact ⟨t', e, sqt_new (mE _ _ (g4 _ _ q)) n⟩
    · refine paired_imp (fun x c h => ?_) g3
      obtain ⟨t', e, n, q⟩ := h
      exact ⟨t', e, sqt_new (mE _ _ q) n⟩
end
end Y

/-! NsU: d.update(e), two dicts; the values and the items of a dict. -/
namespace Ns
open PySem PySem.Spec PyProof.Rows L2
open L2.DX (itemsO itemsO_ok takeT)
theorem mergeK_len : ∀ (more kvs : List (Key × V)), (mergeK kvs more).length ≤ kvs.length + more.length
  | [], kvs => Nat.le_refl _
  | p :: more, kvs => by
    have h1 := mergeK_len more (putK kvs p.1 p.2)
    have h2 := length_putK kvs p.1 p.2
    show (mergeK (putK kvs p.1 p.2) more).length ≤ _
    rw [List.length_cons]
    omega
section
variable {X : Cx}
def rDUpd : V → List V → Hp → VK → Prop := fun x xs H Q => ∃ (a b : Addr) (kvs more : List (Key × V)), x = .ref a ∧ xs = [.ref b] ∧ a ≠ b ∧ H a = some (.dK kvs) ∧ H b = some (.dK more) ∧ kvs.length + more.length ≤ sizeLine ∧ Q .non (upd H a (.dK (mergeK kvs more)))
theorem mt_dupd : MtR X "dict.update" rDUpd := by
  intro pins s σ H x xs v us Q I rx rxs h
  obtain ⟨a, b, kvs, more, rfl, rfl, hab, ha, hb, hz, q⟩ := h
  cases rx
  obtain ⟨u, rfl, ru⟩ := vals1 rxs
  cases ru
  obtain ⟨_, da, va, ka, oa⟩ := dk_of I.hok ha
  obtain ⟨_, db, vb, kb, ob⟩ := dk_of I.hok hb
  have lens : va.length + vb.length ≤ sizeLine := by rw [← ka.length, ← kb.length]; exact hz
  refine call_meetsIn PySem.F.slot_dict_update oa.typeIs PySem.F.entry_dict_update (PySem.F.args_dict_update_2 _ _) (meets_dict_update (mixKind X.prog X.w) a b hab db) ⟨va, vb, oa, ob, lens, fun h' m1 _ sb => ?_⟩
  have there : ∃ q, h'.get? a = some q := by
    obtain ⟨q, _, _, hq, _⟩ := m1
    exact ⟨q, hq⟩
  exact ⟨.non, _, d_write (t' := s.toks) I (by rw [ha]; trivial) sb there (dk_new (Nat.le_trans (mergeK_len more kvs) hz) da (KV.merge kb ka) m1), rfl, q⟩
/-- the view d.values() at p -/
def valsO (p d : Addr) : HO := .ext fun h => h.IsValuesView p d
theorem valsO_ok {P : Program} {w : World} {H : Hp} {h : Heap} {p d : Addr} (e : h.get? p = some { cls := .type "dict_values", data := .fields #[.ref d] }) : ObjOk P w H h p (valsO p d) :=
  ⟨⟨_, e, rfl, rfl⟩, ⟨_, e⟩, fun h1 h2 x k => by
    obtain ⟨o, ho, r⟩ := x
    exact ⟨o, k o ho, r⟩⟩
def rItemsK : V → List V → Hp → VK → Prop := fun x xs H Q => ∃ (a : Addr) (kvs : List (Key × V)), x = .ref a ∧ xs = [] ∧ H a = some (.dK kvs) ∧ ∀ p, H p = none → Q (.ref p) (upd H p (itemsO p a))
def rValsK : V → List V → Hp → VK → Prop := fun x xs H Q => ∃ (a : Addr) (kvs : List (Key × V)), x = .ref a ∧ xs = [] ∧ H a = some (.dK kvs) ∧ ∀ p, H p = none → Q (.ref p) (upd H p (valsO p a))
theorem mt_itemsK : MtR X "dict.items" rItemsK := by
  intro pins s σ H x xs v us Q I rx rxs h
  obtain ⟨a, kvs, rfl, rfl, ha, q⟩ := h
  cases rx
  cases rxs
  obtain ⟨_, da, va, ka, oa⟩ := dk_of I.hok ha
  refine call_meetsIn PySem.F.slot_dict_items oa.typeIs PySem.F.entry_dict_items (PySem.F.args_dict_items_1 _) (meets_dict_items (mixKind X.prog X.w) a da) ⟨⟨va, oa⟩, ?_⟩
  exact ⟨.ref s.heap.objs.size, upd H s.heap.objs.size (itemsO s.heap.objs.size a), I.laid (t' := s.toks) (fun b u e => Heap.get?_push_of_some _ e) (Nat.le_refl _) (itemsO_ok (Heap.get?_push_size _ rfl)), rfl, q _ (I.hok.fresh (Nat.le_refl _))⟩
theorem mt_valsK : MtR X "dict.values" rValsK := by
  intro pins s σ H x xs v us Q I rx rxs h
  obtain ⟨a, kvs, rfl, rfl, ha, q⟩ := h
  cases rx
  cases rxs
  obtain ⟨_, da, va, ka, oa⟩ := dk_of I.hok ha
  refine call_meetsIn PySem.F.slot_dict_values oa.typeIs PySem.F.entry_dict_values (PySem.F.args_dict_values_1 _) (meets_dict_values (mixKind X.prog X.w) a da) ⟨⟨va, oa⟩, ?_⟩
  exact ⟨.ref s.heap.objs.size, upd H s.heap.objs.size (valsO s.heap.objs.size a), I.laid (t' := s.toks) (fun b u e => Heap.get?_push_of_some _ e) (Nat.le_refl _) (valsO_ok (Heap.get?_push_size _ rfl)), rfl, q _ (I.hok.fresh (Nat.le_refl _))⟩
/-- sum(d.values()), whole numbers -/
def rSumVals : List V → Hp → VK → Prop := fun xs H Q => ∃ (p a : Addr) (kvs : List (Key × V)) (ns : List Int), xs = [.ref p] ∧ H p = some (valsO p a) ∧ H a = some (.dK kvs) ∧ kvs.map (·.2) = ns.map V.int ∧ Q (.int ns.sum) H
theorem preSum_eq : ∀ ns : List Int, preSum (fun i => ns.getD i 0) ns.length = ns.sum
  | [] => rfl
  | n :: ns => by
    rw [List.length_cons, PySem.W.kdu_shift]
    have ih := preSum_eq ns
    show n + preSum (fun i => ns.getD i 0) ns.length = _
    rw [ih, List.sum_cons]
theorem vals_num {ns : List Int} : ∀ {us : List Value}, Vals (ns.map V.int) us → ∀ (j : Nat) (u : Value), us[j]? = some u → ∃ t, u = .int (ns.getD j 0) t := by
  induction ns with
  | nil => intro us r j u h; cases r; cases h
  | cons n ns ih =>
    intro us r j u h
    cases r with
    | cons a b =>
      cases j with
      | zero =>
        cases h
        exact a
      | succ j => exact ih b j u h
theorem call_sumVals (hc : X.calm = true) : CallR X (.builtin "sum") rSumVals := by
  intro pins s σ H xs us Q I r h
  obtain ⟨p, a, kvs, ns, rfl, hp, ha, hn, q⟩ := h
  obtain rfl := Vals.ref1 r
  have view : s.heap.IsValuesView p a := (show ObjOk X.prog X.w H s.heap p (valsO p a) from I.hok p _ hp).1
  obtain ⟨_, da, va, ka, oa⟩ := dk_of I.hok ha
  obtain ⟨ep, hat⟩ := oa.dictAt
  have src := PySem.W.kdl_values (prog := X.prog) (w := X.w) (knd := mixKind X.prog X.w) (kvs := va) (ep := ep) (r := p) (d := a)
  have ok : s.heap.IsValuesView p a ∧ s.heap.DictAt (mixKind X.prog X.w) a va ep := ⟨view, hat⟩
  have nums := kv_vals ka
  rw [hn] at nums
  have ln : va.length = ns.length := by
    have := nums.length
    rw [List.length_map, List.length_map] at this
    exact this.symm
  refine call_sum_walkAnyS ?_
  obtain ⟨ob, St, step, W, st⟩ := src.iter X.A.in1 s (I.ok.hd hc) ok
  refine step _ _ ⟨s.heap.objs.size, _, _, _, va.length, _, _, fun i => ns.getD i 0, rfl, W.toS, st, fun b hb => ?_, fun i v hv => ?_, fun s' t' hm => ?_⟩
  · have there := src.there _ ok
    have up : s.heap.objs.size < (s.heap.push ob).objs.size := by rw [size_push']; omega
    rcases List.mem_cons.mp hb with e | e
    · rw [e]; exact up
    · rw [List.mem_singleton.mp e]
      exact Nat.lt_trans there.2 up
  · obtain ⟨k, hk⟩ := hv
    exact vals_num nums i v (by rw [List.getElem?_map, hk]; rfl)
  · have kept : ∀ b o, s.heap.get? b = some o → s'.heap.get? b = some o := fun b o e => by
      refine hm.heap b o (fun z => ?_) (Heap.get?_push_of_some _ e)
      have := Heap.lt_size e
      rw [List.mem_singleton.mp z] at this
      exact Nat.lt_irrefl _ this
    rw [Moved.eq_with hm, ln, preSum_eq]
    exact ⟨.int ns.sum, H, I.kept kept, ⟨_, rfl⟩, q⟩
/-- list(d.items()): new pairs -/
def rListItems : List V → Hp → VK → Prop := fun xs H Q => ∃ (p a : Addr) (kvs : List (Key × V)), xs = [.ref p] ∧ H p = some (itemsO p a) ∧ H a = some (.dK kvs) ∧
  ∀ (l : Addr) (ts : List Addr) (H' : Hp), H l = none → Same H H' → H' l = some (.lst (ts.map V.ref)) → Paired (fun (t : Addr) (kv : Key × V) => H' t = some (.tup [kV kv.1, kv.2]) ∧ H t = none) ts kvs → Q (.ref l) H'
theorem key_rel {P : Program} {w : World} {k : Key} {u : Value} (h : (mixKind P w).is k u = true) : RelV (kV k) u := by
  rcases keyIs_shape (show keyIs k u = true from h) with ⟨i, t, rfl, rfl⟩ | ⟨x, t, rfl, rfl⟩
  · exact ⟨t, rfl⟩
  · exact ⟨t, rfl⟩
theorem kv_at : ∀ {ks : List (Key × V)} {vs : List (Key × Value)}, KV ks vs → ∀ {j : Nat} {k : Key} {x : Value}, vs[j]? = some (k, x) → ∃ v, ks[j]? = some (k, v) ∧ RelV v x
  | _, _, .cons (a := a) h t, 0, k, x, e => by
    cases e
    obtain ⟨h1, h2⟩ := h
    have h1' : a.1 = k := h1
    exact ⟨a.2, by rw [← h1']; rfl, h2⟩
  | _, _, .cons h t, j + 1, k, x, e => kv_at t e
theorem pair_rows {R : Addr → Key × V → Prop} : ∀ {ts : List Addr} {kvs : List (Key × V)}, ts.length = kvs.length → (∀ (j : Nat) (t : Addr) (kv : Key × V), ts[j]? = some t → kvs[j]? = some kv → R t kv) → Paired R ts kvs
  | [], [], _, _ => .nil
  | t :: ts, kv :: kvs, hl, h => .cons (h 0 t kv rfl rfl) (pair_rows (Nat.succ.inj hl) fun j a b h1 h2 => h (j + 1) a b h1 h2)
theorem call_listItems (hc : X.calm = true) : CallR X (.type "list") rListItems := by
  intro pins s σ H xs us Q I r h
  obtain ⟨p, a, kvs, rfl, hp, ha, q⟩ := h
  obtain rfl := Vals.ref1 r
  have view : s.heap.IsItemsView p a := (show ObjOk X.prog X.w H s.heap p (itemsO p a) from I.hok p _ hp).1
  obtain ⟨hz, da, va, ka, oa⟩ := dk_of I.hok ha
  obtain ⟨ep, hat⟩ := oa.dictAt
  have lv : kvs.length = va.length := ka.length
  refine PySem.W.kdx_call (I.ok.hd hc) view hat (by rw [← lv]; exact hz) fun h' tk acc c ts kept hS hl hG hacc => ?_
  have nd : ts.Nodup := List.Pairwise.imp (fun h => Nat.ne_of_lt h) hG.rise
  have fr : H s.heap.objs.size = none := I.hok.fresh (Nat.le_refl _)
  have lz : (ts.map V.ref).length ≤ sizeLine := by rw [List.length_map, hl, ← lv]; exact hz
  have I1 : Inv X pins σ (upd H s.heap.objs.size (.lst (ts.map V.ref))) { s with heap := h', toks := tk } :=
    I.laid (t' := tk) kept (Nat.le_refl _) ⟨lz, acc.toList, c, by rw [hacc]; exact vals_refs ts, by rw [Array.toArray_toList]; exact hS⟩
  have made : ∀ (j : Nat) (t : Addr), ts[j]? = some t → ∃ (k : Key) (v : V), kvs[j]? = some (k, v) ∧ ∀ H2, ObjOk X.prog X.w H2 h' t (.tup [kV k, v]) := fun j t ht => by
    obtain ⟨key, k, x, e1, e2, e3⟩ := hG.pairs j t ht
    obtain ⟨v, e4, rv⟩ := kv_at ka e1
    exact ⟨k, v, e4, fun H2 => ⟨(by rw [sizeLine_eq]; show 2 ≤ 16777216; omega), [key, x], .cons (key_rel e2) (.cons rv .nil), ⟨_, e3, rfl, 0, rfl⟩⟩⟩
  obtain ⟨H2, I3, g, qt⟩ := takeT (P := fun t vs => ∃ (j : Nat) (k : Key) (v : V), ts[j]? = some t ∧ kvs[j]? = some (k, v) ∧ vs = [kV k, v]) I ts _ I1 nd fun t ht => by
    obtain ⟨j, hj⟩ := List.mem_iff_getElem?.mp ht
    obtain ⟨k, v, e1, e2⟩ := made j t hj
    have above := hG.above t ht
    exact ⟨Nat.le_of_lt above, by rw [upd_ne (Nat.ne_of_gt above)]; exact I.hok.fresh (Nat.le_of_lt above), [kV k, v], ⟨j, k, v, hj, e1, rfl⟩, e2⟩
  refine ⟨.ref s.heap.objs.size, H2, I3, rfl, q _ ts H2 fr (fun b o e => g b o (by rw [upd_ne (ne_of_none e fr)]; exact e)) (g _ _ upd_same) (pair_rows (by rw [hl, lv]) fun j t kv h1 h2 => ?_)⟩
  obtain ⟨vs, ⟨i, k, v, e1, e2, rfl⟩, e3⟩ := qt t (List.mem_of_getElem? h1)
  have ij : i = j := (List.getElem?_inj (List.getElem?_eq_some_iff.mp e1).1 nd).mp (e1.trans h1.symm)
  rw [ij, h2] at e2
  cases e2
  exact ⟨e3, I.hok.fresh (Nat.le_of_lt (hG.above t (List.mem_of_getElem? h1)))⟩
end
end Ns

namespace Y
open PySem PySem.Spec PyProof.Rows L2 Ns
open C8 (pss_cut)
/-- a dict of texts to 1 -/
def kv1 (l : List Str) : List (Key × V) := l.map fun s => ((Sum.inr s : Key), V.int 1)
def ins (l : List Str) (s : Str) : List Str := if s ∈ l then l else l ++ [s]
theorem kv1_any (s : Str) : ∀ l : List Str, ((kv1 l).any fun kv => decide (kv.1 = Sum.inr s)) = decide (s ∈ l)
  | [] => by simp [kv1]
  | t :: l => by
    have ih := kv1_any s l
    unfold kv1 at ih ⊢
    rw [List.map_cons, List.any_cons, ih]
    by_cases e : t = s
    · simp [e]
    · have e2 : ¬ s = t := fun z => e z.symm
      simp [e, e2]
theorem kv1_put (l : List Str) (s : Str) : putK (kv1 l) (Sum.inr s) (.int 1) = kv1 (ins l s) := by
  unfold putK ins
  rw [kv1_any]
  by_cases h : s ∈ l
  · rw [if_pos (decide_eq_true h), if_pos h]
    unfold kv1
    rw [List.map_map]
    apply List.map_congr_left
    intro t _
    by_cases e : t = s
    · simp [e]
    · simp [e]
  · rw [if_neg (by simp [h]), if_neg h]
    unfold kv1
    rw [List.map_append]
    rfl
theorem kv1_merge : ∀ (m l : List Str), mergeK (kv1 l) (kv1 m) = kv1 (m.foldl ins l)
  | [], _ => rfl
  | s :: m, l => by
    show mergeK (putK (kv1 l) (Sum.inr s) (.int 1)) (kv1 m) = _
    rw [kv1_put, kv1_merge m]
    rfl
theorem mem_ins {l : List Str} {s t : Str} : t ∈ ins l s ↔ t ∈ l ∨ t = s := by
  unfold ins
  by_cases h : s ∈ l
  · rw [if_pos h]
    exact ⟨.inl, fun z => z.elim id fun e => e ▸ h⟩
  · rw [if_neg h, List.mem_append, List.mem_singleton]
theorem nodup_ins {l : List Str} (h : l.Nodup) (s : Str) : (ins l s).Nodup := by
  unfold ins
  by_cases c : s ∈ l
  · rw [if_pos c]; exact h
  · rw [if_neg c, List.nodup_append]
    refine ⟨h, List.nodup_cons.mpr ⟨(fun z => nomatch z), List.nodup_nil⟩, fun y hy z hz => ?_⟩
    rw [List.mem_singleton.mp hz]
    rintro rfl
    exact c hy
theorem mem_inss {t : Str} : ∀ {m l : List Str}, t ∈ m.foldl ins l ↔ t ∈ l ∨ t ∈ m
  | [], l => by simp
  | s :: m, l => by
    rw [List.foldl_cons, mem_inss, mem_ins, List.mem_cons, or_assoc]
theorem nodup_inss : ∀ {m l : List Str}, l.Nodup → (m.foldl ins l).Nodup
  | [], _, h => h
  | s :: m, l, h => nodup_inss (m := m) (nodup_ins h s)
/-- the knots of a yard -/
def KnIn (cs : List Cab) (rs : List Car) (s : Str) : Prop := (∃ c ∈ cs, s = c.1 ∨ s = c.2.1) ∨ ∃ r ∈ rs, s = r.2.1
theorem knIn_feed {most : Int} {cs : List Cab} {rs : List Car} (h : YardF most cs rs) : ∃ ns : List Str, ns.length ≤ 8 ∧ (∀ x ∈ ns, Nm x) ∧ ∀ s, KnIn cs rs s → s ∈ feed :: ns := by
  obtain ⟨ns, nm, N1, N2, N3, N4, C, R⟩ := h.ex
  refine ⟨ns, N2, N1.nm, fun s hs => ?_⟩
  rcases hs with ⟨c, hc, e | e⟩ | ⟨r, hr, e⟩
  · rw [e]; exact (C.each c hc).2.1
  · rw [e]; exact List.mem_cons_of_mem _ (C.each c hc).2.2.1
  · rw [e]; exact (R.each r hr).1
/-- what the knots' list is: the ascending list without feed -/
def spKnots (K : PySem.W.Frag) : Sp := fun as H Q _ => ∃ (y : V) (cs : List Cab) (rs : List Car) (most : Int), as = [y] ∧ YardV K H y cs rs ∧ YardF most cs rs ∧
  ∀ (p : Addr) (ks : List Str) (H' : Hp), ks.Nodup → (∀ s, s ∈ ks ↔ KnIn cs rs s ∧ s ≠ feed) → H' p = some (.lst (txs ks)) → H p = none → Same H H' → Q (.ref p) H'
section
variable {P : Program} {w : World} {K : PySem.W.Frag} {mg : Str → Option Value} {base : Heap}
end
end Y

namespace Y
open PySem PySem.Spec PyProof.Rows L2 Ns
open C8 (pss_cut)
open L2.DX (itemsO)
theorem perm_map {α β : Type} {f : α → β} {ys ws : List β} (h : ys.Perm ws) : ∀ {xs : List α}, ws = xs.map f → ∃ zs : List α, zs.Perm xs ∧ ys = zs.map f := by
  induction h with
  | nil =>
    intro xs e
    have : xs = [] := List.map_eq_nil_iff.mp e.symm
    exact ⟨[], by rw [this], rfl⟩
  | @cons x l1 l2 _ ih =>
    intro xs e
    cases xs with
    | nil => cases e
    | cons a xs =>
      injection e with e1 e2
      obtain ⟨zs, p, e3⟩ := ih e2
      exact ⟨a :: zs, p.cons a, by rw [e1, e3]; rfl⟩
  | swap x y l =>
    intro xs e
    match xs, e with
    | a :: b :: xs, e =>
      injection e with e1 e2
      injection e2 with e2 e3
      exact ⟨b :: a :: xs, List.Perm.swap a b xs, by rw [e1, e2, e3]; rfl⟩
  | trans _ _ ih1 ih2 =>
    intro xs e
    obtain ⟨zs, p, e2⟩ := ih2 e
    obtain ⟨us, p2, e3⟩ := ih1 e2
    exact ⟨us, p2.trans p, e3⟩
/-- a dict of numbers by texts -/
def kvI (l : List (Str × Int)) : List (Key × V) := l.map fun p => ((Sum.inr p.1 : Key), V.int p.2)
theorem kvI_get {l : List (Str × Int)} (n : (l.map (·.1)).Nodup) {x : Str} {v : Int} (h : (x, v) ∈ l) : valV (kvI l) (Sum.inr x) = some (.int v) := by
  induction l with
  | nil => cases h
  | cons f l ih =>
    rw [List.map_cons, List.nodup_cons] at n
    show valV (((Sum.inr f.1 : Key), V.int f.2) :: kvI l) (Sum.inr x) = _
    rcases List.mem_cons.mp h with e | e
    · rw [← e]
      exact valV_pos rfl
    · rw [valV_neg (fun z => n.1 ?_)]
      · exact ih n.2 e
      · injection z with z
        rw [z]
        exact List.mem_map.mpr ⟨(x, v), e, rfl⟩
theorem kvI_none {l : List (Str × Int)} {x : Str} (h : x ∉ l.map (·.1)) : valV (kvI l) (Sum.inr x) = none := by
  induction l with
  | nil => rfl
  | cons f l ih =>
    rw [List.map_cons, List.mem_cons, not_or] at h
    show valV (((Sum.inr f.1 : Key), V.int f.2) :: kvI l) (Sum.inr x) = none
    rw [valV_neg (fun z => h.1 ?_)]
    · exact ih h.2
    · injection z with z
      exact z.symm
theorem kvI_merge : ∀ (m l : List (Str × Int)), ((l ++ m).map (·.1)).Nodup → mergeK (kvI l) (kvI m) = kvI (l ++ m)
  | [], l, _ => by rw [List.append_nil]; rfl
  | p :: m, l, h => by
    have e : l ++ p :: m = (l ++ [p]) ++ m := by rw [List.append_assoc]; rfl
    have np : p.1 ∉ l.map (·.1) := fun z => by
      rw [List.map_append, List.nodup_append] at h
      exact h.2.2 _ z _ (List.mem_map.mpr ⟨p, List.mem_cons_self, rfl⟩) rfl
    show mergeK (putK (kvI l) (Sum.inr p.1) (.int p.2)) (kvI m) = _
    rw [putK_new _ (kvI_none np), e]
    have e2 : kvI l ++ [((Sum.inr p.1 : Key), V.int p.2)] = kvI (l ++ [p]) := by
      unfold kvI
      rw [List.map_append]
      rfl
    rw [e2]
    exact kvI_merge m (l ++ [p]) (by rw [← e]; exact h)
theorem kvI_made {l : List (Str × Int)} (h : (l.map (·.1)).Nodup) : mergeK [] (kvI l) = kvI l := kvI_merge l [] h
/-- the tuple of the cars' names -/
def spNamesOf (K : PySem.W.Frag) : Sp := fun as H Q _ => ∃ (y : V) (cs : List Cab) (rs : List Car), as = [y] ∧ YardV K H y cs rs ∧ rs.length ≤ 1000 ∧
  ∀ (p : Addr) (H' : Hp), H' p = some (.tup (txs (rs.map (·.1)))) → H p = none → Same H H' → Q (.ref p) H'
def spALot (K : PySem.W.Frag) : Sp := fun as H Q _ => ∃ (b a : Addr) (ts : List Str), as = [.ref b, .ref a] ∧ Bag H b ∧ SqL K (wo H b) a (txs ts) ∧ ts.length ≤ 60 ∧ ts.Nodup ∧
  ∀ (p : Addr) (ls : List Str) (H' : Hp), sortedS ls = true → ls.Nodup → (∀ x ∈ ls, x ∈ ts) → H' p = some (.tup (txs ls)) → H p = none → p ≠ b → Bag H' b → Sb b H H' → Q (.ref p) H'
def spTurned : Sp := fun as H Q _ => ∃ (b a : Addr) (l : List (Str × Int)), as = [.ref b, .ref a] ∧ Bag H b ∧ H a = some (.dK (kvI l)) ∧ (l.map (·.1)).Nodup ∧ l.length ≤ 1000 ∧
  ∀ (p : Addr) (l' : List (Str × Int)) (H' : Hp), l'.Perm l → H' p = some (.dK (kvI l')) → H p = none → p ≠ b → Bag H' b → Sb b H H' → Q (.ref p) H'
section
variable {P : Program} {w : World} {K : PySem.W.Frag} {mg : Str → Option Value} {base : Heap}
theorem scallCars : FnScope ["yard", "car"] ["yard"] (defScope sAllCars) := ⟨rfl, rfl, rfl, by decide +kernel, rfl, by decide +kernel, by decide +kernel⟩
theorem ok_allCars {f : Addr} {fd : FuncData} (F : Fun K "_law_all_cars" "_law_all_cars" sAllCars f fd) (T : Nat0 mg) : FnOk P w K mg base CX0 1 f fd ["yard"] (spNamesOf K) := by
  refine F.ok scallCars (fun as H Q E h => ?_) (fun cdv A outer s H as Q E hr h => ?_)
  · obtain ⟨y, cs, rs, rfl, _⟩ := h
    rfl
  · obtain ⟨y, cs, rs, rfl, hV, hl, k⟩ := h
    refine ⟨_, pss_one (ps_ret (pe_callTy call_tuple_of (by rfl) T.tuple (by decide +kernel) (pa_cons
      (pe_lc (own := [("car", 1)]) (g := gName 1) (tt := tYes) (te := tOp (rIxT K) (tVar 1) (tC (V.int 0))) rfl scallCars.nd (pi_tup (pe_ix ix_tup (pv 0) pe_int (fun _ _ => rfl))) (blkOk_by (N := ["yard", "car"]) (sc := defScope sAllCars) (by decide +kernel)) (fun _ _ _ _ _ => pg_name (i := 1) scallCars.nd rfl (Or.inl rfl)) (fun _ _ _ _ _ => pts_nil)
        (fun _ _ _ _ _ => by exact pe_ix ix_tup (pv 1) pe_int (fun _ _ => rfl))) pa_nil))), ?_⟩
    obtain ⟨ty, ya, yb, xs, zs, rfl, v1, v2, v3, v4, v5⟩ := hV
    have lz : zs.length = rs.length := paired_len v5
    refine ⟨_, rfl, ty, _, 1, .ref yb, rfl, rfl, v1, at1, yb, rfl, ⟨_, v3⟩, fun D hD => ?_⟩
    refine lc_tup (K := K) (a := yb) (xs := zs) (fun i H' => H' D = some (.lst (txs ((rs.take i).map (·.1)))) ∧ Same H H') ?_ ?_ ?_ ?_
    · exact ⟨by rw [List.take_zero, upd_same]; rfl, same_new (Same.refl H) hD⟩
    · rintro i H' hi ⟨_, sm⟩
      exact sqt_more sm v3
    · rintro i x H' hx ⟨g1, g2⟩
      obtain ⟨c, hc, t', rfl, hq⟩ := paired_at v5 hx
      have hi' : i < rs.length := (List.getElem?_eq_some_iff.mp hc).1
      refine ⟨rfl, _, rfl, t', _, 0, _, rfl, rfl, sqt_more g2 hq, at0, _, g1, ?_, ?_, same_put g2 hD⟩
      · unfold txs
        rw [List.length_map, List.length_map, List.length_take]
        exact small1000 (by omega)
      · rw [upd_same, List.take_succ, hc]
        unfold txs
        simp
    · rintro H' ⟨g1, g2⟩
      rw [lz, List.take_length] at g1
      refine ⟨D, _, rfl, .inl ⟨SqL.of g1, fun l hl => ?_⟩⟩
      refine k l _ upd_same ?_ (same_new g2 hl)
      cases e : H l with
      | none => rfl
      | some o => rw [g2 _ _ e] at hl; cases hl
theorem scAL : FnScope ["bag", "things"] ["bag", "things"] (defScope sALot) := ⟨rfl, rfl, rfl, by decide +kernel, rfl, by decide +kernel, by decide +kernel⟩
theorem ok_aLot {f fT fM : Addr} {fd fdT fdM : FuncData} (F : Fun K "_law_a_lot" "_law_a_lot" sALot f fd) (T : Nat0 mg) (FT : Fun K "_law_take" "_law_take" sTake fT fdT) (mT : mg "_law_take" = some (.ref fT)) (bT : Binds K fdT ["bag", "many"] [])
    (FM : Fun K "_law_mixed" "_law_mixed" sMixed fM fdM) (mM : mg "_law_mixed" = some (.ref fM)) (bM : Binds K fdM ["bag", "things"] []) : FnOk P w K mg base CX0 3 f fd ["bag", "things"] (spALot K) := by
  have GT : FnOk P w K mg base CX0 1 fT fdT ["bag", "many"] spTake := ok_take FT T
  have GM : FnOk P w K mg base CX0 2 fM fdM ["bag", "things"] (spMixed K) := ok_mixed FM T FT mT bT
  refine F.ok scAL (fun as H Q E h => ?_) (fun cdv A outer s H as Q E hr h => ?_)
  · obtain ⟨b, a, ts, rfl, _⟩ := h
    rfl
  · obtain ⟨b, a, ts, rfl, hB, hS, hl, hn, k⟩ := h
    have hr1 : Room 1 _ := hr.mono (by decide)
    refine ⟨_, pss_one (ps_ret (pe_callTy call_tuple_of (by rfl) T.tuple (by decide +kernel) (pa_cons (pe_callB cr_sortedS (by rfl) T.sorted (by decide +kernel) (pa_cons
      (pe_slice sl_list (pe_call GM hr rfl mM FM.kp bM .nil pass0 (pa_cons (pv 0) (pa_cons (pv 1) pa_nil))) po_none
        (po_some (pe_call GT hr1 rfl mT FT.kp bT .nil pass0 (pa_cons (pv 0) (pa_cons (pe_op op_add (pe_callB call_len_seq (by rfl) T.len PySem.boot_len (pa_cons (pv 1) pa_nil)) pe_int) pa_nil))))) pa_nil)) pa_nil))), ?_⟩
    have tl : (txs ts).length = ts.length := List.length_map _
    refine ⟨_, rfl, _, rfl, b, a, _, rfl, hB, hS, by omega, fun p ys H1 pm e1 f1 n1 hB1 s1 => ?_⟩
    obtain ⟨us, pu, rfl⟩ := perm_map (f := V.str) pm rfl
    refine ⟨_, rfl, _, rfl, a, _, rfl, .inl ((wo_sub H1 b).seq (s1.sl hS)), ((txs ts).length : Int), 1, rfl, rfl, b, _, rfl, hB1, by omega, Nat.lt_of_le_of_lt (show ((((txs ts).length : Nat) : Int) + 1).natAbs ≤ 100 by omega) (by decide +kernel), fun v H2 v0 v1 hB2 s2 => ?_⟩
    obtain ⟨m, rfl⟩ : ∃ m : Nat, v = m := ⟨v.toNat, by omega⟩
    refine ⟨_, rfl, p, _, rfl, SqL.of (s2.get e1 n1), fun q hq => ?_⟩
    rw [cut_upto]
    have et : (us.map V.str).take m = (us.take m).map V.str := by rw [List.map_take]
    rw [et]
    have ul : (us.take m).length ≤ 60 := by
      rw [List.length_take, pu.length_eq]
      omega
    refine ⟨q, us.take m, rfl, SqL.of upd_same, by omega, fun zs u pz srt hu => ?_⟩
    have fq := hB2.new (o := .lst ((us.take m).map V.str)) hq
    have gq := ((s1.trans s2).new (o := .lst ((us.take m).map V.str)) hq)
    have fu := fq.new (o := .lst (zs.map V.str)) hu
    have gu := gq.new (o := .lst (zs.map V.str)) hu
    refine ⟨u, zs.map V.str, rfl, .inl ⟨SqL.of upd_same, fun l hl => ?_⟩⟩
    have nlb : l ≠ b := fu.ne hl
    exact k l zs _ srt (pz.nodup_iff.mpr ((pu.nodup_iff.mpr hn).sublist (List.take_sublist m us))) (fun x hx => pu.mem_iff.mp (List.mem_of_mem_take (pz.mem_iff.mp hx))) upd_same (gu.free hl nlb) nlb (fu.new hl) (gu.new hl)
theorem scTK : FnScope ["bag", "thing"] ["bag", "thing"] (defScope sTurned) := ⟨rfl, rfl, rfl, by decide +kernel, rfl, by decide +kernel, by decide +kernel⟩
theorem ok_turned {f fT fM : Addr} {fd fdT fdM : FuncData} (F : Fun K "_law_turned_keys" "_law_turned_keys" sTurned f fd) (T : Nat0 mg) (FT : Fun K "_law_take" "_law_take" sTake fT fdT) (mT : mg "_law_take" = some (.ref fT)) (bT : Binds K fdT ["bag", "many"] [])
    (FM : Fun K "_law_mixed" "_law_mixed" sMixed fM fdM) (mM : mg "_law_mixed" = some (.ref fM)) (bM : Binds K fdM ["bag", "things"] []) : FnOk P w K mg base CX0 3 f fd ["bag", "thing"] spTurned := by
  have GM : FnOk P w K mg base CX0 2 fM fdM ["bag", "things"] (spMixed K) := ok_mixed FM T FT mT bT
  refine F.ok scTK (fun as H Q E h => ?_) (fun cdv A outer s H as Q E hr h => ?_)
  · obtain ⟨b, a, l, rfl, _⟩ := h
    rfl
  · obtain ⟨b, a, l, rfl, hB, hA, hn, hl, k⟩ := h
    refine ⟨_, pss_one (ps_ret (pe_callTy (call_dictP rfl) (by rfl) T.dict (by decide +kernel) (pa_cons (pe_call GM hr rfl mM FM.kp bM .nil pass0 (pa_cons (pv 0) (pa_cons (pe_callTy (call_listItems rfl) (by rfl) T.list_ (by decide +kernel)
      (pa_cons (pe_bm0 PySem.F.plainAttrs_dict PySem.F.slot_dict_items PySem.F.type_dict_items mt_itemsK (pv 1)) pa_nil)) pa_nil))) pa_nil))), ?_⟩
    refine ⟨_, rfl, _, rfl, .inr (.inr (.inl ⟨rfl, .inl ⟨_, hA⟩⟩)), a, _, rfl, rfl, hA, fun p hp => ?_⟩
    have hBp := hB.new (o := itemsO p a) hp
    have sp := (Sb.refl b H).new (o := itemsO p a) hp
    refine ⟨p, a, _, rfl, upd_same, s3u hp hA, fun q ts H1 fq m1 e1 pr => ?_⟩
    have s1 := sp.same m1
    have hB1 := hBp.keep m1
    have nqb : q ≠ b := hBp.ne fq
    have lt : ts.length = l.length := by
      rw [paired_len pr]
      exact List.length_map _
    refine ⟨b, q, _, rfl, hB1, sql_new e1 nqb, by rw [List.length_map, lt]; exact hl, fun u ys H2 pm e2 f2 n2 hB2 s2 => ?_⟩
    obtain ⟨zs, pz, rfl⟩ := perm_map (f := fun z : Addr × Str × Int => V.ref z.1) pm (xs := ts.zip l) (by rw [show (fun z : Addr × Str × Int => V.ref z.1) = V.ref ∘ (fun z => z.1) from rfl, ← List.map_map, List.map_fst_zip (by omega)])
    have ndz : ((zs.map (·.2)).map (·.1)).Nodup := ((pz.map (·.2)).map (·.1)).nodup_iff.mpr (by rw [List.map_snd_zip (by omega)]; exact hn)
    have pl : (zs.map (·.2)).Perm l := by
      have := pz.map (·.2)
      rw [List.map_snd_zip (by omega)] at this
      exact this
    have pz2 : ∀ z ∈ zs, H2 z.1 = some (.tup [.str z.2.1, .int z.2.2]) := fun z hz => by
      obtain ⟨j, hj⟩ := List.mem_iff_getElem?.mp (pz.mem_iff.mp hz)
      obtain ⟨j1, j2⟩ := List.getElem?_zip_eq_some.mp hj
      obtain ⟨kv, h1, h2, h3⟩ := paired_at pr j1
      unfold kvI at h1
      rw [List.getElem?_map, j2] at h1
      cases h1
      exact s2.get h2 (hBp.ne h3)
    have e2' : H2 u = some (.lst ((zs.map (·.1)).map V.ref)) := by rw [List.map_map]; exact e2
    refine ⟨u, zs.map (·.1), kvI (zs.map (·.2)), rfl, SqL.of e2', ?_, fun v hv => ?_⟩
    · unfold kvI
      rw [List.map_map]
      clear pm pz ndz pl e2 e2'
      induction zs with
      | nil => exact .nil
      | cons z zs ih => exact .cons (SqT.of (pz2 z List.mem_cons_self)) (ih fun y hy => pz2 y (List.mem_cons_of_mem _ hy))
    · have nvb : v ≠ b := hB2.ne hv
      have s12 := s1.trans s2
      exact k v (zs.map (·.2)) _ pl (by rw [upd_same, kvI_made ndz]) (s12.free hv nvb) nvb (hB2.new hv) (s12.new hv)
end
end Y

namespace Y
open PySem PySem.Spec PyProof.Rows L2 Ns
open C8 (pss_cut)
def nd (r : Car) : Str × Int := (r.1, r.2.2.2)
def spCarOf (K : PySem.W.Frag) : Sp := fun as H Q _ => ∃ (y : V) (x : Str) (cs : List Cab) (rs : List Car), as = [y, .str x] ∧ YardV K H y cs rs ∧ (∀ v c, rs.find? (fun r => decide (r.1 = x)) = some c → CarV K H v c → Q v H) ∧ (rs.find? (fun r => decide (r.1 = x)) = none → Q .non H)
def spCapOf (K : PySem.W.Frag) : Sp := fun as H Q _ => ∃ (y : V) (s e : Str) (cs : List Cab) (rs : List Car), as = [y, .str s, .str e] ∧ YardV K H y cs rs ∧ (∀ c, cs.find? (fun c => decide (ckey c = (s, e))) = some c → Q (.int c.2.2) H) ∧ (cs.find? (fun c => decide (ckey c = (s, e))) = none → Q .non H)
def spNeedsOf (K : PySem.W.Frag) : Sp := fun as H Q _ => ∃ (y : V) (cs : List Cab) (rs : List Car), as = [y] ∧ YardV K H y cs rs ∧ (rs.map (·.1)).Nodup ∧ rs.length ≤ 1000 ∧ ∀ (p : Addr) (H' : Hp), H' p = some (.dK (kvI (rs.map nd))) → H p = none → Same H H' → Q (.ref p) H'
def spNeedOf (K : PySem.W.Frag) : Sp := fun as H Q _ => ∃ (y : V) (l : Addr) (ls : List Str) (cs : List Cab) (rs : List Car), as = [y, .ref l] ∧ YardV K H y cs rs ∧ SqT K H l (txs ls) ∧ rs.length ≤ 1000 ∧ ∀ H', Same H H' → Q (.int ((rs.filter fun r => decide (r.1 ∈ ls)).map (·.2.2.2)).sum) H'
def spSumOf : Sp := fun as H Q _ => ∃ (a : Addr) (l : List (Str × Int)), as = [.ref a] ∧ H a = some (.dK (kvI l)) ∧ ∀ H', Same H H' → Q (.int (l.map (·.2)).sum) H'
theorem find_take {α : Type} {p : α → Bool} {l : List α} {i : Nat} {c : α} (hc : l[i]? = some c) (hp : p c = true) (hn : ∀ r ∈ l.take i, p r = false) : l.find? p = some c := by
  induction l generalizing i with
  | nil => cases hc
  | cons a l ih =>
    cases i with
    | zero =>
      cases hc
      exact List.find?_cons_of_pos hp
    | succ i =>
      have ha := hn a (by rw [List.take_succ_cons]; exact List.mem_cons_self)
      rw [List.find?_cons_of_neg (by rw [ha]; exact Bool.false_ne_true)]
      exact ih hc fun r hr => hn r (by rw [List.take_succ_cons]; exact List.mem_cons_of_mem _ hr)
theorem not_yet {α : Type} {p : α → Bool} {l : List α} {i : Nat} {c : α} (hc : l[i]? = some c) (hp : p c = false) (hn : ∀ r ∈ l.take i, p r = false) : ∀ r ∈ l.take (i + 1), p r = false := fun r hr => by
  rw [List.take_succ, hc] at hr
  rcases List.mem_append.mp hr with z | z
  · exact hn r z
  · rw [List.mem_singleton.mp z]; exact hp
section
variable {P : Program} {w : World} {K : PySem.W.Frag} {mg : Str → Option Value} {base : Heap}
theorem scNO : FnScope ["yard", "name", "knot", "rate", "need"] ["yard"] (defScope sNeedsOf) := ⟨rfl, rfl, rfl, by decide +kernel, rfl, by decide +kernel, by decide +kernel⟩
theorem ok_needsOf {f : Addr} {fd : FuncData} (F : Fun K "needs_of" "needs_of" sNeedsOf f fd) : FnOk P w K mg base CX0 1 f fd ["yard"] (spNeedsOf K) := by
  refine F.ok scNO (fun as H Q E h => ?_) (fun cdv A outer s H as Q E hr h => ?_)
  · obtain ⟨y, cs, rs, rfl, _⟩ := h
    rfl
  · obtain ⟨y, cs, rs, rfl, hV, hn, hl, k⟩ := h
    refine ⟨_, pss_one (ps_ret (pe_dc (own := [("name", 1), ("knot", 2), ("rate", 3), ("need", 4)]) (g := gTup K 4 (gCons (gName 1) (gCons (gName 2) (gCons (gName 3) (gCons (gName 4) gNil))))) (tt := tYes) rfl scNO.nd (pi_tup (pe_ix ix_tup (pv 0) pe_int (fun _ _ => rfl)))
      (blkOk_by (N := ["yard", "name", "knot", "rate", "need"]) (sc := defScope sNeedsOf) (by decide +kernel)) (fun _ _ _ _ _ => pg_tup rfl (pgs_cons (pg_name (i := 1) scNO.nd rfl (Or.inl rfl)) (pgs_cons (pg_name (i := 2) scNO.nd rfl (Or.inl rfl)) (pgs_cons (pg_name (i := 3) scNO.nd rfl (Or.inl rfl)) (pgs_cons (pg_name (i := 4) scNO.nd rfl (Or.inl rfl)) pgs_nil)))))
      (fun _ _ _ _ _ => pts_nil) (fun _ _ _ _ _ => pv 1) (fun _ _ _ _ _ => pv 4))), ?_⟩
    obtain ⟨ty, ya, yb, xs, zs, rfl, v1, v2, v3, v4, v5⟩ := hV
    have lz : zs.length = rs.length := paired_len v5
    refine ⟨_, rfl, ty, _, 1, .ref yb, rfl, rfl, v1, at1, yb, rfl, ⟨_, v3⟩, fun D hD => ?_⟩
    refine dc_tup (K := K) (a := yb) (xs := zs) (fun i H' => H' D = some (.dK (kvI ((rs.take i).map nd))) ∧ Same H H') ?_ ?_ ?_ ?_
    · exact ⟨by rw [List.take_zero, upd_same]; rfl, same_new (Same.refl H) hD⟩
    · rintro i H' hi ⟨_, sm⟩
      exact sqt_more sm v3
    · rintro i x H' hx ⟨g1, g2⟩
      obtain ⟨c, hc, t', rfl, hq⟩ := paired_at v5 hx
      have hi' : i < rs.length := (List.getElem?_eq_some_iff.mp hc).1
      have fresh : c.1 ∉ ((rs.take i).map nd).map (·.1) := fun z => by
        rw [List.map_map] at z
        obtain ⟨r, hr, e⟩ := List.mem_map.mp z
        obtain ⟨j, hj⟩ := List.mem_iff_getElem?.mp hr
        have hji : j < i := by
          have := (List.getElem?_eq_some_iff.mp hj).1
          rw [List.length_take] at this
          omega
        rw [List.getElem?_take_of_lt hji] at hj
        refine row_ne hn (i := j) (j := i) (x := r.1) (y := c.1) (by rw [List.getElem?_map, hj]; rfl) (by rw [List.getElem?_map, hc]; rfl) (by omega) e
      refine ⟨t', _, rfl, sqt_more g2 hq, rfl, _, _, rfl, _, _, rfl, _, _, rfl, _, _, rfl, rfl, ?_⟩
      refine ⟨rfl, _, rfl, _, rfl, _, Sum.inr c.1, rfl, g1, ?_, ?_, same_put g2 hD⟩
      · unfold kvI
        rw [List.length_map, List.length_map, List.length_take]
        exact small1000 (by omega)
      · rw [upd_same, putK_new _ (kvI_none fresh), List.take_succ, hc]
        unfold kvI
        simp [nd]
    · rintro H' ⟨g1, g2⟩
      rw [lz, List.take_length] at g1
      exact k D H' g1 (by cases e : H D with | none => rfl | some o => exact absurd hD (by rw [e]; exact fun z => nomatch z)) g2
end
end Y

/-! NsZ: set(xs) of texts, and sorted of it. -/
namespace Ns
open PySem PySem.Spec PyProof.Rows L2
open PySem.Froz (SD sObj tailTx addTx TxOk)
/-- the set at a holds the texts l, once each, and can be walked -/
def SetX (P : Program) (w : World) (h : Heap) (a : Addr) (l : List Str) : Prop :=
  ∃ D : SD, h.get? a = some (sObj "set" D) ∧ TxOk P w D l ∧ l.Nodup ∧ Ris D.2.2.place.toList ∧ (w.params.followText "set-order" = true ∨ D.2.2.led = true)
theorem ris_tail {ep : Nat} {es : Array (Int × Value)} {t : SetTable} {b : Bool} (r : Ris t.place.toList) : Ris (tailTx ep es t b).2.2.place.toList ∧ (tailTx ep es t b).2.2.led = t.led := by
  unfold tailTx
  split
  · exact ⟨relayAll_ris _ _ _, relayAll_led _ _ _⟩
  · exact ⟨r, rfl⟩
theorem ris_add {h : Int} {v : Value} {D : SD} (r : Ris D.2.2.place.toList) : Ris (addTx h v D).2.2.place.toList ∧ (addTx h v D).2.2.led = D.2.2.led := by
  have r1 := layNew_ris D.2.2 D.1 h v r
  have l1 := layNew_led D.2.2 D.1 h v
  unfold addTx
  split
  · obtain ⟨g1, g2⟩ := ris_tail (ep := D.2.1) (es := (layNew D.2.2 D.1 h v).1) (t := { (layNew D.2.2 D.1 h v).2.1 with plain := false }) (b := (layNew D.2.2 D.1 h v).2.2.1) r1
    exact ⟨g1, g2.trans l1⟩
  · obtain ⟨g1, g2⟩ := ris_tail (ep := D.2.1) (es := (layNew D.2.2 D.1 h v).1) (t := (layNew D.2.2 D.1 h v).2.1) (b := (layNew D.2.2 D.1 h v).2.2.1) r1
    exact ⟨g1, g2.trans l1⟩
section
variable {P : Program} {w : World} {A : Around} {E : Value → Shared → Prop} {s : Shared}
theorem SetX.keep {h h' : Heap} {a : Addr} {l : List Str} (X : SetX P w h a l) (k : ∀ o, h.get? a = some o → h'.get? a = some o) : SetX P w h' a l := by
  obtain ⟨D, hD, r⟩ := X
  exact ⟨D, k _ hD, r⟩
/-- a text that is there: nothing changes -/
theorem add_there {a : Addr} {l : List Str} {k : Str} {u : Tok} {D : SD} {Q : Bool → Shared → Prop} (ho : s.heap.get? a = some (sObj "set" D)) (F : TxOk P w D l) (hk : k ∈ l) (hb : l.length < scanBound) (q : Q false s) :
    wpAny (model P w) A (setAddHashed a (.str k u) (hashStr w k)) Q E s := by
  have isk : (strKind P w).is k (.str k u) = true := PySem.Froz.is_str k u
  have small : D.1.size < scanBound := by rw [F.sz]; exact hb
  obtain ⟨j, hj⟩ : ∃ j, List.findIdx? (fun e => (strKind P w).is k e.2) D.1.toList = some j := by
    cases e : List.findIdx? (fun e => (strKind P w).is k e.2) D.1.toList with
    | some j => exact ⟨j, rfl⟩
    | none =>
      obtain ⟨x, hx, hy⟩ := (F.mem k).mp hk
      have := List.findIdx?_eq_none_iff.mp e x hx
      rw [hy] at this
      cases this
  unfold setAddHashed setAddHashedIn
  refine wpAny_holding (wpAny_bind (wpAny_setState_of ho rfl F.fit ?_))
  dsimp only
  rw [byScan_of (knd := strKind P w) rfl small F.el]
  simp only [↓reduceIte]
  unfold setAddByScan
  refine wpAny_bind (wpAny_bind (wpAny_rule (wpAny_bind (wpAny_setScan_of (knd := strKind P w) (k := k) isk ho rfl F.fit F.el ?_))))
  rw [hj]
  exact wpAny_pure (wpAny_pure q)
/-- one more text -/
theorem setX_add {a : Addr} {l : List Str} {k : Str} {u : Tok} {Q : Bool → Shared → Prop} (X : SetX P w s.heap a l) (hb : l.length + 1 < scanBound)
    (q : ∀ (b : Bool) (h' : Heap) (l' : List Str), SetX P w h' a l' → (∀ m, m ∈ l' ↔ m ∈ l ∨ m = k) → l'.length ≤ l.length + 1 → (∀ c o, c ≠ a → s.heap.get? c = some o → h'.get? c = some o) → Q b { s with heap := h' }) :
    wpAny (model P w) A (setAddHashed a (.str k u) (hashStr w k)) Q E s := by
  obtain ⟨D, hD, F, n, r, led⟩ := id X
  by_cases hk : k ∈ l
  · exact add_there hD F hk (by omega) (q false s.heap l X (fun m => ⟨.inl, fun z => z.elim id fun e => e ▸ hk⟩) (Nat.le_succ _) fun c o _ e => e)
  · refine PySem.Froz.add_x hD F hk hb (q true _ (k :: l) ⟨_, PySem.Froz.get_upd _ hD rfl, PySem.Froz.add_ok u F, List.nodup_cons.mpr ⟨hk, n⟩, (ris_add r).1, led.imp id fun z => (ris_add r).2.trans z⟩ (fun m => ?_) (Nat.le_refl _) fun c o nc e => ?_)
    · rw [List.mem_cons]
      exact Or.comm
    · exact (Heap.get?_update_other _ _ (Ne.symm nc)).trans e
/-- a row of texts goes into the set -/
theorem set_fill {I L S : Addr} {xs : List Str} {items : Array Value} (hh : A.in1.handled = none) (hL : L ≠ I) (hS : S ≠ I) (hSL : S ≠ L) (rel : Vals (xs.map V.str) items.toList) (room : items.size + 1 < scanBound) {R : Result → Shared → Prop} :
    ∀ (k i : Nat) (s : Shared) (l : List Str), items.size - i = k → i ≤ items.size → s.heap.IsListIter I L i → s.heap.IsList L items → SetX P w s.heap S l → l.length ≤ i → (∀ m, m ∈ l ↔ m ∈ xs.take i) →
      (∀ s' l', (∀ c o, c ≠ S → c ≠ I → s.heap.get? c = some o → s'.heap.get? c = some o) → s'.gens = s.gens → s'.drawn = s.drawn → s'.os = s.os → SetX P w s'.heap S l' → (∀ m, m ∈ l' ↔ m ∈ xs) → R (.ok (.ret .none)) s') →
      codeAny (model P w) A (.builtin "set.update.loop" ⟨[.ref S, .ref I], []⟩) R s := by
  have W := Walks.list (prog := P) (w := w) (A := A.in1) hh I L hL items
  have lx : xs.length = items.size := by
    have := rel.length
    rw [List.length_map, Array.length_toList] at this
    exact this
  intro k
  induction k with
  | zero =>
    intro i s l hk hi i1 i2 X hl hm q
    have e : i = items.size := by omega
    rw [e] at hm i1
    refine codeAny_builtin F.entry_set_update_loop ?_
    rw [Around.under_plainId F.plain_set_update_loop _]
    refine wpAny_bind (W.done s _ _ ⟨i1, i2⟩ fun h' tk kp => ?_)
    rw [← lx, List.take_length] at hm
    exact wpAny_pure (q _ l (fun c o _ n2 e => kp c o (by rw [List.mem_singleton]; exact n2) e) rfl rfl rfl (X.keep fun o => kp S o (by rw [List.mem_singleton]; exact hS)) hm)
  | succ k ih =>
    intro i s l hk hi i1 i2 X hl hm q
    have lt : i < items.size := by omega
    refine codeAny_builtin F.entry_set_update_loop ?_
    rw [Around.under_plainId F.plain_set_update_loop _]
    refine wpAny_bind (W.item i s _ _ lt ⟨i1, i2⟩ fun v h' tk hv st kp => ?_)
    obtain ⟨x, hx, rx⟩ : ∃ x, xs[i]? = some x ∧ RelV (.str x) v := by
      have hx : xs[i]? = some xs[i] := List.getElem?_eq_getElem (by omega)
      obtain ⟨u, hu, ru⟩ := rel.get (i := i) (x := .str xs[i]) (by rw [List.getElem?_map, hx]; rfl)
      rw [Array.getElem?_toList] at hu
      rw [hv] at hu
      cases hu
      exact ⟨_, hx, ru⟩
    obtain ⟨t, rfl⟩ := rx
    refine wpAny_bind (wpAny_holding ?_)
    unfold setAdd
    refine wpAny_holding (wpAny_bind ((strKind P w).pyHash (PySem.Froz.is_str x t) ?_))
    have X1 : SetX P w h' S l := X.keep fun o => kp S o (by rw [List.mem_singleton]; exact hS)
    refine setX_add X1 (by omega) fun b h2 l2 X2 m2 n2 k2 => ?_
    have i3 : h2.IsListIter I L (i + 1) := st.1.at fun o e => k2 I o (Ne.symm hS) e
    have i4 : h2.IsList L items := st.2.at fun o e => k2 L o (Ne.symm hSL) e
    refine wpAny_pure ⟨plainId_quiet F.plain_set_update_loop _, ih (i + 1) _ l2 (by omega) lt i3 i4 X2 (by omega) (fun m => ?_) fun s' l' k3 g1 g2 g3 X3 m3 => ?_⟩
    · rw [m2, hm, List.take_succ, hx, List.mem_append]
      simp
    · exact q s' l' (fun c o c1 c2 e => k3 c o c1 c2 (k2 c o c1 (kp c o (by rw [List.mem_singleton]; exact c2) e))) g1 g2 g3 X3 m3
end
end Ns

/-! NsZ2: the calls set(xs), sorted(set). -/
namespace Ns
open PySem PySem.Spec PyProof.Rows L2
open PySem.Froz (SD sObj TxOk)
/-- a set as it is made -/
abbrev set0 (w : World) : Obj := { cls := .type "set", dict := none, data := .set #[] 0 (.fresh 0 0 (!w.params.followText "set-order")) }
theorem setX_new {P : Program} {w : World} {h : Heap} {a : Addr} (e : h.get? a = some (set0 w)) : SetX P w h a [] := by
  refine ⟨(#[], 0, .fresh 0 0 (!w.params.followText "set-order")), e, PySem.Froz.TxOk.nil (by rfl), List.nodup_nil, List.Pairwise.nil, ?_⟩
  show _ ∨ (!w.params.followText "set-order") = true
  cases w.params.followText "set-order" <;> simp
section
variable {P : Program} {w : World} {A : Around} {E : Value → Shared → Prop} {s : Shared}
set_option maxHeartbeats 3200000 in
theorem set_of {l : Addr} {items : Array Value} {xs : List Str} {Q : Value → Shared → Prop} (hh : A.handled = none) (hl : s.heap.IsList l items) (rel : Vals (xs.map V.str) items.toList) (room : items.size + 1 < scanBound)
    (q : ∀ (h' : Heap) (tk : Nat) (ls : List Str), (∀ c o, s.heap.get? c = some o → h'.get? c = some o) → SetX P w h' s.heap.objs.size ls → (∀ m, m ∈ ls ↔ m ∈ xs) → Q (.ref s.heap.objs.size) { s with heap := h', toks := tk }) :
    wpAny (model P w) A (call (.type "set") [.ref l]) Q E s := by
  obtain ⟨c, tl, hmro⟩ := F.called_set.mro
  have f1 := F.called_set.made
  have f2 := F.called_set.sub
  have f3 := F.called_set.notType
  have f4 := F.called_set.canCreate
  have f5 := F.typeCall_set_1 (.ref l)
  refine wpAny_call (codeAny_of_tree ?_)
  show wpAny _ _ (callAny (.type "set") _) _ _ _
  refine wpAny_pure ⟨Code.quiet_builtin _ (by decide +kernel), codeAny_builtin F.entry_type_call ?_⟩
  rw [Around.under_plain (weight_type_call_type "set" [.ref l] []) rfl]
  repeat (any_goals (first | assumption | wp_step))
  refine codeAny_mono (code_set_led1 (.ref l) (E := E) (Q₁ := fun obj s₁ => obj = .ref s.heap.objs.size ∧ s₁ = { s with heap := s.heap.push (set0 w) }) ⟨rfl, rfl⟩) fun r s₁ hr => ?_
  rcases r with e | fl
  · exact hr
  cases fl with
  | ret obj =>
    obtain ⟨rfl, rfl⟩ := hr
    have at0 : (s.heap.push (set0 w)).get? s.heap.objs.size = some (set0 w) := Heap.get?_push_size _ rfl
    have ty0 : Shared.TypeIs { s with heap := s.heap.push (set0 w) } (.ref s.heap.objs.size) "set" := ⟨_, at0, rfl⟩
    have f6 := F.called_set.init.lookup
    have f7 := F.called_set.init.bind (.ref s.heap.objs.size)
    repeat (any_goals (first | assumption | wp_step))
    refine codeAny_mono (codeAny_call_builtin (R := wants (fun r s₂ => r = .none ∧ ∃ h' tk ls, s₂ = { s with heap := h', toks := tk } ∧ (∀ c o, s.heap.get? c = some o → h'.get? c = some o) ∧ SetX P w h' s.heap.objs.size ls ∧ ∀ m, m ∈ ls ↔ m ∈ xs) E)
      F.called_set.init.plain F.entry_set_init (check_set_init_1 ty0 ?_)) fun r₂ s₂ hr₂ => ?_
    · obtain ⟨⟨ocls, odict, odata, oslots⟩, hol, hcl, nl, hdl⟩ := hl
      simp only at hcl hdl
      subst hcl; subst hdl
      have lS : l < s.heap.objs.size := Heap.lt_size hol
      have hol' : (s.heap.push (set0 w)).get? l = some { cls := .type "list", dict := odict, data := .seq items nl, slots := oslots } := Heap.get?_push_of_some _ hol
      have g1 := F.sub_list_set
      have g2 := F.sub_list_frozenset
      have g3 : (Value.type "list" == Value.type "dict") = false := by decide
      have isl : (s.heap.push (set0 w)).IsList l items := ⟨_, hol', rfl, nl, rfl⟩
      unfold Builtin.«set.__init__» noKeywords Builtin.Frozenset.updateFrom
      generalize keep : pyIter = PI
      wp_walk
      subst keep
      refine wpAny_pyIter_list isl (wpAny_bind (wpAny_runValue ?_))
      have up : (s.heap.push (set0 w)).objs.size = s.heap.objs.size + 1 := size_push' _ _
      refine set_fill (xs := xs) (by simp [hh]) (by rw [up]; exact Nat.ne_of_lt (Nat.lt_succ_of_lt lS)) (by rw [up]; exact Nat.ne_of_lt (Nat.lt_succ_self _)) (Nat.ne_of_gt lS) rel room items.size 0 _ [] (Nat.sub_zero _) (Nat.zero_le _) ⟨_, Heap.get?_push_size _ rfl, rfl, rfl⟩ (isl.push _)
        (setX_new (Heap.get?_push_of_some _ at0)) (Nat.le_refl _) (fun m => by rw [List.take_zero]) fun s' ls kp e1 e2 e3 X m => ?_
      obtain ⟨h', g', d', tk', os'⟩ := s'
      cases e1
      cases e2
      cases e3
      refine wpAny_pure (wpAny_pure ⟨rfl, h', tk', ls, rfl, fun c o e => ?_, X, m⟩)
      have cl : c < s.heap.objs.size := Heap.lt_size e
      exact kp c o (Nat.ne_of_lt cl) (by rw [up]; exact Nat.ne_of_lt (Nat.lt_succ_of_lt cl)) (Heap.get?_push_of_some _ (Heap.get?_push_of_some _ e))
    · rcases r₂ with e | fl₂
      · exact hr₂
      cases fl₂ with
      | ret r =>
        obtain ⟨rfl, h', tk, ls, rfl, kp, X, m⟩ := hr₂
        repeat (any_goals (first | assumption | wp_step))
        exact q h' tk ls kp X m
      | _ => exact hr₂.elim
  | _ => exact hr.elim
end
end Ns

/-! NsZ3: sorted of a set of texts. -/
namespace Ns
open PySem PySem.Spec PyProof.Rows L2
open PySem.Froz (SD sObj TxOk)
section
variable {P : Program} {w : World} {A : Around} {E : Value → Shared → Prop} {s : Shared}
theorem texts_of {l : List Value} (h : ∀ v ∈ l, ∃ x t, v = Value.str x t) : ∃ xs, StrsAre l xs := by
  induction l with
  | nil => exact ⟨[], .nil⟩
  | cons v l ih =>
    obtain ⟨x, t, rfl⟩ := h v List.mem_cons_self
    obtain ⟨xs, r⟩ := ih fun u hu => h u (List.mem_cons_of_mem _ hu)
    exact ⟨x :: xs, .cons x t r⟩
theorem strs_mem {vs : List Value} {xs : List Str} (r : StrsAre vs xs) : ∀ m, m ∈ xs ↔ ∃ t, Value.str m t ∈ vs := by
  induction r with
  | nil => simp
  | cons y t _ ih =>
    intro m
    rw [List.mem_cons, ih]
    constructor
    · rintro (rfl | ⟨u, hu⟩)
      · exact ⟨t, List.mem_cons_self⟩
      · exact ⟨u, List.mem_cons_of_mem _ hu⟩
    · rintro ⟨u, hu⟩
      rcases List.mem_cons.mp hu with e | e
      · injection e with e1 _
        exact .inl e1
      · exact .inr ⟨u, e⟩
theorem sorted_setX {a : Addr} {ls : List Str} {Q : Value → Shared → Prop} (X : SetX P w s.heap a ls) (hh : A.handled = none) (few : ls.length < 64)
    (q : ∀ s' p (out : Array Value) (c : Nat) (ys : List Str), (∀ b o, s.heap.get? b = some o → s'.heap.get? b = some o) → s'.gens = s.gens → s'.os = s.os → s.heap.objs.size ≤ p → s'.heap.get? p = some (seqObj "list" out c) →
      StrsAre out.toList ys → sortedS ys = true → ys.length = ls.length → (∀ m, m ∈ ys ↔ m ∈ ls) → Q (.ref p) s') :
    wpAny (model P w) A (call (.builtin "sorted") [.ref a]) Q E s := by
  obtain ⟨D, hD, F, n, r, led⟩ := X
  have sz := F.sz
  refine Calls.call_function_entry kind_sorted plain_sorted entry_sorted (args_sorted1 _) ?_
  unfold Builtin.«sorted»
  refine wpAny_bind (m := checkCount "sorted" 1 1 _) (wpAny_pure ?_)
  refine wpAny_bind (collect_set (A := A.in1) hh ⟨_, hD, rfl, rfl⟩ F.fit (by rw [sz]; exact Nat.lt_trans few (by decide)) r led fun s1 vs k1 z1 g1 o1 pm => ?_)
  have vl : vs.length = ls.length := by rw [pm.length_eq, List.length_map, Array.length_toList]; exact sz
  have isS : ∀ v ∈ vs, ∃ x t, v = Value.str x t := fun v hv => by
    obtain ⟨e, he, rfl⟩ := List.mem_map.mp (pm.mem_iff.mp hv)
    obtain ⟨⟨k, hk, _⟩, _⟩ := F.el e he
    obtain ⟨t, ht⟩ := Value.isStrOf_shape (x := k) (v := e.2) hk
    exact ⟨k, t, ht⟩
  obtain ⟨us, hS⟩ := texts_of isS
  have um : ∀ m, m ∈ us ↔ m ∈ ls := fun m => by
    rw [strs_mem hS, F.mem m]
    constructor
    · rintro ⟨t, ht⟩
      obtain ⟨e, he, ee⟩ := List.mem_map.mp (pm.mem_iff.mp ht)
      exact ⟨e, he, by rw [show e.2 = Value.str m t from ee]; exact PySem.Froz.is_str m t⟩
    · rintro ⟨e, he, ee⟩
      obtain ⟨t, ht⟩ := Value.isStrOf_shape (x := m) (v := e.2) ee
      exact ⟨t, by rw [← ht]; exact pm.mem_iff.mpr (List.mem_map.mpr ⟨e, he, rfl⟩)⟩
  refine wpAny_bind (wpAny_newList ?_ (by rw [vl, sizeLine_eq]; omega))
  have hoL : (s1.heap.push (seqObj "list" vs.toArray 0)).get? s1.heap.objs.size = some (seqObj "list" vs.toArray 0) := Heap.get?_push_size _ rfl
  refine wpAny_bind (wpAny_holding (wpAny_call_entry slot_list_sort ⟨_, hoL, rfl⟩ entry_list_sort
    (list_sort_treeK strKind_oneLt (s := { s1 with heap := s1.heap.push (seqObj "list" vs.toArray 0) }) hoL hS.keysOf (fun v₁ v₂ rest e => keyKind_strs (by rw [← e]; exact hS)) (by rw [vl]; exact few) fun st' hp hs => ⟨_, rfl, ?_⟩) (args_list_sort _)))
  obtain ⟨ys, y1, y2, y3⟩ := sorted_out_str hS hp hs
  obtain ⟨c, hc⟩ := sortedHeap_at (vs := vs) (out := (arrOf st').map (·.2)) hoL
  refine wpAny_pure ⟨_, rfl, q _ s1.heap.objs.size _ c ys (fun b u e => ?_) g1 o1 z1 hc y1 y3 ?_ fun m => (y2.mem_iff).trans (um m)⟩
  · have k := k1 b u e
    have lt := Heap.lt_size k
    have top : b < (s1.heap.push (seqObj "list" vs.toArray 0)).objs.size := by rw [size_push']; exact Nat.lt_succ_of_lt lt
    have k2 : (s1.heap.push (seqObj "list" vs.toArray 0)).get? b = some u := Heap.get?_push_of_some _ k
    have same := sortedHeap_old (h := s1.heap.push (seqObj "list" vs.toArray 0)) (vs := vs) (out := (arrOf st').map (·.2)) (Nat.ne_of_lt lt) top
    rw [k2] at same
    exact same
  · rw [y2.length_eq, ← vl]
    exact hS.len_eq.symm
end
/-- a set of texts -/
def SetS (P : Program) (w : World) (a : Addr) (ls : List Str) : HO := .ext fun h => SetX P w h a ls
theorem setS_ok {P : Program} {w : World} {H : Hp} {h : Heap} {a : Addr} {ls : List Str} (X : SetX P w h a ls) : ObjOk P w H h a (SetS P w a ls) :=
  ⟨X, (by obtain ⟨D, hD, _⟩ := X; exact ⟨_, hD⟩), fun h1 h2 x k => x.keep k⟩
section
variable {X : Cx}
def rSetTx (K : PySem.W.Frag) (P : Program) (w : World) : List V → Hp → VK → Prop := fun xs H Q => ∃ (a : Addr) (ts : List Str), xs = [.ref a] ∧ SqL K H a (ts.map V.str) ∧ ts.length ≤ 1000 ∧ ∀ (p : Addr) (ls : List Str), H p = none → (∀ m, m ∈ ls ↔ m ∈ ts) → Q (.ref p) (upd H p (SetS P w p ls))
theorem call_setTx (hc : X.calm = true) : CallR X (.type "set") (rSetTx X.K X.prog X.w) := by
  intro pins s σ H xs us Q I r h
  obtain ⟨a, ts, rfl, hs, hz, q⟩ := h
  obtain ⟨its, rv, hl, _⟩ := I.list hs
  rw [Vals.ref1 r]
  have il : its.length = ts.length := by rw [← rv.length, List.length_map]
  refine set_of (xs := ts) (I.ok.hd hc) hl.isList (by simpa using rv) (by rw [List.size_toArray, il]; exact Nat.lt_of_le_of_lt (show ts.length + 1 ≤ 1001 by omega) (by decide)) fun h' tk ls kp XX m => ?_
  exact ⟨.ref s.heap.objs.size, upd H s.heap.objs.size (SetS X.prog X.w s.heap.objs.size ls), I.laid (t' := tk) kp (Nat.le_refl _) (setS_ok XX), rfl, q _ ls (I.hok.fresh (Nat.le_refl _)) m⟩
def rSortSet (P : Program) (w : World) : List V → Hp → VK → Prop := fun xs H Q => ∃ (a : Addr) (ls : List Str), xs = [.ref a] ∧ H a = some (SetS P w a ls) ∧ (∀ l : List Str, l.Nodup → (∀ m, m ∈ l ↔ m ∈ ls) → l.length < 64) ∧
  ∀ (p : Addr) (ys : List Str), H p = none → sortedS ys = true → ys.Nodup → (∀ m, m ∈ ys ↔ m ∈ ls) → Q (.ref p) (upd H p (.lst (ys.map V.str)))
theorem perm_of {α : Type} [DecidableEq α] : ∀ {l ys : List α}, l.Nodup → (∀ m ∈ l, m ∈ ys) → ys.length = l.length → ys.Perm l
  | [], ys, _, _, e => by rw [List.length_eq_zero_iff.mp e]
  | x :: l, ys, n, h, e => by
    obtain ⟨n1, n2⟩ := List.nodup_cons.mp n
    have hx : x ∈ ys := h x List.mem_cons_self
    have le : (ys.erase x).length = l.length := by
      rw [List.length_erase_of_mem hx, e, List.length_cons, Nat.add_sub_cancel]
    exact (List.perm_cons_erase hx).trans ((perm_of n2 (fun m hm => (List.mem_erase_of_ne (fun z : m = x => n1 (by rw [← z]; exact hm))).mpr (h m (List.mem_cons_of_mem _ hm))) le).cons x)
theorem cr_sortSet (hc : X.calm = true) : CallR X (.builtin "sorted") (rSortSet X.prog X.w) := by
  intro pins s σ H xs us Q I r h
  obtain ⟨a, ls, rfl, ha, few, q⟩ := h
  obtain rfl := Vals.ref1 r
  have XX : SetX X.prog X.w s.heap a ls := (show ObjOk X.prog X.w H s.heap a (SetS X.prog X.w a ls) from I.hok a _ ha).1
  have nls : ls.Nodup := by
    obtain ⟨_, _, _, n, _⟩ := XX
    exact n
  refine sorted_setX XX (I.ok.hd hc) (few ls nls fun _ => Iff.rfl) fun s' p out c ys kp eg eo hp hat r1 r2 r3 r4 => ?_
  have yl : (ys.map V.str).length ≤ sizeLine := by
    rw [List.length_map, r3, sizeLine_eq]
    have := few ls nls fun _ => Iff.rfl
    omega
  have fr : H p = none := I.hok.fresh hp
  have nys : ys.Nodup := (perm_of nls (fun m hm => (r4 m).mpr hm) r3).nodup_iff.mpr nls
  obtain ⟨h', g', d', tk', os'⟩ := s'
  cases eo
  have J : Inv X pins σ (upd H p (.lst (ys.map V.str))) { s with heap := h', gens := g', drawn := d', toks := tk' } :=
    I.call (ch := []) (Un.laid kp hp fr) (I.hok.laid kp hp ⟨yl, out.toList, c, vals_of_strs r1, hat⟩) (by rw [show g' = s.gens from eg]; exact I.bare) fun _ z => nomatch z
  exact ⟨.ref p, _, J, rfl, q p ys fr r2 nys r4⟩
end
end Ns

/-! sizes of yards' texts; equal data; ascending texts are one -/
namespace Y
open PySem PySem.Spec PyProof.Rows L2 Ns
theorem not_lt_trans {a b c : List Nat} (h1 : ¬ b < a) (h2 : ¬ c < b) : ¬ c < a := by
  rw [List.not_lt] at h1 h2 ⊢
  exact List.le_trans h1 h2
theorem rising_all : ∀ {r : List Str} {p : Str}, risingS p r = true → ∀ y ∈ r, ¬ y.cps.toList < p.cps.toList
  | [], _, _, y, hy => nomatch hy
  | x :: r, p, h, y, hy => by
    unfold risingS at h
    rw [Bool.and_eq_true, ltCps_eq] at h
    have h1 : ¬ x.cps.toList < p.cps.toList := by simpa using h.1
    rcases List.mem_cons.mp hy with e | e
    · rw [e]; exact h1
    · exact not_lt_trans h1 (rising_all h.2 y e)
theorem rising_tail {x : Str} {r : List Str} (h : sortedS (x :: r) = true) : sortedS r = true := by
  cases r with
  | nil => rfl
  | cons y r =>
    have h' : risingS x (y :: r) = true := h
    unfold risingS at h'
    exact (Bool.and_eq_true_iff.mp h').2
theorem sorted_one : ∀ {xs ys : List Str}, sortedS xs = true → sortedS ys = true → xs.Perm ys → xs = ys
  | [], ys, _, _, p => (List.nil_perm.mp p).symm
  | x :: xs, [], _, _, p => by cases List.perm_nil.mp p
  | x :: xs, y :: ys, h1, h2, p => by
    have e : x = y := by
      have mx := p.mem_iff.mp (List.mem_cons_self (a := x) (l := xs))
      have my := p.mem_iff.mpr (List.mem_cons_self (a := y) (l := ys))
      rcases List.mem_cons.mp mx with e | hx
      · exact e
      · rcases List.mem_cons.mp my with e | hy
        · exact e.symm
        · have a1 := rising_all h2 x hx
          have a2 := rising_all h1 y hy
          rw [List.not_lt] at a1 a2
          exact str_ext (List.le_antisymm a2 a1)
    subst e
    rw [sorted_one (rising_tail h1) (rising_tail h2) (List.perm_cons x |>.mp p)]
theorem perm_of_mem {xs ys : List Str} (n1 : xs.Nodup) (n2 : ys.Nodup) (h : ∀ s, s ∈ xs ↔ s ∈ ys) : xs.Perm ys := by
  have l1 := sub_len n1 (m := ys) fun s hs => (h s).mp hs
  have l2 := sub_len n2 (m := xs) fun s hs => (h s).mpr hs
  exact perm_of n2 (fun m hm => (h m).mpr hm) (by omega)
/-- a name, or feed -/
def Nf (x : Str) : Prop := Nm x ∨ x = feed
theorem nm_codes {x : Str} (h : Nf x) : (∀ c ∈ x.cps.toList, c < 200) ∧ x.length ≤ 20 := by
  rcases h with h | rfl
  · obtain ⟨c, r, e, h1, h2, h3⟩ := id h
    refine ⟨fun d hd => ?_, h.len.2⟩
    rw [e] at hd
    rcases List.mem_cons.mp hd with z | z
    · rw [z]; unfold isL at h1; omega
    · rcases h2 d z with y | y
      · unfold isL at y; omega
      · unfold isD at y; omega
  · exact ⟨by decide +kernel, by decide +kernel⟩
theorem fit_name {x : Str} (h : Nf x) : Fit 300 0 (.str x) := by
  obtain ⟨h1, h2⟩ := nm_codes h
  refine ⟨by simp [PyData.showable], ?_, by simp [PyData.depth]⟩
  rw [PyData.shown_str]
  have := PySem.StrLaws.reprText_len x fun c hc => Nat.lt_trans (h1 c hc) (by decide)
  omega
theorem fit_num {i : Int} (h0 : 0 ≤ i) (h : i ≤ 10 ^ 12) : Fit 300 0 (.int i) :=
  (fit_int (n := 13) (by decide) (by omega) (by decide)).mono (by decide) (Nat.le_refl _)
def cabD (c : Cab) : PyData := .tuple [.str c.1, .str c.2.1, .int c.2.2]
def carD (c : Car) : PyData := .tuple [.str c.1, .str c.2.1, .int c.2.2.1, .int c.2.2.2]
theorem fit_cab {c : Cab} (h1 : Nf c.1) (h2 : Nf c.2.1) (h3 : 0 ≤ c.2.2) (h4 : c.2.2 ≤ 10 ^ 12) : Fit 1300 1 (cabD c) := by
  refine (fit_tuple (m := 300) (k := 0) fun d hd => ?_).mono (show 3 * (300 + 2) + 3 ≤ 1300 by decide) (by decide)
  simp only [List.mem_cons, List.not_mem_nil, or_false] at hd
  rcases hd with rfl | rfl | rfl
  · exact fit_name h1
  · exact fit_name h2
  · exact fit_num h3 h4
theorem fit_car {c : Car} (h1 : Nf c.1) (h2 : Nf c.2.1) (h3 : 0 ≤ c.2.2.1) (h4 : c.2.2.1 ≤ 10 ^ 12) (h5 : 0 ≤ c.2.2.2) (h6 : c.2.2.2 ≤ 10 ^ 12) : Fit 1300 1 (carD c) := by
  refine (fit_tuple (m := 300) (k := 0) fun d hd => ?_).mono (show 4 * (300 + 2) + 3 ≤ 1300 by decide) (by decide)
  simp only [List.mem_cons, List.not_mem_nil, or_false] at hd
  rcases hd with rfl | rfl | rfl | rfl
  · exact fit_name h1
  · exact fit_name h2
  · exact fit_num h3 h4
  · exact fit_num h5 h6
/-- the facts of a yard's parts, plainly -/
structure YardP (cs : List Cab) (rs : List Car) : Prop where
  lc : cs.length ≤ 40
  lr : rs.length ≤ 24
  cab : ∀ c ∈ cs, Nf c.1 ∧ Nf c.2.1 ∧ 0 ≤ c.2.2 ∧ c.2.2 ≤ 10 ^ 12
  car : ∀ r ∈ rs, Nm r.1 ∧ Nf r.2.1 ∧ 1 ≤ r.2.2.1 ∧ r.2.2.1 ≤ 10 ^ 12 ∧ 0 ≤ r.2.2.2 ∧ r.2.2.2 ≤ 10 ^ 12
  keys : (cs.map ckey).Nodup
  names : (rs.map (·.1)).Nodup
theorem YardF.plain {most : Int} {cs : List Cab} {rs : List Car} (h : YardF most cs rs) (hm : most ≤ 10 ^ 12) : YardP cs rs := by
  obtain ⟨ns, nm, N1, N2, N3, N4, C, R⟩ := h.ex
  have nf : ∀ s, s ∈ feed :: ns → Nf s := fun s hs => by
    rcases List.mem_cons.mp hs with e | e
    · exact .inr e
    · exact .inl (N1.nm s e)
  refine ⟨C.len, ?_, fun c hc => ?_, fun r hr => ?_, C.nodup, R.perm.nodup_iff.mpr N3.nodup⟩
  · have := R.perm.length_eq
    rw [List.length_map] at this
    omega
  · obtain ⟨c1, c2, c3, c4, c5⟩ := C.each c hc
    exact ⟨nf _ c2, .inl (N1.nm _ c3), c4, by omega⟩
  · obtain ⟨r1, r2, r3, r4, r5⟩ := R.each r hr
    exact ⟨N3.nm _ (R.perm.mem_iff.mp (List.mem_map.mpr ⟨r, hr, rfl⟩)), nf _ r1, r2, r3, r4, by omega⟩
def yardD (cs : List Cab) (rs : List Car) : PyData := .tuple [.tuple (cs.map cabD), .tuple (rs.map carD)]
theorem fit_yard {cs : List Cab} {rs : List Car} (h : YardP cs rs) : Fit 130000 3 (yardD cs rs) := by
  have f1 : Fit 60000 2 (.tuple (cs.map cabD)) := by
    refine (fit_tuple (m := 1300) (k := 1) fun d hd => ?_).mono ?_ (by decide)
    · obtain ⟨c, hc, rfl⟩ := List.mem_map.mp hd
      obtain ⟨h1, h2, h3, h4⟩ := h.cab c hc
      exact fit_cab h1 h2 h3 h4
    · rw [List.length_map]
      have := h.lc
      omega
  have f2 : Fit 60000 2 (.tuple (rs.map carD)) := by
    refine (fit_tuple (m := 1300) (k := 1) fun d hd => ?_).mono ?_ (by decide)
    · obtain ⟨c, hc, rfl⟩ := List.mem_map.mp hd
      obtain ⟨h1, h2, h3, h4, h5, h6⟩ := h.car c hc
      exact fit_car (.inl h1) h2 (by omega) h4 h5 h6
    · rw [List.length_map]
      have := h.lr
      omega
  refine (fit_tuple (m := 60000) (k := 2) fun d hd => ?_).mono (show 2 * (60000 + 2) + 3 ≤ 130000 by decide) (by decide)
  simp only [List.mem_cons, List.not_mem_nil, or_false] at hd
  rcases hd with rfl | rfl
  · exact f1
  · exact f2
theorem big_ok {n : Nat} (h : n ≤ 1000000) : n ≤ sizeLine := by rw [sizeLine_eq]; omega
section
variable {K : PySem.W.Frag} {H : Hp}
theorem dat_cabs : ∀ {xs : List V} {cs : List Cab}, Paired (CabV K H) xs cs → DatA K H xs (cs.map cabD)
  | _, _, .nil => .nil
  | _, _, .cons ⟨t, e, h⟩ r => by
    subst e
    exact .cons (.tup h (.cons (.str _) (.cons (.str _) (.cons (.int _) .nil)))) (dat_cabs r)
theorem dat_cars : ∀ {xs : List V} {cs : List Car}, Paired (CarV K H) xs cs → DatA K H xs (cs.map carD)
  | _, _, .nil => .nil
  | _, _, .cons ⟨t, e, h⟩ r => by
    subst e
    exact .cons (.tup h (.cons (.str _) (.cons (.str _) (.cons (.int _) (.cons (.int _) .nil))))) (dat_cars r)
theorem dat_yard {y : V} {cs : List Cab} {rs : List Car} (h : YardV K H y cs rs) : DatV K H y (yardD cs rs) := by
  obtain ⟨t, a, b, xs, zs, rfl, h1, h2, h3, h4, h5⟩ := h
  exact .tup h1 (.cons (.tup h2 (dat_cabs h4)) (.cons (.tup h3 (dat_cars h5)) .nil))
theorem dat_txs : ∀ ls : List Str, DatA K H (txs ls) (ls.map PyData.str)
  | [] => .nil
  | _ :: ls => .cons (.str _) (dat_txs ls)
theorem dat_ints : ∀ ls : List Int, DatA K H (ls.map V.int) (ls.map PyData.int)
  | [] => .nil
  | _ :: ls => .cons (.int _) (dat_ints ls)
theorem same_rows {E : V → V → Prop} : ∀ {xs : List V}, (∀ x ∈ xs, E x x) → Paired E xs xs
  | [], _ => .nil
  | x :: xs, h => .cons (h x List.mem_cons_self) (same_rows fun y hy => h y (List.mem_cons_of_mem _ hy))
theorem eqT_flat {x : V} (n : Nat) (h : flatB x = true) : EqT K H (n + 1) x x := .inl ⟨rfl, h⟩
theorem eqT_tup {a b : Addr} {xs : List V} (n : Nat) (ha : SqT K H a xs) (hb : SqT K H b xs) (h : ∀ x ∈ xs, flatB x = true) : EqT K H (n + 2) (.ref a) (.ref b) :=
  .inr (.inr (.inr ⟨a, b, xs, xs, rfl, rfl, ha, hb, same_rows fun x hx => eqT_flat n (h x hx)⟩))
theorem flat_str {l : List Str} : ∀ x ∈ txs l, flatB x = true := fun x hx => by
  obtain ⟨t, _, rfl⟩ := List.mem_map.mp hx
  rfl
theorem eqT_dict {a b : Addr} {l : List (Str × Int)} (n : Nat) (nd : (l.map (·.1)).Nodup) (ha : H a = some (.dK (kvI l))) (hb : H b = some (.dK (kvI l))) : EqT K H (n + 2) (.ref a) (.ref b) :=
  .inr (.inr (.inl (.inr ⟨a, b, kvI l, kvI l, rfl, rfl, ha, hb, rfl, fun p hp => by
    obtain ⟨q, hq, rfl⟩ := List.mem_map.mp hp
    exact ⟨_, kvI_get nd hq, eqT_flat n rfl⟩⟩)))
end
end Y

/-! data of cars, of numbers, compared by == -/
namespace Y
open PySem PySem.Spec PyProof.Rows L2 Ns
theorem dp_cars {K : PySem.W.Frag} {H : Hp} : ∀ {ys : List V} {fl : List Car}, Paired (CarV K H) ys fl → DpAll K H ys (fl.map carD)
  | _, _, .nil => .nil
  | _, _, .cons ⟨t, e, h⟩ r => by
    subst e
    exact .cons (.tup h (.cons (.str _) (.cons (.str _) (.cons (.int _) (.cons (.int _) .nil))))) (dp_cars r)
theorem nf_ok {t : Str} (h : Nf t) : PyData.strOk t = true := by
  rcases h with h | rfl
  · exact nm_ok h
  · decide +kernel
theorem lay_cars : ∀ {fl : List Car}, (∀ r ∈ fl, Nm r.1 ∧ Nf r.2.1 ∧ 1 ≤ r.2.2.1 ∧ r.2.2.1 ≤ 10 ^ 12 ∧ 0 ≤ r.2.2.2 ∧ r.2.2.2 ≤ 10 ^ 12) → PyData.canLayAll0 (fl.map carD) = true ∧ PyData.depthAll (fl.map carD) ≤ 1
  | [], _ => ⟨rfl, by simp [PyData.depthAll]⟩
  | r :: fl, h => by
    obtain ⟨h1, h2⟩ := lay_cars fun r hr => h r (List.mem_cons_of_mem _ hr)
    obtain ⟨g1, g2, _⟩ := h r List.mem_cons_self
    refine ⟨by simp [carD, PyData.canLayAll0, PyData.canLay0, h1, nm_ok g1, nf_ok g2], ?_⟩
    simp only [List.map_cons, PyData.depthAll, carD, PyData.depth]
    omega
theorem shaped_cars {fl : List Car} (h : ∀ r ∈ fl, Nm r.1 ∧ Nf r.2.1 ∧ 1 ≤ r.2.2.1 ∧ r.2.2.1 ≤ 10 ^ 12 ∧ 0 ≤ r.2.2.2 ∧ r.2.2.2 ≤ 10 ^ 12) : SeqAt.shaped (.list (fl.map carD)) = true := by
  obtain ⟨h1, h2⟩ := lay_cars h
  unfold SeqAt.shaped
  rw [Bool.and_eq_true]
  refine ⟨by simp [PyData.canLay0, h1], decide_eq_true ?_⟩
  simp only [PyData.depth]
  omega
theorem dp_ints {K : PySem.W.Frag} {H : Hp} : ∀ l : List Int, DpAll K H (l.map V.int) (l.map PyData.int)
  | [] => .nil
  | i :: l => .cons (.int i) (dp_ints l)
theorem lay_ints : ∀ l : List Int, PyData.canLayAll0 (l.map PyData.int) = true ∧ PyData.depthAll (l.map PyData.int) = 0
  | [] => ⟨rfl, by simp [PyData.depthAll]⟩
  | i :: l => by
    obtain ⟨h1, h2⟩ := lay_ints l
    exact ⟨by simp [PyData.canLayAll0, PyData.canLay0, h1], by simp [PyData.depthAll, PyData.depth, h2]⟩
theorem shaped_ints (l : List Int) : SeqAt.shaped (.list (l.map PyData.int)) = true := by
  obtain ⟨h1, h2⟩ := lay_ints l
  unfold SeqAt.shaped
  rw [Bool.and_eq_true]
  refine ⟨by simp [PyData.canLay0, h1], decide_eq_true ?_⟩
  simp only [PyData.depth, h2]
  decide
end Y

/-! what the law of looked-at yards sums up -/
namespace Y
open PySem PySem.Spec PyProof.Rows L2 Ns
theorem paired_dict {K : PySem.W.Frag} {H : Hp} : ∀ {ts : List Addr} {rs : List Car}, Paired (fun t (r : Car) => SqT K H t [.str r.1, .int r.2.2.2]) ts rs → Paired (fun (p : Addr) (kv : Key × V) => SqT K H p [kV kv.1, kv.2]) ts (kvI (rs.map nd))
  | _, _, .nil => .nil
  | _, _, .cons h t => .cons h (paired_dict t)
/-- a dict of numbers as a datum -/
def dicD (l : List (Str × Int)) : PyData := .dict (((kvI l).map fun p => kD p.1).zip (l.map fun p => PyData.int p.2))
theorem dat_dict {K : PySem.W.Frag} {H : Hp} {a : Addr} {l : List (Str × Int)} (h : H a = some (.dK (kvI l))) : DatV K H (.ref a) (dicD l) := by
  refine .dic h ?_
  have e1 : (kvI l).map (·.2) = (l.map (·.2)).map V.int := by unfold kvI; rw [List.map_map, List.map_map]; rfl
  have e2 : (l.map fun p => PyData.int p.2) = (l.map (·.2)).map PyData.int := by rw [List.map_map]; rfl
  rw [e1, e2]
  exact dat_ints _
theorem fit_dic {l : List (Str × Int)} (hl : l.length ≤ 24) (h : ∀ p ∈ l, Nf p.1 ∧ 0 ≤ p.2 ∧ p.2 ≤ 10 ^ 12) : Fit 20000 1 (dicD l) := by
  refine (fit_dict (m := 300) (k := 0) fun p hp => ?_).mono ?_ (by decide)
  · obtain ⟨j, hj⟩ := List.mem_iff_getElem?.mp hp
    obtain ⟨j1, j2⟩ := List.getElem?_zip_eq_some.mp hj
    unfold kvI at j1
    rw [List.map_map, List.getElem?_map] at j1
    rw [List.getElem?_map] at j2
    cases hq : l[j]? with
    | none => rw [hq] at j1; cases j1
    | some q =>
      rw [hq] at j1 j2
      obtain ⟨h1, h2, h3⟩ := h q (List.mem_of_getElem? hq)
      have e1 : p.1 = .str q.1 := (Option.some.inj j1).symm
      have e2 : p.2 = .int q.2 := (Option.some.inj j2).symm
      rw [e1, e2]
      exact ⟨fit_name h1, fit_num h2 h3⟩
  · unfold kvI
    rw [List.length_zip, List.length_map, List.length_map, List.length_map, Nat.min_self]
    omega
theorem fit_txs {l : List Str} (hl : l.length ≤ 50) (h : ∀ x ∈ l, Nf x) : Fit 20000 1 (.tuple (l.map PyData.str)) := by
  refine (fit_tuple (m := 300) (k := 0) fun d hd => ?_).mono ?_ (by decide)
  · obtain ⟨x, hx, rfl⟩ := List.mem_map.mp hd
    exact fit_name (h x hx)
  · rw [List.length_map]
    omega
theorem sum_bd {m : Int} (hm : 0 ≤ m) : ∀ {l : List Int}, (∀ i ∈ l, 0 ≤ i ∧ i ≤ m) → 0 ≤ l.sum ∧ l.sum ≤ l.length * m
  | [], _ => by simp
  | i :: l, h => by
    obtain ⟨h1, h2⟩ := sum_bd hm (l := l) fun j hj => h j (List.mem_cons_of_mem _ hj)
    obtain ⟨h3, h4⟩ := h i List.mem_cons_self
    rw [List.sum_cons, List.length_cons]
    refine ⟨by omega, ?_⟩
    have e : ((l.length + 1 : Nat) : Int) * m = l.length * m + m := by
      rw [show ((l.length + 1 : Nat) : Int) = (l.length : Int) + 1 by omega, Int.add_mul, Int.one_mul]
    rw [e]
    omega
theorem perm_sum {l m : List Int} (h : l.Perm m) : l.sum = m.sum := by
  induction h with
  | nil => rfl
  | cons x _ ih => rw [List.sum_cons, List.sum_cons, ih]
  | swap x y l => simp only [List.sum_cons]; omega
  | trans _ _ h1 h2 => rw [h1, h2]
theorem fit_sum {l : List Int} (hl : l.length ≤ 100) (h : ∀ i ∈ l, 0 ≤ i ∧ i ≤ 10 ^ 12) : Fit 300 0 (.int l.sum) := by
  obtain ⟨h1, h2⟩ := sum_bd (by decide) h
  have h3 : (l.length : Int) * 10 ^ 12 ≤ 100 * 10 ^ 12 := Int.mul_le_mul_of_nonneg_right (by omega) (by decide)
  exact (fit_int (n := 16) (by decide) (by omega) (by decide)).mono (by decide) (Nat.le_refl _)
/-- the need of a name -/
def nv (rs : List Car) (x : Str) : Int := ((rs.find? fun r => decide (r.1 = x)).map (·.2.2.2)).getD 0
theorem nv_at {rs : List Car} (n : (rs.map (·.1)).Nodup) {r : Car} (h : r ∈ rs) : nv rs r.1 = r.2.2.2 := by
  unfold nv
  cases e : rs.find? fun q => decide (q.1 = r.1) with
  | none => exact absurd (decide_eq_true rfl) (List.find?_eq_none.mp e r h)
  | some q =>
    have k : q.1 = r.1 := by simpa using List.find?_some e
    have hq := List.mem_of_find?_eq_some e
    obtain ⟨i, hi⟩ := List.mem_iff_getElem?.mp hq
    obtain ⟨j, hj⟩ := List.mem_iff_getElem?.mp h
    by_cases ij : i = j
    · rw [ij, hj] at hi
      cases hi
      rfl
    · exact absurd k (row_ne n (by rw [List.getElem?_map, hi]; rfl) (by rw [List.getElem?_map, hj]; rfl) ij)
theorem nv_mem {rs : List Car} (n : (rs.map (·.1)).Nodup) {x : Str} (h : x ∈ rs.map (·.1)) : (x, nv rs x) ∈ rs.map nd ∧ ∃ r ∈ rs, r.1 = x ∧ nv rs x = r.2.2.2 := by
  obtain ⟨r, hr, rfl⟩ := List.mem_map.mp h
  have e := nv_at n hr
  exact ⟨List.mem_map.mpr ⟨r, hr, by unfold nd; rw [e]⟩, r, hr, rfl, e⟩
theorem need_sum {rs : List Car} {ls : List Str} (n : (rs.map (·.1)).Nodup) (nl : ls.Nodup) (sub : ∀ x ∈ ls, x ∈ rs.map (·.1)) : ((rs.filter fun r => decide (r.1 ∈ ls)).map (·.2.2.2)).sum = (ls.map (nv rs)).sum := by
  have e1 : (rs.filter fun r => decide (r.1 ∈ ls)).map (·.2.2.2) = ((rs.filter fun r => decide (r.1 ∈ ls)).map (·.1)).map (nv rs) := by
    rw [List.map_map]
    apply List.map_congr_left
    intro r hr
    exact (nv_at n (List.mem_filter.mp hr).1).symm
  rw [e1]
  refine perm_sum (List.Perm.map _ (perm_of_mem ?_ nl fun s => ?_))
  · exact n.sublist (List.Sublist.map _ List.filter_sublist)
  · rw [List.mem_map]
    constructor
    · rintro ⟨r, hr, rfl⟩
      exact of_decide_eq_true (List.mem_filter.mp hr).2
    · intro hs
      obtain ⟨r, hr, e⟩ := List.mem_map.mp (sub s hs)
      exact ⟨r, List.mem_filter.mpr ⟨hr, decide_eq_true (by rw [e]; exact hs)⟩, e⟩
/-- what is told of a yard, as a datum -/
def toldD (ws ns : List Str) (l : List (Str × Int)) : PyData := .list [.tuple (ws.map PyData.str), .tuple (ns.map PyData.str), dicD l]
theorem fit_told {ws ns : List Str} {l : List (Str × Int)} (h1 : ws.length ≤ 50) (h2 : ∀ x ∈ ws, Nf x) (h3 : ns.length ≤ 50) (h4 : ∀ x ∈ ns, Nf x) (h5 : l.length ≤ 24) (h6 : ∀ p ∈ l, Nf p.1 ∧ 0 ≤ p.2 ∧ p.2 ≤ 10 ^ 12) : Fit 100000 2 (toldD ws ns l) := by
  refine (fit_list (m := 20000) (k := 1) fun d hd => ?_).mono (show 3 * (20000 + 2) + 3 ≤ 100000 by decide) (by decide)
  simp only [List.mem_cons, List.not_mem_nil, or_false] at hd
  rcases hd with rfl | rfl | rfl
  · exact fit_txs h1 h2
  · exact fit_txs h3 h4
  · exact fit_dic h5 h6
section
variable {K : PySem.W.Frag} {H : Hp}
theorem told_due {a b p q r u v w : Addr} {ws ns : List Str} {l : List (Str × Int)} {n : Nat} (t1 : H a = some (.lst [.ref p, .ref q, .ref r])) (c1 : H b = some (.lst [.ref u, .ref v, .ref w])) (t2 : H p = some (.tup (txs ws))) (c2 : H u = some (.tup (txs ws)))
    (t3 : H q = some (.tup (txs ns))) (c3 : H v = some (.tup (txs ns))) (t4 : H r = some (.dK (kvI l))) (c4 : H w = some (.dK (kvI l))) (nd : (l.map (·.1)).Nodup) : EqS K H (n + 2) (.ref a) (.ref b) :=
  .inl (.inl ⟨a, b, _, _, rfl, rfl, SqL.of t1, SqL.of c1, .cons (eqT_tup n (SqT.of t2) (SqT.of c2) flat_str) (.cons (eqT_tup n (SqT.of t3) (SqT.of c3) flat_str) (.cons (eqT_dict n nd t4 c4) .nil))⟩)
theorem dat_told {a p q r : Addr} {ws ns : List Str} {l : List (Str × Int)} (t1 : H a = some (.lst [.ref p, .ref q, .ref r])) (t2 : H p = some (.tup (txs ws))) (t3 : H q = some (.tup (txs ns))) (t4 : H r = some (.dK (kvI l))) : DatV K H (.ref a) (toldD ws ns l) :=
  .lst (SqL.of t1) (.cons (.tup (SqT.of t2) (dat_txs ws)) (.cons (.tup (SqT.of t3) (dat_txs ns)) (.cons (dat_dict t4) .nil)))
end
end Y

/-! a dict that is walked stands locked; what a name has in a dict of numbers -/
namespace Y
open PySem PySem.Spec PyProof.Rows L2 Ns
/-- the heap with the dict at d locked -/
abbrev lk (H : Hp) (d : Addr) (od : Obj) (l : List (Str × Int)) : Hp := upd H d (.frz od (.dK (kvI l)))
theorem lk_at {H : Hp} {d c : Addr} {od : Obj} {l : List (Str × Int)} {o : HO} (e : H d = some (.dK (kvI l))) (h : H c = some o) (n : ∀ k, o ≠ .dK k) : lk H d od l c = some o := by
  by_cases z : c = d
  · rw [z, e] at h
    exact absurd (Option.some.inj h).symm (n _)
  · rw [lk, upd_ne z]
    exact h
theorem lk_ne {H : Hp} {d c : Addr} {od : Obj} {l : List (Str × Int)} {o : HO} (z : c ≠ d) (h : H c = some o) : lk H d od l c = some o := by
  rw [lk, upd_ne z]
  exact h
theorem lk_none {H : Hp} {d c : Addr} {od : Obj} {l : List (Str × Int)} (e : H d = some (.dK (kvI l))) (h : lk H d od l c = none) : H c = none := by
  by_cases z : c = d
  · rw [lk, z, upd_same] at h
    cases h
  · rw [lk, upd_ne z] at h
    exact h
theorem lk_sqt {K : PySem.W.Frag} {H : Hp} {d t : Addr} {od : Obj} {l : List (Str × Int)} {xs : List V} (e : H d = some (.dK (kvI l))) (h : SqT K H t xs) : SqT K (lk H d od l) t xs := by
  rcases h with (h | ⟨o, h⟩) | h
  · exact .inl (.inl (lk_at e h fun k z => by cases z))
  · exact .inl (.inr ⟨o, lk_at e h fun k z => by cases z⟩)
  · exact .inr h
theorem lk_yard {K : PySem.W.Frag} {H : Hp} {d : Addr} {od : Obj} {l : List (Str × Int)} {y : V} {cs : List Cab} {rs : List Car} (e : H d = some (.dK (kvI l))) (h : YardV K H y cs rs) : YardV K (lk H d od l) y cs rs := by
  obtain ⟨t, a, b, xs, zs, rfl, h1, h2, h3, h4, h5⟩ := h
  exact ⟨t, a, b, xs, zs, rfl, lk_sqt e h1, lk_sqt e h2, lk_sqt e h3, paired_imp (fun v c ⟨a, e1, q⟩ => ⟨a, e1, lk_sqt e q⟩) h4, paired_imp (fun v c ⟨a, e1, q⟩ => ⟨a, e1, lk_sqt e q⟩) h5⟩
/-- unlocked again -/
theorem unlk {H H' : Hp} {d : Addr} {od : Obj} {l : List (Str × Int)} (e : H d = some (.dK (kvI l))) (m : Same (lk H d od l) H') : Same H (upd H' d (.dK (kvI l))) := fun c o h => by
  by_cases z : c = d
  · rw [z, upd_same, ← e, ← z]
    exact h
  · rw [upd_ne z]
    exact m _ _ (lk_ne z h)
theorem unlk_at {H' : Hp} {d c : Addr} {l : List (Str × Int)} {o : HO} (z : c ≠ d) (h : H' c = some o) : upd H' d (.dK (kvI l)) c = some o := by
  rw [upd_ne z]
  exact h
/-- what a name has -/
def look (l : List (Str × Int)) (x : Str) : Option Int := (l.find? fun p => decide (p.1 = x)).map (·.2)
theorem kvI_look : ∀ (l : List (Str × Int)) (x : Str), valV (kvI l) (Sum.inr x) = (look l x).map V.int
  | [], _ => rfl
  | p :: l, x => by
    show valV (((Sum.inr p.1 : Key), V.int p.2) :: kvI l) (Sum.inr x) = _
    unfold look
    by_cases e : p.1 = x
    · rw [List.find?_cons_of_pos (by simpa using e), valV_pos (by rw [e])]
      rfl
    · rw [List.find?_cons_of_neg (by simpa using e), valV_neg (fun z => e (by injection z))]
      exact kvI_look l x
theorem look_mem {l : List (Str × Int)} (n : (l.map (·.1)).Nodup) {x : Str} {v : Int} (h : (x, v) ∈ l) : look l x = some v := by
  have a := kvI_get n h
  rw [kvI_look] at a
  cases e : look l x with
  | none => rw [e] at a; cases a
  | some u => rw [e] at a; cases a; rfl
theorem look_none {l : List (Str × Int)} {x : Str} (h : x ∉ l.map (·.1)) : look l x = none := by
  have a := kvI_none h
  rw [kvI_look] at a
  cases e : look l x with
  | none => rfl
  | some u => rw [e] at a; cases a
theorem look_some {l : List (Str × Int)} {x : Str} {v : Int} (h : look l x = some v) : (x, v) ∈ l := by
  unfold look at h
  obtain ⟨p, hp, e⟩ := Option.map_eq_some_iff.mp h
  have h1 := List.mem_of_find?_eq_some hp
  have h2 : p.1 = x := by simpa using List.find?_some hp
  rw [← h2, ← e]
  exact h1
theorem get_look {H : Hp} {d : Addr} {l : List (Str × Int)} {x : Str} (e : H d = some (.dK (kvI l))) : DGet H d (.str x) ((look l x).map V.int) := by
  have g := DGet.k (k := Sum.inr x) e
  rw [kvI_look] at g
  exact g
/-- .. of a locked dict -/
theorem get_lookF {H : Hp} {d : Addr} {od : Obj} {l : List (Str × Int)} {x : Str} (e : H d = some (.frz od (.dK (kvI l)))) : DGet H d (.str x) ((look l x).map V.int) := by
  refine .inl ⟨kvI l, Sum.inr x, .inr ⟨od, e⟩, rfl, ?_⟩
  exact (kvI_look l x).symm
section
variable {J : It} {n : Nat} {G : Hp → Prop} {Y : Nat → Hp → V → Hp → Prop}
/-- a dict comprehension over it -/
theorem dc_it (w : Walk J n G Y) {g : TG} {tt : TT} {tk tv : TE} {vs : List Nat} {σ : L2.St} {H1 : Hp} {D : Addr} {Qd : Hp → Prop} (Pv : Nat → Hp → Prop) (h0 : Pv 0 (upd H1 D (.dK []))) (hG : ∀ i H, i ≤ n → Pv i H → G H)
    (hs : ∀ i x H H', i < n → Pv i H → Y i H x H' → g x (wipe σ vs) H' fun σ2 H2 => wipe σ2 vs = wipe σ vs ∧ tt σ2 H2 fun b H3 =>
      if b = true then tk σ2 H3 fun y H4 => tv σ2 H4 fun z H5 => ∃ kvs k, y = kV k ∧ H5 D = some (.dK kvs) ∧ kvs.length < sizeLine ∧ Pv (i + 1) (upd H5 D (.dK (putK kvs k z))) else Pv (i + 1) H3) (hd : ∀ H, Pv n H → Qd H) :
    ∃ W : Nat → Nat → Hp → Prop, (∃ m, W 0 m (upd H1 D (.dK []))) ∧ ∀ i m H, W i m H →
      (J.stop i H ∧ Qd H) ∨ (J.go i H ∧ ∃ Nx : Hp → Prop, (∀ H', Nx H' → ∃ m', m' < m ∧ W (i + 1) m' H') ∧ ∀ x H', J.yld i H x H' → g x (wipe σ vs) H' fun σ2 H2 => wipe σ2 vs = wipe σ vs ∧ tt σ2 H2 fun b H3 =>
        if b = true then tk σ2 H3 fun y H4 => tv σ2 H4 fun z H5 => ∃ kvs k, y = kV k ∧ H5 D = some (.dK kvs) ∧ kvs.length < sizeLine ∧ Nx (upd H5 D (.dK (putK kvs k z))) else Nx H3) := by
  refine ⟨fun i m H => m = n - i ∧ i ≤ n ∧ Pv i H, ⟨n, by simp, Nat.zero_le _, h0⟩, fun i m H ⟨em, hi, p⟩ => ?_⟩
  subst em
  rcases Nat.lt_or_eq_of_le hi with hlt | e
  · exact .inr ⟨w.goes i H hlt (hG i H hi p), Pv (i + 1), fun H' p' => ⟨n - (i + 1), by omega, rfl, hlt, p'⟩, fun x H' y => hs i x H H' hlt p (w.yields i H x H' hlt (hG i H hi p) y)⟩
  · subst e
    exact .inl ⟨w.stops H (hG _ H hi p), hd H p⟩
end
end Y

namespace Y
open PySem PySem.Spec PyProof.Rows L2 Ns
open C8 (pss_cut)
/-- a car with the need that a dict tells, where it tells one -/
def chg (l : List (Str × Int)) (r : Car) : Car := (r.1, r.2.1, r.2.2.1, (look l r.1).getD r.2.2.2)
/-- a new yard -/
def spWithNeeds (K : PySem.W.Frag) : Sp := fun as H Q _ => ∃ (y : V) (d : Addr) (cs : List Cab) (rs : List Car) (l : List (Str × Int)), as = [y, .ref d] ∧ YardV K H y cs rs ∧ H d = some (.dK (kvI l)) ∧ rs.length ≤ 1000 ∧
  ∀ (t : Addr) (H' : Hp), YardV K H' (.ref t) cs (rs.map (chg l)) → H t = none → Same H H' → Q (.ref t) H'
def spFits (K : PySem.W.Frag) : Sp := fun as H Q _ => ∃ (y : V) (d : Addr) (cs : List Cab) (rs : List Car) (l : List (Str × Int)), as = [y, .ref d] ∧ YardV K H y cs rs ∧ H d = some (.dK (kvI l)) ∧ (rs.map (·.1)).Nodup ∧ rs.length ≤ 1000 ∧ l.length ≤ 1000 ∧ (∀ p ∈ l, p.1 ∈ rs.map (·.1)) ∧
  ∀ H' : Hp, Same H H' → Q (.bl (l.all fun p => decide (p.2 ≤ nv rs p.1))) H'
/-- the needs behind -/
def lessN (rs : List Car) (l : List (Str × Int)) : List (Str × Int) := l.map fun p => (p.1, nv rs p.1 - p.2)
def spCharged (K : PySem.W.Frag) : Sp := fun as H Q _ => ∃ (y : V) (d : Addr) (cs : List Cab) (rs : List Car) (l : List (Str × Int)), as = [y, .ref d] ∧ YardV K H y cs rs ∧ H d = some (.dK (kvI l)) ∧ (rs.map (·.1)).Nodup ∧ rs.length ≤ 1000 ∧ l.length ≤ 1000 ∧ (l.map (·.1)).Nodup ∧ (∀ p ∈ l, p.1 ∈ rs.map (·.1)) ∧
  ∀ (t : Addr) (H' : Hp), YardV K H' (.ref t) cs (rs.map (chg (lessN rs l))) → H t = none → Same H H' → Q (.ref t) H'
theorem car_refs {K : PySem.W.Frag} {H H' : Hp} : ∀ {ts : List Addr} {rs : List Car}, Paired (fun t (r : Car) => H t = some (.tup [.str r.1, .str r.2.1, .int r.2.2.1, .int r.2.2.2])) ts rs → Same H H' → Paired (CarV K H') (ts.map V.ref) rs
  | _, _, .nil, _ => .nil
  | _, _, .cons h t, m => .cons ⟨_, rfl, SqT.of (m _ _ h)⟩ (car_refs t m)
section
variable {P : Program} {w : World} {K : PySem.W.Frag} {mg : Str → Option Value} {base : Heap}
theorem scWN : FnScope ["yard", "needs", "cables", "cars", "name", "knot", "rate", "need"] ["yard", "needs"] (defScope sWithNeeds) := ⟨rfl, rfl, rfl, by decide +kernel, rfl, by decide +kernel, by decide +kernel⟩
theorem ok_withNeeds {f : Addr} {fd : FuncData} (F : Fun K "with_needs" "with_needs" sWithNeeds f fd) (T : Nat0 mg) : FnOk P w K mg base CX0 1 f fd ["yard", "needs"] (spWithNeeds K) := by
  refine F.ok scWN (fun as H Q E h => ?_) (fun cdv A outer s H as Q E hr h => ?_)
  · obtain ⟨y, d, cs, rs, l, rfl, _⟩ := h
    rfl
  · obtain ⟨y, d, cs, rs, l, rfl, hV, hd, hl, k⟩ := h
    have hu := hu_of hr
    refine ⟨_, pss_cons (ps_asg (pv 0) (pg_tup rfl (pgs_cons (pg_name (i := 2) scWN.nd rfl (.inl rfl)) (pgs_cons (pg_name (i := 3) scWN.nd rfl (.inl rfl)) pgs_nil))))
      (pss_one (ps_ret (pe_tup (pa_cons (pv 2) (pa_cons (pe_callTy call_tuple_of (by rfl) T.tuple (by decide +kernel) (pa_cons
        (pe_lc (own := [("name", 4), ("knot", 5), ("rate", 6), ("need", 7)]) (g := gTup K 4 (gCons (gName 4) (gCons (gName 5) (gCons (gName 6) (gCons (gName 7) gNil))))) (tt := tYes) rfl scWN.nd (pi_tup (pv 3))
          (blkOk_by (N := ["yard", "needs", "cables", "cars", "name", "knot", "rate", "need"]) (sc := defScope sWithNeeds) (by decide +kernel))
          (fun _ _ _ _ _ => pg_tup rfl (pgs_cons (pg_name (i := 4) scWN.nd rfl (Or.inl rfl)) (pgs_cons (pg_name (i := 5) scWN.nd rfl (Or.inl rfl)) (pgs_cons (pg_name (i := 6) scWN.nd rfl (Or.inl rfl)) (pgs_cons (pg_name (i := 7) scWN.nd rfl (Or.inl rfl)) pgs_nil))))) (fun _ _ _ _ _ => pts_nil)
          (fun _ _ _ _ _ => pe_tup (pa_cons (pv 4) (pa_cons (pv 5) (pa_cons (pv 6) (pa_cons (pe_dget2 hu (pv 1) (pv 4) (pv 7) ⟨by rfl, by rfl, by rfl, by rfl⟩) pa_nil)))))) pa_nil)) pa_nil))))), ?_⟩
    obtain ⟨ty, ya, yb, xs, zs, rfl, v1, v2, v3, v4, v5⟩ := hV
    have lz : zs.length = rs.length := paired_len v5
    refine ⟨_, rfl, ty, _, rfl, v1, rfl, _, _, rfl, _, _, rfl, rfl, ?_⟩
    refine ⟨_, rfl, _, rfl, yb, rfl, ⟨_, v3⟩, fun D hD => ?_⟩
    refine lc_tup (K := K) (a := yb) (xs := zs) (fun i H' => ∃ ts : List Addr, H' D = some (.lst (ts.map V.ref)) ∧ Paired (fun t (r : Car) => H' t = some (.tup [.str r.1, .str r.2.1, .int r.2.2.1, .int r.2.2.2])) ts ((rs.take i).map (chg l)) ∧ Same H H') ?_ ?_ ?_ ?_
    · exact ⟨[], upd_same, by rw [List.take_zero]; exact .nil, same_new (Same.refl H) hD⟩
    · rintro i H' _ ⟨_, _, _, m⟩
      exact sqt_more m v3
    · rintro i x H' hx ⟨ts, q1, q2, q3⟩
      obtain ⟨r, hr, q, rfl, hq⟩ := paired_at v5 hx
      have hi' : i < rs.length := (List.getElem?_eq_some_iff.mp hr).1
      have hd' := q3 _ _ hd
      refine ⟨q, _, rfl, sqt_more q3 hq, rfl, _, _, rfl, _, _, rfl, _, _, rfl, _, _, rfl, rfl, ?_⟩
      refine ⟨rfl, _, rfl, _, rfl, _, rfl, _, rfl, d, rfl, .inl ⟨_, .inl hd'⟩, _, rfl, _, rfl, (look l r.1).map V.int, get_look (x := r.1) hd', ?_⟩
      have ev : ((look l r.1).map V.int).getD (.int r.2.2.2) = V.int ((look l r.1).getD r.2.2.2) := by cases look l r.1 <;> rfl
      rw [ev]
      refine ⟨by show 4 ≤ sizeLine; decide, fun t ht => ?_⟩
      have nt : t ≠ D := fun z => by rw [z, q1] at ht; cases ht
      have tl : ts.length ≤ 1000 := by
        rw [paired_len q2, List.length_map, List.length_take]
        omega
      refine ⟨ts.map V.ref, s3u ht q1, by rw [List.length_map]; exact small1000 tl, ts ++ [t], by rw [upd_same, List.map_append]; rfl, ?_, same_put (same_new q3 ht) hD⟩
      rw [List.take_succ, hr, List.map_append]
      refine paired_snoc (by rw [upd_ne nt, upd_same]; rfl) (paired_imp (fun t0 r h => ?_) q2)
      have n0 : t0 ≠ D := fun z => by rw [z, q1] at h; cases h
      rw [upd_ne n0]
      exact s3u ht h
    · rintro H' ⟨ts, q1, q2, q3⟩
      rw [lz, List.take_length] at q2
      refine ⟨D, _, rfl, .inl ⟨SqL.of q1, fun p hp => ⟨by show 2 ≤ sizeLine; decide, fun t ht => ?_⟩⟩⟩
      have m1 := same_new (o := .tup (ts.map V.ref)) q3 hp
      have m2 := same_new (o := .tup [.ref ya, .ref p]) m1 ht
      refine k t _ ⟨t, ya, p, xs, ts.map V.ref, rfl, SqT.of upd_same, sqt_more m2 v2, SqT.of (s3u ht upd_same), paired_imp (fun v c ⟨a, e1, q⟩ => ⟨a, e1, sqt_more m2 q⟩) v4, ?_⟩ ?_ m2
      · exact car_refs q2 fun c o e => s3u ht (s3u hp e)
      · cases e : H t with
        | none => rfl
        | some o => rw [m1 _ _ e] at ht; cases ht
end
end Y

namespace Y
open PySem PySem.Spec PyProof.Rows L2 Ns
open C8 (pss_cut)
theorem kvI_at {l : List (Str × Int)} {i : Nat} {x z : V} (hi : i < (kvI l).length) (h1 : ((kvI l)[i]?.map fun kv => kV kv.1) = some x) (h2 : ((kvI l)[i]?.map Prod.snd) = some z) : ∃ p : Str × Int, l[i]? = some p ∧ x = .str p.1 ∧ z = .int p.2 := by
  unfold kvI at h1 h2 hi
  rw [List.length_map] at hi
  rw [List.getElem?_map, List.getElem?_eq_getElem hi] at h1 h2
  cases h1
  cases h2
  exact ⟨l[i], List.getElem?_eq_getElem hi, rfl, rfl⟩
theorem fr_none {H H' : Hp} {p : Addr} (m : Same H H') (h : H' p = none) : H p = none := by
  cases e : H p with
  | none => rfl
  | some o => rw [m _ _ e] at h; cases h
theorem need_get {rs : List Car} (nn : (rs.map (·.1)).Nodup) {H : Hp} {p : Addr} {x : Str} (e : H p = some (.dK (kvI (rs.map nd)))) (h : x ∈ rs.map (·.1)) : DGet H p (.str x) (some (.int (nv rs x))) := by
  have g := DGet.k (k := Sum.inr x) e
  rw [kvI_get (by rw [List.map_map]; exact nn) (nv_mem nn h).1] at g
  exact g
section
variable {P : Program} {w : World} {K : PySem.W.Frag} {mg : Str → Option Value} {base : Heap}
theorem scF : FnScope ["yard", "amounts", "needs", "name", "amount"] ["yard", "amounts"] (defScope sFits) := ⟨rfl, rfl, rfl, by decide +kernel, rfl, by decide +kernel, by decide +kernel⟩
theorem ok_fits {f fN : Addr} {fd dN : FuncData} (F : Fun K "fits" "fits" sFits f fd) (T : Nat0 mg) (FN : Fun K "needs_of" "needs_of" sNeedsOf fN dN) (mN : mg "needs_of" = some (.ref fN)) (bN : Binds K dN ["yard"] []) : FnOk P w K mg base CX0 2 f fd ["yard", "amounts"] (spFits K) := by
  have GN : FnOk P w K mg base CX0 1 fN dN ["yard"] (spNeedsOf K) := ok_needsOf FN
  refine F.ok scF (fun as H Q E h => ?_) (fun cdv A outer s H as Q E hr h => ?_)
  · obtain ⟨y, d, cs, rs, l, rfl, _⟩ := h
    rfl
  · obtain ⟨y, d, cs, rs, l, rfl, hV, hd, nn, hl, ll, sub, k⟩ := h
    have hu := hu_of hr
    refine ⟨_, pss_cons (ps_set (i := 2) scF.nd rfl (.inr rfl) (pe_call GN hr rfl mN FN.kp bN .nil pass0 (pa_cons (pv 0) pa_nil)))
      (pss_one (ps_ret (pe_callB (cr_all rfl) (by rfl) T.all (by decide +kernel) (pa_cons (pe_lock (pe_lc (own := [("name", 3), ("amount", 4)]) (g := gTup K 2 (gCons (gName 3) (gCons (gName 4) gNil))) (tt := tYes) rfl scF.nd (pi_items (pv 1))
        (blkOk_by (N := ["yard", "amounts", "needs", "name", "amount"]) (sc := defScope sFits) (by decide +kernel)) (fun _ _ _ _ _ => pg_tup rfl (pgs_cons (pg_name (i := 3) scF.nd rfl (Or.inl rfl)) (pgs_cons (pg_name (i := 4) scF.nd rfl (Or.inl rfl)) pgs_nil)))
        (fun _ _ _ _ _ => pts_nil) (fun _ _ _ _ _ => pe_cmpR op_le (pv 4) (pe_dget hu (pv 2) (pv 3) (fun _ _ => rfl)) (nomark _)))) pa_nil)))), ?_⟩
    refine ⟨_, rfl, y, cs, rs, rfl, hV, nn, hl, fun p1 H1 e1 f1 m1 => ?_⟩
    have hd1 := m1 _ _ hd
    have npd : p1 ≠ d := fun z => by rw [z, hd] at f1; cases f1
    refine ⟨d, _, hd1, trivial, fun od => ⟨_, rfl, d, od, kvI l, rfl, upd_same, fun D hD => ?_⟩⟩
    have nDd : D ≠ d := fun z => by rw [z, upd_same] at hD; cases hD
    have p1L : lk H1 d od l p1 = some (.dK (kvI (rs.map nd))) := lk_ne npd e1
    have hdL : lk H1 d od l d = some (.frz od (.dK (kvI l))) := upd_same
    refine lc_it (walk_items (d := d) (o := od) (kvs := kvI l)) (fun i H' => H' D = some (.lst (((l.take i).map fun p => decide (p.2 ≤ nv rs p.1)).map V.bl)) ∧ Same (lk H1 d od l) H') ?_ ?_ ?_ ?_
    · exact ⟨by rw [List.take_zero, upd_same]; rfl, same_new (Same.refl _) hD⟩
    · rintro i H' _ ⟨_, m⟩
      exact m _ _ hdL
    · rintro i x H' H'' hi ⟨q1, q2⟩ ⟨T', k', v', rfl, fT, rfl, ek, ev⟩
      obtain ⟨p, hp, rfl, rfl⟩ := kvI_at hi ek ev
      have m2 := same_new (o := .tup [.str p.1, .int p.2]) q2 fT
      refine ⟨T', _, rfl, SqT.of upd_same, rfl, _, _, rfl, _, _, rfl, rfl, ?_⟩
      refine ⟨rfl, _, rfl, _, rfl, _, rfl, p1, _, rfl, need_get nn (m2 _ _ p1L) (sub p (List.mem_of_getElem? hp)), _, _, rfl, rfl, _, s3u fT q1, ?_, ?_, same_put m2 hD⟩
      · rw [List.length_map, List.length_map, List.length_take]
        exact small1000 (by omega)
      · rw [upd_same, List.take_succ, hp]
        simp
    · rintro H' ⟨q1, q2⟩
      rw [show (kvI l).length = l.length from List.length_map _, List.take_length] at q1
      refine ⟨q2 _ _ hdL, D, _, rfl, SqL.of (unlk_at nDd q1), ?_⟩
      have e : ((l.map fun p => decide (p.2 ≤ nv rs p.1)).all id) = l.all fun p => decide (p.2 ≤ nv rs p.1) := by
        rw [List.all_map]
        rfl
      rw [e]
      exact k _ (m1.trans (unlk hd1 q2))
theorem scCh : FnScope ["yard", "amounts", "needs", "name", "amount"] ["yard", "amounts"] (defScope sCharged) := ⟨rfl, rfl, rfl, by decide +kernel, rfl, by decide +kernel, by decide +kernel⟩
theorem ok_charged {f fN fW : Addr} {fd dN dW : FuncData} (F : Fun K "charged" "charged" sCharged f fd) (FN : Fun K "needs_of" "needs_of" sNeedsOf fN dN) (mN : mg "needs_of" = some (.ref fN)) (bN : Binds K dN ["yard"] [])
    (GW : FnOk P w K mg base CX0 1 fW dW ["yard", "needs"] (spWithNeeds K)) (FW : Fun K "with_needs" "with_needs" sWithNeeds fW dW) (mW : mg "with_needs" = some (.ref fW)) (bW : Binds K dW ["yard", "needs"] []) : FnOk P w K mg base CX0 2 f fd ["yard", "amounts"] (spCharged K) := by
  have GN : FnOk P w K mg base CX0 1 fN dN ["yard"] (spNeedsOf K) := ok_needsOf FN
  refine F.ok scCh (fun as H Q E h => ?_) (fun cdv A outer s H as Q E hr h => ?_)
  · obtain ⟨y, d, cs, rs, l, rfl, _⟩ := h
    rfl
  · obtain ⟨y, d, cs, rs, l, rfl, hV, hd, nn, hl, ll, ln, sub, k⟩ := h
    have hu := hu_of hr
    refine ⟨_, pss_cons (ps_set (i := 2) scCh.nd rfl (.inr rfl) (pe_call GN hr rfl mN FN.kp bN .nil pass0 (pa_cons (pv 0) pa_nil)))
      (pss_one (ps_ret (pe_call GW hr rfl mW FW.kp bW .nil pass0 (pa_cons (pv 0) (pa_cons (pe_lock (pe_dc (own := [("name", 3), ("amount", 4)]) (g := gTup K 2 (gCons (gName 3) (gCons (gName 4) gNil))) (tt := tYes) rfl scCh.nd (pi_items (pv 1))
        (blkOk_by (N := ["yard", "amounts", "needs", "name", "amount"]) (sc := defScope sCharged) (by decide +kernel)) (fun _ _ _ _ _ => pg_tup rfl (pgs_cons (pg_name (i := 3) scCh.nd rfl (Or.inl rfl)) (pgs_cons (pg_name (i := 4) scCh.nd rfl (Or.inl rfl)) pgs_nil)))
        (fun _ _ _ _ _ => pts_nil) (fun _ _ _ _ _ => pv 3) (fun _ _ _ _ _ => pe_op op_sub (pe_dget hu (pv 2) (pv 3) (fun _ _ => rfl)) (pv 4)))) pa_nil))))), ?_⟩
    refine ⟨_, rfl, y, cs, rs, rfl, hV, nn, hl, fun p1 H1 e1 f1 m1 => ?_⟩
    have hd1 := m1 _ _ hd
    have npd : p1 ≠ d := fun z => by rw [z, hd] at f1; cases f1
    refine ⟨_, rfl, d, _, hd1, trivial, fun od => ⟨_, rfl, d, od, kvI l, rfl, upd_same, fun D hD => ?_⟩⟩
    have nDd : D ≠ d := fun z => by rw [z, upd_same] at hD; cases hD
    have p1L : lk H1 d od l p1 = some (.dK (kvI (rs.map nd))) := lk_ne npd e1
    have hdL : lk H1 d od l d = some (.frz od (.dK (kvI l))) := upd_same
    refine dc_it (walk_items (d := d) (o := od) (kvs := kvI l)) (fun i H' => H' D = some (.dK (kvI (lessN rs (l.take i)))) ∧ Same (lk H1 d od l) H') ?_ ?_ ?_ ?_
    · exact ⟨by rw [List.take_zero, upd_same]; rfl, same_new (Same.refl _) hD⟩
    · rintro i H' _ ⟨_, m⟩
      exact m _ _ hdL
    · rintro i x H' H'' hi ⟨q1, q2⟩ ⟨T', k', v', rfl, fT, rfl, ek, ev⟩
      obtain ⟨p, hp, rfl, rfl⟩ := kvI_at hi ek ev
      have m2 := same_new (o := .tup [.str p.1, .int p.2]) q2 fT
      have fresh : p.1 ∉ (lessN rs (l.take i)).map (·.1) := fun z => by
        unfold lessN at z
        rw [List.map_map] at z
        obtain ⟨r, hr', e⟩ := List.mem_map.mp z
        obtain ⟨j, hj⟩ := List.mem_iff_getElem?.mp hr'
        have hji : j < i := by
          have := (List.getElem?_eq_some_iff.mp hj).1
          rw [List.length_take] at this
          omega
        rw [List.getElem?_take_of_lt hji] at hj
        exact row_ne ln (i := j) (j := i) (x := r.1) (y := p.1) (by rw [List.getElem?_map, hj]; rfl) (by rw [List.getElem?_map, hp]; rfl) (by omega) e
      refine ⟨T', _, rfl, SqT.of upd_same, rfl, _, _, rfl, _, _, rfl, rfl, ?_⟩
      refine ⟨rfl, _, rfl, _, rfl, _, rfl, p1, _, rfl, need_get nn (m2 _ _ p1L) (sub p (List.mem_of_getElem? hp)), _, rfl, _, _, rfl, rfl, _, Sum.inr p.1, rfl, s3u fT q1, ?_, ?_, same_put m2 hD⟩
      · unfold kvI lessN
        rw [List.length_map, List.length_map, List.length_take]
        exact small1000 (by omega)
      · rw [upd_same, putK_new _ (kvI_none fresh), List.take_succ, hp]
        unfold kvI lessN
        simp
    · rintro H' ⟨q1, q2⟩
      rw [show (kvI l).length = l.length from List.length_map _, List.take_length] at q1
      have mu := unlk hd1 q2
      refine ⟨q2 _ _ hdL, y, D, cs, rs, lessN rs l, rfl, hV.more (m1.trans mu), unlk_at nDd q1, hl, fun t H2 hV2 ft m3 => k t H2 hV2 ?_ ((m1.trans mu).trans m3)⟩
      exact fr_none (m1.trans mu) ft
end
end Y

namespace Y
open PySem PySem.Spec PyProof.Rows L2 Ns
open C8 (pss_cut)
theorem eqv_cab (c d : Cab) : PyData.eqv (cabD c) (cabD d) = true ↔ c = d := by
  simp [cabD, PyData.eqv, PyData.eqvAll, Prod.ext_iff]
theorem eqv_car (c d : Car) : PyData.eqv (carD c) (carD d) = true ↔ c = d := by
  simp [carD, PyData.eqv, PyData.eqvAll, Prod.ext_iff]
theorem eqv_all {α : Type} {f : α → PyData} (h : ∀ a b, PyData.eqv (f a) (f b) = true ↔ a = b) : ∀ as bs : List α, PyData.eqvAll (as.map f) (bs.map f) = true ↔ as = bs
  | [], [] => by simp [PyData.eqvAll]
  | [], b :: bs => by simp [PyData.eqvAll]
  | a :: as, [] => by simp [PyData.eqvAll]
  | a :: as, b :: bs => by simp [PyData.eqvAll, h, eqv_all h as bs]
theorem eqv_yard (cs cs' : List Cab) (rs rs' : List Car) : PyData.eqv (yardD cs rs) (yardD cs' rs') = true ↔ cs = cs' ∧ rs = rs' := by
  simp [yardD, PyData.eqv, PyData.eqvAll, eqv_all eqv_cab, eqv_all eqv_car]
theorem dp_cabs {K : PySem.W.Frag} {H : Hp} : ∀ {ys : List V} {fl : List Cab}, Paired (CabV K H) ys fl → DpAll K H ys (fl.map cabD)
  | _, _, .nil => .nil
  | _, _, .cons ⟨t, e, h⟩ r => by
    subst e
    exact .cons (.tup h (.cons (.str _) (.cons (.str _) (.cons (.int _) .nil)))) (dp_cabs r)
theorem dp_yard {K : PySem.W.Frag} {H : Hp} {y : V} {cs : List Cab} {rs : List Car} (h : YardV K H y cs rs) : Dp K H y (yardD cs rs) := by
  obtain ⟨t, a, b, xs, zs, rfl, h1, h2, h3, h4, h5⟩ := h
  exact .tup h1 (.cons (.tup h2 (dp_cabs h4)) (.cons (.tup h3 (dp_cars h5)) .nil))
/-- names that can be laid -/
structure Lays (cs : List Cab) (rs : List Car) : Prop where
  cab : ∀ c ∈ cs, Nf c.1 ∧ Nf c.2.1
  car : ∀ r ∈ rs, Nm r.1 ∧ Nf r.2.1
theorem YardP.lays {cs : List Cab} {rs : List Car} (h : YardP cs rs) : Lays cs rs := ⟨fun c hc => ⟨(h.cab c hc).1, (h.cab c hc).2.1⟩, fun r hr => ⟨(h.car r hr).1, (h.car r hr).2.1⟩⟩
theorem Lays.chg {cs : List Cab} {rs : List Car} (h : Lays cs rs) (l : List (Str × Int)) : Lays cs (rs.map (chg l)) := ⟨h.cab, fun r hr => by
  obtain ⟨q, hq, rfl⟩ := List.mem_map.mp hr
  exact h.car q hq⟩
theorem lay_rs : ∀ {fl : List Car}, (∀ r ∈ fl, Nm r.1 ∧ Nf r.2.1) → PyData.canLayAll0 (fl.map carD) = true ∧ PyData.depthAll (fl.map carD) ≤ 1
  | [], _ => ⟨rfl, by simp [PyData.depthAll]⟩
  | r :: fl, h => by
    obtain ⟨h1, h2⟩ := lay_rs fun r hr => h r (List.mem_cons_of_mem _ hr)
    obtain ⟨g1, g2⟩ := h r List.mem_cons_self
    refine ⟨by simp [carD, PyData.canLayAll0, PyData.canLay0, h1, nm_ok g1, nf_ok g2], ?_⟩
    simp only [List.map_cons, PyData.depthAll, carD, PyData.depth]
    omega
theorem lay_cs : ∀ {fl : List Cab}, (∀ c ∈ fl, Nf c.1 ∧ Nf c.2.1) → PyData.canLayAll0 (fl.map cabD) = true ∧ PyData.depthAll (fl.map cabD) ≤ 1
  | [], _ => ⟨rfl, by simp [PyData.depthAll]⟩
  | r :: fl, h => by
    obtain ⟨h1, h2⟩ := lay_cs fun r hr => h r (List.mem_cons_of_mem _ hr)
    obtain ⟨g1, g2⟩ := h r List.mem_cons_self
    refine ⟨by simp [cabD, PyData.canLayAll0, PyData.canLay0, h1, nf_ok g1, nf_ok g2], ?_⟩
    simp only [List.map_cons, PyData.depthAll, cabD, PyData.depth]
    omega
theorem shaped_yard {cs : List Cab} {rs : List Car} (h : Lays cs rs) : SeqAt.shaped (yardD cs rs) = true := by
  obtain ⟨h1, h2⟩ := lay_rs h.car
  obtain ⟨h3, h4⟩ := lay_cs h.cab
  unfold SeqAt.shaped yardD
  rw [Bool.and_eq_true]
  refine ⟨by simp [PyData.canLay0, PyData.canLayAll0, h1, h3], decide_eq_true ?_⟩
  simp only [PyData.depth, PyData.depthAll]
  omega
/-- the amounts between two yards -/
def btw (cs : List Cab) (rs : List Car) (cs' : List Cab) (rs' : List Car) : Option (List (Str × Int)) :=
  if cs = cs' ∧ rs.map (chg (rs'.map nd)) = rs' then
    if (rs.any fun r => decide (nv rs' r.1 > nv rs r.1)) = true then none else some ((rs.filter fun r => decide (nv rs' r.1 < nv rs r.1)).map fun r => (r.1, nv rs r.1 - nv rs' r.1))
  else none
def spBetween (K : PySem.W.Frag) : Sp := fun as H Q _ => ∃ (y z : V) (cs cs' : List Cab) (rs rs' : List Car), as = [y, z] ∧ YardV K H y cs rs ∧ YardV K H z cs' rs' ∧ Lays cs rs ∧ Lays cs' rs' ∧ (rs.map (·.1)).Nodup ∧ (rs'.map (·.1)).Nodup ∧ rs.length ≤ 1000 ∧ rs'.length ≤ 1000 ∧
  (btw cs rs cs' rs' = none → ∀ H', Same H H' → Q .non H') ∧ (∀ l, btw cs rs cs' rs' = some l → ∀ (p : Addr) (H' : Hp), H' p = some (.dK (kvI l)) → H p = none → Same H H' → Q (.ref p) H')
theorem need_getF {rs : List Car} (nn : (rs.map (·.1)).Nodup) {H : Hp} {p : Addr} {od : Obj} {x : Str} (e : H p = some (.frz od (.dK (kvI (rs.map nd))))) (h : x ∈ rs.map (·.1)) : DGet H p (.str x) (some (.int (nv rs x))) := by
  refine .inl ⟨_, Sum.inr x, .inr ⟨od, e⟩, rfl, ?_⟩
  rw [kvI_get (by rw [List.map_map]; exact nn) (nv_mem nn h).1]
theorem key_at {rs : List Car} {i : Nat} {k : Key} {v : V} (h : (kvI (rs.map nd))[i]? = some (k, v)) : ∃ r, rs[i]? = some r ∧ kV k = .str r.1 := by
  unfold kvI at h
  rw [List.map_map, List.getElem?_map] at h
  obtain ⟨r, e1, e2⟩ := Option.map_eq_some_iff.mp h
  cases e2
  exact ⟨r, e1, rfl⟩
section
variable {P : Program} {w : World} {K : PySem.W.Frag} {mg : Str → Option Value} {base : Heap}
theorem scAB : FnScope ["one", "other", "ahead", "behind", "name"] ["one", "other"] (defScope sAmountsBetween) := ⟨rfl, rfl, rfl, by decide +kernel, rfl, by decide +kernel, by decide +kernel⟩
theorem ok_between {f fN fW : Addr} {fd dN dW : FuncData} (F : Fun K "amounts_between" "amounts_between" sAmountsBetween f fd) (T : Nat0 mg) (FN : Fun K "needs_of" "needs_of" sNeedsOf fN dN) (mN : mg "needs_of" = some (.ref fN)) (bN : Binds K dN ["yard"] [])
    (GW : FnOk P w K mg base CX0 1 fW dW ["yard", "needs"] (spWithNeeds K)) (FW : Fun K "with_needs" "with_needs" sWithNeeds fW dW) (mW : mg "with_needs" = some (.ref fW)) (bW : Binds K dW ["yard", "needs"] []) : FnOk P w K mg base CX0 2 f fd ["one", "other"] (spBetween K) := by
  have GN : FnOk P w K mg base CX0 1 fN dN ["yard"] (spNeedsOf K) := ok_needsOf FN
  refine F.ok scAB (fun as H Q E h => ?_) (fun cdv A outer s H as Q E hr h => ?_)
  · obtain ⟨y, z, cs, cs', rs, rs', rfl, _⟩ := h
    rfl
  · obtain ⟨y, z, cs, cs', rs, rs', rfl, hV, hZ, hL, hL', nn, nn', ll, ll', k1, k2⟩ := h
    have hu := hu_of hr
    refine ⟨_, pss_cons (ps_asg (pe_tup (pa_cons (pe_call GN hr rfl mN FN.kp bN .nil pass0 (pa_cons (pv 0) pa_nil)) (pa_cons (pe_call GN hr rfl mN FN.kp bN .nil pass0 (pa_cons (pv 1) pa_nil)) pa_nil)))
        (pg_tup (by rfl) (pgs_cons (pg_name (i := 2) scAB.nd rfl (.inr rfl)) (pgs_cons (pg_name (i := 3) scAB.nd rfl (.inr rfl)) pgs_nil))))
      (pss_cons (ps_if (pt_cmpR (op_neD hr.units) (pe_call GW hr rfl mW FW.kp bW .nil pass0 (pa_cons (pv 0) (pa_cons (pv 3) pa_nil))) (pv 1) (nomark _)) (pss_one (ps_ret pe_non)) pss_nil)
      (pss_cons (ps_if (pt_val (pe_callB (cr_any rfl) (by rfl) T.any (by decide +kernel) (pa_cons (pe_lock (pe_lc (own := [("name", 4)]) (g := gName 4) (tt := tYes) rfl scAB.nd (pi_keys (pv 2))
          (blkOk_by (N := ["one", "other", "ahead", "behind", "name"]) (sc := defScope sAmountsBetween) (by decide +kernel)) (fun _ _ _ _ _ => pg_name (i := 4) scAB.nd rfl (Or.inl rfl)) (fun _ _ _ _ _ => pts_nil)
          (fun _ _ _ _ _ => pe_cmpR op_gt (pe_dget hu (pv 3) (pv 4) (fun _ _ => rfl)) (pe_dget hu (pv 2) (pv 4) (fun _ _ => rfl)) (nomark _)))) pa_nil))) (pss_one (ps_ret pe_non)) pss_nil)
      (pss_one (ps_ret (pe_lock (pe_dc (own := [("name", 4)]) (g := gName 4) (tt := tTest (tOp (rI0 fun i j => .bl (decide (i < j))) (tDGet (tVar 3) (tVar 4)) (tDGet (tVar 2) (tVar 4)))) rfl scAB.nd (pi_keys (pv 2))
          (blkOk_by (N := ["one", "other", "ahead", "behind", "name"]) (sc := defScope sAmountsBetween) (by decide +kernel)) (fun _ _ _ _ _ => pg_name (i := 4) scAB.nd rfl (Or.inl rfl))
          (fun _ _ _ _ _ => by exact pts_one (pt_cmpR op_lt (pe_dget hu (pv 3) (pv 4) (fun _ _ => rfl)) (pe_dget hu (pv 2) (pv 4) (fun _ _ => rfl)) (nomark _)))
          (fun _ _ _ _ _ => pv 4) (fun _ _ _ _ _ => pe_op op_sub (pe_dget hu (pv 2) (pv 4) (fun _ _ => rfl)) (pe_dget hu (pv 3) (pv 4) (fun _ _ => rfl))))))))), ?_⟩
    refine ⟨_, rfl, y, cs, rs, rfl, hV, nn, ll, fun p1 H1 e1 f1 m1 => ⟨_, rfl, z, cs', rs', rfl, hZ.more m1, nn', ll', fun p2 H2 e2 f2 m2 => ⟨by show 2 ≤ sizeLine; decide, fun t ht => ⟨t, _, rfl, SqT.of upd_same, rfl, _, _, rfl, _, _, rfl, rfl, ?_⟩⟩⟩⟩
    have m3 := same_new (o := .tup [.ref p1, .ref p2]) (m1.trans m2) ht
    have a1 := s3u (o := .tup [.ref p1, .ref p2]) ht (m2 _ _ e1)
    have a2 := s3u (o := .tup [.ref p1, .ref p2]) ht e2
    generalize upd H2 t (.tup [.ref p1, .ref p2]) = H3 at m3 a1 a2 ⊢
    have fp1 : H p1 = none := f1
    refine ⟨_, rfl, _, rfl, y, p2, cs, rs, rs'.map nd, rfl, hV.more m3, a2, ll, fun u H4 hU fu m4 => ⟨_, rfl, yardD cs (rs.map (chg (rs'.map nd))), yardD cs' rs', dp_yard hU, dp_yard ((hZ.more m3).more m4), shaped_yard (hL.chg _), shaped_yard hL', _, rfl, ?_⟩⟩
    have ev := eqv_yard cs cs' (rs.map (chg (rs'.map nd))) rs'
    have m34 := m3.trans m4
    refine ite2 (fun h => ?_) (fun h => ?_)
    · refine k1 ?_ _ m34
      unfold btw
      rw [if_neg fun z => ?_]
      rw [ev.mpr z] at h
      cases h
    have heq : cs = cs' ∧ rs.map (chg (rs'.map nd)) = rs' := ev.mp (by
      cases e : PyData.eqv (yardD cs (rs.map (chg (rs'.map nd)))) (yardD cs' rs') with
      | true => rfl
      | false => rw [e] at h; exact absurd rfl h)
    have names : rs'.map (·.1) = rs.map (·.1) := by
      rw [← heq.2, List.map_map]
      rfl
    have b1 := m4 _ _ a1
    have b2 := m4 _ _ a2
    have n12 : p2 ≠ p1 := fun z => by rw [z, e1] at f2; cases f2
    have kl : (kvI (rs.map nd)).length = rs.length := by unfold kvI; rw [List.length_map, List.length_map]
    refine ⟨p1, _, b1, trivial, fun od => ⟨_, rfl, p1, od, rfl, .inl ⟨kvI (rs.map nd), upd_same, fun D hD => ?_⟩⟩⟩
    have nD : D ≠ p1 := fun z => by rw [z, upd_same] at hD; cases hD
    have c2 : lk H4 p1 od (rs.map nd) p2 = some (.dK (kvI (rs'.map nd))) := lk_ne n12 b2
    have c1 : lk H4 p1 od (rs.map nd) p1 = some (.frz od (.dK (kvI (rs.map nd)))) := upd_same
    refine lc_it (walk_keys (d := p1) (o := od) (kvs := kvI (rs.map nd))) (fun i H' => H' D = some (.lst (((rs.take i).map fun r => decide (nv rs' r.1 > nv rs r.1)).map V.bl)) ∧ Same (lk H4 p1 od (rs.map nd)) H') ?_ ?_ ?_ ?_
    · exact ⟨by rw [List.take_zero, upd_same]; rfl, same_new (Same.refl _) hD⟩
    · rintro i H' _ ⟨_, m⟩
      exact m _ _ c1
    · rintro i x H' H'' hi ⟨q1, q2⟩ ⟨rfl, k', v', ek, rfl⟩
      obtain ⟨r, hr', er⟩ := key_at ek
      have mr : r.1 ∈ rs.map (·.1) := List.mem_map.mpr ⟨r, List.mem_of_getElem? hr', rfl⟩
      rw [er]
      refine ⟨rfl, _, rfl, _, rfl, p2, _, rfl, need_get nn' (q2 _ _ c2) (by rw [names]; exact mr), _, rfl, _, rfl, p1, _, rfl, need_getF nn (q2 _ _ c1) mr, _, _, rfl, rfl, _, q1, ?_, ?_, same_put q2 hD⟩
      · rw [List.length_map, List.length_map, List.length_take]
        exact small1000 (by omega)
      · rw [upd_same, List.take_succ, hr']
        simp
    rintro H5 ⟨q1, q2⟩
    rw [kl, List.take_length] at q1
    have m5 := unlk b1 q2
    refine ⟨q2 _ _ c1, D, _, rfl, SqL.of (unlk_at nD q1), ?_⟩
    have ea : ((rs.map fun r => decide (nv rs' r.1 > nv rs r.1)).any id) = rs.any fun r => decide (nv rs' r.1 > nv rs r.1) := by
      rw [List.any_map]
      rfl
    rw [ea]
    refine ⟨_, rfl, ?_⟩
    refine ite2 (fun h => ?_) (fun h => ?_)
    · refine k1 ?_ _ (m34.trans m5)
      unfold btw
      rw [if_pos heq, if_pos h]
    have d1 := m5 _ _ b1
    have d2 := m5 _ _ b2
    have fin := k2 _ (show btw cs rs cs' rs' = some _ by unfold btw; rw [if_pos heq, if_neg h])
    generalize upd H5 p1 (.dK (kvI (rs.map nd))) = H6 at m5 d1 d2 ⊢
    refine ⟨p1, _, d1, trivial, fun od2 => ⟨_, rfl, p1, od2, rfl, .inl ⟨kvI (rs.map nd), upd_same, fun D2 hD2 => ?_⟩⟩⟩
    have nD2 : D2 ≠ p1 := fun z => by rw [z, upd_same] at hD2; cases hD2
    have g2 : lk H6 p1 od2 (rs.map nd) p2 = some (.dK (kvI (rs'.map nd))) := lk_ne n12 d2
    have g1 : lk H6 p1 od2 (rs.map nd) p1 = some (.frz od2 (.dK (kvI (rs.map nd)))) := upd_same
    refine dc_it (walk_keys (d := p1) (o := od2) (kvs := kvI (rs.map nd))) (fun i H' => H' D2 = some (.dK (kvI (((rs.take i).filter fun r => decide (nv rs' r.1 < nv rs r.1)).map fun r => (r.1, nv rs r.1 - nv rs' r.1)))) ∧ Same (lk H6 p1 od2 (rs.map nd)) H') ?_ ?_ ?_ ?_
    · exact ⟨by rw [List.take_zero, upd_same]; rfl, same_new (Same.refl _) hD2⟩
    · rintro i H' _ ⟨_, m⟩
      exact m _ _ g1
    · rintro i x H' H'' hi ⟨q3, q4⟩ ⟨rfl, k', v', ek, rfl⟩
      obtain ⟨r, hr', er⟩ := key_at ek
      have mr : r.1 ∈ rs.map (·.1) := List.mem_map.mpr ⟨r, List.mem_of_getElem? hr', rfl⟩
      rw [er]
      have G2 := need_get nn' (q4 _ _ g2) (x := r.1) (by rw [names]; exact mr)
      have G1 := need_getF nn (q4 _ _ g1) mr
      refine ⟨rfl, _, rfl, _, rfl, p2, _, rfl, G2, _, rfl, _, rfl, p1, _, rfl, G1, _, _, rfl, rfl, _, rfl, ?_⟩
      refine ite2 (fun c => ?_) (fun c => ?_)
      · have c' : nv rs' r.1 < nv rs r.1 := by simpa using c
        have fresh : r.1 ∉ (((rs.take i).filter fun r => decide (nv rs' r.1 < nv rs r.1)).map fun r => (r.1, nv rs r.1 - nv rs' r.1)).map (·.1) := fun z => by
          rw [List.map_map] at z
          obtain ⟨r2, hr2, e⟩ := List.mem_map.mp z
          obtain ⟨j, hj⟩ := List.mem_iff_getElem?.mp (List.mem_filter.mp hr2).1
          have hji : j < i := by
            have := (List.getElem?_eq_some_iff.mp hj).1
            rw [List.length_take] at this
            omega
          rw [List.getElem?_take_of_lt hji] at hj
          exact row_ne nn (i := j) (j := i) (x := r2.1) (y := r.1) (by rw [List.getElem?_map, hj]; rfl) (by rw [List.getElem?_map, hr']; rfl) (by omega) e
        refine ⟨_, rfl, _, rfl, _, rfl, p1, _, rfl, G1, _, rfl, _, rfl, p2, _, rfl, G2, _, _, rfl, rfl, _, Sum.inr r.1, rfl, q3, ?_, ?_, same_put q4 hD2⟩
        · unfold kvI
          rw [List.length_map, List.length_map]
          have := List.length_filter_le (fun r : Car => decide (nv rs' r.1 < nv rs r.1)) (rs.take i)
          rw [List.length_take] at this
          exact small1000 (by omega)
        · rw [upd_same, putK_new _ (kvI_none fresh), List.take_succ, hr']
          unfold kvI
          simp [c']
      · have c' : ¬ nv rs' r.1 < nv rs r.1 := by simpa using c
        refine ⟨?_, q4⟩
        rw [q3, List.take_succ, hr']
        simp [c']
    rintro H7 ⟨q3, q4⟩
    rw [kl, List.take_length] at q3
    have m7 := unlk d1 q4
    refine ⟨q4 _ _ g1, fin D2 _ (unlk_at nD2 q3) ?_ ((m34.trans m5).trans m7)⟩
    exact fr_none (m34.trans m5) (lk_none d1 hD2)
end
end Y

namespace Y
open PySem PySem.Spec PyProof.Rows L2 Ns
theorem paired_dictS {K : PySem.W.Frag} {H : Hp} {f : Str → Int} : ∀ {ts : List Addr} {ls : List Str}, Paired (fun t (s : Str) => H t = some (.tup [.str s, .int (f s)])) ts ls → Paired (fun (p : Addr) (kv : Key × V) => SqT K H p [kV kv.1, kv.2]) ts (kvI (ls.map fun s => (s, f s)))
  | _, _, .nil => .nil
  | _, _, .cons h t => .cons (SqT.of h) (paired_dictS t)
theorem txs_get {ls : List Str} {j : Nat} {u : V} (h : (txs ls)[j]? = some u) : ∃ x, ls[j]? = some x ∧ u = .str x := by
  unfold txs at h
  rw [List.getElem?_map] at h
  obtain ⟨x, e1, e2⟩ := Option.map_eq_some_iff.mp h
  exact ⟨x, e1, e2.symm⟩
/-- the greater one of 1 and a need -/
def mx (z : Int) : Int := if z > 1 then z else 1
theorem mx_bd {z : Int} (h0 : 0 ≤ z) (h : z ≤ 10 ^ 12) : 0 ≤ mx z ∧ mx z ≤ 10 ^ 12 := by
  unfold mx
  split <;> omega
theorem int_row {l : List Int} {j : Nat} {x : Int} : ((l.map V.int) ++ [V.int x]) = ((l ++ [x]).map V.int) := by rw [List.map_append]; rfl
end Y

namespace Y
open PySem PySem.Spec PyProof.Rows L2 Ns
open C8 (pss_cut)
/-- a value put -/
def setv (s : List (Str × Int)) (x : Str) (v : Int) : List (Str × Int) := if x ∈ s.map (·.1) then s.map (fun p => if p.1 = x then (p.1, v) else p) else s ++ [(x, v)]
theorem kvI_setv (s : List (Str × Int)) (x : Str) (v : Int) : kvI (setv s x v) = putK (kvI s) (Sum.inr x) (.int v) := by
  have c : ((kvI s).any fun kv => decide (kv.1 = (Sum.inr x : Key))) = decide (x ∈ s.map (·.1)) := by
    unfold kvI
    rw [List.any_map]
    induction s with
    | nil => rfl
    | cons p s ih =>
      rw [List.any_cons, ih, List.map_cons]
      by_cases e : p.1 = x
      · simp [e]
      · have e2 : ¬ x = p.1 := fun z => e z.symm
        simp [e, e2]
  unfold setv putK
  rw [c]
  by_cases e : x ∈ s.map (·.1)
  · rw [if_pos e, if_pos (decide_eq_true e)]
    unfold kvI
    rw [List.map_map, List.map_map]
    refine List.map_congr_left fun p _ => ?_
    show ((Sum.inr (if p.1 = x then (p.1, v) else p).1 : Key), V.int (if p.1 = x then (p.1, v) else p).2) = if (Sum.inr p.1 : Key) = Sum.inr x then ((Sum.inr p.1 : Key), V.int v) else (Sum.inr p.1, V.int p.2)
    by_cases e2 : p.1 = x
    · rw [if_pos e2, if_pos (by rw [e2])]
    · rw [if_neg e2, if_neg (fun z => e2 (by injection z))]
  · rw [if_neg e, if_neg (by simpa using e)]
    unfold kvI
    rw [List.map_append]
    rfl
theorem setv_keys (s : List (Str × Int)) (x : Str) (v : Int) : (setv s x v).map (·.1) = if x ∈ s.map (·.1) then s.map (·.1) else s.map (·.1) ++ [x] := by
  unfold setv
  by_cases e : x ∈ s.map (·.1)
  · rw [if_pos e, if_pos e, List.map_map]
    refine List.map_congr_left fun p _ => ?_
    show (if p.1 = x then (p.1, v) else p).1 = p.1
    split <;> rfl
  · rw [if_neg e, if_neg e, List.map_append]
    rfl
theorem setv_nodup {s : List (Str × Int)} {x : Str} {v : Int} (h : (s.map (·.1)).Nodup) : ((setv s x v).map (·.1)).Nodup := by
  rw [setv_keys]
  split
  · exact h
  · rename_i e
    rw [List.nodup_append]
    exact ⟨h, List.nodup_cons.mpr ⟨(fun z => nomatch z), List.nodup_nil⟩, fun a ha b hb z => e (by rw [List.mem_singleton] at hb; rw [← hb, ← z]; exact ha)⟩
theorem setv_sub {s : List (Str × Int)} {x : Str} {v : Int} {ns : List Str} (h : ∀ y ∈ s.map (·.1), y ∈ ns) (hx : x ∈ ns) : ∀ y ∈ (setv s x v).map (·.1), y ∈ ns := by
  rw [setv_keys]
  split
  · exact h
  · intro y hy
    rcases List.mem_append.mp hy with z | z
    · exact h y z
    · rw [List.mem_singleton.mp z]; exact hx
/-- one amount joined to others; a row; all rows -/
def jadd (s : List (Str × Int)) (p : Str × Int) : List (Str × Int) := setv s p.1 ((look s p.1).getD 0 + p.2)
def jrow (s l : List (Str × Int)) : List (Str × Int) := l.foldl jadd s
def jall (ls : List (List (Str × Int))) : List (Str × Int) := ls.foldl jrow []
/-- the keys are some of these, once each -/
def KeysIn (ns : List Str) (s : List (Str × Int)) : Prop := (s.map (·.1)).Nodup ∧ ∀ y ∈ s.map (·.1), y ∈ ns
theorem KeysIn.len {ns : List Str} {s : List (Str × Int)} (h : KeysIn ns s) : s.length ≤ ns.length := by
  have := sub_len h.1 (m := ns) h.2
  rw [List.length_map] at this
  exact this
theorem KeysIn.add {ns : List Str} {s : List (Str × Int)} (h : KeysIn ns s) {p : Str × Int} (hp : p.1 ∈ ns) : KeysIn ns (jadd s p) := ⟨setv_nodup h.1, setv_sub h.2 hp⟩
theorem KeysIn.row {ns : List Str} : ∀ {l s : List (Str × Int)}, KeysIn ns s → (∀ p ∈ l, p.1 ∈ ns) → KeysIn ns (jrow s l)
  | [], _, h, _ => h
  | p :: l, _, h, hp => KeysIn.row (l := l) (h.add (hp p List.mem_cons_self)) fun q hq => hp q (List.mem_cons_of_mem _ hq)
theorem KeysIn.rows {ns : List Str} : ∀ {ls : List (List (Str × Int))} {s : List (Str × Int)}, KeysIn ns s → (∀ l ∈ ls, ∀ p ∈ l, p.1 ∈ ns) → KeysIn ns (ls.foldl jrow s)
  | [], _, h, _ => h
  | l :: ls, _, h, hp => KeysIn.rows (ls := ls) (h.row (hp l List.mem_cons_self)) fun q hq => hp q (List.mem_cons_of_mem _ hq)
theorem keysIn_nil (ns : List Str) : KeysIn ns [] := ⟨List.nodup_nil, fun _ z => nomatch z⟩
theorem jrow_take {s l : List (Str × Int)} {j : Nat} {p : Str × Int} (h : l[j]? = some p) : jrow s (l.take (j + 1)) = jadd (jrow s (l.take j)) p := by
  unfold jrow
  rw [List.take_succ, h, List.foldl_append]
  rfl
theorem jall_take {ls : List (List (Str × Int))} {i : Nat} {l : List (Str × Int)} (h : ls[i]? = some l) : jall (ls.take (i + 1)) = jrow (jall (ls.take i)) l := by
  unfold jall
  rw [List.take_succ, h, List.foldl_append]
  rfl
/-- the sums by their names -/
def byName (s : List (Str × Int)) (ys : List Str) : List (Str × Int) := ys.map fun x => (x, (look s x).getD 0)
theorem lk_same {H H' : Hp} {d : Addr} {od : Obj} {l : List (Str × Int)} (m : Same H H') : Same (lk H d od l) (lk H' d od l) := fun c o e => by
  by_cases z : c = d
  · rw [lk, z, upd_same] at e ⊢
    exact e
  · rw [lk, upd_ne z] at e ⊢
    exact m _ _ e
def spJoined (K : PySem.W.Frag) : Sp := fun as H Q _ => ∃ (a : Addr) (ds : List Addr) (ls : List (List (Str × Int))) (ns : List Str), as = [.ref a] ∧ (SqL K H a (ds.map V.ref) ∨ SqT K H a (ds.map V.ref)) ∧ Paired (fun d l => H d = some (.dK (kvI l))) ds ls ∧ ns.length ≤ 60 ∧ (∀ l ∈ ls, ∀ p ∈ l, p.1 ∈ ns) ∧
  ∀ (ys : List Str) (p : Addr) (H' : Hp), sortedS ys = true → ys.Perm ((jall ls).map (·.1)) → H' p = some (.dK (kvI (byName (jall ls) ys))) → H p = none → Same H H' → Q (.ref p) H'
theorem refs_at {ds : List Addr} {i : Nat} {x : V} (h : (ds.map V.ref)[i]? = some x) : ∃ d, ds[i]? = some d ∧ x = .ref d := by
  rw [List.getElem?_map] at h
  obtain ⟨d, e1, e2⟩ := Option.map_eq_some_iff.mp h
  exact ⟨d, e1, e2.symm⟩
theorem look_mk {s : List (Str × Int)} {x : Str} (h : x ∈ s.map (·.1)) : look s x = some ((look s x).getD 0) := by
  cases e : look s x with
  | some v => rfl
  | none =>
    exfalso
    obtain ⟨p, hp, rfl⟩ := List.mem_map.mp h
    unfold look at e
    rw [Option.map_eq_none_iff] at e
    exact absurd (decide_eq_true rfl) (List.find?_eq_none.mp e p hp)
section
variable {P : Program} {w : World} {K : PySem.W.Frag} {mg : Str → Option Value} {base : Heap}
theorem scJA : FnScope ["rows", "sums", "amounts", "name", "amount"] ["rows"] (defScope sJoinedAmounts) := ⟨rfl, rfl, rfl, by decide +kernel, rfl, by decide +kernel, by decide +kernel⟩
theorem ok_joinedA {f : Addr} {fd : FuncData} (F : Fun K "joined_amounts" "joined_amounts" sJoinedAmounts f fd) (T : Nat0 mg) : FnOk P w K mg base CX0 1 f fd ["rows"] (spJoined K) := by
  refine F.ok scJA (fun as H Q E h => ?_) (fun cdv A outer s H as Q E hr h => ?_)
  · obtain ⟨a, ds, ls, ns, rfl, _⟩ := h
    rfl
  · obtain ⟨a, ds, ls, ns, rfl, hS, hD0, n60, sub, k⟩ := h
    have hu := hu_of hr
    have ld := paired_len hD0
    have kin : ∀ i, KeysIn ns (jall (ls.take i)) := fun i => (keysIn_nil ns).rows fun l hl => sub l (List.mem_of_mem_take hl)
    rcases hS with hS | hS
    · refine ⟨_, pss_cons (ps_set (i := 1) scJA.nd rfl (.inr rfl) pe_dnewK)
        (pss_cons (ps_for PassesOwn.never rfl (pi_list (pv 0)) (pg_name (i := 2) scJA.nd rfl (.inl rfl))
          (pss_one (ps_lock (ps_for PassesOwn.never rfl (pi_items (pv 2)) (pg_tup rfl (pgs_cons (pg_name (i := 3) scJA.nd rfl (.inl rfl)) (pgs_cons (pg_name (i := 4) scJA.nd rfl (.inl rfl)) pgs_nil)))
            (pss_one (ps_dput hu (pv 1) (pv 3) (pe_op op_add (pe_dget2 hu (pv 1) (pv 3) pe_int ⟨by rfl, by rfl, by rfl, by rfl⟩) (pv 4)) rfl))))))
        (pss_one (ps_ret (pe_dc (own := [("name", 3)]) (g := gName 3) (tt := tYes) rfl scJA.nd (pi_list (pe_callB (call_sortedD rfl) (by rfl) T.sorted (by decide +kernel) (pa_cons (pv 1) pa_nil)))
          (blkOk_by (N := ["rows", "sums", "amounts", "name", "amount"]) (sc := defScope sJoinedAmounts) (by decide +kernel)) (fun _ _ _ _ _ => pg_name (i := 3) scJA.nd rfl (Or.inl rfl)) (fun _ _ _ _ _ => pts_nil) (fun _ _ _ _ _ => pv 3) (fun _ _ _ _ _ => pe_dget hu (pv 1) (pv 3) (fun _ _ => rfl)))))), ?_⟩
      refine fun S hSn => ?_
      have m0 : Same H (upd H S (.dK [])) := same_new (Same.refl H) hSn
      refine ⟨_, rfl, a, rfl, ⟨_, Same.seq m0 hS⟩, ?_⟩
      refine for_it (walk_list (K := K) (a := a) (xs := ds.map V.ref)) (fun i σ H' => ∃ v2 v3 v4 : Option V, σ = [some (.ref a), some (.ref S), v2, v3, v4] ∧ H' S = some (.dK (kvI (jall (ls.take i)))) ∧ Same H H') ?_ ?_ ?_ ?_
      · exact ⟨none, none, none, rfl, by rw [List.take_zero]; exact upd_same, m0⟩
      · rintro i σ H' _ ⟨_, _, _, _, _, m⟩
        exact Same.seq m hS
      · rintro i x σ H' H'' hi ⟨v2, v3, v4, rfl, q1, q2⟩ ⟨rfl, hx⟩
        obtain ⟨d, hd, rfl⟩ := refs_at hx
        obtain ⟨l, hl, hdl⟩ := paired_at hD0 hd
        have nSd : S ≠ d := fun z => by rw [z, hdl] at hSn; cases hSn
        have sl := sub l (List.mem_of_getElem? hl)
        refine ⟨d, _, q2 _ _ hdl, trivial, fun od => ⟨_, rfl, d, od, kvI l, rfl, upd_same, ?_⟩⟩
        have LS : lk H d od l S = none := by rw [lk, upd_ne nSd]; exact hSn
        have Ld : lk H d od l d = some (.frz od (.dK (kvI l))) := upd_same
        refine for_it (walk_items (d := d) (o := od) (kvs := kvI l)) (fun j σ G => ∃ v3 v4 : Option V, σ = [some (.ref a), some (.ref S), some (.ref d), v3, v4] ∧ G S = some (.dK (kvI (jrow (jall (ls.take i)) (l.take j)))) ∧ Same (lk H d od l) G) ?_ ?_ ?_ ?_
        · exact ⟨v3, v4, rfl, by rw [List.take_zero]; exact lk_ne nSd q1, lk_same q2⟩
        · rintro j σ G _ ⟨_, _, _, _, m⟩
          exact m _ _ Ld
        · rintro j x σ G G' hj ⟨v3, v4, rfl, p1, p2⟩ ⟨T', k', v', rfl, fT, rfl, ek, ev⟩
          obtain ⟨p, hp, rfl, rfl⟩ := kvI_at hj ek ev
          have pS := s3u (o := .tup [.str p.1, .int p.2]) fT p1
          have p2' := same_new (o := .tup [.str p.1, .int p.2]) p2 fT
          have kj : KeysIn ns (jrow (jall (ls.take i)) (l.take j)) := (kin i).row fun q hq => sl q (List.mem_of_mem_take hq)
          refine ⟨T', _, rfl, SqT.of upd_same, rfl, _, _, rfl, _, _, rfl, rfl, ?_⟩
          refine ⟨_, rfl, S, rfl, .inl ⟨_, .inl pS⟩, _, rfl, (look (jrow (jall (ls.take i)) (l.take j)) p.1).map V.int, get_look (x := p.1) pS, ?_⟩
          have eg : ((look (jrow (jall (ls.take i)) (l.take j)) p.1).map V.int).getD (.int 0) = V.int ((look (jrow (jall (ls.take i)) (l.take j)) p.1).getD 0) := by cases look (jrow (jall (ls.take i)) (l.take j)) p.1 <;> rfl
          rw [eg]
          refine ⟨_, rfl, (look (jrow (jall (ls.take i)) (l.take j)) p.1).getD 0, p.2, rfl, rfl, _, rfl, _, rfl, S, _, rfl, DPut.k (k := Sum.inr p.1) pS ?_, _, _, rfl, ?_, same_put p2' LS⟩
          · unfold kvI
            rw [List.length_map]
            have := kj.len
            exact small1000 (by omega)
          · rw [upd_same, jrow_take hp]
            unfold jadd
            rw [kvI_setv]
        · rintro σ G ⟨v3, v4, rfl, p1, p2⟩
          rw [show (kvI l).length = l.length from List.length_map _, List.take_length] at p1
          refine ⟨p2 _ _ Ld, _, _, _, rfl, ?_, unlk hdl p2⟩
          rw [jall_take hl]
          exact unlk_at nSd p1
      · rintro σ H1 ⟨v2, v3, v4, rfl, q1, q2⟩
        rw [List.length_map, ld, List.take_length] at q1
        have kA : KeysIn ns (jall ls) := by have := kin ls.length; rw [List.take_length] at this; exact this
        refine ⟨_, rfl, S, kvI (jall ls), (jall ls).map (·.1), rfl, .inl q1, by unfold kvI; rw [List.map_map, List.map_map]; rfl, by rw [List.length_map]; have := kA.len; omega, fun ys q perm srt hq => ⟨q, rfl, ⟨_, SqL.of upd_same⟩, fun D hD => ?_⟩⟩
        have mQ := same_new (o := .lst (ys.map V.str)) q2 hq
        have S2 := s3u (o := .lst (ys.map V.str)) hq q1
        have Q2 : upd H1 q (.lst (ys.map V.str)) q = some (.lst (ys.map V.str)) := upd_same
        generalize upd H1 q (.lst (ys.map V.str)) = H2 at mQ S2 Q2 hD ⊢
        have yl : ys.length ≤ 60 := by
          have := perm.length_eq
          rw [List.length_map] at this
          have := kA.len
          omega
        refine dc_it (walk_list (K := K) (a := q) (xs := ys.map V.str)) (fun i H' => H' D = some (.dK (kvI (byName (jall ls) (ys.take i)))) ∧ Same H2 H') ?_ ?_ ?_ ?_
        · exact ⟨by rw [List.take_zero, upd_same]; rfl, same_new (Same.refl _) hD⟩
        · rintro i H' _ ⟨_, m⟩
          exact SqL.of (m _ _ Q2)
        · rintro i x H' H'' hi ⟨p1, p2⟩ ⟨rfl, hx⟩
          obtain ⟨z, hz, rfl⟩ := txs_get (ls := ys) hx
          have zm : z ∈ (jall ls).map (·.1) := perm.mem_iff.mp (List.mem_of_getElem? hz)
          have fresh : z ∉ (byName (jall ls) (ys.take i)).map (·.1) := fun e => by
            unfold byName at e
            rw [List.map_map] at e
            obtain ⟨u, hu', e2⟩ := List.mem_map.mp e
            obtain ⟨j, hj⟩ := List.mem_iff_getElem?.mp hu'
            have hji : j < i := by
              have := (List.getElem?_eq_some_iff.mp hj).1
              rw [List.length_take] at this
              omega
            rw [List.getElem?_take_of_lt hji] at hj
            exact row_ne (l := ys) (perm.nodup_iff.mpr kA.1) (i := j) (j := i) (x := u) (y := z) hj hz (by omega) e2
          have g := get_look (x := z) (p2 _ _ S2)
          rw [look_mk zm] at g
          refine ⟨rfl, _, rfl, _, rfl, _, rfl, S, _, rfl, g, _, Sum.inr z, rfl, p1, ?_, ?_, same_put p2 hD⟩
          · unfold kvI byName
            rw [List.length_map, List.length_map, List.length_take]
            exact small1000 (by omega)
          · rw [upd_same, putK_new _ (kvI_none fresh), List.take_succ, hz]
            unfold kvI byName
            simp
        · rintro H' ⟨p1, p2⟩
          rw [List.length_map, List.take_length] at p1
          exact k ys D H' srt perm p1 (fr_none mQ hD) (mQ.trans p2)
    · refine ⟨_, pss_cons (ps_set (i := 1) scJA.nd rfl (.inr rfl) pe_dnewK)
        (pss_cons (ps_for PassesOwn.never rfl (pi_tup (pv 0)) (pg_name (i := 2) scJA.nd rfl (.inl rfl))
          (pss_one (ps_lock (ps_for PassesOwn.never rfl (pi_items (pv 2)) (pg_tup rfl (pgs_cons (pg_name (i := 3) scJA.nd rfl (.inl rfl)) (pgs_cons (pg_name (i := 4) scJA.nd rfl (.inl rfl)) pgs_nil)))
            (pss_one (ps_dput hu (pv 1) (pv 3) (pe_op op_add (pe_dget2 hu (pv 1) (pv 3) pe_int ⟨by rfl, by rfl, by rfl, by rfl⟩) (pv 4)) rfl))))))
        (pss_one (ps_ret (pe_dc (own := [("name", 3)]) (g := gName 3) (tt := tYes) rfl scJA.nd (pi_list (pe_callB (call_sortedD rfl) (by rfl) T.sorted (by decide +kernel) (pa_cons (pv 1) pa_nil)))
          (blkOk_by (N := ["rows", "sums", "amounts", "name", "amount"]) (sc := defScope sJoinedAmounts) (by decide +kernel)) (fun _ _ _ _ _ => pg_name (i := 3) scJA.nd rfl (Or.inl rfl)) (fun _ _ _ _ _ => pts_nil) (fun _ _ _ _ _ => pv 3) (fun _ _ _ _ _ => pe_dget hu (pv 1) (pv 3) (fun _ _ => rfl)))))), ?_⟩
      refine fun S hSn => ?_
      have m0 : Same H (upd H S (.dK [])) := same_new (Same.refl H) hSn
      refine ⟨_, rfl, a, rfl, ⟨_, sqt_more m0 hS⟩, ?_⟩
      refine for_it (walk_tup (K := K) (a := a) (xs := ds.map V.ref)) (fun i σ H' => ∃ v2 v3 v4 : Option V, σ = [some (.ref a), some (.ref S), v2, v3, v4] ∧ H' S = some (.dK (kvI (jall (ls.take i)))) ∧ Same H H') ?_ ?_ ?_ ?_
      · exact ⟨none, none, none, rfl, by rw [List.take_zero]; exact upd_same, m0⟩
      · rintro i σ H' _ ⟨_, _, _, _, _, m⟩
        exact sqt_more m hS
      · rintro i x σ H' H'' hi ⟨v2, v3, v4, rfl, q1, q2⟩ ⟨rfl, hx⟩
        obtain ⟨d, hd, rfl⟩ := refs_at hx
        obtain ⟨l, hl, hdl⟩ := paired_at hD0 hd
        have nSd : S ≠ d := fun z => by rw [z, hdl] at hSn; cases hSn
        have sl := sub l (List.mem_of_getElem? hl)
        refine ⟨d, _, q2 _ _ hdl, trivial, fun od => ⟨_, rfl, d, od, kvI l, rfl, upd_same, ?_⟩⟩
        have LS : lk H d od l S = none := by rw [lk, upd_ne nSd]; exact hSn
        have Ld : lk H d od l d = some (.frz od (.dK (kvI l))) := upd_same
        refine for_it (walk_items (d := d) (o := od) (kvs := kvI l)) (fun j σ G => ∃ v3 v4 : Option V, σ = [some (.ref a), some (.ref S), some (.ref d), v3, v4] ∧ G S = some (.dK (kvI (jrow (jall (ls.take i)) (l.take j)))) ∧ Same (lk H d od l) G) ?_ ?_ ?_ ?_
        · exact ⟨v3, v4, rfl, by rw [List.take_zero]; exact lk_ne nSd q1, lk_same q2⟩
        · rintro j σ G _ ⟨_, _, _, _, m⟩
          exact m _ _ Ld
        · rintro j x σ G G' hj ⟨v3, v4, rfl, p1, p2⟩ ⟨T', k', v', rfl, fT, rfl, ek, ev⟩
          obtain ⟨p, hp, rfl, rfl⟩ := kvI_at hj ek ev
          have pS := s3u (o := .tup [.str p.1, .int p.2]) fT p1
          have p2' := same_new (o := .tup [.str p.1, .int p.2]) p2 fT
          have kj : KeysIn ns (jrow (jall (ls.take i)) (l.take j)) := (kin i).row fun q hq => sl q (List.mem_of_mem_take hq)
          refine ⟨T', _, rfl, SqT.of upd_same, rfl, _, _, rfl, _, _, rfl, rfl, ?_⟩
          refine ⟨_, rfl, S, rfl, .inl ⟨_, .inl pS⟩, _, rfl, (look (jrow (jall (ls.take i)) (l.take j)) p.1).map V.int, get_look (x := p.1) pS, ?_⟩
          have eg : ((look (jrow (jall (ls.take i)) (l.take j)) p.1).map V.int).getD (.int 0) = V.int ((look (jrow (jall (ls.take i)) (l.take j)) p.1).getD 0) := by cases look (jrow (jall (ls.take i)) (l.take j)) p.1 <;> rfl
          rw [eg]
          refine ⟨_, rfl, (look (jrow (jall (ls.take i)) (l.take j)) p.1).getD 0, p.2, rfl, rfl, _, rfl, _, rfl, S, _, rfl, DPut.k (k := Sum.inr p.1) pS ?_, _, _, rfl, ?_, same_put p2' LS⟩
          · unfold kvI
            rw [List.length_map]
            have := kj.len
            exact small1000 (by omega)
          · rw [upd_same, jrow_take hp]
            unfold jadd
            rw [kvI_setv]
        · rintro σ G ⟨v3, v4, rfl, p1, p2⟩
          rw [show (kvI l).length = l.length from List.length_map _, List.take_length] at p1
          refine ⟨p2 _ _ Ld, _, _, _, rfl, ?_, unlk hdl p2⟩
          rw [jall_take hl]
          exact unlk_at nSd p1
      · rintro σ H1 ⟨v2, v3, v4, rfl, q1, q2⟩
        rw [List.length_map, ld, List.take_length] at q1
        have kA : KeysIn ns (jall ls) := by have := kin ls.length; rw [List.take_length] at this; exact this
        refine ⟨_, rfl, S, kvI (jall ls), (jall ls).map (·.1), rfl, .inl q1, by unfold kvI; rw [List.map_map, List.map_map]; rfl, by rw [List.length_map]; have := kA.len; omega, fun ys q perm srt hq => ⟨q, rfl, ⟨_, SqL.of upd_same⟩, fun D hD => ?_⟩⟩
        have mQ := same_new (o := .lst (ys.map V.str)) q2 hq
        have S2 := s3u (o := .lst (ys.map V.str)) hq q1
        have Q2 : upd H1 q (.lst (ys.map V.str)) q = some (.lst (ys.map V.str)) := upd_same
        generalize upd H1 q (.lst (ys.map V.str)) = H2 at mQ S2 Q2 hD ⊢
        have yl : ys.length ≤ 60 := by
          have := perm.length_eq
          rw [List.length_map] at this
          have := kA.len
          omega
        refine dc_it (walk_list (K := K) (a := q) (xs := ys.map V.str)) (fun i H' => H' D = some (.dK (kvI (byName (jall ls) (ys.take i)))) ∧ Same H2 H') ?_ ?_ ?_ ?_
        · exact ⟨by rw [List.take_zero, upd_same]; rfl, same_new (Same.refl _) hD⟩
        · rintro i H' _ ⟨_, m⟩
          exact SqL.of (m _ _ Q2)
        · rintro i x H' H'' hi ⟨p1, p2⟩ ⟨rfl, hx⟩
          obtain ⟨z, hz, rfl⟩ := txs_get (ls := ys) hx
          have zm : z ∈ (jall ls).map (·.1) := perm.mem_iff.mp (List.mem_of_getElem? hz)
          have fresh : z ∉ (byName (jall ls) (ys.take i)).map (·.1) := fun e => by
            unfold byName at e
            rw [List.map_map] at e
            obtain ⟨u, hu', e2⟩ := List.mem_map.mp e
            obtain ⟨j, hj⟩ := List.mem_iff_getElem?.mp hu'
            have hji : j < i := by
              have := (List.getElem?_eq_some_iff.mp hj).1
              rw [List.length_take] at this
              omega
            rw [List.getElem?_take_of_lt hji] at hj
            exact row_ne (l := ys) (perm.nodup_iff.mpr kA.1) (i := j) (j := i) (x := u) (y := z) hj hz (by omega) e2
          have g := get_look (x := z) (p2 _ _ S2)
          rw [look_mk zm] at g
          refine ⟨rfl, _, rfl, _, rfl, _, rfl, S, _, rfl, g, _, Sum.inr z, rfl, p1, ?_, ?_, same_put p2 hD⟩
          · unfold kvI byName
            rw [List.length_map, List.length_map, List.length_take]
            exact small1000 (by omega)
          · rw [upd_same, putK_new _ (kvI_none fresh), List.take_succ, hz]
            unfold kvI byName
            simp
        · rintro H' ⟨p1, p2⟩
          rw [List.length_map, List.take_length] at p1
          exact k ys D H' srt perm p1 (fr_none mQ hD) (mQ.trans p2)
end
end Y

namespace Y
open PySem PySem.Spec PyProof.Rows L2 Ns
open C8 (pss_cut)
/-- the law's own charging -/
def lchg (l : List (Str × Int)) (r : Car) : Car := (r.1, r.2.1, r.2.2.1, r.2.2.2 - (look l r.1).getD 0)
theorem look_less {rs : List Car} : ∀ (l : List (Str × Int)) (x : Str), look (lessN rs l) x = (look l x).map fun a => nv rs x - a
  | [], _ => rfl
  | p :: l, x => by
    have ih := look_less (rs := rs) l x
    unfold look lessN at ih ⊢
    rw [List.map_cons]
    by_cases e : p.1 = x
    · rw [List.find?_cons_of_pos (by simpa using e), List.find?_cons_of_pos (by simpa using e)]
      simp [e]
    · rw [List.find?_cons_of_neg (by simpa using e), List.find?_cons_of_neg (by simpa using e)]
      exact ih
theorem chg_less {rs : List Car} (nn : (rs.map (·.1)).Nodup) (l : List (Str × Int)) : rs.map (chg (lessN rs l)) = rs.map (lchg l) := by
  refine List.map_congr_left fun r hr => ?_
  unfold chg lchg
  rw [look_less, nv_at nn hr]
  cases look l r.1 with
  | none => show (_, _, _, r.2.2.2) = (_, _, _, r.2.2.2 - 0); rw [Int.sub_zero]
  | some a => rfl
def spLCharged (K : PySem.W.Frag) : Sp := fun as H Q _ => ∃ (y : V) (d : Addr) (cs : List Cab) (rs : List Car) (l : List (Str × Int)), as = [y, .ref d] ∧ YardV K H y cs rs ∧ H d = some (.dK (kvI l)) ∧ rs.length ≤ 1000 ∧
  ∀ (t : Addr) (H' : Hp), YardV K H' (.ref t) cs (rs.map (lchg l)) → H t = none → Same H H' → Q (.ref t) H'
def spLJoined (K : PySem.W.Frag) : Sp := fun as H Q _ => ∃ (a : Addr) (ds : List Addr) (ls : List (List (Str × Int))) (ns : List Str), as = [.ref a] ∧ SqL K H a (ds.map V.ref) ∧ Paired (fun d l => H d = some (.dK (kvI l))) ds ls ∧ ns.length ≤ 60 ∧ (∀ l ∈ ls, ∀ p ∈ l, p.1 ∈ ns) ∧ (∀ l ∈ ls, (l.map (·.1)).Nodup) ∧
  ∀ (ys : List Str) (p : Addr) (H' : Hp), sortedS ys = true → ys.Perm ((jall ls).map (·.1)) → H' p = some (.dK (kvI (byName (jall ls) ys))) → H p = none → Same H H' → Q (.ref p) H'
section
variable {P : Program} {w : World} {K : PySem.W.Frag} {mg : Str → Option Value} {base : Heap}
theorem scLC : FnScope ["yard", "amounts", "cars", "name", "knot", "rate", "need"] ["yard", "amounts"] (defScope sLCharged) := ⟨rfl, rfl, rfl, by decide +kernel, rfl, by decide +kernel, by decide +kernel⟩
theorem ok_lcharged {f : Addr} {fd : FuncData} (F : Fun K "_law_charged" "_law_charged" sLCharged f fd) (T : Nat0 mg) : FnOk P w K mg base CX0 1 f fd ["yard", "amounts"] (spLCharged K) := by
  refine F.ok scLC (fun as H Q E h => ?_) (fun cdv A outer s H as Q E hr h => ?_)
  · obtain ⟨y, d, cs, rs, l, rfl, _⟩ := h
    rfl
  · obtain ⟨y, d, cs, rs, l, rfl, hV, hd, hl, k⟩ := h
    have hu := hu_of hr
    refine ⟨_, pss_cons (ps_setLc (i := 2) (own := [("name", 3), ("knot", 4), ("rate", 5), ("need", 6)]) (g := gTup K 4 (gCons (gName 3) (gCons (gName 4) (gCons (gName 5) (gCons (gName 6) gNil))))) (tt := tYes) rfl scLC.nd rfl rfl (sw_true rfl rfl rfl (by decide +kernel)) (pi_tup (pe_ix ix_tup (pv 0) pe_int (fun _ _ => rfl)))
        (blkOk_by (N := ["yard", "amounts", "cars", "name", "knot", "rate", "need"]) (sc := defScope sLCharged) (by decide +kernel))
        (fun _ _ _ _ _ => pg_tup rfl (pgs_cons (pg_name (i := 3) scLC.nd rfl (Or.inl rfl)) (pgs_cons (pg_name (i := 4) scLC.nd rfl (Or.inl rfl)) (pgs_cons (pg_name (i := 5) scLC.nd rfl (Or.inl rfl)) (pgs_cons (pg_name (i := 6) scLC.nd rfl (Or.inl rfl)) pgs_nil))))) (fun _ _ _ _ _ => pts_nil)
        (fun _ _ _ _ _ => pe_tup (pa_cons (pv 3) (pa_cons (pv 4) (pa_cons (pv 5) (pa_cons (pe_op op_sub (pv 6) (pe_dget2 hu (pv 1) (pv 3) pe_int ⟨by rfl, by rfl, by rfl, by rfl⟩)) pa_nil))))))
      (pss_one (ps_ret (pe_tup (pa_cons (pe_ix ix_tup (pv 0) pe_int (fun _ _ => rfl)) (pa_cons (pe_callTy call_tuple_of (by rfl) T.tuple (by decide +kernel) (pa_cons (pv 2) pa_nil)) pa_nil))))), ?_⟩
    obtain ⟨ty, ya, yb, xs, zs, rfl, v1, v2, v3, v4, v5⟩ := hV
    have lz : zs.length = rs.length := paired_len v5
    refine ⟨_, rfl, ty, _, 1, .ref yb, rfl, rfl, v1, at1, yb, rfl, ⟨_, v3⟩, fun D hD => ?_⟩
    refine lc_tup (K := K) (a := yb) (xs := zs) (fun i H' => ∃ ts : List Addr, H' D = some (.lst (ts.map V.ref)) ∧ Paired (fun t (r : Car) => H' t = some (.tup [.str r.1, .str r.2.1, .int r.2.2.1, .int r.2.2.2])) ts ((rs.take i).map (lchg l)) ∧ Same H H') ?_ ?_ ?_ ?_
    · exact ⟨[], upd_same, by rw [List.take_zero]; exact .nil, same_new (Same.refl H) hD⟩
    · rintro i H' _ ⟨_, _, _, m⟩
      exact sqt_more m v3
    · rintro i x H' hx ⟨ts, q1, q2, q3⟩
      obtain ⟨r, hr, q, rfl, hq⟩ := paired_at v5 hx
      have hi' : i < rs.length := (List.getElem?_eq_some_iff.mp hr).1
      have hd' := q3 _ _ hd
      refine ⟨q, _, rfl, sqt_more q3 hq, rfl, _, _, rfl, _, _, rfl, _, _, rfl, _, _, rfl, rfl, ?_⟩
      refine ⟨rfl, _, rfl, _, rfl, _, rfl, _, rfl, _, rfl, d, rfl, .inl ⟨_, .inl hd'⟩, _, rfl, (look l r.1).map V.int, get_look (x := r.1) hd', ?_⟩
      have ev : ((look l r.1).map V.int).getD (.int 0) = V.int ((look l r.1).getD 0) := by cases look l r.1 <;> rfl
      rw [ev]
      refine ⟨_, _, rfl, rfl, by show 4 ≤ sizeLine; decide, fun t ht => ?_⟩
      have nt : t ≠ D := fun z => by rw [z, q1] at ht; cases ht
      have tl : ts.length ≤ 1000 := by
        rw [paired_len q2, List.length_map, List.length_take]
        omega
      refine ⟨ts.map V.ref, s3u ht q1, by rw [List.length_map]; exact small1000 tl, ts ++ [t], by rw [upd_same, List.map_append]; rfl, ?_, same_put (same_new q3 ht) hD⟩
      rw [List.take_succ, hr, List.map_append]
      refine paired_snoc (by rw [upd_ne nt, upd_same]; rfl) (paired_imp (fun t0 r h => ?_) q2)
      have n0 : t0 ≠ D := fun z => by rw [z, q1] at h; cases h
      rw [upd_ne n0]
      exact s3u ht h
    · rintro H' ⟨ts, q1, q2, q3⟩
      rw [lz, List.take_length] at q2
      refine ⟨_, rfl, ty, _, 0, .ref ya, rfl, rfl, sqt_more q3 v1, at0, _, rfl, D, _, rfl, .inl ⟨SqL.of q1, fun p hp => ⟨by show 2 ≤ sizeLine; decide, fun t ht => ?_⟩⟩⟩
      have m1 := same_new (o := .tup (ts.map V.ref)) q3 hp
      have m2 := same_new (o := .tup [.ref ya, .ref p]) m1 ht
      refine k t _ ⟨t, ya, p, xs, ts.map V.ref, rfl, SqT.of upd_same, sqt_more m2 v2, SqT.of (s3u ht upd_same), paired_imp (fun v c ⟨a, e1, q⟩ => ⟨a, e1, sqt_more m2 q⟩) v4, ?_⟩ (fr_none m1 ht) m2
      exact car_refs q2 fun c o e => s3u ht (s3u hp e)
theorem scLJ : FnScope ["rows", "found", "row", "name"] ["rows"] (defScope sJoined) := ⟨rfl, rfl, rfl, by decide +kernel, rfl, by decide +kernel, by decide +kernel⟩
theorem ok_ljoined {f : Addr} {fd : FuncData} (F : Fun K "_law_joined" "_law_joined" sJoined f fd) (T : Nat0 mg) : FnOk P w K mg base CX0 1 f fd ["rows"] (spLJoined K) := by
  refine F.ok scLJ (fun as H Q E h => ?_) (fun cdv A outer s H as Q E hr h => ?_)
  · obtain ⟨a, ds, ls, ns, rfl, _⟩ := h
    rfl
  · obtain ⟨a, ds, ls, ns, rfl, hS, hD0, n60, sub, ndk, k⟩ := h
    have hu := hu_of hr
    have ld := paired_len hD0
    have kin : ∀ i, KeysIn ns (jall (ls.take i)) := fun i => (keysIn_nil ns).rows fun l hl => sub l (List.mem_of_mem_take hl)
    refine ⟨_, pss_cons (ps_set (i := 1) scLJ.nd rfl (.inr rfl) pe_dnewK)
        (pss_cons (ps_for PassesOwn.never rfl (pi_list (pv 0)) (pg_name (i := 2) scLJ.nd rfl (.inl rfl))
          (pss_one (ps_lock (ps_for PassesOwn.never rfl (pi_keys (pv 2)) (pg_name (i := 3) scLJ.nd rfl (.inl rfl))
            (pss_one (ps_dput hu (pv 1) (pv 3) (pe_op op_add (pe_dget2 hu (pv 1) (pv 3) pe_int ⟨by rfl, by rfl, by rfl, by rfl⟩) (pe_dget hu (pv 2) (pv 3) (fun _ _ => rfl))) rfl))))))
        (pss_one (ps_ret (pe_callTy (call_dictP rfl) (by rfl) T.dict (by decide +kernel) (pa_cons (pe_lc (own := [("name", 3)]) (g := gName 3) (tt := tYes) rfl scLJ.nd (pi_list (pe_callB (call_sortedD rfl) (by rfl) T.sorted (by decide +kernel) (pa_cons (pv 1) pa_nil)))
          (blkOk_by (N := ["rows", "found", "row", "name"]) (sc := defScope sJoined) (by decide +kernel)) (fun _ _ _ _ _ => pg_name (i := 3) scLJ.nd rfl (Or.inl rfl)) (fun _ _ _ _ _ => pts_nil)
          (fun _ _ _ _ _ => pe_tup (pa_cons (pv 3) (pa_cons (pe_dget hu (pv 1) (pv 3) (fun _ _ => rfl)) pa_nil)))) pa_nil))))), ?_⟩
    refine fun S hSn => ?_
    have m0 : Same H (upd H S (.dK [])) := same_new (Same.refl H) hSn
    refine ⟨_, rfl, a, rfl, ⟨_, Same.seq m0 hS⟩, ?_⟩
    refine for_it (walk_list (K := K) (a := a) (xs := ds.map V.ref)) (fun i σ H' => ∃ v2 v3 : Option V, σ = [some (.ref a), some (.ref S), v2, v3] ∧ H' S = some (.dK (kvI (jall (ls.take i)))) ∧ Same H H') ?_ ?_ ?_ ?_
    · exact ⟨none, none, rfl, by rw [List.take_zero]; exact upd_same, m0⟩
    · rintro i σ H' _ ⟨_, _, _, _, m⟩
      exact Same.seq m hS
    · rintro i x σ H' H'' hi ⟨v2, v3, rfl, q1, q2⟩ ⟨rfl, hx⟩
      obtain ⟨d, hd, rfl⟩ := refs_at hx
      obtain ⟨l, hl, hdl⟩ := paired_at hD0 hd
      have nSd : S ≠ d := fun z => by rw [z, hdl] at hSn; cases hSn
      have sl := sub l (List.mem_of_getElem? hl)
      have nl := ndk l (List.mem_of_getElem? hl)
      refine ⟨d, _, q2 _ _ hdl, trivial, fun od => ⟨_, rfl, d, od, rfl, .inl ⟨kvI l, upd_same, ?_⟩⟩⟩
      have LS : lk H d od l S = none := by rw [lk, upd_ne nSd]; exact hSn
      have Ld : lk H d od l d = some (.frz od (.dK (kvI l))) := upd_same
      refine for_it (walk_keys (d := d) (o := od) (kvs := kvI l)) (fun j σ G => ∃ v3 : Option V, σ = [some (.ref a), some (.ref S), some (.ref d), v3] ∧ G S = some (.dK (kvI (jrow (jall (ls.take i)) (l.take j)))) ∧ Same (lk H d od l) G) ?_ ?_ ?_ ?_
      · exact ⟨v3, rfl, by rw [List.take_zero]; exact lk_ne nSd q1, lk_same q2⟩
      · rintro j σ G _ ⟨_, _, _, m⟩
        exact m _ _ Ld
      · rintro j x σ G G' hj ⟨v3, rfl, p1, p2⟩ ⟨rfl, k', v', ek, rfl⟩
        obtain ⟨p, hp, er, _⟩ := kvI_at (l := l) hj (x := kV k') (z := v') (by rw [ek]; rfl) (by rw [ek]; rfl)
        rw [er]
        have kj : KeysIn ns (jrow (jall (ls.take i)) (l.take j)) := (kin i).row fun q hq => sl q (List.mem_of_mem_take hq)
        have gd := get_lookF (x := p.1) (p2 _ _ Ld)
        rw [look_mem nl (x := p.1) (v := p.2) (List.mem_of_getElem? hp)] at gd
        refine ⟨_, rfl, S, rfl, .inl ⟨_, .inl p1⟩, _, rfl, (look (jrow (jall (ls.take i)) (l.take j)) p.1).map V.int, get_look (x := p.1) p1, ?_⟩
        have eg : ((look (jrow (jall (ls.take i)) (l.take j)) p.1).map V.int).getD (.int 0) = V.int ((look (jrow (jall (ls.take i)) (l.take j)) p.1).getD 0) := by cases look (jrow (jall (ls.take i)) (l.take j)) p.1 <;> rfl
        rw [eg]
        refine ⟨_, rfl, _, rfl, d, _, rfl, gd, (look (jrow (jall (ls.take i)) (l.take j)) p.1).getD 0, p.2, rfl, rfl, _, rfl, _, rfl, S, _, rfl, DPut.k (k := Sum.inr p.1) p1 ?_, _, rfl, ?_, same_put p2 LS⟩
        · unfold kvI
          rw [List.length_map]
          have := kj.len
          exact small1000 (by omega)
        · rw [upd_same, jrow_take hp]
          unfold jadd
          rw [kvI_setv]
      · rintro σ G ⟨v3, rfl, p1, p2⟩
        rw [show (kvI l).length = l.length from List.length_map _, List.take_length] at p1
        refine ⟨p2 _ _ Ld, _, _, rfl, ?_, unlk hdl p2⟩
        rw [jall_take hl]
        exact unlk_at nSd p1
    · rintro σ H1 ⟨v2, v3, rfl, q1, q2⟩
      rw [List.length_map, ld, List.take_length] at q1
      have kA : KeysIn ns (jall ls) := by have := kin ls.length; rw [List.take_length] at this; exact this
      refine ⟨_, rfl, S, kvI (jall ls), (jall ls).map (·.1), rfl, .inl q1, by unfold kvI; rw [List.map_map, List.map_map]; rfl, by rw [List.length_map]; have := kA.len; omega, fun ys q perm srt hq => ⟨q, rfl, ⟨_, SqL.of upd_same⟩, fun D hD => ?_⟩⟩
      have mQ := same_new (o := .lst (ys.map V.str)) q2 hq
      have S2 := s3u (o := .lst (ys.map V.str)) hq q1
      have Q2 : upd H1 q (.lst (ys.map V.str)) q = some (.lst (ys.map V.str)) := upd_same
      generalize upd H1 q (.lst (ys.map V.str)) = H2 at mQ S2 Q2 hD ⊢
      have yl : ys.length ≤ 60 := by
        have := perm.length_eq
        rw [List.length_map] at this
        have := kA.len
        omega
      refine lc_list (K := K) (a := q) (xs := ys.map V.str) (fun i H' => ∃ ts : List Addr, H' D = some (.lst (ts.map V.ref)) ∧ Paired (fun t (s : Str) => H' t = some (.tup [.str s, .int ((look (jall ls) s).getD 0)])) ts (ys.take i) ∧ Same H2 H') ?_ ?_ ?_ ?_
      · exact ⟨[], upd_same, by rw [List.take_zero]; exact .nil, same_new (Same.refl _) hD⟩
      · rintro i H' _ ⟨_, _, _, m⟩
        exact SqL.of (m _ _ Q2)
      · rintro i x H' hx ⟨ts, p1, p2, p3⟩
        obtain ⟨z, hz, rfl⟩ := txs_get (ls := ys) hx
        have zm : z ∈ (jall ls).map (·.1) := perm.mem_iff.mp (List.mem_of_getElem? hz)
        have g := get_look (x := z) (p3 _ _ S2)
        rw [look_mk zm] at g
        refine ⟨rfl, _, rfl, _, rfl, _, rfl, S, _, rfl, g, by show 2 ≤ sizeLine; decide, fun t ht => ?_⟩
        have nt : t ≠ D := fun z => by rw [z, p1] at ht; cases ht
        have tl : ts.length ≤ 60 := by
          rw [paired_len p2, List.length_take]
          omega
        refine ⟨ts.map V.ref, s3u ht p1, by rw [List.length_map]; exact small1000 (by omega), ts ++ [t], by rw [upd_same, List.map_append]; rfl, ?_, same_put (same_new p3 ht) hD⟩
        rw [List.take_succ, hz]
        refine paired_snoc (by rw [upd_ne nt, upd_same]) (paired_imp (fun t0 r h => ?_) p2)
        have n0 : t0 ≠ D := fun z => by rw [z, p1] at h; cases h
        rw [upd_ne n0]
        exact s3u ht h
      · rintro H3 ⟨ts, p1, p2, p3⟩
        rw [List.length_map, List.take_length] at p2
        have ndy : ((byName (jall ls) ys).map (·.1)).Nodup := by
          have e : (byName (jall ls) ys).map (·.1) = ys := by unfold byName; rw [List.map_map]; exact List.map_id ys
          rw [e]
          exact perm.nodup_iff.mpr kA.1
        refine ⟨D, ts, kvI (byName (jall ls) ys), rfl, SqL.of p1, paired_dictS (f := fun s => (look (jall ls) s).getD 0) p2, fun p hp => ?_⟩
        rw [kvI_made ndy]
        exact k ys p _ srt perm upd_same (fr_none (mQ.trans p3) hp) (same_new (mQ.trans p3) hp)
end
end Y

namespace Y
open PySem PySem.Spec PyProof.Rows L2 Ns
open C8 (pss_cut)
/-- the first three parts of a car -/
def f3 (r : Car) : Cab := (r.1, r.2.1, r.2.2.1)
theorem chg_f3 (l : List (Str × Int)) (rs : List Car) : (rs.map (chg l)).map f3 = rs.map f3 := by
  rw [List.map_map]
  rfl
theorem look_nd {rs : List Car} (nn : (rs.map (·.1)).Nodup) {r : Car} (h : r ∈ rs) : look (rs.map nd) r.1 = some r.2.2.2 :=
  look_mem (by rw [List.map_map]; exact nn) (List.mem_map.mpr ⟨r, h, rfl⟩)
theorem chg_iff {rs rs' : List Car} (nn : (rs'.map (·.1)).Nodup) : rs.map (chg (rs'.map nd)) = rs' ↔ rs.map f3 = rs'.map f3 := by
  constructor
  · intro h
    have := congrArg (List.map f3) h
    rw [chg_f3] at this
    exact this
  · intro h
    have hl : rs.length = rs'.length := by simpa using congrArg List.length h
    refine List.ext_getElem? fun i => ?_
    rw [List.getElem?_map]
    have hi := congrArg (fun l => l[i]?) h
    simp only [List.getElem?_map] at hi
    cases h1 : rs[i]? with
    | none =>
      rw [h1] at hi
      cases h2 : rs'[i]? with
      | none => rfl
      | some r' => rw [h2] at hi; cases hi
    | some r =>
      rw [h1] at hi
      cases h2 : rs'[i]? with
      | none => rw [h2] at hi; cases hi
      | some r' =>
        rw [h2] at hi
        have e : f3 r = f3 r' := Option.some.inj hi
        have e1 : r.1 = r'.1 := congrArg (fun c : Cab => c.1) e
        have e2 : r.2.1 = r'.2.1 := congrArg (fun c : Cab => c.2.1) e
        have e3 : r.2.2.1 = r'.2.2.1 := congrArg (fun c : Cab => c.2.2) e
        have l1 := look_nd nn (List.mem_of_getElem? h2)
        show some (chg (rs'.map nd) r) = some r'
        unfold chg
        rw [e1, l1, e2, e3]
        rfl
def spLBetween (K : PySem.W.Frag) : Sp := fun as H Q _ => ∃ (y z : V) (cs cs' : List Cab) (rs rs' : List Car), as = [y, z] ∧ YardV K H y cs rs ∧ YardV K H z cs' rs' ∧ Lays cs rs ∧ Lays cs' rs' ∧ (rs.map (·.1)).Nodup ∧ (rs'.map (·.1)).Nodup ∧ rs.length ≤ 1000 ∧ rs'.length ≤ 1000 ∧
  (btw cs rs cs' rs' = none → ∀ H', Same H H' → Q .non H') ∧ (∀ l, btw cs rs cs' rs' = some l → ∀ (p : Addr) (H' : Hp), H' p = some (.dK (kvI l)) → H p = none → Same H H' → Q (.ref p) H')
theorem shaped_cabs {c : List Cab} (h : ∀ x ∈ c, Nf x.1 ∧ Nf x.2.1) : SeqAt.shaped (.tuple (c.map cabD)) = true ∧ SeqAt.shaped (.list (c.map cabD)) = true := by
  obtain ⟨h1, h2⟩ := lay_cs h
  constructor
  · unfold SeqAt.shaped
    rw [Bool.and_eq_true]
    refine ⟨by simp [PyData.canLay0, h1], decide_eq_true ?_⟩
    simp only [PyData.depth]
    omega
  · unfold SeqAt.shaped
    rw [Bool.and_eq_true]
    refine ⟨by simp [PyData.canLay0, h1], decide_eq_true ?_⟩
    simp only [PyData.depth]
    omega
theorem f3_lays {cs : List Cab} {rs : List Car} (h : Lays cs rs) : ∀ x ∈ rs.map f3, Nf x.1 ∧ Nf x.2.1 := fun x hx => by
  obtain ⟨r, hr, rfl⟩ := List.mem_map.mp hx
  exact ⟨.inl (h.car r hr).1, (h.car r hr).2⟩
theorem cab_refs {K : PySem.W.Frag} {H H' : Hp} : ∀ {ts : List Addr} {cs : List Cab}, Paired (fun t (c : Cab) => H t = some (.tup [.str c.1, .str c.2.1, .int c.2.2])) ts cs → Same H H' → Paired (CabV K H') (ts.map V.ref) cs
  | _, _, .nil, _ => .nil
  | _, _, .cons h t, m => .cons ⟨_, rfl, SqT.of (m _ _ h)⟩ (cab_refs t m)
theorem not_whole {u1 u2 u3 u4 : V} : ¬ (HT.sIx [u1, u2, u3, u4].length 0 none = 0 ∧ HT.sIx [u1, u2, u3, u4].length [u1, u2, u3, u4].length (some 3) = [u1, u2, u3, u4].length) := by
  show ¬ (HT.sIx 4 0 none = 0 ∧ HT.sIx 4 4 (some 3) = 4)
  decide
theorem three_of {u1 u2 u3 u4 : V} : cutV [u1, u2, u3, u4] none (some 3) = [u1, u2, u3] := by
  rw [show (3 : Int) = ((3 : Nat) : Int) from rfl, cut_upto]
  rfl
section
variable {P : Program} {w : World} {K : PySem.W.Frag} {mg : Str → Option Value} {base : Heap}
theorem scBt : FnScope ["one", "other", "found", "car", "later"] ["one", "other"] (defScope sBetween) := ⟨rfl, rfl, rfl, by decide +kernel, rfl, by decide +kernel, by decide +kernel⟩
theorem ok_lbetween {f : Addr} {fd : FuncData} (F : Fun K "_law_between" "_law_between" sBetween f fd) (T : Nat0 mg) : FnOk P w K mg base CX0 1 f fd ["one", "other"] (spLBetween K) := by
  refine F.ok scBt (fun as H Q E h => ?_) (fun cdv A outer s H as Q E hr h => ?_)
  · obtain ⟨y, z, cs, cs', rs, rs', rfl, _⟩ := h
    rfl
  · obtain ⟨y, z, cs, cs', rs, rs', rfl, hV, hZ, hL, hL', nn, nn', ll, ll', k1, k2⟩ := h
    have hu := hu_of hr
    refine ⟨_, pss_cons (ps_if (PW.pt (pw_or (pt_cmpR (op_neD hr.units) (pe_ix ix_tup (pv 0) pe_int (fun _ _ => rfl)) (pe_ix ix_tup (pv 1) pe_int (fun _ _ => rfl)) (nomark _))
        (pw_or1 (pt_cmpR (op_neD hr.units) (pe_lc (own := [("car", 3)]) (g := gName 3) (tt := tYes) (te := tSl (rSlT K) (tVar 3) tNoPart (tPart (tC (V.int 3)))) rfl scBt.nd (pi_tup (pe_ix ix_tup (pv 0) pe_int (fun _ _ => rfl))) (blkOk_by (N := ["one", "other", "found", "car", "later"]) (sc := defScope sBetween) (by decide +kernel))
            (fun _ _ _ _ _ => pg_name (i := 3) scBt.nd rfl (Or.inl rfl)) (fun _ _ _ _ _ => pts_nil) (fun _ _ _ _ _ => by exact pe_slice sl_tup (pv 3) po_none (po_some pe_int)))
          (pe_lc (own := [("car", 3)]) (g := gName 3) (tt := tYes) (te := tSl (rSlT K) (tVar 3) tNoPart (tPart (tC (V.int 3)))) rfl scBt.nd (pi_tup (pe_ix ix_tup (pv 1) pe_int (fun _ _ => rfl))) (blkOk_by (N := ["one", "other", "found", "car", "later"]) (sc := defScope sBetween) (by decide +kernel))
            (fun _ _ _ _ _ => pg_name (i := 3) scBt.nd rfl (Or.inl rfl)) (fun _ _ _ _ _ => pts_nil) (fun _ _ _ _ _ => by exact pe_slice sl_tup (pv 3) po_none (po_some pe_int))) (nomark _))))) (pss_one (ps_ret pe_non)) pss_nil)
      (pss_cons (ps_set (i := 2) scBt.nd rfl (.inl rfl) pe_dnewK)
      (pss_cons (ps_for PassesOwn.never rfl (RZ.pi_zipA (by rfl) T.zip (pa_cons (pe_ix ix_tup (pv 0) pe_int (fun _ _ => rfl)) (pa_cons (pe_ix ix_tup (pv 1) pe_int (fun _ _ => rfl)) pa_nil)))
          (pg_tup rfl (pgs_cons (pg_name (i := 3) scBt.nd rfl (.inl rfl)) (pgs_cons (pg_name (i := 4) scBt.nd rfl (.inl rfl)) pgs_nil)))
        (pss_cons (ps_if (pt_cmpR op_gt (pe_ix ix_tup (pv 4) pe_int (fun _ _ => rfl)) (pe_ix ix_tup (pv 3) pe_int (fun _ _ => rfl)) (nomark _)) (pss_one (ps_ret pe_non)) pss_nil)
        (pss_one (ps_if (pt_cmpR op_lt (pe_ix ix_tup (pv 4) pe_int (fun _ _ => rfl)) (pe_ix ix_tup (pv 3) pe_int (fun _ _ => rfl)) (nomark _))
          (pss_one (ps_dput hu (pv 2) (pe_ix ix_tup (pv 3) pe_int (fun _ _ => rfl)) (pe_op op_sub (pe_ix ix_tup (pv 3) pe_int (fun _ _ => rfl)) (pe_ix ix_tup (pv 4) pe_int (fun _ _ => rfl))) rfl)) pss_nil))))
      (pss_one (ps_ret (pv 2))))), ?_⟩
    obtain ⟨ty, ya, yb, xs, zs, ey, v1, v2, v3, v4, v5⟩ := hV
    obtain ⟨tz, za, zb, xs', zs', ez, w1, w2, w3, w4, w5⟩ := hZ
    subst ey
    subst ez
    have lz : zs.length = rs.length := paired_len v5
    have lz' : zs'.length = rs'.length := paired_len w5
    refine ⟨_, rfl, ty, _, 0, .ref ya, rfl, rfl, v1, at0, _, rfl, tz, _, 0, .ref za, rfl, rfl, w1, at0, .tuple (cs.map cabD), .tuple (cs'.map cabD), .tup v2 (dp_cabs v4), .tup w2 (dp_cabs w4), (shaped_cabs hL.cab).1, (shaped_cabs hL'.cab).1, _, rfl, ?_⟩
    have ec : PyData.eqv (.tuple (cs.map cabD)) (.tuple (cs'.map cabD)) = true ↔ cs = cs' := by
      rw [← eqv_all eqv_cab cs cs']
      simp [PyData.eqv]
    have no1 : cs ≠ cs' → ∀ H', Same H H' → Q .non H' := fun n => k1 (by unfold btw; rw [if_neg fun z => n z.1])
    refine ite2 (fun h => ?_) (fun h => ?_)
    · refine no1 (fun z => ?_) _ (Same.refl H)
      rw [ec.mpr z] at h
      cases h
    have hc : cs = cs' := ec.mp (by
      cases e : PyData.eqv (.tuple (cs.map cabD)) (.tuple (cs'.map cabD)) with
      | true => rfl
      | false => rw [e] at h; exact absurd rfl h)
    refine ⟨_, rfl, ty, _, 1, .ref yb, rfl, rfl, v1, at1, yb, rfl, ⟨_, v3⟩, fun D hD => ?_⟩
    refine lc_tup (K := K) (a := yb) (xs := zs) (fun i H' => ∃ ts : List Addr, H' D = some (.lst (ts.map V.ref)) ∧ Paired (fun t (c : Cab) => H' t = some (.tup [.str c.1, .str c.2.1, .int c.2.2])) ts ((rs.take i).map f3) ∧ Same H H') ?_ ?_ ?_ ?_
    · exact ⟨[], upd_same, by rw [List.take_zero]; exact .nil, same_new (Same.refl H) hD⟩
    · rintro i H' _ ⟨_, _, _, m⟩
      exact sqt_more m v3
    · rintro i x H' hx ⟨ts, q1, q2, q3⟩
      obtain ⟨r, hr', q, rfl, hq⟩ := paired_at v5 hx
      have hi' : i < rs.length := (List.getElem?_eq_some_iff.mp hr').1
      refine ⟨rfl, _, rfl, _, rfl, q, _, rfl, sqt_more q3 hq, not_whole, fun t ht => ?_⟩
      rw [three_of]
      have nt : t ≠ D := fun z => by rw [z, q1] at ht; cases ht
      have tl : ts.length ≤ 1000 := by
        rw [paired_len q2, List.length_map, List.length_take]
        omega
      refine ⟨ts.map V.ref, s3u ht q1, by rw [List.length_map]; exact small1000 tl, ts ++ [t], by rw [upd_same, List.map_append]; rfl, ?_, same_put (same_new q3 ht) hD⟩
      rw [List.take_succ, hr', List.map_append]
      refine paired_snoc (by rw [upd_ne nt, upd_same]; rfl) (paired_imp (fun t0 r h => ?_) q2)
      have n0 : t0 ≠ D := fun z => by rw [z, q1] at h; cases h
      rw [upd_ne n0]
      exact s3u ht h
    rintro H1 ⟨ts, q1, q2, m1⟩
    rw [lz, List.take_length] at q2
    refine ⟨_, rfl, tz, _, 1, .ref zb, rfl, rfl, sqt_more m1 w1, at1, zb, rfl, ⟨_, sqt_more m1 w3⟩, fun D2 hD2 => ?_⟩
    refine lc_tup (K := K) (a := zb) (xs := zs') (fun i H' => ∃ us : List Addr, H' D2 = some (.lst (us.map V.ref)) ∧ Paired (fun t (c : Cab) => H' t = some (.tup [.str c.1, .str c.2.1, .int c.2.2])) us ((rs'.take i).map f3) ∧ Same H1 H') ?_ ?_ ?_ ?_
    · exact ⟨[], upd_same, by rw [List.take_zero]; exact .nil, same_new (Same.refl H1) hD2⟩
    · rintro i H' _ ⟨_, _, _, m⟩
      exact sqt_more (m1.trans m) w3
    · rintro i x H' hx ⟨us, p1, p2, p3⟩
      obtain ⟨r, hr', q, rfl, hq⟩ := paired_at w5 hx
      have hi' : i < rs'.length := (List.getElem?_eq_some_iff.mp hr').1
      refine ⟨rfl, _, rfl, _, rfl, q, _, rfl, sqt_more (m1.trans p3) hq, not_whole, fun t ht => ?_⟩
      rw [three_of]
      have nt : t ≠ D2 := fun z => by rw [z, p1] at ht; cases ht
      have tl : us.length ≤ 1000 := by
        rw [paired_len p2, List.length_map, List.length_take]
        omega
      refine ⟨us.map V.ref, s3u ht p1, by rw [List.length_map]; exact small1000 tl, us ++ [t], by rw [upd_same, List.map_append]; rfl, ?_, same_put (same_new p3 ht) hD2⟩
      rw [List.take_succ, hr', List.map_append]
      refine paired_snoc (by rw [upd_ne nt, upd_same]; rfl) (paired_imp (fun t0 r h => ?_) p2)
      have n0 : t0 ≠ D2 := fun z => by rw [z, p1] at h; cases h
      rw [upd_ne n0]
      exact s3u ht h
    rintro H2 ⟨us, p1, p2, m2⟩
    rw [lz', List.take_length] at p2
    have m12 := m1.trans m2
    refine ⟨.list ((rs.map f3).map cabD), .list ((rs'.map f3).map cabD), .lst (SqL.of (m2 _ _ q1)) (dp_cabs (cab_refs q2 m2)), .lst (SqL.of p1) (dp_cabs (cab_refs p2 (Same.refl H2))), (shaped_cabs (f3_lays hL)).2, (shaped_cabs (f3_lays hL')).2, _, rfl, ?_⟩
    have ef : PyData.eqv (.list ((rs.map f3).map cabD)) (.list ((rs'.map f3).map cabD)) = true ↔ rs.map f3 = rs'.map f3 := by
      rw [← eqv_all eqv_cab (rs.map f3) (rs'.map f3)]
      simp [PyData.eqv]
    refine ite2 (fun h => ?_) (fun h => ?_)
    · refine k1 ?_ _ m12
      unfold btw
      rw [if_neg fun z => ?_]
      rw [ef.mpr ((chg_iff nn').mp z.2)] at h
      cases h
    have hf : rs.map f3 = rs'.map f3 := ef.mp (by
      cases e : PyData.eqv (.list ((rs.map f3).map cabD)) (.list ((rs'.map f3).map cabD)) with
      | true => rfl
      | false => rw [e] at h; exact absurd rfl h)
    have heq : cs = cs' ∧ rs.map (chg (rs'.map nd)) = rs' := ⟨hc, (chg_iff nn').mpr hf⟩
    have rl : rs.length = rs'.length := by simpa using congrArg List.length hf
    refine fun S hS => ?_
    have m3 := same_new (o := .dK []) m12 hS
    refine ⟨_, rfl, ty, _, 1, .ref yb, rfl, rfl, sqt_more m3 v1, at1, _, rfl, tz, _, 1, .ref zb, rfl, rfl, sqt_more m3 w1, at1, yb, zb, zs, zs', rfl, .inr ⟨sqt_more m3 v3, sqt_more m3 w3, ?_⟩⟩
    refine RZ.for_zipT (K := K) (a := yb) (b := zb) (xs := zs) (ys := zs') (by omega) (fun i σ H' => ∃ v3 v4 : Option V, σ = [some (.ref ty), some (.ref tz), some (.ref S), v3, v4] ∧ ((rs.take i).any fun r => decide (nv rs' r.1 > nv rs r.1)) = false ∧
      H' S = some (.dK (kvI (((rs.take i).filter fun r => decide (nv rs' r.1 < nv rs r.1)).map fun r => (r.1, nv rs r.1 - nv rs' r.1)))) ∧ Same H H') ?_ ?_ ?_ ?_
    · exact ⟨none, none, rfl, by rw [List.take_zero]; rfl, by rw [List.take_zero, upd_same]; rfl, m3⟩
    · rintro i σ H' ⟨_, _, _, _, _, m⟩
      exact ⟨sqt_more m v3, sqt_more m w3⟩
    · rintro i x y T' σ H' hx hy ⟨u3, u4, rfl, a1, a2, a3⟩ hT'
      obtain ⟨r, hr', q, rfl, hq⟩ := paired_at v5 hx
      obtain ⟨r', hr2, q', rfl, hq'⟩ := paired_at w5 hy
      have ei : f3 r = f3 r' := by
        have := congrArg (fun l => l[i]?) hf
        simp only [List.getElem?_map, hr', hr2] at this
        exact Option.some.inj this
      have en : r'.1 = r.1 := (congrArg (fun c : Cab => c.1) ei).symm
      have e1 : nv rs r.1 = r.2.2.2 := nv_at nn (List.mem_of_getElem? hr')
      have e2 : nv rs' r.1 = r'.2.2.2 := by rw [← en]; exact nv_at nn' (List.mem_of_getElem? hr2)
      have a3' := same_new (o := .tup [.ref q, .ref q']) a3 hT'
      have a2' := s3u (o := .tup [.ref q, .ref q']) hT' a2
      have hqn := sqt_more a3' hq
      have hqn' := sqt_more a3' hq'
      have hi' : i < rs.length := (List.getElem?_eq_some_iff.mp hr').1
      refine ⟨T', _, rfl, SqT.of upd_same, rfl, _, _, rfl, _, _, rfl, rfl, ?_⟩
      refine ⟨_, rfl, q', _, 3, _, rfl, rfl, hqn', at3, _, rfl, q, _, 3, _, rfl, rfl, hqn, at3, _, _, rfl, rfl, _, rfl, ?_⟩
      refine ite2 (fun h => ?_) (fun h => ?_)
      · have h' : r.2.2.2 < r'.2.2.2 := by simpa using h
        refine k1 ?_ _ a3'
        unfold btw
        rw [if_pos heq, if_pos (List.any_eq_true.mpr ⟨r, List.mem_of_getElem? hr', decide_eq_true (by omega)⟩)]
      have h' : ¬ r.2.2.2 < r'.2.2.2 := by simpa using h
      have any1 : ((rs.take (i + 1)).any fun r => decide (nv rs' r.1 > nv rs r.1)) = false := by
        rw [List.take_succ, hr', List.any_append, a1]
        simp
        omega
      refine ⟨_, rfl, q', _, 3, _, rfl, rfl, hqn', at3, _, rfl, q, _, 3, _, rfl, rfl, hqn, at3, _, _, rfl, rfl, _, rfl, ?_⟩
      refine ite2 (fun g => ?_) (fun g => ?_)
      · have g' : r'.2.2.2 < r.2.2.2 := by simpa using g
        have c' : nv rs' r.1 < nv rs r.1 := by omega
        have fresh : r.1 ∉ (((rs.take i).filter fun r => decide (nv rs' r.1 < nv rs r.1)).map fun r => (r.1, nv rs r.1 - nv rs' r.1)).map (·.1) := fun z => by
          rw [List.map_map] at z
          obtain ⟨r2, hr2, e⟩ := List.mem_map.mp z
          obtain ⟨j, hj⟩ := List.mem_iff_getElem?.mp (List.mem_filter.mp hr2).1
          have hji : j < i := by
            have := (List.getElem?_eq_some_iff.mp hj).1
            rw [List.length_take] at this
            omega
          rw [List.getElem?_take_of_lt hji] at hj
          exact row_ne nn (i := j) (j := i) (x := r2.1) (y := r.1) (by rw [List.getElem?_map, hj]; rfl) (by rw [List.getElem?_map, hr']; rfl) (by omega) e
        have Sn : H S = none := fr_none m12 hS
        refine ⟨_, rfl, q, _, 3, _, rfl, rfl, hqn, at3, _, rfl, q', _, 3, _, rfl, rfl, hqn', at3, _, _, rfl, rfl, _, rfl, _, rfl, q, _, 0, _, rfl, rfl, hqn, at0, S, _, rfl, DPut.k (k := Sum.inr r.1) a2' ?_, _, _, rfl, any1, ?_, same_put a3' Sn⟩
        · unfold kvI
          rw [List.length_map, List.length_map]
          have := List.length_filter_le (fun r : Car => decide (nv rs' r.1 < nv rs r.1)) (rs.take i)
          rw [List.length_take] at this
          exact small1000 (by omega)
        · rw [upd_same, putK_new _ (kvI_none fresh), List.take_succ, hr']
          unfold kvI
          simp [c', e1, e2, g']
      · have g' : ¬ r'.2.2.2 < r.2.2.2 := by simpa using g
        have c' : ¬ nv rs' r.1 < nv rs r.1 := by omega
        refine ⟨_, _, rfl, any1, ?_, a3'⟩
        rw [a2', List.take_succ, hr']
        simp [c']
    · rintro σ H' ⟨u3, u4, rfl, a1, a2, a3⟩
      rw [lz, List.take_length] at a1 a2
      refine ⟨_, rfl, k2 _ ?_ S H' a2 (fr_none m12 hS) a3⟩
      unfold btw
      rw [if_pos heq, if_neg (by rw [a1]; exact Bool.false_ne_true)]
end
end Y

namespace Y
open PySem PySem.Spec PyProof.Rows L2 Ns
open C8 (pss_cut)
section
variable {X : Cx}
/-- t[lo:hi]: a tuple with these items -/
def rSlU (K : PySem.W.Frag) : V → Option Int → Option Int → Hp → VK → Prop := fun x lo hi H Q => ∃ a xs, x = .ref a ∧ SqT K H a xs ∧ ∀ (p : Addr) (H' : Hp), Same H H' → SqT K H' p (cutV xs lo hi) → Q (.ref p) H'
theorem sl_tupU : SlR X (rSlU X.K) := by
  intro pins s σ H x v vl vu lo hi sl Q I rx hs pl pu h
  obtain ⟨a, xs, rfl, hx, q⟩ := h
  refine sl_tupA pins s σ H _ v vl vu lo hi sl Q I rx hs pl pu ⟨a, xs, rfl, hx, fun hw => ?_, fun _ p hp => q p _ (same_new (Same.refl H) hp) (SqT.of upd_same)⟩
  refine q a H (Same.refl H) ?_
  have e : cutV xs lo hi = xs := by
    unfold cutV
    rw [hw.1, hw.2, List.drop_zero, Nat.sub_zero, List.take_length]
  rw [e]
  exact hx
/-- t + u: a tuple with these items -/
def rCatU (K : PySem.W.Frag) : R2 := fun x y H Q => ∃ a b xs ys, x = .ref a ∧ y = .ref b ∧ SqT K H a xs ∧ SqT K H b ys ∧ xs.length + ys.length ≤ sizeLine ∧ ∀ (p : Addr) (H' : Hp), Same H H' → SqT K H' p (xs ++ ys) → Q (.ref p) H'
theorem op_catU : OpR X (binaryOp .Add) (rCatU X.K) := by
  intro pins s σ H x y v u Q I rx ry h
  obtain ⟨a, b, xs, ys, rfl, rfl, ha, hb, hz, q⟩ := h
  refine op_catA pins s σ H _ _ v u Q I rx ry ⟨a, b, xs, ys, rfl, rfl, ha, hb, hz, fun e => q b H (Same.refl H) (by rw [e]; exact hb), fun _ e => q a H (Same.refl H) (by rw [e, List.append_nil]; exact ha), fun _ _ p hp => q p _ (same_new (Same.refl H) hp) (SqT.of upd_same)⟩
end
theorem sqt_wo {K : PySem.W.Frag} {H : Hp} {b p : Addr} {xs : List V} (h : SqT K H p xs) (B : Bag H b) : SqT K (wo H b) p xs := by
  obtain ⟨_, _, _, _, _, e, _⟩ := B
  rcases h with (h | ⟨o, h⟩) | h
  · exact .inl (.inl ((wo_ne (fun z => by rw [z, e] at h; cases h)).trans h))
  · exact .inl (.inr ⟨o, (wo_ne (fun z => by rw [z, e] at h; cases h)).trans h⟩)
  · exact .inr h
theorem yard_wo {K : PySem.W.Frag} {H : Hp} {b : Addr} {y : V} {cs : List Cab} {rs : List Car} (h : YardV K H y cs rs) (B : Bag H b) : YardV K (wo H b) y cs rs := by
  obtain ⟨t, a, c, xs, zs, rfl, h1, h2, h3, h4, h5⟩ := h
  exact ⟨t, a, c, xs, zs, rfl, sqt_wo h1 B, sqt_wo h2 B, sqt_wo h3 B, paired_imp (fun v c ⟨a, e1, q⟩ => ⟨a, e1, sqt_wo q B⟩) h4, paired_imp (fun v c ⟨a, e1, q⟩ => ⟨a, e1, sqt_wo q B⟩) h5⟩
theorem paired_take {α β : Type} {R : α → β → Prop} : ∀ {as : List α} {bs : List β}, Paired R as bs → ∀ n, Paired R (as.take n) (bs.take n)
  | _, _, .nil, n => by rw [List.take_nil, List.take_nil]; exact .nil
  | _, _, .cons h t, 0 => .nil
  | _, _, .cons h t, n + 1 => .cons h (paired_take t n)
theorem paired_drop {α β : Type} {R : α → β → Prop} : ∀ {as : List α} {bs : List β}, Paired R as bs → ∀ n, Paired R (as.drop n) (bs.drop n)
  | _, _, .nil, n => by rw [List.drop_nil, List.drop_nil]; exact .nil
  | _, _, .cons h t, 0 => .cons h t
  | _, _, .cons h t, n + 1 => paired_drop t n
theorem paired_app {α β : Type} {R : α → β → Prop} : ∀ {as : List α} {bs : List β}, Paired R as bs → ∀ {cs : List α} {ds : List β}, Paired R cs ds → Paired R (as ++ cs) (bs ++ ds)
  | _, _, .nil, _, _, h => h
  | _, _, .cons h t, _, _, g => .cons h (paired_app t g)
theorem cut_last (xs : List V) : cutV xs none (some (-1)) = xs.take (xs.length - 1) := by
  unfold cutV
  rw [HT.sIx_none, List.drop_zero, Nat.sub_zero]
  show xs.take (if (-1 : Int) < 0 then ((-1 : Int) + (xs.length : Int)).toNat else min (-1 : Int).toNat xs.length) = _
  rw [if_pos (by decide)]
  have e : ((-1 : Int) + (xs.length : Int)).toNat = xs.length - 1 := by omega
  rw [e]
theorem shaped_carsT {fl : List Car} (h : ∀ r ∈ fl, Nm r.1 ∧ Nf r.2.1) : SeqAt.shaped (.tuple (fl.map carD)) = true := by
  obtain ⟨h1, h2⟩ := lay_rs h
  unfold SeqAt.shaped
  rw [Bool.and_eq_true]
  refine ⟨by simp [PyData.canLay0, h1], decide_eq_true ?_⟩
  simp only [PyData.depth]
  omega
theorem YardP.takeR {cs : List Cab} {rs : List Car} (h : YardP cs rs) (n : Nat) : YardP cs (rs.take n) :=
  ⟨h.lc, by rw [List.length_take]; have := h.lr; omega, h.cab, fun r hr => h.car r (List.mem_of_mem_take hr), h.keys, h.names.sublist (List.Sublist.map _ (List.take_sublist n rs))⟩
theorem set_eq {α : Type} {l : List α} {i : Nat} {x : α} (h : i < l.length) (y : α) : l.take i ++ [y] ++ l.drop (i + 1) = l.set i y := by
  rw [List.set_eq_take_append_cons_drop, if_pos h, List.append_assoc]
  rfl
theorem map_set {α β : Type} {f : α → β} {l : List α} {i : Nat} {x y : α} (h : l[i]? = some x) (e : f y = f x) : (l.set i y).map f = l.map f := by
  rw [List.map_set, e]
  refine List.ext_getElem? fun j => ?_
  rw [List.getElem?_set]
  by_cases c : i = j
  · subst c
    rw [if_pos rfl, List.getElem?_map, h, List.length_map, if_pos (List.getElem?_eq_some_iff.mp h).1]
    rfl
  · rw [if_neg c]
theorem YardP.setR {cs : List Cab} {rs : List Car} (h : YardP cs rs) {i : Nat} {r q : Car} (hi : rs[i]? = some r) (e : q.1 = r.1) (hq : Nf q.2.1 ∧ 1 ≤ q.2.2.1 ∧ q.2.2.1 ≤ 10 ^ 12 ∧ 0 ≤ q.2.2.2 ∧ q.2.2.2 ≤ 10 ^ 12) : YardP cs (rs.set i q) :=
  ⟨h.lc, by rw [List.length_set]; exact h.lr, h.cab, fun x hx => by
    rcases List.mem_or_eq_of_mem_set hx with z | z
    · exact h.car x z
    · rw [z, e]
      exact ⟨(h.car r (List.mem_of_getElem? hi)).1, hq⟩, h.keys, by rw [map_set (f := fun x : Car => x.1) hi e]; exact h.names⟩
theorem YardP.setC {cs : List Cab} {rs : List Car} (h : YardP cs rs) {i : Nat} {c q : Cab} (hi : cs[i]? = some c) (e1 : q.1 = c.1) (e2 : q.2.1 = c.2.1) (hq : 0 ≤ q.2.2 ∧ q.2.2 ≤ 10 ^ 12) : YardP (cs.set i q) rs :=
  ⟨by rw [List.length_set]; exact h.lc, h.lr, fun x hx => by
    rcases List.mem_or_eq_of_mem_set hx with z | z
    · exact h.cab x z
    · have := h.cab c (List.mem_of_getElem? hi)
      rw [z, e1, e2]
      exact ⟨this.1, this.2.1, hq⟩, h.car, by rw [map_set (f := ckey) hi (Prod.ext e1 e2)]; exact h.keys, h.names⟩
theorem s3T {K : PySem.W.Frag} {H : Hp} {a q : Addr} {o : HO} {xs : List V} (hq : H q = none) (h : SqT K H a xs) : SqT K (upd H q o) a xs := sqt_more (same_new (Same.refl H) hq) h
theorem cars_more {K : PySem.W.Frag} {H H' : Hp} {zs : List V} {rs : List Car} (h : Paired (CarV K H) zs rs) (m : Same H H') : Paired (CarV K H') zs rs := paired_imp (fun v c ⟨a, e1, q⟩ => ⟨a, e1, sqt_more m q⟩) h
theorem cabs_more {K : PySem.W.Frag} {H H' : Hp} {zs : List V} {rs : List Cab} (h : Paired (CabV K H) zs rs) (m : Same H H') : Paired (CabV K H') zs rs := paired_imp (fun v c ⟨a, e1, q⟩ => ⟨a, e1, sqt_more m q⟩) h
theorem cars_wo {K : PySem.W.Frag} {H : Hp} {b : Addr} {zs : List V} {rs : List Car} (h : Paired (CarV K (wo H b)) zs rs) : Paired (CarV K H) zs rs := cars_more h (wo_sub H b)
theorem cars_new {K : PySem.W.Frag} {H : Hp} {q : Addr} {o : HO} {zs : List V} {rs : List Car} (hq : H q = none) (h : Paired (CarV K H) zs rs) : Paired (CarV K (upd H q o)) zs rs := cars_more h (same_new (Same.refl H) hq)
theorem cabs_wo {K : PySem.W.Frag} {H : Hp} {b : Addr} {zs : List V} {rs : List Cab} (h : Paired (CabV K (wo H b)) zs rs) : Paired (CabV K H) zs rs := cabs_more h (wo_sub H b)
theorem cabs_new {K : PySem.W.Frag} {H : Hp} {q : Addr} {o : HO} {zs : List V} {rs : List Cab} (hq : H q = none) (h : Paired (CabV K H) zs rs) : Paired (CabV K (upd H q o)) zs rs := cabs_more h (same_new (Same.refl H) hq)
/-- near a yard -/
def spNear (K : PySem.W.Frag) : Sp := fun as H Q _ => ∃ (b : Addr) (y : V) (cs : List Cab) (rs : List Car), as = [.ref b, y] ∧ Bag H b ∧ YardV K (wo H b) y cs rs ∧ YardP cs rs ∧
  ∀ (z : V) (cs' : List Cab) (rs' : List Car) (H' : Hp), YardP cs' rs' → YardV K (wo H' b) z cs' rs' → Bag H' b → Sb b H H' → Q z H'
section
variable {P : Program} {w : World} {K : PySem.W.Frag} {mg : Str → Option Value} {base : Heap}
theorem scNr : FnScope ["bag", "yard", "cables", "cars", "way", "at", "name", "knot", "rate", "need", "number", "one", "other", "cap"] ["bag", "yard"] (defScope sNear) := ⟨rfl, rfl, rfl, by decide +kernel, rfl, by decide +kernel, by decide +kernel⟩
theorem ok_near {f fT fS : Addr} {fd dT dS : FuncData} (F : Fun K "_law_near" "_law_near" sNear f fd) (T : Nat0 mg) (FT : Fun K "_law_take" "_law_take" sTake fT dT) (mT : mg "_law_take" = some (.ref fT)) (bT : Binds K dT ["bag", "many"] [])
    (FS : Fun K "_law_some" "_law_some" sSome fS dS) (mS : mg "_law_some" = some (.ref fS)) (bS : Binds K dS ["bag", "things"] []) : FnOk P w K mg base CX0 3 f fd ["bag", "yard"] (spNear K) := by
  have GT : FnOk P w K mg base CX0 1 fT dT ["bag", "many"] spTake := ok_take FT T
  have GS : FnOk P w K mg base CX0 2 fS dS ["bag", "things"] (spSome K) := ok_some FS T FT mT bT
  refine F.ok scNr (fun as H Q E h => ?_) (fun cdv A outer s H as Q E hr h => ?_)
  · obtain ⟨b, y, cs, rs, rfl, _⟩ := h
    rfl
  · obtain ⟨b, y, cs, rs, rfl, hB, hV, hP, k⟩ := h
    have hr1 : Room 1 _ := hr.mono (by decide)
    refine ⟨_, pss_cons (ps_asg (pv 1) (pg_tup rfl (pgs_cons (pg_name (i := 2) scNr.nd rfl (.inl rfl)) (pgs_cons (pg_name (i := 3) scNr.nd rfl (.inl rfl)) pgs_nil))))
      (pss_cons (ps_set (i := 4) scNr.nd rfl (.inl rfl) (pe_call GT hr1 rfl mT FT.kp bT .nil pass0 (pa_cons (pv 0) (pa_cons pe_int pa_nil))))
      (pss_cut (ps_if (PW.pt (pw_and (pt_cmpR op_eq (pv 4) pe_int (nomark _)) (pw_and1 (pt_cmpR (op_neD hr.units) (pv 3) (pe_tup pa_nil) (nomark _)))))
        (pss_cons (ps_set (i := 5) scNr.nd rfl (.inl rfl) (pe_call GT hr1 rfl mT FT.kp bT .nil pass0 (pa_cons (pv 0) (pa_cons (pe_callB call_len_seq (by rfl) T.len PySem.boot_len (pa_cons (pv 3) pa_nil)) pa_nil))))
        (pss_cons (ps_asg (pe_ix ix_tup (pv 3) (pv 5) (fun _ _ => rfl)) (pg_tup rfl (pgs_cons (pg_name (i := 6) scNr.nd rfl (.inl rfl)) (pgs_cons (pg_name (i := 7) scNr.nd rfl (.inl rfl)) (pgs_cons (pg_name (i := 8) scNr.nd rfl (.inl rfl)) (pgs_cons (pg_name (i := 9) scNr.nd rfl (.inl rfl)) pgs_nil))))))
        (pss_cons (ps_asg (pe_lc (own := [("number", 10)]) (g := gName 10) (tt := tYes) rfl scNr.nd (pi_tup (pe_tup (pa_cons (pv 8) (pa_cons (pv 9) pa_nil))))
            (blkOk_by (N := ["bag", "yard", "cables", "cars", "way", "at", "name", "knot", "rate", "need", "number", "one", "other", "cap"]) (sc := defScope sNear) (by decide +kernel)) (fun _ _ _ _ _ => pg_name (i := 10) scNr.nd rfl (Or.inl rfl)) (fun _ _ _ _ _ => pts_nil)
            (fun _ _ _ _ _ => pe_callB (call_min2 rfl) (by rfl) T.min (by decide +kernel) (pa_cons (pe_op op_sub (pe_op op_pow pe_int pe_int) pe_int) (pa_cons (pe_op op_add (pv 10) (pe_call GT hr1 rfl mT FT.kp bT .nil pass0 (pa_cons (pv 0) (pa_cons pe_int pa_nil)))) pa_nil))))
          (pg_lst rfl (pgs_cons (pg_name (i := 8) scNr.nd rfl (.inl rfl)) (pgs_cons (pg_name (i := 9) scNr.nd rfl (.inl rfl)) pgs_nil))))
        (pss_cons (ps_set (i := 7) scNr.nd rfl (.inl rfl) (pe_call GS hr rfl mS FS.kp bS .nil pass0 (pa_cons (pv 0) (pa_cons (pe_lst (pa_cons (pv 7) (pa_cons (pv 7) (pa_cons pe_str pa_nil)))) pa_nil))))
        (pss_one (ps_ret (pe_tup (pa_cons (pv 2) (pa_cons (pe_op op_catU (pe_op op_catU (pe_slice sl_tupU (pv 3) po_none (po_some (pv 5))) (pe_tup (pa_cons (pe_tup (pa_cons (pv 6) (pa_cons (pv 7) (pa_cons (pv 8) (pa_cons (pv 9) pa_nil))))) pa_nil)))
          (pe_slice sl_tupU (pv 3) (po_some (pe_op op_add (pv 5) pe_int)) po_none)) pa_nil))))))))) pss_nil)
      (pss_cut (ps_if (PW.pt (pw_and (pt_cmpR op_eq (pv 4) pe_int (nomark _)) (pw_and1 (pt_cmpR (op_neD hr.units) (pv 2) (pe_tup pa_nil) (nomark _)))))
        (pss_cons (ps_asg (pe_ix ix_tup (pv 2) pe_int (fun _ _ => rfl)) (pg_tup rfl (pgs_cons (pg_name (i := 11) scNr.nd rfl (.inl rfl)) (pgs_cons (pg_name (i := 12) scNr.nd rfl (.inl rfl)) (pgs_cons (pg_name (i := 13) scNr.nd rfl (.inl rfl)) pgs_nil)))))
        (pss_one (ps_ret (pe_tup (pa_cons (pe_op op_catU (pe_tup (pa_cons (pe_tup (pa_cons (pv 11) (pa_cons (pv 12) (pa_cons (pe_callB (call_min2 rfl) (by rfl) T.min (by decide +kernel) (pa_cons (pe_op op_sub (pe_op op_pow pe_int pe_int) pe_int) (pa_cons (pe_op op_add (pv 13) pe_int) pa_nil))) pa_nil)))) pa_nil))
          (pe_slice sl_tupU (pv 2) (po_some pe_int) po_none)) (pa_cons (pv 3) pa_nil)))))) pss_nil)
      (pss_one (ps_ret (pe_ifExp (pt_cmpR op_eq (pv 4) pe_int (nomark _)) (pe_tup (pa_cons (pv 2) (pa_cons (pe_slice sl_tupU (pv 3) po_none (po_some (pe_un un_neg pe_int))) pa_nil))) (pv 1))))))), ?_⟩
    obtain ⟨ty, ya, yb, xs, zs, rfl, v1, v2, v3, v4, v5⟩ := hV
    have lx : xs.length = cs.length := paired_len v4
    have lz : zs.length = rs.length := paired_len v5
    have lc := hP.lc
    have lr := hP.lr
    refine ⟨_, rfl, ty, _, rfl, sqt_more (wo_sub H b) v1, rfl, _, _, rfl, _, _, rfl, rfl, ?_⟩
    refine ⟨_, rfl, b, 4, rfl, hB, by decide, by decide, fun w H1 w0 w1 b1 s1 => ?_⟩
    refine ⟨fun σ H' => ∃ v5 v6 v7 v8 v9 : Option V, σ = [some (.ref b), some (.ref ty), some (.ref ya), some (.ref yb), some (.int w), v5, v6, v7, v8, v9, none, none, none, none] ∧ Bag H' b ∧ Sb b H H', ?_, ?_⟩
    · refine ⟨_, rfl, rfl, _, rfl, ?_⟩
      refine ite2 (fun c => ?_) (fun c => ⟨none, none, none, none, none, rfl, b1, s1⟩)
      refine ⟨_, rfl, by show 0 ≤ sizeLine; decide, fun q hq => ⟨.tuple (rs.map carD), .tuple [], .tup (s3T hq (sqt_more (wo_sub H1 b) (sqt_more s1.1 v3))) (dp_cars (cars_new (o := .tup []) hq (cars_wo (cars_more v5 s1.1)))), .tup (SqT.of upd_same) .nil, shaped_carsT hP.lays.car, by decide +kernel, _, rfl, ?_⟩⟩
      refine ite2 (fun c2 => ?_) (fun _ => ⟨none, none, none, none, none, rfl, b1.new hq, s1.new hq⟩)
      have pos : 0 < rs.length := by
        cases rs with
        | nil => exact absurd c2 (by decide)
        | cons r rs => exact Nat.succ_pos _
      have bq := b1.new (o := .tup []) hq
      have sq := s1.new (o := .tup []) hq
      generalize upd H1 q (.tup []) = G at bq sq ⊢
      refine ⟨_, rfl, _, rfl, yb, _, rfl, .inr (sqt_more (wo_sub G b) (sqt_more sq.1 v3)), b, _, rfl, bq, by omega, Nat.lt_of_le_of_lt (show ((zs.length : Nat) : Int).natAbs ≤ 100 by omega) (by decide), fun a' H2 a0 a1 b2 s2 => ?_⟩
      obtain ⟨i, rfl⟩ : ∃ i : Nat, a' = i := ⟨a'.toNat, by omega⟩
      have s02 := sq.trans s2
      obtain ⟨z, hz⟩ : ∃ z, zs[i]? = some z := ⟨_, List.getElem?_eq_getElem (by omega)⟩
      obtain ⟨r, hr', q0, rfl, hq0⟩ := paired_at v5 hz
      have hi : i < rs.length := (List.getElem?_eq_some_iff.mp hr').1
      obtain ⟨f1, f2, f3', f4, f5, f6⟩ := hP.car r (List.mem_of_getElem? hr')
      refine ⟨_, rfl, _, rfl, yb, zs, (i : Int), .ref q0, rfl, rfl, sqt_more (wo_sub H2 b) (sqt_more s02.1 v3), atI_nat hz, q0, _, rfl, sqt_more (wo_sub H2 b) (sqt_more s02.1 hq0), rfl, _, _, rfl, _, _, rfl, _, _, rfl, _, _, rfl, rfl, ?_⟩
      refine ⟨_, rfl, _, rfl, by show 2 ≤ sizeLine; decide, fun t1 ht1 => ⟨t1, rfl, ⟨_, SqT.of upd_same⟩, fun D hD => ?_⟩⟩
      have b3 := b2.new (o := .tup [.int r.2.2.1, .int r.2.2.2]) ht1
      have s3 := s02.new (o := .tup [.int r.2.2.1, .int r.2.2.2]) ht1
      have n1 := b2.ne ht1
      have g1 : upd H2 t1 (.tup [.int r.2.2.1, .int r.2.2.2]) t1 = some (.tup [.int r.2.2.1, .int r.2.2.2]) := upd_same
      generalize upd H2 t1 (.tup [.int r.2.2.1, .int r.2.2.2]) = H3 at b3 s3 g1 hD ⊢
      have nD := b3.ne hD
      refine lc_tup (K := K) (a := t1) (xs := [.int r.2.2.1, .int r.2.2.2]) (fun j H' => ∃ ns : List Int, H' D = some (.lst (ns.map V.int)) ∧ ns.length = j ∧ (∀ n, ns[0]? = some n → 1 ≤ n ∧ n ≤ 10 ^ 12) ∧ (∀ n, ns[1]? = some n → 0 ≤ n ∧ n ≤ 10 ^ 12) ∧ Bag H' b ∧ Sb b H3 H') ?_ ?_ ?_ ?_
      · exact ⟨[], upd_same, rfl, (fun _ z => nomatch z), (fun _ z => nomatch z), b3.new hD, (Sb.refl b H3).new hD⟩
      · rintro j H' _ ⟨_, _, _, _, _, _, sb⟩
        exact SqT.of (sb.get g1 n1)
      · rintro j x H' hx ⟨ns, p1, p2, p3, p4, p5, p6⟩
        obtain ⟨m, rfl, hm⟩ : ∃ m : Int, x = .int m ∧ ((j = 0 ∧ m = r.2.2.1) ∨ (j = 1 ∧ m = r.2.2.2)) := by
          match j, hx with
          | 0, hx => cases hx; exact ⟨_, rfl, .inl ⟨rfl, rfl⟩⟩
          | 1, hx => cases hx; exact ⟨_, rfl, .inr ⟨rfl, rfl⟩⟩
        refine ⟨rfl, 10, 12, rfl, rfl, ⟨by decide, by decide, by decide⟩, _, _, rfl, rfl, _, rfl, _, rfl, b, 2, rfl, p5, by decide, by decide, fun v H'' v0 v1 b4 s4 => ⟨m, v, rfl, rfl, _, _, rfl, ns.map V.int, s4.get p1 nD, ?_, ?_⟩⟩
        · rw [List.length_map, p2]
          exact small1000 (by omega)
        · have e12 : (10 : Int) ^ (12 : Int).toNat - 1 = 999999999999 := by decide
          refine ⟨ns ++ [if m + v < 10 ^ (12 : Int).toNat - 1 then m + v else 10 ^ (12 : Int).toNat - 1], by rw [upd_same, List.map_append]; rfl, by rw [List.length_append, p2]; rfl, fun n hn => ?_, fun n hn => ?_, b3.wr hD (p6.trans s4) b4, (p6.trans s4).wr hD⟩
          · rw [e12] at hn
            rcases hm with ⟨rfl, rfl⟩ | ⟨rfl, rfl⟩
            · rw [List.length_eq_zero_iff.mp p2] at hn
              have e : (if r.2.2.1 + v < 999999999999 then r.2.2.1 + v else 999999999999) = n := Option.some.inj hn
              split at e <;> omega
            · exact p3 n (by rw [List.getElem?_append_left (by omega)] at hn; exact hn)
          · rw [e12] at hn
            rcases hm with ⟨rfl, rfl⟩ | ⟨rfl, rfl⟩
            · rw [List.length_eq_zero_iff.mp p2] at hn
              cases hn
            · rw [List.getElem?_append_right (by omega), p2] at hn
              have e : (if r.2.2.2 + v < 999999999999 then r.2.2.2 + v else 999999999999) = n := Option.some.inj hn
              split at e <;> omega
      rintro H4 ⟨ns, p1, p2, p3, p4, p5, p6⟩
      obtain ⟨m1, m2, rfl⟩ : ∃ m1 m2, ns = [m1, m2] := by
        match ns, p2 with
        | [m1, m2], _ => exact ⟨m1, m2, rfl⟩
      have hm1 := p3 m1 rfl
      have hm2 := p4 m2 rfl
      refine ⟨D, _, rfl, SqL.of p1, rfl, _, _, rfl, _, _, rfl, rfl, ?_⟩
      refine ⟨_, rfl, _, rfl, _, rfl, by show 3 ≤ sizeLine; decide, fun l hl => ⟨b, l, _, rfl, p5.new hl, SqL.of ((wo_ne (p5.ne hl)).trans upd_same), (fun z => nomatch z), by show 3 ≤ 1000000; decide, fun kx H5 hk b5 s5 => ?_⟩⟩
      have s05 := ((s3.trans p6).new (o := .lst [.str r.2.1, .str r.2.1, .str "feed"]) hl).trans s5
      obtain ⟨kn, rfl, hkn⟩ : ∃ kn, kx = .str kn ∧ Nf kn := by
        simp only [List.mem_cons, List.not_mem_nil, or_false] at hk
        rcases hk with rfl | rfl | rfl
        · exact ⟨_, rfl, f2⟩
        · exact ⟨_, rfl, f2⟩
        · exact ⟨_, rfl, .inr rfl⟩
      have w2 := sqt_more (wo_sub H5 b) (sqt_more s05.1 v2)
      have w3 := sqt_more (wo_sub H5 b) (sqt_more s05.1 v3)
      have w4 := cabs_wo (cabs_more v4 s05.1)
      have w5 := cars_wo (cars_more v5 s05.1)
      refine ⟨_, rfl, _, rfl, _, rfl, (i : Int), rfl, yb, zs, rfl, w3, fun p1 G1 g1 h1 => ⟨_, rfl, _, rfl, _, rfl, _, rfl, by show 4 ≤ sizeLine; decide, fun c1 hc1 => ⟨by show 1 ≤ sizeLine; decide, fun c2 hc2 => ?_⟩⟩⟩
      have g2 := same_new (o := .tup [.ref c1]) (same_new (o := .tup [.str r.1, .str kn, .int m1, .int m2]) g1 hc1) hc2
      have e1 := s3u (o := .tup [.ref c1]) hc2 (upd_same (H := G1) (a := c1) (o := .tup [.str r.1, .str kn, .int m1, .int m2]))
      have e2 : upd (upd G1 c1 (.tup [.str r.1, .str kn, .int m1, .int m2])) c2 (.tup [.ref c1]) c2 = some (.tup [.ref c1]) := upd_same
      have h1' := s3T (o := .tup [.ref c1]) hc2 (s3T (o := .tup [.str r.1, .str kn, .int m1, .int m2]) hc1 h1)
      generalize upd (upd G1 c1 (.tup [.str r.1, .str kn, .int m1, .int m2])) c2 (.tup [.ref c1]) = G2 at g2 e1 e2 h1' ⊢
      have cl : ∀ lo hi, (cutV zs lo hi).length ≤ 24 := fun lo hi => by have := cutV_length zs lo hi; omega
      refine ⟨p1, c2, _, _, rfl, rfl, h1', SqT.of e2, ?_, fun p3 G3 g3 h3 => ⟨_, rfl, _, rfl, _, _, rfl, rfl, (i : Int) + 1, rfl, yb, zs, rfl, sqt_more (g2.trans g3) w3, fun p4 G4 g4 h4 => ⟨p3, p4, _, _, rfl, rfl, sqt_more g4 h3, h4, ?_, fun p5 G5 g5 h5 => ⟨by show 2 ≤ sizeLine; decide, fun t ht => ?_⟩⟩⟩⟩
      · have := cl none (some (i : Int))
        exact Nat.le_of_lt (small1000 (show (cutV zs none (some (i : Int))).length + 1 ≤ 1000 by omega))
      · have := cl none (some (i : Int))
        have := cl (some ((i : Int) + 1)) none
        rw [List.length_append]
        exact Nat.le_of_lt (small1000 (show (cutV zs none (some (i : Int))).length + 1 + _ ≤ 1000 by omega))
      have gA := ((g2.trans g3).trans g4).trans g5
      have gB := same_new (o := .tup [.ref ya, .ref p5]) gA ht
      have ecut : cutV zs none (some (i : Int)) ++ [V.ref c1] ++ cutV zs (some ((i : Int) + 1)) none = zs.take i ++ [V.ref c1] ++ zs.drop (i + 1) := by
        rw [cut_upto, show (i : Int) + 1 = ((i + 1 : Nat) : Int) by omega, cut_from]
      rw [ecut] at h5
      have bZ := (b5.keep gA).new (o := .tup [.ref ya, .ref p5]) ht
      refine k (.ref t) cs (rs.set i (r.1, kn, m1, m2)) _ (hP.setR hr' rfl ⟨hkn, hm1.1, hm1.2, hm2.1, hm2.2⟩) (yard_wo ?_ bZ) bZ ((s05.same gA).new ht)
      refine ⟨t, ya, p5, xs, _, rfl, SqT.of upd_same, sqt_more gB w2, s3T ht h5, cabs_more w4 gB, ?_⟩
      rw [← set_eq hi (r.1, kn, m1, m2) (x := r)]
      have w5' := cars_more w5 gB
      exact paired_app (paired_app (paired_take w5' i) (.cons ⟨c1, rfl, SqT.of (s3u ht (g5 _ _ (g4 _ _ (g3 _ _ e1))))⟩ .nil)) (paired_drop w5' (i + 1))
    · rintro σ H2 ⟨v5', v6, v7, v8, v9, rfl, b2, s2⟩
      refine ⟨fun σ H' => ∃ u1 u2 u3 : Option V, σ = [some (.ref b), some (.ref ty), some (.ref ya), some (.ref yb), some (.int w), v5', v6, v7, v8, v9, none, u1, u2, u3] ∧ Bag H' b ∧ Sb b H H', ?_, ?_⟩
      · refine ⟨_, rfl, rfl, _, rfl, ?_⟩
        refine ite2 (fun c => ?_) (fun c => ⟨none, none, none, rfl, b2, s2⟩)
        refine ⟨_, rfl, by show 0 ≤ sizeLine; decide, fun q hq => ⟨.tuple (cs.map cabD), .tuple [], .tup (s3T hq (sqt_more (wo_sub H2 b) (sqt_more s2.1 v2))) (dp_cabs (cabs_new (o := .tup []) hq (cabs_wo (cabs_more v4 s2.1)))), .tup (SqT.of upd_same) .nil, (shaped_cabs hP.lays.cab).1, by decide +kernel, _, rfl, ?_⟩⟩
        refine ite2 (fun c2 => ?_) (fun _ => ⟨none, none, none, rfl, b2.new hq, s2.new hq⟩)
        have bq := b2.new (o := .tup []) hq
        have sq := s2.new (o := .tup []) hq
        generalize upd H2 q (.tup []) = G at bq sq ⊢
        have w2 := sqt_more (wo_sub G b) (sqt_more sq.1 v2)
        have w3 := sqt_more (wo_sub G b) (sqt_more sq.1 v3)
        have w4 := cabs_wo (cabs_more v4 sq.1)
        have w5 := cars_wo (cars_more v5 sq.1)
        have pos : 0 < cs.length := by
          cases cs with
          | nil => exact absurd c2 (by decide)
          | cons r rs => exact Nat.succ_pos _
        obtain ⟨z, hz⟩ : ∃ z, xs[0]? = some z := ⟨_, List.getElem?_eq_getElem (by omega)⟩
        obtain ⟨c', hc', q0, rfl, hq0⟩ := paired_at w4 hz
        obtain ⟨d1, d2, d3, d4⟩ := hP.cab c' (List.mem_of_getElem? hc')
        refine ⟨_, rfl, ya, xs, 0, .ref q0, rfl, rfl, w2, atI_nat (j := 0) hz, q0, _, rfl, hq0, rfl, _, _, rfl, _, _, rfl, _, _, rfl, rfl, ?_⟩
        refine ⟨_, rfl, _, rfl, 10, 12, rfl, rfl, ⟨by decide, by decide, by decide⟩, _, _, rfl, rfl, _, rfl, _, _, rfl, rfl, _, _, rfl, by show 3 ≤ sizeLine; decide, ?_⟩
        have e12 : (10 : Int) ^ (12 : Int).toNat - 1 = 999999999999 := by decide
        rw [e12]
        obtain ⟨m, em, hm⟩ : ∃ m : Int, (if c'.2.2 + 1 < 999999999999 then c'.2.2 + 1 else 999999999999) = m ∧ 0 ≤ m ∧ m ≤ 10 ^ 12 := ⟨_, rfl, by split <;> omega⟩
        rw [em]
        refine fun c1 hc1 => ⟨by show 1 ≤ sizeLine; decide, fun c2' hc2 => ?_⟩
        have g2 := same_new (o := .tup [.ref c1]) (same_new (o := .tup [.str c'.1, .str c'.2.1, .int m]) (Same.refl G) hc1) hc2
        have e1 := s3u (o := .tup [.ref c1]) hc2 (upd_same (H := G) (a := c1) (o := .tup [.str c'.1, .str c'.2.1, .int m]))
        have e2 : upd (upd G c1 (.tup [.str c'.1, .str c'.2.1, .int m])) c2' (.tup [.ref c1]) c2' = some (.tup [.ref c1]) := upd_same
        generalize upd (upd G c1 (.tup [.str c'.1, .str c'.2.1, .int m])) c2' (.tup [.ref c1]) = G2 at g2 e1 e2 ⊢
        refine ⟨_, rfl, 1, rfl, ya, xs, rfl, sqt_more g2 w2, fun p4 G4 g4 h4 => ⟨c2', p4, _, _, rfl, rfl, SqT.of (g4 _ _ e2), h4, ?_, fun p5 G5 g5 h5 => ⟨_, rfl, by show 2 ≤ sizeLine; decide, fun t ht => ?_⟩⟩⟩
        · have := cutV_length xs (some 1) none
          exact Nat.le_of_lt (small1000 (show 1 + (cutV xs (some 1) none).length ≤ 1000 by omega))
        have gA := (g2.trans g4).trans g5
        have gB := same_new (o := .tup [.ref p5, .ref yb]) gA ht
        have ecut : [V.ref c1] ++ cutV xs (some 1) none = xs.take 0 ++ [V.ref c1] ++ xs.drop (0 + 1) := by
          rw [show (1 : Int) = ((1 : Nat) : Int) from rfl, cut_from]
          rfl
        rw [ecut] at h5
        have bZ := (bq.keep gA).new (o := .tup [.ref p5, .ref yb]) ht
        refine k (.ref t) (cs.set 0 (c'.1, c'.2.1, m)) rs _ (hP.setC hc' rfl rfl hm) (yard_wo ?_ bZ) bZ ((sq.same gA).new ht)
        refine ⟨t, p5, yb, _, zs, rfl, SqT.of upd_same, s3T ht h5, sqt_more gB w3, ?_, cars_more w5 gB⟩
        rw [← set_eq pos (c'.1, c'.2.1, m) (x := c')]
        have w4' := cabs_more w4 gB
        exact paired_app (paired_app (paired_take w4' 0) (.cons ⟨c1, rfl, SqT.of (s3u ht (g5 _ _ (g4 _ _ e1)))⟩ .nil)) (paired_drop w4' (0 + 1))
      · rintro σ H3 ⟨u1, u2, u3, rfl, b3, s3⟩
        have w1' := sqt_more (wo_sub H3 b) (sqt_more s3.1 v1)
        have w2 := sqt_more (wo_sub H3 b) (sqt_more s3.1 v2)
        have w3 := sqt_more (wo_sub H3 b) (sqt_more s3.1 v3)
        have w4 := cabs_wo (cabs_more v4 s3.1)
        have w5 := cars_wo (cars_more v5 s3.1)
        refine ⟨_, rfl, rfl, _, rfl, ?_⟩
        refine ite2 (fun _ => ?_) (fun _ => ?_)
        · refine ⟨_, rfl, _, rfl, 1, rfl, -1, rfl, yb, zs, rfl, w3, fun p4 G4 g4 h4 => ⟨by show 2 ≤ sizeLine; decide, fun t ht => ?_⟩⟩
          rw [cut_last, lz] at h4
          have gB := same_new (o := .tup [.ref ya, .ref p4]) g4 ht
          have bZ := (b3.keep g4).new (o := .tup [.ref ya, .ref p4]) ht
          refine k (.ref t) cs (rs.take (rs.length - 1)) _ (hP.takeR _) (yard_wo ?_ bZ) bZ ((s3.same g4).new ht)
          exact ⟨t, ya, p4, xs, _, rfl, SqT.of upd_same, sqt_more gB w2, s3T ht h4, cabs_more w4 gB, paired_take (cars_more w5 gB) _⟩
        · refine ⟨_, rfl, ?_⟩
          exact k (.ref ty) cs rs H3 hP (yard_wo ⟨ty, ya, yb, xs, zs, rfl, w1', w2, w3, w4, w5⟩ b3) b3 s3
end
end Y

namespace Y
open PySem PySem.Spec PyProof.Rows L2 Ns
open C8 (pss_cut)
theorem setv_mem {s : List (Str × Int)} {x : Str} {v : Int} {p : Str × Int} (h : p ∈ setv s x v) : p ∈ s ∨ p = (x, v) := by
  unfold setv at h
  split at h
  · obtain ⟨q, hq, e⟩ := List.mem_map.mp h
    split at e
    · next e2 => exact .inr (by rw [← e, e2])
    · exact .inl (by rw [← e]; exact hq)
  · rcases List.mem_append.mp h with h | h
    · exact .inl h
    · exact .inr (List.mem_singleton.mp h)
/-- amounts of some cars -/
structure AmP (rs : List Car) (l : List (Str × Int)) : Prop where
  nd : (l.map (·.1)).Nodup
  sub : ∀ y ∈ l.map (·.1), y ∈ rs.map (·.1)
  val : ∀ p ∈ l, 0 ≤ p.2 ∧ p.2 ≤ 10 ^ 12 + 7
theorem AmP.nil (rs : List Car) : AmP rs [] := ⟨List.nodup_nil, (fun _ z => nomatch z), (fun _ z => nomatch z)⟩
theorem AmP.set {rs : List Car} {l : List (Str × Int)} (h : AmP rs l) {x : Str} {v : Int} (hx : x ∈ rs.map (·.1)) (hv : 0 ≤ v ∧ v ≤ 10 ^ 12 + 7) : AmP rs (setv l x v) :=
  ⟨setv_nodup h.nd, setv_sub h.sub hx, fun p hp => by
    rcases setv_mem hp with h1 | rfl
    · exact h.val p h1
    · exact hv⟩
theorem AmP.len {rs : List Car} {l : List (Str × Int)} (h : AmP rs l) : l.length ≤ rs.length := by
  have := sub_len h.nd h.sub
  rw [List.length_map, List.length_map] at this
  exact this
theorem dp_strs {K : PySem.W.Frag} {H : Hp} : ∀ l : List Str, DpAll K H (txs l) (l.map PyData.str)
  | [] => .nil
  | _ :: l => .cons (.str _) (dp_strs l)
theorem lay_strs : ∀ {l : List Str}, (∀ x ∈ l, Nf x) → PyData.canLayAll0 (l.map PyData.str) = true ∧ PyData.depthAll (l.map PyData.str) = 0
  | [], _ => ⟨rfl, rfl⟩
  | x :: l, h => by
    obtain ⟨h1, h2⟩ := lay_strs (l := l) fun y hy => h y (List.mem_cons_of_mem _ hy)
    have := nf_ok (h x List.mem_cons_self)
    simp [PyData.canLayAll0, PyData.canLay0, PyData.depthAll, PyData.depth, h1, h2, this]
theorem shaped_strs {l : List Str} (h : ∀ x ∈ l, Nf x) : SeqAt.shaped (.list (l.map PyData.str)) = true := by
  obtain ⟨h1, h2⟩ := lay_strs h
  unfold SeqAt.shaped
  rw [Bool.and_eq_true]
  refine ⟨by simp [PyData.canLay0, h1], decide_eq_true ?_⟩
  simp only [PyData.depth]
  omega
/-- amounts drawn for a yard -/
def spAm (K : PySem.W.Frag) : Sp := fun as H Q _ => ∃ (b : Addr) (y : V) (o : Bool) (cs : List Cab) (rs : List Car), as = [.ref b, y, .bl o] ∧ Bag H b ∧ YardV K (wo H b) y cs rs ∧ YardP cs rs ∧
  ∀ (p : Addr) (l : List (Str × Int)) (H' : Hp), AmP rs l → H' p = some (.dK (kvI l)) → H p = none → p ≠ b → Bag H' b → Sb b H H' → Q (.ref p) H'
section
variable {P : Program} {w : World} {K : PySem.W.Frag} {mg : Str → Option Value} {base : Heap}
theorem scAm : FnScope ["bag", "yard", "over", "found", "name", "knot", "rate", "need", "names", "car"] ["bag", "yard", "over"] (defScope sSomeAmounts) := ⟨rfl, rfl, rfl, by decide +kernel, rfl, by decide +kernel, by decide +kernel⟩
theorem ok_am {f fT fS fM : Addr} {fd dT dS dM : FuncData} (F : Fun K "_law_some_amounts" "_law_some_amounts" sSomeAmounts f fd) (T : Nat0 mg) (FT : Fun K "_law_take" "_law_take" sTake fT dT) (mT : mg "_law_take" = some (.ref fT)) (bT : Binds K dT ["bag", "many"] [])
    (FS : Fun K "_law_some" "_law_some" sSome fS dS) (mS : mg "_law_some" = some (.ref fS)) (bS : Binds K dS ["bag", "things"] []) (FM : Fun K "_law_mixed" "_law_mixed" sMixed fM dM) (mM : mg "_law_mixed" = some (.ref fM)) (bM : Binds K dM ["bag", "things"] []) : FnOk P w K mg base CX0 3 f fd ["bag", "yard", "over"] (spAm K) := by
  have GT : FnOk P w K mg base CX0 1 fT dT ["bag", "many"] spTake := ok_take FT T
  have GS : FnOk P w K mg base CX0 2 fS dS ["bag", "things"] (spSome K) := ok_some FS T FT mT bT
  have GM : FnOk P w K mg base CX0 2 fM dM ["bag", "things"] (spMixed K) := ok_mixed FM T FT mT bT
  refine F.ok scAm (fun as H Q E h => ?_) (fun cdv A outer s H as Q E hr h => ?_)
  · obtain ⟨b, y, o, cs, rs, rfl, _⟩ := h
    rfl
  · obtain ⟨b, y, o, cs, rs, rfl, hB, hV, hP, k⟩ := h
    have hr1 : Room 1 _ := hr.mono (by decide)
    have hu := hu_of hr
    refine ⟨_, pss_cons (ps_set (i := 3) scAm.nd rfl (.inl rfl) pe_dnewK)
      (pss_cons (ps_for PassesOwn.never rfl (pi_list (pe_call GM hr rfl mM FM.kp bM .nil pass0 (pa_cons (pv 0) (pa_cons (pe_callTy call_list_of (by rfl) T.list_ (by decide +kernel) (pa_cons (pe_ix ix_tup (pv 1) pe_int (fun _ _ => rfl)) pa_nil)) pa_nil))))
        (pg_tup rfl (pgs_cons (pg_name (i := 4) scAm.nd rfl (Or.inr rfl)) (pgs_cons (pg_name (i := 5) scAm.nd rfl (Or.inl rfl)) (pgs_cons (pg_name (i := 6) scAm.nd rfl (Or.inl rfl)) (pgs_cons (pg_name (i := 7) scAm.nd rfl (Or.inl rfl)) pgs_nil)))))
        (pss_one (ps_if (PW.pt (pw_and (pt_cmpR op_gt (pv 7) pe_int (nomark _)) (pw_and1 (pt_cmpR op_gt (pe_call GT hr1 rfl mT FT.kp bT .nil pass0 (pa_cons (pv 0) (pa_cons pe_int pa_nil))) pe_int (nomark _)))))
          (pss_one (ps_dput hu (pv 3) (pv 4) (pe_call GS hr rfl mS FS.kp bS .nil pass0 (pa_cons (pv 0) (pa_cons (pe_lst (pa_cons (pv 7) (pa_cons pe_int (pa_cons (pe_op op_add pe_int (pe_call GT hr1 rfl mT FT.kp bT .nil pass0 (pa_cons (pv 0) (pa_cons (pv 7) pa_nil)))) pa_nil)))) pa_nil))) rfl)) pss_nil)))
      (pss_cons (ps_setLc (i := 8) (own := [("car", 9)]) (g := gName 9) (tt := tYes) (te := tOp (rIxT K) (tVar 9) (tC (V.int 0))) rfl scAm.nd rfl rfl (sw_true rfl rfl rfl (by decide +kernel)) (pi_tup (pe_ix ix_tup (pv 1) pe_int (fun _ _ => rfl)))
          (blkOk_by (N := ["bag", "yard", "over", "found", "name", "knot", "rate", "need", "names", "car"]) (sc := defScope sSomeAmounts) (by decide +kernel)) (fun _ _ _ _ _ => pg_name (i := 9) scAm.nd rfl (Or.inl rfl)) (fun _ _ _ _ _ => pts_nil)
          (fun _ _ _ _ _ => by exact pe_ix ix_tup (pv 9) pe_int (fun _ _ => rfl)))
      (pss_cons (ps_if (PW.pt (pw_and (pt_val (pv 2)) (pw_and1 (pt_cmpR (op_neD hr.units) (pv 8) (pe_lst pa_nil) (nomark _)))))
        (pss_cons (ps_set (i := 4) scAm.nd rfl (.inr rfl) (pe_call GS hr rfl mS FS.kp bS .nil pass0 (pa_cons (pv 0) (pa_cons (pv 8) pa_nil))))
        (pss_one (ps_dput hu (pv 3) (pv 4) (pe_op op_add (pe_ix ix_list (pe_lc (own := [("car", 9)]) (g := gName 9) (tt := tTest (tOp rEq (tOp (rIxT K) (tVar 9) (tC (V.int 0))) (tVar 4))) (te := tOp (rIxT K) (tVar 9) (tC (V.int 3))) rfl scAm.nd (pi_tup (pe_ix ix_tup (pv 1) pe_int (fun _ _ => rfl)))
            (blkOk_by (N := ["bag", "yard", "over", "found", "name", "knot", "rate", "need", "names", "car"]) (sc := defScope sSomeAmounts) (by decide +kernel)) (fun _ _ _ _ _ => pg_name (i := 9) scAm.nd rfl (Or.inl rfl))
            (fun _ _ _ _ _ => by exact pts_one (pt_cmpR op_eq (pe_ix ix_tup (pv 9) pe_int (fun _ _ => rfl)) (pv 4) (nomark _))) (fun _ _ _ _ _ => by exact pe_ix ix_tup (pv 9) pe_int (fun _ _ => rfl))) pe_int (fun _ _ => rfl))
          (pe_call GS hr rfl mS FS.kp bS .nil pass0 (pa_cons (pv 0) (pa_cons (pe_lst (pa_cons pe_int (pa_cons pe_int pa_nil))) pa_nil)))) rfl))) pss_nil)
      (pss_one (ps_ret (pv 3)))))), ?_⟩
    refine fun S hS => ?_
    have nSb := hB.ne hS
    have B0 := hB.new (o := .dK []) hS
    have s0 := (Sb.refl b H).new (o := .dK []) hS
    have S0 : upd H S (.dK []) S = some (.dK []) := upd_same
    generalize upd H S (.dK []) = H0 at B0 s0 S0 ⊢
    obtain ⟨ty, ya, yb, xs, zs, rfl, v1, v2, v3, v4, v5⟩ := id hV
    have lz : zs.length = rs.length := paired_len v5
    have lr := hP.lr
    refine ⟨_, rfl, _, rfl, ty, _, 1, .ref yb, rfl, rfl, sqt_more (wo_sub H0 b) (sqt_more s0.1 v1), at1, yb, zs, rfl, .inr (sqt_more (wo_sub H0 b) (sqt_more s0.1 v3)), fun p hp => ?_⟩
    have npS : p ≠ S := fun z => by rw [z, S0] at hp; cases hp
    have npb := B0.ne hp
    refine ⟨b, p, zs, rfl, B0.new hp, sql_new upd_same npb, by omega, fun m ys H1 pm e1 f1 n1 B1 s1' => ?_⟩
    have s1 := (s0.new (o := .lst zs) hp).trans s1'
    have S1 : H1 S = some (.dK (kvI [])) := s1'.get (s3u hp S0) nSb
    have nmS : m ≠ S := fun z => by rw [z, s3u hp S0] at f1; cases f1
    clear s1' f1
    refine ⟨m, rfl, ⟨ys, SqL.of e1⟩, ?_⟩
    refine for_list (K := K) (a := m) (xs := ys) (fun i σ H' => ∃ (w4 w5 w6 w7 : Option V) (l : List (Str × Int)), σ = [some (.ref b), some (.ref ty), some (.bl o), some (.ref S), w4, w5, w6, w7, none, none] ∧ H' m = some (.lst ys) ∧ H' S = some (.dK (kvI l)) ∧ AmP rs l ∧ Bag H' b ∧ Sb b H H') ?_ ?_ ?_ ?_
    · exact ⟨none, none, none, none, [], rfl, e1, S1, .nil rs, B1, s1⟩
    · rintro i σ H' _ ⟨_, _, _, _, _, _, h, _⟩
      exact SqL.of h
    · rintro i x σ H2 hx ⟨w4, w5, w6, w7, l, rfl, q1, q2, hA, B2, s2⟩
      have hxz := pm.mem_iff.mp (List.mem_of_getElem? hx)
      obtain ⟨j, hj⟩ := List.mem_iff_getElem?.mp hxz
      obtain ⟨c, hc, t', rfl, hq⟩ := paired_at (cars_more v5 s2.1) hj
      have mc := List.mem_of_getElem? hc
      obtain ⟨h1, h2, h3, h4, h5, h6⟩ := hP.car c mc
      have mn : c.1 ∈ rs.map (·.1) := List.mem_map.mpr ⟨c, mc, rfl⟩
      refine ⟨t', _, rfl, sqt_more (wo_sub H2 b) hq, rfl, _, _, rfl, _, _, rfl, _, _, rfl, _, _, rfl, rfl, ?_⟩
      refine ⟨_, rfl, _, _, rfl, rfl, _, rfl, ?_⟩
      refine ite2 (fun g => ?_) (fun _ => ite2 (fun z => absurd z Bool.false_ne_true) fun _ => ⟨_, _, _, _, l, rfl, q1, q2, hA, B2, s2⟩)
      have pos : 0 < c.2.2.2 := of_decide_eq_true g
      refine ⟨_, rfl, b, 3, rfl, B2, by decide, by decide, fun v H3 v0 v3' B3 s3 => ⟨_, _, rfl, rfl, _, rfl, ?_⟩⟩
      have q1a := s3.get q1 n1
      have q2a := s3.get q2 nSb
      refine ite2 (fun _ => ?_) (fun _ => ⟨_, _, _, _, l, rfl, q1a, q2a, hA, B3, s2.trans s3⟩)
      refine ⟨_, rfl, _, rfl, _, rfl, _, rfl, b, c.2.2.2, rfl, B3, pos, Nat.lt_of_le_of_lt (show c.2.2.2.natAbs ≤ 10 ^ 12 by omega) (by decide +kernel), fun v' H4 w0 w1 B4 s4 => ?_⟩
      refine ⟨1, v', rfl, rfl, by show 3 ≤ sizeLine; decide, fun q hq => ?_⟩
      have nqb := B4.ne hq
      have q1b := s3u (o := .lst [.int c.2.2.2, .int 1, .int (1 + v')]) hq (s4.get q1a n1)
      have q2b := s3u (o := .lst [.int c.2.2.2, .int 1, .int (1 + v')]) hq (s4.get q2a nSb)
      have B5 := B4.new (o := .lst [.int c.2.2.2, .int 1, .int (1 + v')]) hq
      have s5 := ((s2.trans s3).trans s4).new (o := .lst [.int c.2.2.2, .int 1, .int (1 + v')]) hq
      refine ⟨b, q, _, rfl, B5, sql_new upd_same nqb, (fun z => nomatch z), by show 3 ≤ 1000000; decide, fun u H6 hu6 B6 s6 => ?_⟩
      obtain ⟨n, rfl, n0, n9⟩ : ∃ n : Int, u = .int n ∧ 0 ≤ n ∧ n ≤ 10 ^ 12 + 7 := by
        simp only [List.mem_cons, List.not_mem_nil, or_false] at hu6
        rcases hu6 with rfl | rfl | rfl
        · exact ⟨_, rfl, by omega, by omega⟩
        · exact ⟨_, rfl, by decide, by decide⟩
        · exact ⟨_, rfl, by omega, by omega⟩
      have q1c := s6.get q1b n1
      have q2c := s6.get q2b nSb
      have s7 := s5.trans s6
      have hl := hA.len
      refine ⟨_, rfl, _, rfl, S, _, rfl, DPut.k (k := Sum.inr c.1) q2c ?_, _, _, _, _, setv l c.1 n, rfl, ?_, ?_, hA.set mn ⟨n0, n9⟩, hB.wr hS s7 B6, s7.wr hS⟩
      · unfold kvI
        rw [List.length_map]
        exact small1000 (by omega)
      · rw [upd_ne nmS]
        exact q1c
      · rw [upd_same, kvI_setv]
    rintro σ H2 ⟨w4, w5, w6, w7, l, rfl, q1, q2, hA, B2, s2⟩
    clear q1 e1 pm nmS n1 S1 s1 B1 S0 s0 B0
    have hl := hA.len
    refine ⟨_, rfl, ty, _, 1, .ref yb, rfl, rfl, sqt_more (wo_sub H2 b) (sqt_more s2.1 v1), at1, yb, rfl, ⟨_, sqt_more (wo_sub H2 b) (sqt_more s2.1 v3)⟩, fun D hD => ?_⟩
    have nDS : D ≠ S := fun z => by rw [z, q2] at hD; cases hD
    refine lc_tup (K := K) (a := yb) (xs := zs) (fun i H' => H' D = some (.lst (txs ((rs.take i).map (·.1)))) ∧ Same H2 H') ?_ ?_ ?_ ?_
    · exact ⟨by rw [List.take_zero, upd_same]; rfl, same_new (Same.refl H2) hD⟩
    · rintro i H' hi ⟨_, sm⟩
      exact sqt_more sm (sqt_more (wo_sub H2 b) (sqt_more s2.1 v3))
    · rintro i x H' hx ⟨g1, g2⟩
      obtain ⟨c, hc, t', rfl, hq⟩ := paired_at (cars_wo (cars_more v5 s2.1)) hx
      have hi' : i < rs.length := (List.getElem?_eq_some_iff.mp hc).1
      refine ⟨rfl, _, rfl, t', _, 0, _, rfl, rfl, sqt_more g2 hq, at0, _, g1, ?_, ?_, same_put g2 hD⟩
      · unfold txs
        rw [List.length_map, List.length_map, List.length_take]
        exact small1000 (by omega)
      · rw [upd_same, List.take_succ, hc]
        unfold txs
        simp
    rintro H3 ⟨g1, g2⟩
    rw [lz, List.take_length] at g1
    have nDb := B2.ne hD
    have B3 := B2.keep g2
    have s3 := s2.same g2
    have S3 := g2 _ _ q2
    refine ⟨_, rfl, _, rfl, ?_⟩
    refine ite2 (fun _ => ?_) (fun _ => ite2 (fun z => absurd z Bool.false_ne_true) fun _ => ⟨_, rfl, k S l _ hA S3 hS nSb B3 s3⟩)
    have nmD : (txs (rs.map (·.1))).length = rs.length := by unfold txs; rw [List.length_map, List.length_map]
    refine ⟨_, rfl, by show 0 ≤ sizeLine; decide, fun q hq => ⟨.list ((rs.map (·.1)).map PyData.str), .list [], .lst (SqL.of (s3u hq g1)) (dp_strs _), .lst (SqL.of upd_same) .nil, shaped_strs (fun x hx => by obtain ⟨r, hr', rfl⟩ := List.mem_map.mp hx; exact .inl (hP.car r hr').1), by decide +kernel, _, rfl, ?_⟩⟩
    have B4 := B3.new (o := .lst []) hq
    have s4 := s3.new (o := .lst []) hq
    have S4 := s3u (o := .lst []) hq S3
    have g4 := s3u (o := .lst []) hq g1
    generalize upd H3 q (.lst []) = H4 at B4 s4 S4 g4 ⊢
    refine ite2 (fun g => ?_) (fun _ => ⟨_, rfl, k S l _ hA S4 hS nSb B4 s4⟩)
    have ne : txs (rs.map (·.1)) ≠ [] := fun z => by
      cases rs with
      | nil => exact absurd g (by decide)
      | cons r rs => cases z
    refine ⟨_, rfl, _, rfl, b, D, _, rfl, B4, sql_new g4 nDb, ne, by rw [nmD]; omega, fun u H5 hu5 B5 s5' => ?_⟩
    obtain ⟨x, hx, rfl⟩ := List.mem_map.mp hu5
    obtain ⟨c, mc, ex⟩ := List.mem_map.mp hx
    have s5 := s4.trans s5'
    have S5 := s5'.get S4 nSb
    refine ⟨_, rfl, ty, _, 1, .ref yb, rfl, rfl, sqt_more (wo_sub H5 b) (sqt_more s5.1 v1), at1, yb, rfl, ⟨_, sqt_more (wo_sub H5 b) (sqt_more s5.1 v3)⟩, fun D2 hD2 => ?_⟩
    refine lc_tup (K := K) (a := yb) (xs := zs) (fun i H' => H' D2 = some (.lst (((rs.take i).filter fun r => decide (r.1 = x)).map fun r => V.int r.2.2.2)) ∧ Same H5 H') ?_ ?_ ?_ ?_
    · exact ⟨by rw [List.take_zero, upd_same]; rfl, same_new (Same.refl H5) hD2⟩
    · rintro i H' hi ⟨_, sm⟩
      exact sqt_more sm (sqt_more (wo_sub H5 b) (sqt_more s5.1 v3))
    · rintro i x' H' hx' ⟨e1, e2⟩
      obtain ⟨c', hc', t', rfl, hq'⟩ := paired_at (cars_wo (cars_more v5 s5.1)) hx'
      have hi' : i < rs.length := (List.getElem?_eq_some_iff.mp hc').1
      refine ⟨rfl, _, rfl, t', _, 0, _, rfl, rfl, sqt_more e2 hq', at0, _, rfl, rfl, _, rfl, ?_⟩
      refine ite2 (fun g => ?_) (fun g => ?_)
      · have ek : c'.1 = x := V.str.inj (of_decide_eq_true g)
        refine ⟨_, rfl, t', _, 3, _, rfl, rfl, sqt_more e2 hq', at3, _, e1, ?_, ?_, same_put e2 hD2⟩
        · rw [List.length_map]
          have := List.length_filter_le (fun r : Car => decide (r.1 = x)) (rs.take i)
          rw [List.length_take] at this
          exact small1000 (by omega)
        · rw [upd_same, List.take_succ, hc']
          simp [ek]
      · have ek : ¬ c'.1 = x := fun z => g (decide_eq_true (congrArg V.str z))
        refine ⟨?_, e2⟩
        rw [e1, List.take_succ, hc']
        simp [ek]
    rintro H6 ⟨e1, e2⟩
    rw [lz, List.take_length] at e1
    have S6 := e2 _ _ S5
    have B6 := B5.keep e2
    have s6 := s5.same e2
    have mcf : c ∈ rs.filter fun r => decide (r.1 = x) := List.mem_filter.mpr ⟨mc, decide_eq_true ex⟩
    obtain ⟨c0, fl, ef⟩ : ∃ c0 fl, (rs.filter fun r => decide (r.1 = x)) = c0 :: fl := by
      cases e : rs.filter fun r => decide (r.1 = x) with
      | nil => rw [e] at mcf; cases mcf
      | cons c0 fl => exact ⟨c0, fl, rfl⟩
    obtain ⟨h1, h2, h3, h4, h5, h6⟩ := hP.car c0 (List.mem_filter.mp (by rw [ef]; exact List.mem_cons_self)).1
    rw [ef] at e1
    refine ⟨D2, _, 0, .int c0.2.2.2, rfl, rfl, SqL.of e1, at0, ?_⟩
    refine ⟨_, rfl, by show 2 ≤ sizeLine; decide, fun q' hq' => ?_⟩
    have s7 := s6.new (o := .lst [.int 1, .int 7]) hq'
    have B7 := B6.new (o := .lst [.int 1, .int 7]) hq'
    have S7 := s3u (o := .lst [.int 1, .int 7]) hq' S6
    refine ⟨b, q', _, rfl, B7, sql_new upd_same (B6.ne hq'), (fun z => nomatch z), by show 2 ≤ 1000000; decide, fun u H8 hu8 B8 s8' => ?_⟩
    obtain ⟨n, rfl, n0, n7⟩ : ∃ n : Int, u = .int n ∧ 0 ≤ n ∧ n ≤ 7 := by
      simp only [List.mem_cons, List.not_mem_nil, or_false] at hu8
      rcases hu8 with rfl | rfl
      · exact ⟨_, rfl, by decide, by decide⟩
      · exact ⟨_, rfl, by decide, by decide⟩
    have S8 := s8'.get S7 nSb
    have s8 := s7.trans s8'
    refine ⟨_, n, rfl, rfl, _, rfl, _, rfl, S, _, rfl, DPut.k (k := Sum.inr x) S8 ?_, ?_⟩
    · unfold kvI
      rw [List.length_map]
      exact small1000 (by omega)
    refine ⟨_, rfl, k S (setv l x (c0.2.2.2 + n)) _ (hA.set hx ⟨by omega, by omega⟩) ?_ hS nSb (hB.wr hS s8 B8) (s8.wr hS)⟩
    rw [upd_same, kvI_setv]
end
end Y

namespace Y
open PySem PySem.Spec PyProof.Rows L2 Ns
open C8 (pss_cut)
theorem eqT_rows {K : PySem.W.Frag} {H : Hp} {α : Type} {R : V → α → Prop} {n : Nat} (f : α → List V) (hf : ∀ c, ∀ x ∈ f c, flatB x = true) (hR : ∀ v c, R v c → ∃ t, v = .ref t ∧ SqT K H t (f c)) : ∀ {xs zs : List V} {cs : List α}, Paired R xs cs → Paired R zs cs → Paired (EqT K H (n + 2)) xs zs
  | _, _, _, .nil, .nil => .nil
  | _, _, _, .cons h t, .cons h' t' => .cons (by
      obtain ⟨a, rfl, ha⟩ := hR _ _ h
      obtain ⟨b, rfl, hb⟩ := hR _ _ h'
      exact eqT_tup n ha hb (hf _)) (eqT_rows f hf hR t t')
/-- yards with the same parts are equal -/
theorem eqs_yard {K : PySem.W.Frag} {H : Hp} {y z : V} {cs : List Cab} {rs : List Car} (h : YardV K H y cs rs) (g : YardV K H z cs rs) : EqS K H 4 y z := by
  obtain ⟨t, a, c, xs, zs, rfl, h1, h2, h3, h4, h5⟩ := h
  obtain ⟨t', a', c', xs', zs', rfl, g1, g2, g3, g4, g5⟩ := g
  refine .inr ⟨t, t', _, _, rfl, rfl, h1, g1, .cons (.inr (.inr (.inr ⟨a, a', xs, xs', rfl, rfl, h2, g2, ?_⟩))) (.cons (.inr (.inr (.inr ⟨c, c', zs, zs', rfl, rfl, h3, g3, ?_⟩))) .nil)⟩
  · refine eqT_rows (n := 1) (fun c : Cab => [.str c.1, .str c.2.1, .int c.2.2]) (fun c x hx => ?_) (fun v c h => h) h4 g4
    simp only [List.mem_cons, List.not_mem_nil, or_false] at hx
    rcases hx with rfl | rfl | rfl <;> rfl
  · refine eqT_rows (n := 1) (fun c : Car => [.str c.1, .str c.2.1, .int c.2.2.1, .int c.2.2.2]) (fun c x hx => ?_) (fun v c h => h) h5 g5
    simp only [List.mem_cons, List.not_mem_nil, or_false] at hx
    rcases hx with rfl | rfl | rfl | rfl <;> rfl
theorem look_perm {l l' : List (Str × Int)} (n : (l.map (·.1)).Nodup) (p : l'.Perm l) (x : Str) : look l' x = look l x := by
  have n' : (l'.map (·.1)).Nodup := (p.map (·.1)).nodup_iff.mpr n
  cases e : look l x with
  | some v => exact look_mem n' (p.mem_iff.mpr (look_some e))
  | none =>
    cases e' : look l' x with
    | none => rfl
    | some v =>
      have := look_mem n (p.mem_iff.mp (look_some e'))
      rw [e] at this
      cases this
theorem chg_perm {l l' : List (Str × Int)} (n : (l.map (·.1)).Nodup) (p : l'.Perm l) (rs : List Car) : rs.map (chg l') = rs.map (chg l) :=
  List.map_congr_left fun r _ => by unfold chg; rw [look_perm n p]
theorem fit_big {i : Int} (h0 : 0 ≤ i) (h : i < 10 ^ 16) : Fit 300 0 (.int i) := (fit_int (n := 16) (by decide) (by omega) (by decide)).mono (by decide) (Nat.le_refl _)
theorem fit_dicB {l : List (Str × Int)} (hl : l.length ≤ 24) (h : ∀ p ∈ l, Nf p.1 ∧ 0 ≤ p.2 ∧ p.2 < 10 ^ 16) : Fit 20000 1 (dicD l) := by
  refine (fit_dict (m := 300) (k := 0) fun p hp => ?_).mono ?_ (by decide)
  · obtain ⟨j, hj⟩ := List.mem_iff_getElem?.mp hp
    obtain ⟨j1, j2⟩ := List.getElem?_zip_eq_some.mp hj
    unfold kvI at j1
    rw [List.map_map, List.getElem?_map] at j1
    rw [List.getElem?_map] at j2
    cases hq : l[j]? with
    | none => rw [hq] at j1; cases j1
    | some q =>
      rw [hq] at j1 j2
      obtain ⟨h1, h2, h3⟩ := h q (List.mem_of_getElem? hq)
      have e1 : p.1 = .str q.1 := (Option.some.inj j1).symm
      have e2 : p.2 = .int q.2 := (Option.some.inj j2).symm
      rw [e1, e2]
      exact ⟨fit_name h1, fit_big h2 h3⟩
  · unfold kvI
    rw [List.length_zip, List.length_map, List.length_map, List.length_map, Nat.min_self]
    omega
theorem AmP.fit {cs : List Cab} {rs : List Car} {l : List (Str × Int)} (h : AmP rs l) (hP : YardP cs rs) : Fit 20000 1 (dicD l) := by
  have := h.len
  have := hP.lr
  refine fit_dicB (by omega) fun p hp => ?_
  obtain ⟨r, hr, e⟩ := List.mem_map.mp (h.sub _ (List.mem_map.mpr ⟨p, hp, rfl⟩))
  have := h.val p hp
  exact ⟨.inl (by rw [← e]; exact (hP.car r hr).1), this.1, by omega⟩
theorem paired_dictP {K : PySem.W.Frag} {H : Hp} : ∀ {ts : List Addr} {l : List (Str × Int)}, Paired (fun t (p : Str × Int) => H t = some (.tup [.str p.1, .int p.2])) ts l → Paired (fun (p : Addr) (kv : Key × V) => SqT K H p [kV kv.1, kv.2]) ts (kvI l)
  | _, _, .nil => .nil
  | _, _, .cons h t => .cons (SqT.of h) (paired_dictP t)
theorem Bag.tup {H : Hp} {b t : Addr} {xs : List V} (h : Bag H b) (e : H t = some (.tup xs)) : t ≠ b := fun z => by
  obtain ⟨_, _, _, _, _, e1, _⟩ := h
  rw [z, e1] at e
  cases e
theorem YardP.chg {cs : List Cab} {rs : List Car} (h : YardP cs rs) {l : List (Str × Int)} (hv : ∀ p ∈ l, 0 ≤ p.2 ∧ p.2 ≤ 10 ^ 12) : YardP cs (rs.map (chg l)) := by
  refine ⟨h.lc, by rw [List.length_map]; exact h.lr, h.cab, fun r hr => ?_, h.keys, ?_⟩
  · obtain ⟨q, hq, rfl⟩ := List.mem_map.mp hr
    obtain ⟨h1, h2, h3, h4, h5, h6⟩ := h.car q hq
    refine ⟨h1, h2, h3, h4, ?_⟩
    show 0 ≤ (look l q.1).getD q.2.2.2 ∧ (look l q.1).getD q.2.2.2 ≤ 10 ^ 12
    cases e : look l q.1 with
    | none => exact ⟨h5, h6⟩
    | some v => exact hv _ (look_some e)
  · rw [List.map_map]
    exact h.names
/-- needs told -/
def spNR (K : PySem.W.Frag) : Sp := fun as H Q _ => ∃ (b : Addr) (y : V) (cs : List Cab) (rs : List Car), as = [.ref b, y] ∧ Bag H b ∧ YardV K (wo H b) y cs rs ∧ YardP cs rs ∧ ∀ H', Bag H' b → Sb b H H' → Q (.bl true) H'
section
variable {P : Program} {w : World} {K : PySem.W.Frag} {mg : Str → Option Value} {base : Heap}
theorem scNR : FnScope ["bag", "yard", "some", "needs", "name", "cars", "knot", "rate", "need", "turned", "text"] ["bag", "yard"] (defScope sNeedsRight) := ⟨rfl, rfl, rfl, by decide +kernel, rfl, by decide +kernel, by decide +kernel⟩
set_option maxHeartbeats 8000000 in
theorem ok_needsRight {f fS fAC fL fTK fW fA : Addr} {fd dS dAC dL dTK dW dA : FuncData} (F : Fun K "_law_needs_right" "_law_needs_right" sNeedsRight f fd) (T : Nat0 mg)
    (S : Fun K "_law_some" "_law_some" sSome fS dS) (mS : mg "_law_some" = some (.ref fS)) (bS : Binds K dS ["bag", "things"] []) (gS : FnOk P w K mg base CX0 2 fS dS ["bag", "things"] (spSome K))
    (AC : Fun K "_law_all_cars" "_law_all_cars" sAllCars fAC dAC) (mAC : mg "_law_all_cars" = some (.ref fAC)) (bAC : Binds K dAC ["yard"] []) (gAC : FnOk P w K mg base CX0 1 fAC dAC ["yard"] (spNamesOf K))
    (L : Fun K "_law_a_lot" "_law_a_lot" sALot fL dL) (mL : mg "_law_a_lot" = some (.ref fL)) (bL : Binds K dL ["bag", "things"] []) (gL : FnOk P w K mg base CX0 3 fL dL ["bag", "things"] (spALot K))
    (TK : Fun K "_law_turned_keys" "_law_turned_keys" sTurned fTK dTK) (mTK : mg "_law_turned_keys" = some (.ref fTK)) (bTK : Binds K dTK ["bag", "thing"] []) (gTK : FnOk P w K mg base CX0 3 fTK dTK ["bag", "thing"] spTurned)
    (W : Fun K "with_needs" "with_needs" sWithNeeds fW dW) (mW : mg "with_needs" = some (.ref fW)) (bW : Binds K dW ["yard", "needs"] []) (gW : FnOk P w K mg base CX0 1 fW dW ["yard", "needs"] (spWithNeeds K))
    (Al : Fun K "_law_alike" "_law_alike" sAlike fA dA) (mA : mg "_law_alike" = some (.ref fA)) (bA : Binds K dA ["found", "due"] []) (gA : GnOk P w K mg base 1 fA dA ["found", "due"] (spAlike K)) :
    GnOk P w K mg base 4 f fd ["bag", "yard"] (spNR K) := by
  refine Fun.okG F scNR (fun as H Q E h => ?_) (fun cdv A outer s H as Q E hr hgd h => ?_)
  · obtain ⟨b, y, cs, rs, rfl, _⟩ := h
    rfl
  · obtain ⟨b, y, cs, rs, rfl, hB, hV, hP, k⟩ := h
    have hr1 : Room 1 _ := hr.mono (by decide)
    have hr2 : Room 2 _ := hr.mono (by decide)
    have hr3 : Room 3 _ := hr
    have hu := hu_of hr
    have hun := hr.units
    refine ⟨_, pss_cons (ps_set (i := 2) scNR.nd rfl (.inl rfl) (pe_call gL hr3 rfl mL L.kp bL .nil pass0 (pa_cons (pv 0) (pa_cons (pe_callTy call_list_of (by rfl) T.list_ (by decide +kernel) (pa_cons (pe_call gAC hr1 rfl mAC AC.kp bAC .nil pass0 (pa_cons (pv 1) pa_nil)) pa_nil)) pa_nil))))
      (pss_cons (ps_set (i := 3) scNR.nd rfl (.inr rfl) (pe_callTy (call_dictP rfl) (by rfl) T.dict (by decide +kernel) (pa_cons (pe_lc (own := [("name", 4)]) (g := gName 4) (tt := tYes) rfl scNR.nd (pi_tup (pv 2))
          (blkOk_by (N := ["bag", "yard", "some", "needs", "name", "cars", "knot", "rate", "need", "turned", "text"]) (sc := defScope sNeedsRight) (by decide +kernel)) (fun _ _ _ _ _ => pg_name (i := 4) scNR.nd rfl (Or.inl rfl)) (fun _ _ _ _ _ => pts_nil)
          (fun _ _ _ _ _ => pe_tup (pa_cons (pv 4) (pa_cons (pe_call gS hr2 rfl mS S.kp bS .nil pass0 (pa_cons (pv 0) (pa_cons (pe_lst (pa_cons pe_int (pa_cons pe_int (pa_cons (pe_op op_sub (pe_op op_pow pe_int pe_int) pe_int) (pa_cons pe_int pa_nil))))) pa_nil))) pa_nil)))) pa_nil)))
      (pss_cons (ps_setLc (i := 5) (own := [("name", 4), ("knot", 6), ("rate", 7), ("need", 8)]) (g := gTup K 4 (gCons (gName 4) (gCons (gName 6) (gCons (gName 7) (gCons (gName 8) gNil))))) (tt := tYes) rfl scNR.nd rfl rfl (sw_true rfl rfl rfl (by decide +kernel)) (pi_tup (pe_ix ix_tup (pv 1) pe_int (fun _ _ => rfl)))
          (blkOk_by (N := ["bag", "yard", "some", "needs", "name", "cars", "knot", "rate", "need", "turned", "text"]) (sc := defScope sNeedsRight) (by decide +kernel))
          (fun _ _ _ _ _ => pg_tup rfl (pgs_cons (pg_name (i := 4) scNR.nd rfl (Or.inl rfl)) (pgs_cons (pg_name (i := 6) scNR.nd rfl (Or.inl rfl)) (pgs_cons (pg_name (i := 7) scNR.nd rfl (Or.inl rfl)) (pgs_cons (pg_name (i := 8) scNR.nd rfl (Or.inl rfl)) pgs_nil))))) (fun _ _ _ _ _ => pts_nil)
          (fun _ _ _ _ _ => pe_tup (pa_cons (pv 4) (pa_cons (pv 6) (pa_cons (pv 7) (pa_cons (pe_dget2 hu (pv 3) (pv 4) (pv 8) ⟨by rfl, by rfl, by rfl, by rfl⟩) pa_nil))))))
      (pss_cons (ps_set (i := 9) scNR.nd rfl (.inl rfl) (pe_call gTK hr3 rfl mTK TK.kp bTK .nil pass0 (pa_cons (pv 0) (pa_cons (pv 3) pa_nil))))
      (pss_cons (ps_set (i := 10) scNR.nd rfl (.inl rfl) (pe_callB (call_reprD hgd hun) (by rfl) T.repr (by decide +kernel) (pa_cons (pv 9) pa_nil)))
      (pss_one (ps_ret (pe_and (pe_callG gA hr1 hgd rfl mA Al.kp bA (pa_cons (pe_call gW hr1 rfl mW W.kp bW .nil pass0 (pa_cons (pv 1) (pa_cons (pv 9) pa_nil)))
          (pa_cons (pe_tup (pa_cons (pe_ix ix_tup (pv 1) pe_int (fun _ _ => rfl)) (pa_cons (pe_callTy call_tuple_of (by rfl) T.tuple (by decide +kernel) (pa_cons (pv 5) pa_nil)) pa_nil))) pa_nil)))
        (pe_one (pe_cmpR op_eq (pe_callB (call_reprD hgd hun) (by rfl) T.repr (by decide +kernel) (pa_cons (pv 9) pa_nil)) (pv 10) (nomark _)))))))))), ?_⟩
    obtain ⟨ty, ya, yb, xs, zs, rfl, v1, v2, v3, v4, v5⟩ := id hV
    have lz : zs.length = rs.length := paired_len v5
    have lr := hP.lr
    have nn := hP.names
    have nl : (rs.map (·.1)).length ≤ 24 := by rw [List.length_map]; exact lr
    have vw : ∀ {G : Hp}, Sb b H G → YardV K G (.ref ty) cs rs := fun {G} s => (hV.more s.1).more (wo_sub G b)
    have w1 : ∀ {G : Hp}, Sb b H G → SqT K G ty [.ref ya, .ref yb] := fun {G} s => sqt_more (wo_sub G b) (sqt_more s.1 v1)
    have w2 : ∀ {G : Hp}, Sb b H G → SqT K G ya xs := fun {G} s => sqt_more (wo_sub G b) (sqt_more s.1 v2)
    have w3 : ∀ {G : Hp}, Sb b H G → SqT K G yb zs := fun {G} s => sqt_more (wo_sub G b) (sqt_more s.1 v3)
    have w4 : ∀ {G : Hp}, Sb b H G → Paired (CabV K G) xs cs := fun {G} s => cabs_wo (cabs_more v4 s.1)
    have w5 : ∀ {G : Hp}, Sb b H G → Paired (CarV K G) zs rs := fun {G} s => cars_wo (cars_more v5 s.1)
    -- some of the cars
    refine ⟨_, rfl, _, rfl, .ref ty, cs, rs, rfl, vw (.refl b H), by omega, fun p1 H1 e1 f1 m1 => ⟨p1, _, rfl, .inr (SqT.of e1), fun p2 hp2 => ?_⟩⟩
    have B2 := (hB.keep m1).new (o := .lst (txs (rs.map (·.1)))) hp2
    have s2 := ((Sb.refl b H).same m1).new (o := .lst (txs (rs.map (·.1)))) hp2
    refine ⟨b, p2, rs.map (·.1), rfl, B2, sql_new upd_same ((hB.keep m1).ne hp2), by omega, nn, fun lo ls H3 srt nls subl e3 f3 n3 B3 s3' => ?_⟩
    have s3 := s2.trans s3'
    have ll : ls.length ≤ 24 := by
      have := sub_len nls (m := rs.map (·.1)) subl
      omega
    have tll : (txs ls).length = ls.length := List.length_map _
    clear s3' s2 B2 hp2 m1 e1 f1 f3
    -- needs of them
    refine ⟨_, rfl, lo, rfl, ⟨_, SqT.of e3⟩, fun D hD => ?_⟩
    have nDb := B3.ne hD
    refine lc_tup (K := K) (a := lo) (xs := txs ls) (fun j H' => ∃ (ts : List Addr) (l : List (Str × Int)), H' D = some (.lst (ts.map V.ref)) ∧ Paired (fun t (p : Str × Int) => H' t = some (.tup [.str p.1, .int p.2])) ts l ∧ l.map (·.1) = ls.take j ∧ (∀ p ∈ l, 0 ≤ p.2 ∧ p.2 ≤ 10 ^ 12) ∧ Bag H' b ∧ Sb b H3 H') ?_ ?_ ?_ ?_
    · exact ⟨[], [], upd_same, .nil, by rw [List.take_zero]; rfl, (fun _ z => nomatch z), B3.new hD, (Sb.refl b H3).new hD⟩
    · rintro j H' _ ⟨_, _, _, _, _, _, _, s⟩
      exact SqT.of (s.get e3 n3)
    · rintro j u H' hu' ⟨ts, l, q1, q2, q3, q4, q5, q6⟩
      obtain ⟨x, hx, rfl⟩ := txs_get (ls := ls) hu'
      have hj : j < ls.length := (List.getElem?_eq_some_iff.mp hx).1
      refine ⟨rfl, _, rfl, _, rfl, 10, 12, rfl, rfl, ⟨by decide, by decide, by decide⟩, _, _, rfl, rfl, by show 4 ≤ sizeLine; decide, fun q hq => ?_⟩
      have qB := q5.new (o := .lst [.int 0, .int 5, .int ((10 : Int) ^ (12 : Int).toNat - 1), .int 1]) hq
      have q7 := q6.new (o := .lst [.int 0, .int 5, .int ((10 : Int) ^ (12 : Int).toNat - 1), .int 1]) hq
      refine ⟨b, q, [.int 0, .int 5, .int ((10 : Int) ^ (12 : Int).toNat - 1), .int 1], rfl, qB, sql_new upd_same (q5.ne hq), (fun z => nomatch z), by show 4 ≤ 1000000; decide, fun u H5 hu5 B5 s5 => ?_⟩
      obtain ⟨n, rfl, n0, n9⟩ : ∃ n : Int, u = .int n ∧ 0 ≤ n ∧ n ≤ 10 ^ 12 := by
        simp only [List.mem_cons, List.not_mem_nil, or_false] at hu5
        rcases hu5 with rfl | rfl | rfl | rfl
        · exact ⟨_, rfl, by decide, by decide⟩
        · exact ⟨_, rfl, by decide, by decide⟩
        · exact ⟨_, rfl, by decide, by decide⟩
        · exact ⟨_, rfl, by decide, by decide⟩
      have q1' := s5.get (s3u (o := .lst [.int 0, .int 5, .int ((10 : Int) ^ (12 : Int).toNat - 1), .int 1]) hq q1) nDb
      have q2' : Paired (fun t (p : Str × Int) => H5 t = some (.tup [.str p.1, .int p.2])) ts l := paired_imp (fun t p h => s5.get (s3u hq h) (q5.tup h)) q2
      refine ⟨by show 2 ≤ sizeLine; decide, fun t ht => ?_⟩
      have nt : t ≠ D := fun z => by rw [z, q1'] at ht; cases ht
      have tl : ts.length ≤ 24 := by
        rw [paired_len q2, ← List.length_map (f := (·.1)), q3, List.length_take]
        omega
      have s8 := (q7.trans s5).new (o := .tup [.str x, .int n]) ht
      have B8 := B5.new (o := .tup [.str x, .int n]) ht
      refine ⟨ts.map V.ref, s3u ht q1', by rw [List.length_map]; exact small1000 (by omega), ts ++ [t], l ++ [(x, n)], by rw [upd_same, List.map_append]; rfl, ?_, ?_, ?_, B3.wr hD s8 B8, s8.wr hD⟩
      · refine paired_snoc (by rw [upd_ne nt, upd_same]) (paired_imp (fun t0 r h => ?_) q2')
        have n0 : t0 ≠ D := fun z => by rw [z, q1'] at h; cases h
        rw [upd_ne n0]
        exact s3u ht h
      · rw [List.map_append, q3, List.take_succ, hx]
        rfl
      · intro p hp
        rcases List.mem_append.mp hp with h | h
        · exact q4 p h
        · rw [List.mem_singleton.mp h]
          exact ⟨n0, n9⟩
    rintro H4 ⟨ts, l, q1, q2, q3, q4, B4, s4'⟩
    rw [tll, List.take_length] at q3
    have ndl : (l.map (·.1)).Nodup := by rw [q3]; exact nls
    have lle : l.length ≤ 24 := by rw [← List.length_map (f := (·.1)), q3]; exact ll
    have s4 := s3.trans s4'
    refine ⟨D, ts, kvI l, rfl, SqL.of q1, paired_dictP q2, fun am ham => ?_⟩
    rw [kvI_made ndl]
    have nam := B4.ne ham
    have B5 := B4.new (o := .dK (kvI l)) ham
    have s5 := s4.new (o := .dK (kvI l)) ham
    have a5 : upd H4 am (.dK (kvI l)) am = some (.dK (kvI l)) := upd_same
    generalize upd H4 am (.dK (kvI l)) = H5 at B5 s5 a5 ⊢
    clear q1 q2 s4' B4 ham hD nDb s4
    -- the cars by own sums
    refine ⟨_, rfl, ty, _, 1, .ref yb, rfl, rfl, w1 s5, at1, yb, rfl, ⟨_, w3 s5⟩, fun D2 hD2 => ?_⟩
    refine lc_tup (K := K) (a := yb) (xs := zs) (fun i H' => ∃ ts : List Addr, H' D2 = some (.lst (ts.map V.ref)) ∧ Paired (fun t (r : Car) => H' t = some (.tup [.str r.1, .str r.2.1, .int r.2.2.1, .int r.2.2.2])) ts ((rs.take i).map (chg l)) ∧ Same H5 H') ?_ ?_ ?_ ?_
    · exact ⟨[], upd_same, by rw [List.take_zero]; exact .nil, same_new (Same.refl H5) hD2⟩
    · rintro i H' _ ⟨_, _, _, m⟩
      exact sqt_more m (w3 s5)
    · rintro i x H' hx ⟨ts, q1, q2, q3⟩
      obtain ⟨r, hr', q, rfl, hq⟩ := paired_at (w5 s5) hx
      have hi' : i < rs.length := (List.getElem?_eq_some_iff.mp hr').1
      have hd' := q3 _ _ a5
      refine ⟨q, _, rfl, sqt_more q3 hq, rfl, _, _, rfl, _, _, rfl, _, _, rfl, _, _, rfl, rfl, ?_⟩
      refine ⟨rfl, _, rfl, _, rfl, _, rfl, _, rfl, am, rfl, .inl ⟨_, .inl hd'⟩, _, rfl, _, rfl, (look l r.1).map V.int, get_look (x := r.1) hd', ?_⟩
      have ev : ((look l r.1).map V.int).getD (.int r.2.2.2) = V.int ((look l r.1).getD r.2.2.2) := by cases look l r.1 <;> rfl
      rw [ev]
      refine ⟨by show 4 ≤ sizeLine; decide, fun t ht => ?_⟩
      have nt : t ≠ D2 := fun z => by rw [z, q1] at ht; cases ht
      have tl : ts.length ≤ 24 := by
        rw [paired_len q2, List.length_map, List.length_take]
        omega
      refine ⟨ts.map V.ref, s3u ht q1, by rw [List.length_map]; exact small1000 (by omega), ts ++ [t], by rw [upd_same, List.map_append]; rfl, ?_, same_put (same_new q3 ht) hD2⟩
      rw [List.take_succ, hr', List.map_append]
      refine paired_snoc (by rw [upd_ne nt, upd_same]; rfl) (paired_imp (fun t0 r h => ?_) q2)
      have n0 : t0 ≠ D2 := fun z => by rw [z, q1] at h; cases h
      rw [upd_ne n0]
      exact s3u ht h
    rintro H6 ⟨ts2, q1, q2, m6⟩
    rw [lz, List.take_length] at q2
    have nD2b := B5.ne hD2
    have B6 := B5.keep m6
    have s6 := s5.same m6
    -- turned
    refine ⟨_, rfl, _, rfl, b, am, l, rfl, B6, m6 _ _ a5, ndl, by omega, fun p9 l9 H9 pm e9 f9 n9 B9 s9' => ?_⟩
    have s9 := s6.trans s9'
    have q1' := s9'.get q1 nD2b
    have q2' : Paired (fun t (r : Car) => H9 t = some (.tup [.str r.1, .str r.2.1, .int r.2.2.1, .int r.2.2.2])) ts2 (rs.map (chg l)) := paired_imp (fun t r h => s9'.get h (B6.tup h)) q2
    have fit9 : Fit 20000 1 (dicD l9) := fit_dicB (by rw [pm.length_eq]; exact lle) fun p hp => by
      have hp' := pm.mem_iff.mp hp
      obtain ⟨v0, v9⟩ := q4 p hp'
      have hk : p.1 ∈ ls := by rw [← q3]; exact List.mem_map.mpr ⟨p, hp', rfl⟩
      obtain ⟨r, hr', e⟩ := List.mem_map.mp (subl _ hk)
      exact ⟨.inl (by rw [← e]; exact (hP.car r hr').1), v0, by omega⟩
    have g1 := fit9.1
    have g2 : (dicD l9).shown.length ≤ sizeLine := Nat.le_trans fit9.2.1 (big_ok (n := 20000) (by decide))
    have g3 : (dicD l9).depth ≤ 60 := Nat.le_trans fit9.2.2 (show 1 ≤ 60 by decide)
    refine ⟨_, rfl, .ref p9, dicD l9, rfl, dat_dict e9, g1, g2, g3, ?_⟩
    -- with_needs
    refine ⟨_, rfl, _, rfl, .ref ty, p9, cs, rs, l9, rfl, vw s9, e9, by omega, fun t H10 Vt ft m10 => ?_⟩
    have s10 := s9.same m10
    refine ⟨_, rfl, ty, _, 0, .ref ya, rfl, rfl, w1 s10, at0, _, rfl, D2, _, rfl, .inl ⟨SqL.of (m10 _ _ q1'), fun p hp => ⟨by show 2 ≤ sizeLine; decide, fun u hu' => ?_⟩⟩⟩
    have m11 := same_new (o := .tup [.ref ya, .ref p]) (same_new (o := .tup (ts2.map V.ref)) (Same.refl H10) hp) hu'
    have Vu : YardV K (upd (upd H10 p (.tup (ts2.map V.ref))) u (.tup [.ref ya, .ref p])) (.ref u) cs (rs.map (chg l)) :=
      ⟨u, ya, p, xs, ts2.map V.ref, rfl, SqT.of upd_same, sqt_more m11 (w2 s10), SqT.of (s3u hu' upd_same), cabs_more (w4 s10) m11, car_refs q2' (m10.trans m11)⟩
    generalize upd (upd H10 p (.tup (ts2.map V.ref))) u (.tup [.ref ya, .ref p]) = H11 at m11 Vu ⊢
    have Vt' := Vt.more m11
    rw [chg_perm ndl pm] at Vt'
    have fy := fit_yard (hP.chg q4)
    have y1 := fy.1
    have y2 : (yardD cs (rs.map (chg l))).shown.length ≤ sizeLine := Nat.le_trans fy.2.1 (big_ok (n := 130000) (by decide))
    have y3 : (yardD cs (rs.map (chg l))).depth ≤ 60 := Nat.le_trans fy.2.2 (show 3 ≤ 60 by decide)
    have he := eqs_yard Vt' Vu
    have d1 := dat_yard Vt'
    have d2 := dat_yard Vu
    have s11 := s10.same m11
    have B11 := (B9.keep m10).keep m11
    have e11 := m11 _ _ (m10 _ _ e9)
    clear fy fit9
    generalize yardD cs (rs.map (chg l)) = dy at y1 y2 y3 d1 d2
    refine ⟨.ref t, .ref u, dy, rfl, .inr ⟨4, by decide, he⟩, d1, d2, y1, y2, y3, ?_⟩
    refine ⟨true, rfl, iteT ?_⟩
    refine ⟨_, rfl, .ref p9, dicD l9, rfl, dat_dict e11, g1, g2, g3, _, rfl, rfl, ?_⟩
    rw [decide_eq_true rfl]
    exact k _ B11 s11
end
end Y

namespace Y
open PySem PySem.Spec PyProof.Rows L2 Ns
structure D5 (P : Program) (w : World) (K : PySem.W.Frag) (mg : Str → Option Value) (base : Heap) (fB fT fS fSm fW fG fAm fFi fNR fLC fCh fA fNe fAB fLB fJ fLJ : Addr) (dB dT dS dSm dW dG dAm dFi dNR dLC dCh dA dNe dAB dLB dJ dLJ : FuncData) : Prop where
  B : Fun K "_law_bag" "_law_bag" sBag fB dB
  mB : mg "_law_bag" = some (.ref fB)
  bB : Binds K dB ["script"] []
  gB : FnOk P w K mg base CX0 1 fB dB ["script"] (spBag K)
  T : Fun K "_law_take" "_law_take" sTake fT dT
  mT : mg "_law_take" = some (.ref fT)
  bT : Binds K dT ["bag", "many"] []
  gT : FnOk P w K mg base CX0 1 fT dT ["bag", "many"] (spTake)
  S : Fun K "_law_some" "_law_some" sSome fS dS
  mS : mg "_law_some" = some (.ref fS)
  bS : Binds K dS ["bag", "things"] []
  gS : FnOk P w K mg base CX0 2 fS dS ["bag", "things"] (spSome K)
  Sm : Fun K "_law_small_yard" "_law_small_yard" sSmall fSm dSm
  mSm : mg "_law_small_yard" = some (.ref fSm)
  bSm : Binds K dSm ["bag"] []
  gSm : FnOk P w K mg base CX0 7 fSm dSm ["bag"] (spYard K 7)
  W : Fun K "_law_wide_yard" "_law_wide_yard" sWide fW dW
  mW : mg "_law_wide_yard" = some (.ref fW)
  bW : Binds K dW ["bag"] []
  gW : FnOk P w K mg base CX0 7 fW dW ["bag"] (spYard K (10 ^ 12))
  G : Fun K "_law_great_yard" "_law_great_yard" sGreat fG dG
  mG : mg "_law_great_yard" = some (.ref fG)
  bG : Binds K dG ["bag"] []
  gG : FnOk P w K mg base CX0 8 fG dG ["bag"] (spYard K (10 ^ 12))
  Am : Fun K "_law_some_amounts" "_law_some_amounts" sSomeAmounts fAm dAm
  mAm : mg "_law_some_amounts" = some (.ref fAm)
  bAm : Binds K dAm ["bag", "yard", "over"] []
  gAm : FnOk P w K mg base CX0 3 fAm dAm ["bag", "yard", "over"] (spAm K)
  Fi : Fun K "fits" "fits" sFits fFi dFi
  mFi : mg "fits" = some (.ref fFi)
  bFi : Binds K dFi ["yard", "amounts"] []
  gFi : FnOk P w K mg base CX0 2 fFi dFi ["yard", "amounts"] (spFits K)
  NR : Fun K "_law_needs_right" "_law_needs_right" sNeedsRight fNR dNR
  mNR : mg "_law_needs_right" = some (.ref fNR)
  bNR : Binds K dNR ["bag", "yard"] []
  gNR : GnOk P w K mg base 4 fNR dNR ["bag", "yard"] (spNR K)
  LC : Fun K "_law_charged" "_law_charged" sLCharged fLC dLC
  mLC : mg "_law_charged" = some (.ref fLC)
  bLC : Binds K dLC ["yard", "amounts"] []
  gLC : FnOk P w K mg base CX0 1 fLC dLC ["yard", "amounts"] (spLCharged K)
  Ch : Fun K "charged" "charged" sCharged fCh dCh
  mCh : mg "charged" = some (.ref fCh)
  bCh : Binds K dCh ["yard", "amounts"] []
  gCh : FnOk P w K mg base CX0 2 fCh dCh ["yard", "amounts"] (spCharged K)
  A : Fun K "_law_alike" "_law_alike" sAlike fA dA
  mA : mg "_law_alike" = some (.ref fA)
  bA : Binds K dA ["found", "due"] []
  gA : GnOk P w K mg base 1 fA dA ["found", "due"] (spAlike K)
  Ne : Fun K "_law_near" "_law_near" sNear fNe dNe
  mNe : mg "_law_near" = some (.ref fNe)
  bNe : Binds K dNe ["bag", "yard"] []
  gNe : FnOk P w K mg base CX0 3 fNe dNe ["bag", "yard"] (spNear K)
  AB : Fun K "amounts_between" "amounts_between" sAmountsBetween fAB dAB
  mAB : mg "amounts_between" = some (.ref fAB)
  bAB : Binds K dAB ["one", "other"] []
  gAB : FnOk P w K mg base CX0 2 fAB dAB ["one", "other"] (spBetween K)
  LB : Fun K "_law_between" "_law_between" sBetween fLB dLB
  mLB : mg "_law_between" = some (.ref fLB)
  bLB : Binds K dLB ["one", "other"] []
  gLB : FnOk P w K mg base CX0 1 fLB dLB ["one", "other"] (spLBetween K)
  J : Fun K "joined_amounts" "joined_amounts" sJoinedAmounts fJ dJ
  mJ : mg "joined_amounts" = some (.ref fJ)
  bJ : Binds K dJ ["rows"] []
  gJ : FnOk P w K mg base CX0 1 fJ dJ ["rows"] (spJoined K)
  LJ : Fun K "_law_joined" "_law_joined" sJoined fLJ dLJ
  mLJ : mg "_law_joined" = some (.ref fLJ)
  bLJ : Binds K dLJ ["rows"] []
  gLJ : FnOk P w K mg base CX0 1 fLJ dLJ ["rows"] (spLJoined K)
/-- no amount is above its need -/
def okAll (rs : List Car) (l : List (Str × Int)) : Bool := l.all fun p => decide (p.2 ≤ nv rs p.1)
theorem good_eq (rs : List Car) (l : List (Str × Int)) : PyData.eqv (.list (((l.filter fun p => decide (nv rs p.1 < p.2)).map (·.1)).map PyData.str)) (.list []) = okAll rs l := by
  unfold okAll
  cases e : l.filter fun p => decide (nv rs p.1 < p.2) with
  | nil =>
    rw [List.filter_eq_nil_iff] at e
    have : (l.all fun p => decide (p.2 ≤ nv rs p.1)) = true := List.all_eq_true.mpr fun p hp => by
      have := e p hp
      simp at this
      simp [this]
    rw [this]
    rfl
  | cons p fl =>
    have hp : p ∈ l.filter fun p => decide (nv rs p.1 < p.2) := by rw [e]; exact List.mem_cons_self
    obtain ⟨h1, h2⟩ := List.mem_filter.mp hp
    have : (l.all fun p => decide (p.2 ≤ nv rs p.1)) = false := by
      rw [List.all_eq_false]
      refine ⟨p, h1, ?_⟩
      have := of_decide_eq_true h2
      simp [this]
    rw [this]
    rfl
theorem YardP.lchg {cs : List Cab} {rs : List Car} {l : List (Str × Int)} (h : YardP cs rs) (hA : AmP rs l) (g : okAll rs l = true) : YardP cs (rs.map (lchg l)) := by
  refine ⟨h.lc, by rw [List.length_map]; exact h.lr, h.cab, fun r hr => ?_, h.keys, ?_⟩
  · obtain ⟨q, hq, rfl⟩ := List.mem_map.mp hr
    obtain ⟨h1, h2, h3, h4, h5, h6⟩ := h.car q hq
    refine ⟨h1, h2, h3, h4, ?_⟩
    show 0 ≤ q.2.2.2 - (look l q.1).getD 0 ∧ q.2.2.2 - (look l q.1).getD 0 ≤ 10 ^ 12
    cases e : look l q.1 with
    | none =>
      show 0 ≤ q.2.2.2 - 0 ∧ q.2.2.2 - 0 ≤ 10 ^ 12
      omega
    | some v =>
      show 0 ≤ q.2.2.2 - v ∧ q.2.2.2 - v ≤ 10 ^ 12
      have hm := look_some e
      have k1 := hA.val _ hm
      have k2 : v ≤ nv rs q.1 := of_decide_eq_true (List.all_eq_true.mp g _ hm)
      rw [nv_at h.names hq] at k2
      have k3 : 0 ≤ v := k1.1
      omega
  · rw [List.map_map]
    exact h.names
/-- numbers within so many great ones -/
def JB (n : Nat) (s : List (Str × Int)) : Prop := ∀ p ∈ s, 0 ≤ p.2 ∧ p.2 ≤ n * (10 ^ 12 + 7)
theorem JB.mono {n m : Nat} {s : List (Str × Int)} (h : JB n s) (e : n ≤ m) : JB m s := fun p hp => by
  have := h p hp
  have k : (n : Int) * (10 ^ 12 + 7) ≤ m * (10 ^ 12 + 7) := Int.mul_le_mul_of_nonneg_right (by omega) (by decide)
  exact ⟨this.1, by omega⟩
theorem JB.add {n : Nat} {s : List (Str × Int)} (h : JB n s) {q : Str × Int} (hq : 0 ≤ q.2 ∧ q.2 ≤ 10 ^ 12 + 7) : JB (n + 1) (jadd s q) := fun p hp => by
  have e : ((n + 1 : Nat) : Int) * (10 ^ 12 + 7) = n * (10 ^ 12 + 7) + (10 ^ 12 + 7) := by
    rw [show ((n + 1 : Nat) : Int) = (n : Int) + 1 by omega, Int.add_mul, Int.one_mul]
  rcases setv_mem hp with h1 | h1
  · have := h p h1
    exact ⟨this.1, by omega⟩
  · rw [h1]
    show 0 ≤ (look s q.1).getD 0 + q.2 ∧ (look s q.1).getD 0 + q.2 ≤ _
    have n0 : (0 : Int) ≤ (n : Int) * (10 ^ 12 + 7) := Int.mul_nonneg (by omega) (by decide)
    cases e2 : look s q.1 with
    | none =>
      show 0 ≤ 0 + q.2 ∧ 0 + q.2 ≤ _
      omega
    | some v =>
      show 0 ≤ v + q.2 ∧ v + q.2 ≤ _
      have := h _ (look_some e2)
      have k1 : 0 ≤ v := this.1
      have k2 : v ≤ n * (10 ^ 12 + 7) := this.2
      omega
theorem JB.row : ∀ {l s : List (Str × Int)} {n : Nat}, JB n s → (∀ p ∈ l, 0 ≤ p.2 ∧ p.2 ≤ 10 ^ 12 + 7) → JB (n + l.length) (jrow s l)
  | [], _, _, h, _ => h
  | q :: l, s, n, h, g => by
    have := JB.row (h.add (g q List.mem_cons_self)) (l := l) fun p hp => g p (List.mem_cons_of_mem _ hp)
    rw [show n + 1 + l.length = n + (q :: l).length by rw [List.length_cons]; omega] at this
    exact this
theorem JB.rows : ∀ {ls : List (List (Str × Int))} {s : List (Str × Int)} {n : Nat}, JB n s → (∀ l ∈ ls, l.length ≤ 24 ∧ ∀ p ∈ l, 0 ≤ p.2 ∧ p.2 ≤ 10 ^ 12 + 7) → JB (n + ls.length * 24) (ls.foldl jrow s)
  | [], _, _, h, _ => h
  | l :: ls, s, n, h, g => by
    obtain ⟨g1, g2⟩ := g l List.mem_cons_self
    have := JB.rows (((h.row g2).mono (Nat.add_le_add_left g1 n))) (ls := ls) fun p hp => g p (List.mem_cons_of_mem _ hp)
    rw [show n + 24 + ls.length * 24 = n + (l :: ls).length * 24 by rw [List.length_cons]; omega] at this
    exact this
theorem byName_keys (s : List (Str × Int)) (ys : List Str) : (byName s ys).map (·.1) = ys := by
  unfold byName
  rw [List.map_map]
  exact List.map_id ys
theorem eqs_dict {K : PySem.W.Frag} {H : Hp} {a b : Addr} {l : List (Str × Int)} (nd : (l.map (·.1)).Nodup) (ha : H a = some (.dK (kvI l))) (hb : H b = some (.dK (kvI l))) : EqS K H 1 (.ref a) (.ref b) :=
  .inl (.inr ⟨a, b, kvI l, kvI l, rfl, rfl, ha, hb, rfl, fun p hp => by
    obtain ⟨q, hq, rfl⟩ := List.mem_map.mp hp
    exact ⟨_, kvI_get nd hq, eqT_flat 0 rfl⟩⟩)
/-- what is joined is small -/
theorem joined_fit {cs : List Cab} {rs : List Car} {ls : List (List (Str × Int))} (hP : YardP cs rs) (hl : ls.length ≤ 4) (h : ∀ l ∈ ls, AmP rs l) {ys : List Str} (p : ys.Perm ((jall ls).map (·.1))) :
    ((byName (jall ls) ys).map (·.1)).Nodup ∧ Fit 20000 1 (dicD (byName (jall ls) ys)) ∧ ys.length ≤ 24 := by
  have kin : KeysIn (rs.map (·.1)) (jall ls) := (keysIn_nil _).rows fun l hl' q hq => (h l hl').sub _ (List.mem_map.mpr ⟨q, hq, rfl⟩)
  have jb : JB (0 + ls.length * 24) (jall ls) := JB.rows (s := []) (fun _ z => nomatch z) fun l hl' => ⟨Nat.le_trans (h l hl').len hP.lr, (h l hl').val⟩
  have ny : ys.Nodup := p.nodup_iff.mpr kin.1
  have ly : ys.length ≤ 24 := by
    have := kin.len
    rw [p.length_eq, List.length_map]
    have := hP.lr
    rw [List.length_map] at *
    omega
  refine ⟨by rw [byName_keys]; exact ny, fit_dicB (by unfold byName; rw [List.length_map]; exact ly) fun q hq => ?_, ly⟩
  obtain ⟨x, hx, rfl⟩ := List.mem_map.mp hq
  have hk := p.mem_iff.mp hx
  obtain ⟨r, hr, e⟩ := List.mem_map.mp (kin.2 x hk)
  have e2 := look_mk hk
  have k := jb _ (look_some e2)
  have k1 : 0 ≤ (look (jall ls) x).getD 0 := k.1
  have k2 : (look (jall ls) x).getD 0 ≤ ((0 + ls.length * 24 : Nat) : Int) * (10 ^ 12 + 7) := k.2
  have k3 : ((0 + ls.length * 24 : Nat) : Int) * (10 ^ 12 + 7) ≤ 96 * (10 ^ 12 + 7) := Int.mul_le_mul_of_nonneg_right (by omega) (by decide)
  exact ⟨.inl (by show Nm x; rw [← e]; exact (hP.car r hr).1), k1, by show (look (jall ls) x).getD 0 < 10 ^ 16; omega⟩
theorem bool_fit (b : Bool) : (PyData.bool b).showable = true ∧ (PyData.bool b).shown.length ≤ sizeLine ∧ (PyData.bool b).depth ≤ 60 := by
  cases b <;> exact ⟨rfl, by decide +kernel, by decide⟩
theorem nv_bd {cs : List Cab} {rs : List Car} (h : YardP cs rs) (x : Str) : 0 ≤ nv rs x ∧ nv rs x ≤ 10 ^ 12 := by
  unfold nv
  cases e : rs.find? fun r => decide (r.1 = x) with
  | none => exact ⟨Int.le_refl _, by decide⟩
  | some r =>
    obtain ⟨_, _, _, _, h5, h6⟩ := h.car r (List.mem_of_find?_eq_some e)
    exact ⟨h5, h6⟩
theorem btw_fit {cs cs' : List Cab} {rs rs' : List Car} {l : List (Str × Int)} (h : YardP cs rs) (g : YardP cs' rs') (e : btw cs rs cs' rs' = some l) : (l.map (·.1)).Nodup ∧ Fit 20000 1 (dicD l) := by
  unfold btw at e
  split at e
  · split at e
    · cases e
    · cases e
      refine ⟨?_, fit_dicB ?_ fun p hp => ?_⟩
      · rw [List.map_map]
        exact h.names.sublist (List.Sublist.map _ List.filter_sublist)
      · rw [List.length_map]
        exact Nat.le_trans (List.length_filter_le _ _) h.lr
      · obtain ⟨r, hr, rfl⟩ := List.mem_map.mp hp
        obtain ⟨hm, hc⟩ := List.mem_filter.mp hr
        have k1 : nv rs' r.1 < nv rs r.1 := of_decide_eq_true hc
        have k2 := nv_bd h r.1
        have k3 := nv_bd g r.1
        exact ⟨.inl (h.car r hm).1, by show 0 ≤ nv rs r.1 - nv rs' r.1; omega, by show nv rs r.1 - nv rs' r.1 < 10 ^ 16; omega⟩
  · cases e
end Y

namespace Y
open PySem PySem.Spec PyProof.Rows L2 Ns
open C8 (pss_cut)
section
variable {P : Program} {w : World} {K : PySem.W.Frag} {mg : Str → Option Value} {base : Heap} {fB fT fS fSm fW fG fAm fFi fNR fLC fCh fA fNe fAB fLB fJ fLJ : Addr} {dB dT dS dSm dW dG dAm dFi dNR dLC dCh dA dNe dAB dLB dJ dLJ : FuncData}
theorem scL : FnScope ["script", "bag", "turn", "yard", "text", "over", "amounts", "said", "needs", "car", "good", "name", "later", "near", "far", "one", "other", "rows", "again", "told"] ["script"] (defScope sLaw) := ⟨rfl, rfl, rfl, by decide +kernel, rfl, by decide +kernel, by decide +kernel⟩
set_option maxHeartbeats 16000000 in
theorem ok_law {f : Addr} {fd : FuncData} (F : Fun K "law" "law" sLaw f fd) (T : Nat0 mg) (D : D5 P w K mg base fB fT fS fSm fW fG fAm fFi fNR fLC fCh fA fNe fAB fLB fJ fLJ dB dT dS dSm dW dG dAm dFi dNR dLC dCh dA dNe dAB dLB dJ dLJ) : GnOk P w K mg base 9 f fd ["script"] (spTop K) := by
  refine Fun.okG F scL (fun as H Q E h => ?_) (fun cdv A outer s H as Q E hr hgd h => ?_)
  · obtain ⟨a, ns, rfl, _⟩ := h
    rfl
  · obtain ⟨a, ns, rfl, hS, hl, k⟩ := h
    have hr1 : Room 1 _ := hr.mono (by decide)
    have hr2 : Room 2 _ := hr.mono (by decide)
    have hr3 : Room 3 _ := hr.mono (by decide)
    have hr4 : Room 4 _ := hr.mono (by decide)
    have hr7 : Room 7 _ := hr.mono (by decide)
    have hu := hu_of hr
    have hun := hr.units
    refine ⟨_, (pss_cons (ps_set (i := 1) scL.nd rfl (.inl rfl) (pe_call D.gB hr1 rfl D.mB D.B.kp D.bB .nil pass0 (pa_cons (pv 0) pa_nil)))
      (pss_cons (ps_for PassesOwn.never rfl (pi_range1 (by rfl) T.range (pa_cons pe_int pa_nil)) (pg_name (i := 2) scL.nd rfl (.inl rfl))
      (pss_cons (ps_set (i := 3) scL.nd rfl (.inl rfl) (pe_call D.gS hr2 rfl D.mS D.S.kp D.bS .nil pass0 (pa_cons (pv 1) (pa_cons (pe_lst (pa_cons (pe_call D.gSm hr7 rfl D.mSm D.Sm.kp D.bSm .nil pass0 (pa_cons (pv 1) pa_nil)) (pa_cons (pe_call D.gG hr rfl D.mG D.G.kp D.bG .nil pass0 (pa_cons (pv 1) pa_nil)) (pa_cons (pe_call D.gW hr7 rfl D.mW D.W.kp D.bW .nil pass0 (pa_cons (pv 1) pa_nil)) pa_nil)))) pa_nil))))
      (pss_cons (ps_par (i := 4) (j := 5) rfl scL.nd rfl rfl (by decide) rfl rfl (pa_cons (pe_callB (call_reprD hgd hun) (by rfl) T.repr (by decide +kernel) (pa_cons (pv 3) pa_nil)) (pa_cons (pe_cmpR op_eq (pe_call D.gT hr1 rfl D.mT D.T.kp D.bT .nil pass0 (pa_cons (pv 1) (pa_cons pe_int pa_nil))) pe_int (nomark _)) pa_nil)) (by rfl))
      (pss_cons (ps_set (i := 6) scL.nd rfl (.inr rfl) (pe_call D.gAm hr3 rfl D.mAm D.Am.kp D.bAm .nil pass0 (pa_cons (pv 1) (pa_cons (pv 3) (pa_cons (pv 5) pa_nil)))))
      (pss_cons (ps_asg (pe_tup (pa_cons (pe_callB (call_reprD hgd hun) (by rfl) T.repr (by decide +kernel) (pa_cons (pv 6) pa_nil)) (pa_cons (pe_callTy (call_dictP rfl) (by rfl) T.dict (by decide +kernel) (pa_cons (pe_lc (own := [("car", 9)]) (g := gName 9) (tt := tYes) (te := tTup (tCons (tOp (rIxT K) (tVar 9) (tC (V.int 0))) (tCons (tOp (rIxT K) (tVar 9) (tC (V.int 3))) tNil))) rfl scL.nd (pi_tup (pe_ix ix_tup (pv 3) pe_int (fun _ _ => rfl))) (blkOk_by (N := ["script", "bag", "turn", "yard", "text", "over", "amounts", "said", "needs", "car", "good", "name", "later", "near", "far", "one", "other", "rows", "again", "told"]) (sc := defScope sLaw) (by decide +kernel)) (fun _ _ _ _ _ => (pg_name (i := 9) scL.nd rfl (.inl rfl))) (fun _ _ _ _ _ => pts_nil)
        (fun _ _ _ _ _ => by exact (pe_tup (pa_cons (pe_ix ix_tup (pv 9) pe_int (fun _ _ => rfl)) (pa_cons (pe_ix ix_tup (pv 9) pe_int (fun _ _ => rfl)) pa_nil))))) pa_nil)) pa_nil))) (pg_tup (by rfl) (pgs_cons (pg_name (i := 7) scL.nd rfl (.inl rfl)) (pgs_cons (pg_name (i := 8) scL.nd rfl (.inr rfl)) pgs_nil))))
      (pss_cons (ps_set (i := 10) scL.nd rfl (.inl rfl) (pe_cmpR (op_eqD hr.units) (pe_lock (pe_lc (own := [("name", 11)]) (g := gName 11) (tt := tTest (tOp (rI0 fun i j => .bl (decide (j < i))) (tDGet (tVar 6) (tVar 11)) (tDGet (tVar 8) (tVar 11)))) rfl scL.nd (pi_keys (pv 6)) (blkOk_by (N := ["script", "bag", "turn", "yard", "text", "over", "amounts", "said", "needs", "car", "good", "name", "later", "near", "far", "one", "other", "rows", "again", "told"]) (sc := defScope sLaw) (by decide +kernel)) (fun _ _ _ _ _ => (pg_name (i := 11) scL.nd rfl (.inl rfl)))
        (fun _ _ _ _ _ => by exact pts_one (pt_cmpR op_gt (pe_dget hu (pv 6) (pv 11) (fun _ _ => rfl)) (pe_dget hu (pv 8) (pv 11) (fun _ _ => rfl)) (nomark _))) (fun _ _ _ _ _ => pv 11))) (pe_lst pa_nil) (nomark _)))
      (pss_cons (ps_if (PW.pt (pw_or (pt_not (pt_val (pe_callG D.gA hr1 hgd rfl D.mA D.A.kp D.bA (pa_cons (pe_call D.gFi hr2 rfl D.mFi D.Fi.kp D.bFi .nil pass0 (pa_cons (pv 3) (pa_cons (pv 6) pa_nil))) (pa_cons (pv 10) pa_nil))))) (pw_or1 (pt_not (pt_val (pe_callG D.gNR hr4 hgd rfl D.mNR D.NR.kp D.bNR (pa_cons (pv 1) (pa_cons (pv 3) pa_nil)))))))) (pss_one (ps_ret pe_bl)) pss_nil)
      (pss_cut (ps_if (pt_val (pv 10)) (pss_cons (ps_set (i := 12) scL.nd rfl (.inl rfl) (pe_call D.gLC hr1 rfl D.mLC D.LC.kp D.bLC .nil pass0 (pa_cons (pv 3) (pa_cons (pv 6) pa_nil))))
      (pss_cons (ps_if (pt_not (pt_val (pe_callG D.gA hr1 hgd rfl D.mA D.A.kp D.bA (pa_cons (pe_call D.gCh hr2 rfl D.mCh D.Ch.kp D.bCh .nil pass0 (pa_cons (pv 3) (pa_cons (pv 6) pa_nil))) (pa_cons (pv 12) pa_nil))))) (pss_one (ps_ret pe_bl)) pss_nil)
      (pss_cons (ps_par (i := 13) (j := 14) rfl scL.nd rfl rfl (by decide) rfl rfl (pa_cons (pe_call D.gNe hr3 rfl D.mNe D.Ne.kp D.bNe .nil pass0 (pa_cons (pv 1) (pa_cons (pv 12) pa_nil))) (pa_cons (pe_call D.gNe hr3 rfl D.mNe D.Ne.kp D.bNe .nil pass0 (pa_cons (pv 1) (pa_cons (pv 3) pa_nil))) pa_nil)) (by rfl))
      (pss_one (ps_for PassesOwn.never rfl (pi_tup (pe_tup (pa_cons (pe_tup (pa_cons (pv 3) (pa_cons (pv 12) pa_nil))) (pa_cons (pe_tup (pa_cons (pv 12) (pa_cons (pv 3) pa_nil))) (pa_cons (pe_tup (pa_cons (pv 3) (pa_cons (pv 13) pa_nil))) (pa_cons (pe_tup (pa_cons (pv 14) (pa_cons (pv 12) pa_nil))) pa_nil)))))) (pg_tup rfl (pgs_cons (pg_name (i := 15) scL.nd rfl (.inl rfl)) (pgs_cons (pg_name (i := 16) scL.nd rfl (.inl rfl)) pgs_nil))) (pss_one (ps_if (pt_not (pt_val (pe_callG D.gA hr1 hgd rfl D.mA D.A.kp D.bA (pa_cons (pe_call D.gAB hr2 rfl D.mAB D.AB.kp D.bAB .nil pass0 (pa_cons (pv 15) (pa_cons (pv 16) pa_nil))) (pa_cons (pe_call D.gLB hr1 rfl D.mLB D.LB.kp D.bLB .nil pass0 (pa_cons (pv 15) (pa_cons (pv 16) pa_nil))) pa_nil))))) (pss_one (ps_ret pe_bl)) pss_nil))))))) pss_nil)
      (pss_cons (ps_set (i := 17) scL.nd rfl (.inl rfl) (pe_lst (pa_cons (pv 6) (pa_cons (pe_call D.gAm hr3 rfl D.mAm D.Am.kp D.bAm .nil pass0 (pa_cons (pv 1) (pa_cons (pv 3) (pa_cons pe_bl pa_nil)))) (pa_cons pe_dnewK (pa_cons (pe_call D.gAm hr3 rfl D.mAm D.Am.kp D.bAm .nil pass0 (pa_cons (pv 1) (pa_cons (pv 3) (pa_cons pe_bl pa_nil)))) pa_nil))))))
      (pss_cons (ps_set (i := 17) scL.nd rfl (.inl rfl) (pe_slice sl_list (pv 17) po_none (po_some (pe_call D.gT hr1 rfl D.mT D.T.kp D.bT .nil pass0 (pa_cons (pv 1) (pa_cons pe_int pa_nil))))))
      (pss_cons (ps_for PassesOwn.never rfl (pi_range1 (by rfl) T.range (pa_cons pe_int pa_nil)) (pg_name (i := 18) scL.nd rfl (.inl rfl)) (pss_cons (ps_set (i := 19) scL.nd rfl (.inl rfl) (pe_call D.gJ hr1 rfl D.mJ D.J.kp D.bJ .nil pass0 (pa_cons (pe_ifExp (pt_cmpR op_eq (pv 18) pe_int (nomark _)) (pe_callTy call_tuple_of (by rfl) T.tuple (by decide +kernel) (pa_cons (pv 17) pa_nil)) (pv 17)) pa_nil)))
      (pss_cons (ps_if (pt_not (pt_val (pe_callG D.gA hr1 hgd rfl D.mA D.A.kp D.bA (pa_cons (pv 19) (pa_cons (pe_call D.gLJ hr1 rfl D.mLJ D.LJ.kp D.bLJ .nil pass0 (pa_cons (pv 17) pa_nil)) pa_nil))))) (pss_one (ps_ret pe_bl)) pss_nil)
      (pss_one (ps_dput hu (pv 19) pe_str pe_int rfl)))))
      (pss_one (ps_if (PW.pt (pw_or (pt_cmpR op_ne (pe_callB (call_reprD hgd hun) (by rfl) T.repr (by decide +kernel) (pa_cons (pv 6) pa_nil)) (pv 7) (nomark _)) (pw_or1 (pt_cmpR op_ne (pe_callB (call_reprD hgd hun) (by rfl) T.repr (by decide +kernel) (pa_cons (pv 3) pa_nil)) (pv 4) (nomark _))))) (pss_one (ps_ret pe_bl)) pss_nil)))))))))))))
      (pss_one (ps_ret pe_bl)))), ?_⟩
    refine ⟨_, rfl, a, ns, rfl, hS, hl, fun b H1 hB1 _ _ => ?_⟩
    refine ⟨5, rfl, by decide, by decide, for_range (n := 5) (fun i σ H' => ∃ v2 v3 v4 v5 v6 v7 v8 v9 v10 v11 v12 v13 v14 v15 v16 v17 v18 v19 : Option V, σ = [some (.ref a), some (.ref b), v2, v3, v4, v5, v6, v7, v8, v9, v10, v11, v12, v13, v14, v15, v16, v17, v18, v19] ∧ Bag H' b) ?_ ?_ ?_⟩
    · exact ⟨none, none, none, none, none, none, none, none, none, none, none, none, none, none, none, none, none, none, rfl, hB1⟩
    · clear hB1
      rintro i σ H0 hi ⟨v2, v3, v4, v5, v6, v7, v8, v9, v10, v11, v12, v13, v14, v15, v16, v17, v18, v19, rfl, hB⟩
      refine ⟨_, rfl, _, rfl, b, rfl, hB, fun y1 c1 r1 H1 Y1 V1 b1 s1 => ⟨_, rfl, b, rfl, b1, fun y2 c2 r2 H2 Y2 V2 b2 s2 => ⟨_, rfl, b, rfl, b2, fun y3 c3 r3 H3 Y3 V3 b3 s3 => ⟨by show 3 ≤ sizeLine; decide, fun q hq => ?_⟩⟩⟩⟩
      have b4 := b3.new (o := .lst [y1, y2, y3]) hq
      have s4 := (Sb.refl b H3).new (o := .lst [y1, y2, y3]) hq
      refine ⟨b, q, _, rfl, b4, sql_new upd_same (b3.ne hq), (fun z => nomatch z), by show 3 ≤ 1000000; decide, fun y H5 hy hB5 s5 => ?_⟩
      obtain ⟨cs, rs, hP, hV⟩ : ∃ (cs : List Cab) (rs : List Car), YardP cs rs ∧ YardV K (wo H5 b) y cs rs := by
        simp only [List.mem_cons, List.not_mem_nil, or_false] at hy
        rcases hy with rfl | rfl | rfl
        · exact ⟨c1, r1, Y1.plain (by decide), (((V1.more s2.1).more s3.1).more s4.1).more s5.1⟩
        · exact ⟨c2, r2, Y2.plain (Int.le_refl _), ((V2.more s3.1).more s4.1).more s5.1⟩
        · exact ⟨c3, r3, Y3.plain (Int.le_refl _), (V3.more s4.1).more s5.1⟩
      clear hy Y1 Y2 Y3 V1 V2 V3 s1 s2 s3 s4 s5 b1 b2 b3 b4 hB hq
      obtain ⟨ty, ya, yb, xs, zs, e, v1, _, v3, _, v5⟩ := id hV
      subst e
      have lz : zs.length = rs.length := paired_len v5
      have w1 : ∀ {G : Hp}, Sb b H5 G → SqT K G ty [.ref ya, .ref yb] := fun {G} s => sqt_more (wo_sub G b) (sqt_more s.1 v1)
      have w3 : ∀ {G : Hp}, Sb b H5 G → SqT K G yb zs := fun {G} s => sqt_more (wo_sub G b) (sqt_more s.1 v3)
      have w5 : ∀ {G : Hp}, Sb b H5 G → Paired (CarV K G) zs rs := fun {G} s => cars_wo (cars_more v5 s.1)
      clear v1 v3 v5
      have vw : ∀ {G : Hp}, Sb b H5 G → YardV K G (.ref ty) cs rs := fun {G} s => (hV.more s.1).more (wo_sub G b)
      have lr := hP.lr
      have nn := hP.names
      have fy := fit_yard hP
      have y1 := fy.1
      have y2 : (yardD cs rs).shown.length ≤ sizeLine := Nat.le_trans fy.2.1 (big_ok (n := 130000) (by decide))
      have y3 : (yardD cs rs).depth ≤ 60 := Nat.le_trans fy.2.2 (show 3 ≤ 60 by decide)
      clear fy
      have S5 := Sb.refl b H5
      refine ⟨_, rfl, .ref ty, yardD cs rs, rfl, dat_yard (vw S5), y1, y2, y3, ?_⟩
      refine ⟨_, rfl, b, 3, rfl, hB5, by decide, by decide, fun v H6 _ _ B6 S6 => ?_⟩
      refine ⟨rfl, _, _, rfl, ?_⟩
      -- amounts
      refine ⟨_, rfl, _, rfl, _, rfl, b, .ref ty, _, cs, rs, rfl, B6, hV.more S6.1, hP, fun am l H7 hA ea fa na B7 s7' => ?_⟩
      have S7 := S6.trans s7'
      clear s7' fa
      have lle : l.length ≤ 24 := Nat.le_trans hA.len lr
      have fm := hA.fit hP
      have m1 := fm.1
      have m2 : (dicD l).shown.length ≤ sizeLine := Nat.le_trans fm.2.1 (big_ok (n := 20000) (by decide))
      have m3 : (dicD l).depth ≤ 60 := Nat.le_trans fm.2.2 (show 1 ≤ 60 by decide)
      clear fm
      refine ⟨_, rfl, .ref am, dicD l, rfl, dat_dict ea, m1, m2, m3, ?_⟩
      -- needs
      refine ⟨_, rfl, ty, _, 1, .ref yb, rfl, rfl, w1 S7, at1, yb, rfl, ⟨_, w3 S7⟩, fun D1' hD => ?_⟩
      refine lc_tup (K := K) (a := yb) (xs := zs) (fun j H'' => ∃ ts : List Addr, H'' D1' = some (.lst (ts.map V.ref)) ∧ Paired (fun t (r : Car) => H'' t = some (.tup [.str r.1, .int r.2.2.2])) ts (rs.take j) ∧ Same H7 H'') ?_ ?_ ?_ ?_
      · exact ⟨[], upd_same, by rw [List.take_zero]; exact .nil, same_new (Same.refl H7) hD⟩
      · rintro j H'' _ ⟨_, _, _, sm⟩
        exact sqt_more sm (w3 S7)
      · rintro j u H'' hu ⟨ts, q1, q2, q3⟩
        obtain ⟨c, hc, t', rfl, hq⟩ := paired_at (w5 S7) hu
        have hj' : j < rs.length := (List.getElem?_eq_some_iff.mp hc).1
        refine ⟨rfl, _, rfl, t', _, 0, _, rfl, rfl, sqt_more q3 hq, at0, _, rfl, t', _, 3, _, rfl, rfl, sqt_more q3 hq, at3, by show 2 ≤ sizeLine; decide, fun t ht => ?_⟩
        have nt : t ≠ D1' := fun z => by rw [z, q1] at ht; cases ht
        have tl : ts.length ≤ 24 := by
          rw [paired_len q2, List.length_take]
          omega
        refine ⟨ts.map V.ref, s3u ht q1, by rw [List.length_map]; exact small1000 (by omega), ts ++ [t], by rw [upd_same, List.map_append]; rfl, ?_, same_put (same_new q3 ht) hD⟩
        rw [List.take_succ, hc]
        refine paired_snoc (by rw [upd_ne nt, upd_same]) (paired_imp (fun t0 r h => ?_) q2)
        have n0 : t0 ≠ D1' := fun z => by rw [z, q1] at h; cases h
        rw [upd_ne n0]
        exact s3u ht h
      rintro H8 ⟨ts, q1, q2, m8⟩
      rw [lz, List.take_length] at q2
      have ndk : ((rs.map nd).map (·.1)).Nodup := by rw [List.map_map]; exact nn
      refine ⟨D1', ts, kvI (rs.map nd), rfl, SqL.of q1, paired_dict (paired_imp (fun t r h => SqT.of h) q2), fun ne hne => ?_⟩
      rw [kvI_made ndk]
      have m9 := same_new (o := .dK (kvI (rs.map nd))) m8 hne
      have e9 : upd H8 ne (.dK (kvI (rs.map nd))) ne = some (.dK (kvI (rs.map nd))) := upd_same
      have nneb : ne ≠ b := (B7.keep m8).ne hne
      have nne : ne ≠ am := fun z => by rw [z, m8 _ _ ea] at hne; cases hne
      generalize upd H8 ne (.dK (kvI (rs.map nd))) = H9 at m9 e9 ⊢
      clear q1 q2 m8 hD hne
      refine ⟨by show 2 ≤ sizeLine; decide, fun t ht => ⟨t, _, rfl, SqT.of upd_same, rfl, _, _, rfl, _, _, rfl, rfl, ?_⟩⟩
      have m10 := same_new (o := .tup [.str (dicD l).shown, .ref ne]) m9 ht
      have n10 : upd H9 t (.tup [.str (dicD l).shown, .ref ne]) ne = some (.dK (kvI (rs.map nd))) := s3u ht e9
      generalize upd H9 t (.tup [.str (dicD l).shown, .ref ne]) = H10 at m10 n10 ⊢
      have a10 := m10 _ _ ea
      have B10 := B7.keep m10
      have S10 := S7.same m10
      clear ht m9 e9 m10
      -- good
      refine ⟨am, _, a10, trivial, fun od => ⟨_, rfl, am, od, rfl, .inl ⟨kvI l, upd_same, fun D hD => ?_⟩⟩⟩
      have nD : D ≠ am := fun z => by rw [z, upd_same] at hD; cases hD
      have c1 : lk H10 am od l am = some (.frz od (.dK (kvI l))) := upd_same
      have c2 : lk H10 am od l ne = some (.dK (kvI (rs.map nd))) := lk_ne nne n10
      refine lc_it (walk_keys (d := am) (o := od) (kvs := kvI l)) (fun i H' => H' D = some (.lst (txs (((l.take i).filter fun p => decide (nv rs p.1 < p.2)).map (·.1)))) ∧ Same (lk H10 am od l) H') ?_ ?_ ?_ ?_
      · exact ⟨by rw [List.take_zero, upd_same]; rfl, same_new (Same.refl _) hD⟩
      · rintro i H' _ ⟨_, m⟩
        exact m _ _ c1
      · rintro i x H' H'' hi ⟨q1, q2⟩ ⟨rfl, k', v', ek, rfl⟩
        obtain ⟨p, hp, er, _⟩ := kvI_at (l := l) hi (x := kV k') (z := v') (by rw [ek]; rfl) (by rw [ek]; rfl)
        rw [er]
        have gd := get_lookF (x := p.1) (q2 _ _ c1)
        rw [look_mem hA.nd (x := p.1) (v := p.2) (List.mem_of_getElem? hp)] at gd
        have mr := hA.sub _ (List.mem_map.mpr ⟨p, List.mem_of_getElem? hp, rfl⟩)
        refine ⟨rfl, _, rfl, _, rfl, am, _, rfl, gd, _, rfl, _, rfl, ne, _, rfl, need_get nn (q2 _ _ c2) mr, _, _, rfl, rfl, _, rfl, ?_⟩
        refine ite2 (fun c => ?_) (fun c => ?_)
        · have c' : nv rs p.1 < p.2 := of_decide_eq_true c
          refine ⟨_, rfl, _, q1, ?_, ?_, same_put q2 hD⟩
          · unfold txs
            rw [List.length_map, List.length_map]
            have := List.length_filter_le (fun p : Str × Int => decide (nv rs p.1 < p.2)) (l.take i)
            rw [List.length_take] at this
            exact small1000 (by omega)
          · rw [upd_same, List.take_succ, hp]
            unfold txs
            simp [c']
        · have c' : ¬ nv rs p.1 < p.2 := fun z => c (decide_eq_true z)
          refine ⟨?_, q2⟩
          rw [q1, List.take_succ, hp]
          simp [c']
      rintro H11 ⟨q1, q2⟩
      rw [show (kvI l).length = l.length from List.length_map _, List.take_length] at q1
      refine ⟨q2 _ _ c1, ?_⟩
      have m12 := unlk a10 q2
      have g12 := unlk_at (l := l) nD q1
      generalize upd H11 am (.dK (kvI l)) = H12 at m12 g12 ⊢
      refine ⟨by show 0 ≤ sizeLine; decide, fun q hq => ⟨.list (((l.filter fun p => decide (nv rs p.1 < p.2)).map (·.1)).map PyData.str), .list [], .lst (SqL.of (s3u hq g12)) (dp_strs _), .lst (SqL.of upd_same) .nil, shaped_strs (fun x hx => ?_), by decide +kernel, ?_⟩⟩
      · obtain ⟨p, hp, rfl⟩ := List.mem_map.mp hx
        obtain ⟨r, hr', e⟩ := List.mem_map.mp (hA.sub _ (List.mem_map.mpr ⟨p, (List.mem_filter.mp hp).1, rfl⟩))
        exact .inl (by rw [← e]; exact (hP.car r hr').1)
      rw [good_eq]
      have m13 := same_new (o := .lst []) m12 hq
      generalize upd H12 q (.lst []) = H13 at m13 ⊢
      have a13 := m13 _ _ a10
      have B13 := B10.keep m13
      have S13 := S10.same m13
      clear g12 m12 hq q1 q2 c1 c2 nD m13 n10 a10 B10 S10
      have sub1 : ∀ p ∈ l, p.1 ∈ rs.map (·.1) := fun p hp => hA.sub _ (List.mem_map.mpr ⟨p, hp, rfl⟩)
      -- fits
      refine ⟨_, rfl, _, rfl, .ref ty, am, cs, rs, l, rfl, vw S13, a13, nn, by omega, by omega, sub1, fun H14 m14 => ⟨_, rfl, ?_⟩⟩
      refine ⟨.bl (okAll rs l), .bl (okAll rs l), .bool (okAll rs l), rfl, .inl ⟨rfl, .inr (.inr (.inr ⟨_, rfl⟩))⟩, .bl _, .bl _, ?_⟩
      obtain ⟨z1, z2, z3⟩ := bool_fit (okAll rs l)
      refine ⟨z1, z2, z3, ?_⟩
      refine ⟨_, rfl, ?_⟩
      refine ite2 (fun h => by cases h) (fun _ => ?_)
      have B14 := B13.keep m14
      have S14 := S13.same m14
      have a14 := m14 _ _ a13
      refine ⟨_, rfl, _, rfl, b, .ref ty, cs, rs, rfl, B14, hV.more S14.1, hP, fun H15 B15 s15 => ⟨_, rfl, ?_⟩⟩
      refine ite2 (fun h => by cases h) (fun _ => ?_)
      have S15 := S14.trans s15
      have a15 := s15.get a14 na
      clear z1 z2 z3 m14 B13 S13 a13 B14 S14 a14 s15
      -- if good
      refine ⟨fun σ H' => ∃ w12 w13 w14 w15 w16 : Option V, σ = [some (.ref a), some (.ref b), some (.int (0 + (i : Int))), some (.ref ty), some (.str (yardD cs rs).shown), some (.bl (decide (V.int v = V.int 0))), some (.ref am), some (.str (dicD l).shown), some (.ref ne), v9, some (.bl (okAll rs l)), v11, w12, w13, w14, w15, w16, v17, v18, v19] ∧ H' am = some (.dK (kvI l)) ∧ Bag H' b ∧ Sb b H5 H', ?_, ?_⟩
      · refine ⟨_, rfl, _, rfl, ?_⟩
        refine ite2 (fun g => ?_) (fun _ => ⟨v12, v13, v14, v15, v16, rfl, a15, B15, S15⟩)
        have hPl := hP.lchg hA g
        refine ⟨_, rfl, _, rfl, .ref ty, am, cs, rs, l, rfl, vw S15, a15, by omega, fun la H16 VL fl mL => ?_⟩
        have S16 := S15.same mL
        have a16 := mL _ _ a15
        refine ⟨_, rfl, _, rfl, .ref ty, am, cs, rs, l, rfl, vw S16, a16, nn, by omega, by omega, hA.nd, sub1, fun ch H17 VC fc mC => ⟨_, rfl, ?_⟩⟩
        rw [chg_less nn] at VC
        have VL' := VL.more mC
        have fl := fit_yard hPl
        have p1 := fl.1
        have p2 : (yardD cs (rs.map (lchg l))).shown.length ≤ sizeLine := Nat.le_trans fl.2.1 (big_ok (n := 130000) (by decide))
        have p3 : (yardD cs (rs.map (lchg l))).depth ≤ 60 := Nat.le_trans fl.2.2 (show 3 ≤ 60 by decide)
        refine ⟨.ref ch, .ref la, yardD cs (rs.map (lchg l)), rfl, .inr ⟨4, by decide, eqs_yard VC VL'⟩, dat_yard VC, dat_yard VL', p1, p2, p3, ?_⟩
        refine ⟨_, rfl, ?_⟩
        refine ite2 (fun h => by cases h) (fun _ => ?_)
        have B17 := (B15.keep mL).keep mC
        have S17 := S16.same mC
        have a17 := mC _ _ a16
        clear p1 p2 p3 fl VC fc mC mL S16 a16
        -- near, far
        refine ⟨_, rfl, _, rfl, b, .ref la, cs, rs.map (lchg l), rfl, B17, yard_wo VL' B17, hPl, fun nr csn rsn H18 Pn Vn B18 s18 => ?_⟩
        have S18 := S17.trans s18
        refine ⟨_, rfl, _, rfl, b, .ref ty, cs, rs, rfl, B18, hV.more S18.1, hP, fun fr csf rsf H19 Pf Vf B19 s19 => ?_⟩
        have S19 := S18.trans s19
        have VL19 : YardV K H19 (.ref la) cs (rs.map (lchg l)) := (((yard_wo VL' B17).more s18.1).more s19.1).more (wo_sub H19 b)
        have Vn19 : YardV K H19 nr csn rsn := (Vn.more s19.1).more (wo_sub H19 b)
        have Vf19 : YardV K H19 fr csf rsf := Vf.more (wo_sub H19 b)
        have Vy19 := vw S19
        have a19 := s19.get (s18.get a17 na) na
        refine ⟨_, _, rfl, ?_⟩
        clear Vn Vf VL' VL s18 s19 S18 S17 a17 B17 B18
        refine ⟨_, rfl, _, rfl, by show 2 ≤ sizeLine; decide, fun t1 ht1 => ⟨_, rfl, _, rfl, by show 2 ≤ sizeLine; decide, fun t2 ht2 => ⟨_, rfl, _, rfl, by show 2 ≤ sizeLine; decide, fun t3 ht3 => ⟨_, rfl, _, rfl, by show 2 ≤ sizeLine; decide, fun t4 ht4 => ⟨by show 4 ≤ sizeLine; decide, fun to hto => ⟨to, rfl, ⟨_, SqT.of upd_same⟩, ?_⟩⟩⟩⟩⟩⟩
        have g1 : (upd H19 t1 (.tup [.ref ty, .ref la])) t1 = some (.tup [.ref ty, .ref la]) := upd_same
        have g1 := s3u (o := .tup [.ref la, .ref ty]) ht2 g1
        have g2 : (upd (upd H19 t1 (.tup [.ref ty, .ref la])) t2 (.tup [.ref la, .ref ty])) t2 = some (.tup [.ref la, .ref ty]) := upd_same
        have g1 := s3u (o := .tup [.ref ty, nr]) ht3 g1
        have g2 := s3u (o := .tup [.ref ty, nr]) ht3 g2
        have g3 : (upd (upd (upd H19 t1 (.tup [.ref ty, .ref la])) t2 (.tup [.ref la, .ref ty])) t3 (.tup [.ref ty, nr])) t3 = some (.tup [.ref ty, nr]) := upd_same
        have g1 := s3u (o := .tup [fr, .ref la]) ht4 g1
        have g2 := s3u (o := .tup [fr, .ref la]) ht4 g2
        have g3 := s3u (o := .tup [fr, .ref la]) ht4 g3
        have g4 : (upd (upd (upd (upd H19 t1 (.tup [.ref ty, .ref la])) t2 (.tup [.ref la, .ref ty])) t3 (.tup [.ref ty, nr])) t4 (.tup [fr, .ref la])) t4 = some (.tup [fr, .ref la]) := upd_same
        have g1 := s3u (o := .tup [.ref t1, .ref t2, .ref t3, .ref t4]) hto g1
        have g2 := s3u (o := .tup [.ref t1, .ref t2, .ref t3, .ref t4]) hto g2
        have g3 := s3u (o := .tup [.ref t1, .ref t2, .ref t3, .ref t4]) hto g3
        have g4 := s3u (o := .tup [.ref t1, .ref t2, .ref t3, .ref t4]) hto g4
        have go : upd (upd (upd (upd (upd H19 t1 (.tup [.ref ty, .ref la])) t2 (.tup [.ref la, .ref ty])) t3 (.tup [.ref ty, nr])) t4 (.tup [fr, .ref la])) to (.tup [.ref t1, .ref t2, .ref t3, .ref t4]) to = some (.tup [.ref t1, .ref t2, .ref t3, .ref t4]) := upd_same
        have mo := same_new (o := .tup [.ref t1, .ref t2, .ref t3, .ref t4]) (same_new (o := .tup [fr, .ref la]) (same_new (o := .tup [.ref ty, nr]) (same_new (o := .tup [.ref la, .ref ty]) (same_new (o := .tup [.ref ty, .ref la]) (Same.refl H19) ht1) ht2) ht3) ht4) hto
        generalize upd (upd (upd (upd (upd H19 t1 (.tup [.ref ty, .ref la])) t2 (.tup [.ref la, .ref ty])) t3 (.tup [.ref ty, nr])) t4 (.tup [fr, .ref la])) to (.tup [.ref t1, .ref t2, .ref t3, .ref t4]) = H20 at g1 g2 g3 g4 go mo ⊢
        clear ht1 ht2 ht3 ht4 hto
        have B20 := B19.keep mo
        have S20 := S19.same mo
        have a20 := mo _ _ a19
        have pairs : ∀ x ∈ [V.ref t1, V.ref t2, V.ref t3, V.ref t4], ∃ (t : Addr) (u v : V) (cs1 cs2 : List Cab) (rs1 rs2 : List Car), x = .ref t ∧ H20 t = some (.tup [u, v]) ∧ YardV K H20 u cs1 rs1 ∧ YardV K H20 v cs2 rs2 ∧ YardP cs1 rs1 ∧ YardP cs2 rs2 := fun x hx => by
          simp only [List.mem_cons, List.not_mem_nil, or_false] at hx
          rcases hx with rfl | rfl | rfl | rfl
          · exact ⟨t1, _, _, _, _, _, _, rfl, g1, Vy19.more mo, VL19.more mo, hP, hPl⟩
          · exact ⟨t2, _, _, _, _, _, _, rfl, g2, VL19.more mo, Vy19.more mo, hPl, hP⟩
          · exact ⟨t3, _, _, _, _, _, _, rfl, g3, Vy19.more mo, Vn19.more mo, hP, Pn⟩
          · exact ⟨t4, _, _, _, _, _, _, rfl, g4, Vf19.more mo, VL19.more mo, Pf, hPl⟩
        clear g1 g2 g3 g4 mo Vy19 VL19 Vn19 Vf19 B19 S19 a19
        refine for_tup (K := K) (a := to) (xs := [.ref t1, .ref t2, .ref t3, .ref t4]) (fun j σ H' => ∃ w15 w16 : Option V, σ = [some (.ref a), some (.ref b), some (.int (0 + (i : Int))), some (.ref ty), some (.str (yardD cs rs).shown), some (.bl (decide (V.int v = V.int 0))), some (.ref am), some (.str (dicD l).shown), some (.ref ne), v9, some (.bl (okAll rs l)), v11, some (.ref la), some nr, some fr, w15, w16, v17, v18, v19] ∧ Same H20 H') ?_ ?_ ?_ ?_
        · exact ⟨v15, v16, rfl, Same.refl H20⟩
        · rintro j σ H' _ ⟨_, _, _, m⟩
          exact SqT.of (m _ _ go)
        · rintro j x σ H' hx ⟨w15, w16, rfl, m⟩
          obtain ⟨t, u, v', cs1, cs2, rs1, rs2, rfl, et, Vu, Vv, P1, P2⟩ := pairs x (List.mem_of_getElem? hx)
          refine ⟨t, _, rfl, SqT.of (m _ _ et), rfl, _, _, rfl, _, _, rfl, rfl, ?_⟩
          have L1 := P1.lays
          have L2 := P2.lays
          have k1 := P1.lr
          have k2 := P2.lr
          have fin : ∀ H'', Same H' H'' → ∃ w15' w16' : Option V, [some (.ref a), some (.ref b), some (.int (0 + (i : Int))), some (.ref ty), some (.str (yardD cs rs).shown), some (.bl (decide (V.int v = V.int 0))), some (.ref am), some (.str (dicD l).shown), some (.ref ne), v9, some (.bl (okAll rs l)), v11, some (.ref la), some nr, some fr, some u, some v', v17, v18, v19] = [some (.ref a), some (.ref b), some (.int (0 + (i : Int))), some (.ref ty), some (.str (yardD cs rs).shown), some (.bl (decide (V.int v = V.int 0))), some (.ref am), some (.str (dicD l).shown), some (.ref ne), v9, some (.bl (okAll rs l)), v11, some (.ref la), some nr, some fr, w15', w16', v17, v18, v19] ∧ Same H20 H'' := fun H'' m' => ⟨_, _, rfl, m.trans m'⟩
          refine ⟨_, rfl, _, rfl, u, v', cs1, cs2, rs1, rs2, rfl, Vu.more m, Vv.more m, L1, L2, P1.names, P2.names, by omega, by omega, fun hn H2 m2 => ?_, fun lb hb p2 H2 e2 f2 m2 => ?_⟩
          · refine ⟨_, rfl, _, rfl, u, v', cs1, cs2, rs1, rs2, rfl, (Vu.more m).more m2, (Vv.more m).more m2, L1, L2, P1.names, P2.names, by omega, by omega, fun _ H3 m3 => ?_, fun lb hb => ?_⟩
            · refine ⟨.non, .non, .none, rfl, .inl ⟨rfl, .inr (.inr (.inl rfl))⟩, .non, .non, by decide +kernel, by decide +kernel, by decide +kernel, ?_⟩
              refine ⟨_, rfl, ?_⟩
              refine ite2 (fun h => by cases h) (fun _ => ?_)
              exact fin _ (m2.trans m3)
            · rw [hn] at hb
              cases hb
          · refine ⟨_, rfl, _, rfl, u, v', cs1, cs2, rs1, rs2, rfl, (Vu.more m).more m2, (Vv.more m).more m2, L1, L2, P1.names, P2.names, by omega, by omega, fun hn => ?_, fun lb' hb' p3 H3 e3 f3 m3 => ?_⟩
            · rw [hn] at hb
              cases hb
            · rw [hb] at hb'
              cases hb'
              obtain ⟨nb, fb⟩ := btw_fit P1 P2 hb
              have b1 := fb.1
              have b2 : (dicD lb).shown.length ≤ sizeLine := Nat.le_trans fb.2.1 (big_ok (n := 20000) (by decide))
              have b3 : (dicD lb).depth ≤ 60 := Nat.le_trans fb.2.2 (show 1 ≤ 60 by decide)
              refine ⟨.ref p2, .ref p3, dicD lb, rfl, .inr ⟨1, by decide, eqs_dict nb (m3 _ _ e2) e3⟩, dat_dict (m3 _ _ e2), dat_dict e3, b1, b2, b3, ?_⟩
              refine ⟨_, rfl, ?_⟩
              refine ite2 (fun h => by cases h) (fun _ => ?_)
              exact fin _ (m2.trans m3)
        rintro σ H' ⟨w15, w16, rfl, m⟩
        exact ⟨_, _, _, w15, w16, rfl, m _ _ a20, B20.keep m, S20.same m⟩
      rintro σ H16 ⟨w12, w13, w14, w15, w16, rfl, a16, B16, S16⟩
      clear S15 a15 B15
      -- rows
      refine ⟨_, rfl, _, rfl, _, rfl, b, .ref ty, _, cs, rs, rfl, B16, hV.more S16.1, hP, fun am2 l2 H17 A2 e2 f2 n2 B17 s17 => ?_⟩
      have S17 := S16.trans s17
      have a17 := s17.get a16 na
      refine fun z hz => ?_
      have B18 := B17.new (o := .dK []) hz
      have S18 := S17.new (o := .dK []) hz
      have a18 := s3u (o := .dK []) hz a17
      have e18 := s3u (o := .dK []) hz e2
      have z18 : upd H17 z (.dK []) z = some (.dK []) := upd_same
      have nz := B17.ne hz
      generalize upd H17 z (.dK []) = H18 at B18 S18 a18 e18 z18 ⊢
      refine ⟨_, rfl, _, rfl, b, .ref ty, _, cs, rs, rfl, B18, hV.more S18.1, hP, fun am4 l4 H19 A4 e4 f4 n4 B19 s19 => ?_⟩
      have S19 := S18.trans s19
      have a19 := s19.get a18 na
      have e19 := s19.get e18 n2
      have z19 := s19.get z18 nz
      refine ⟨by show 4 ≤ sizeLine; decide, fun rw1 hrw => ?_⟩
      have B20 := B19.new (o := .lst [.ref am, .ref am2, .ref z, .ref am4]) hrw
      have S20 := S19.new (o := .lst [.ref am, .ref am2, .ref z, .ref am4]) hrw
      have nrw := B19.ne hrw
      have a20 := s3u (o := .lst [.ref am, .ref am2, .ref z, .ref am4]) hrw a19
      have e20 := s3u (o := .lst [.ref am, .ref am2, .ref z, .ref am4]) hrw e19
      have z20 := s3u (o := .lst [.ref am, .ref am2, .ref z, .ref am4]) hrw z19
      have f20 := s3u (o := .lst [.ref am, .ref am2, .ref z, .ref am4]) hrw e4
      have r20 : upd H19 rw1 (.lst [.ref am, .ref am2, .ref z, .ref am4]) rw1 = some (.lst [.ref am, .ref am2, .ref z, .ref am4]) := upd_same
      generalize upd H19 rw1 (.lst [.ref am, .ref am2, .ref z, .ref am4]) = H20 at B20 S20 a20 e20 z20 f20 r20 ⊢
      clear B17 B18 B19 S17 S18 S19 a16 a17 a18 a19 e2 e18 e19 z18 z19 e4 hz hrw s17 s19 f2 f4
      refine ⟨_, rfl, _, rfl, b, 5, rfl, B20, by decide, by decide, fun vt H21 vt0 vt5 B21 s21 => ?_⟩
      obtain ⟨m, rfl⟩ : ∃ m : Nat, vt = m := ⟨vt.toNat, by omega⟩
      refine ⟨_, rfl, rw1, _, rfl, SqL.of (s21.get r20 nrw), fun rl hrl => ?_⟩
      rw [cut_upto]
      have er : ([.ref am, .ref am2, .ref z, .ref am4] : List V).take m = (([am, am2, z, am4] : List Addr).take m).map V.ref := by rw [List.map_take]; rfl
      rw [er]
      have pr : Paired (fun d (l' : List (Str × Int)) => H21 d = some (.dK (kvI l'))) [am, am2, z, am4] [l, l2, [], l4] := .cons (s21.get a20 na) (.cons (s21.get e20 n2) (.cons (s21.get z20 nz) (.cons (s21.get f20 n4) .nil)))
      have pr' := paired_take pr m
      have allA : ∀ l' ∈ [l, l2, [], l4], AmP rs l' := fun l' h => by
        simp only [List.mem_cons, List.not_mem_nil, or_false] at h
        rcases h with rfl | rfl | rfl | rfl
        · exact hA
        · exact A2
        · exact .nil rs
        · exact A4
      have allT : ∀ l' ∈ [l, l2, [], l4].take m, AmP rs l' := fun l' h => allA l' (List.mem_of_mem_take h)
      have ll4 : ([l, l2, [], l4].take m).length ≤ 4 := by
        rw [List.length_take]
        exact Nat.min_le_right _ _
      have a21 := s21.get a20 na
      have S21 := S20.trans s21
      clear pr er r20 f20 z20 e20 allA a20 S20 s21 B20
      generalize [l, l2, [], l4].take m = ls at pr' allT ll4
      generalize [am, am2, z, am4].take m = ds at pr' hrl ⊢
      have ld := paired_len pr'
      have B22 := B21.new (o := .lst (ds.map V.ref)) hrl
      have S22 := S21.new (o := .lst (ds.map V.ref)) hrl
      have a22 := s3u (o := .lst (ds.map V.ref)) hrl a21
      have pr22 : Paired (fun d (l' : List (Str × Int)) => upd H21 rl (.lst (ds.map V.ref)) d = some (.dK (kvI l'))) ds ls := paired_imp (fun d l' h => s3u hrl h) pr'
      have r22 : upd H21 rl (.lst (ds.map V.ref)) rl = some (.lst (ds.map V.ref)) := upd_same
      generalize upd H21 rl (.lst (ds.map V.ref)) = H22 at B22 S22 a22 pr22 r22 ⊢
      clear pr' hrl S21 a21 B21
      have subT : ∀ l' ∈ ls, ∀ p ∈ l', p.1 ∈ rs.map (·.1) := fun l' h p hp => (allT l' h).sub _ (List.mem_map.mpr ⟨p, hp, rfl⟩)
      have ndT : ∀ l' ∈ ls, (l'.map (·.1)).Nodup := fun l' h => (allT l' h).nd
      refine ⟨2, rfl, by decide, by decide, for_range (n := 2) (fun i' σ H' => ∃ w18 w19 : Option V, σ = [some (.ref a), some (.ref b), some (.int (0 + (i : Int))), some (.ref ty), some (.str (yardD cs rs).shown), some (.bl (decide (V.int v = V.int 0))), some (.ref am), some (.str (dicD l).shown), some (.ref ne), v9, some (.bl (okAll rs l)), v11, w12, w13, w14, w15, w16, some (.ref rl), w18, w19] ∧ Same H22 H') ?_ ?_ ?_⟩
      · exact ⟨v18, v19, rfl, Same.refl H22⟩
      · rintro i' σ H' _ ⟨w18, w19, rfl, mm⟩
        refine ⟨_, rfl, rfl, _, rfl, ?_⟩
        refine ite2 (fun _ => ?_) (fun _ => ?_)
        · refine ⟨_, rfl, rl, _, rfl, .inl ⟨SqL.of (mm _ _ r22), fun p hp => ?_⟩⟩
          have mq := same_new (o := .tup (ds.map V.ref)) mm hp
          refine ⟨p, ds, ls, rs.map (·.1), rfl, .inr (SqT.of upd_same), paired_imp (fun d l' h => mq _ _ h) pr22, by rw [List.length_map]; omega, subT, fun ys p2 H2 srt pm e2 f2 m2 => ?_⟩
          refine ⟨_, rfl, _, rfl, rl, ds, ls, rs.map (·.1), rfl, SqL.of (m2 _ _ (mq _ _ r22)), paired_imp (fun d l' h => m2 _ _ (mq _ _ h)) pr22, by rw [List.length_map]; omega, subT, ndT, fun ys' p3 H3 srt' pm' e3 f3 m3 => ?_⟩
          have ey : ys' = ys := sorted_one srt' srt (pm'.trans pm.symm)
          subst ey
          obtain ⟨j1, j2, j3⟩ := joined_fit hP ll4 allT pm
          have g1 := j2.1
          have g2 : (dicD (byName (jall ls) ys')).shown.length ≤ sizeLine := Nat.le_trans j2.2.1 (big_ok (n := 20000) (by decide))
          have g3 : (dicD (byName (jall ls) ys')).depth ≤ 60 := Nat.le_trans j2.2.2 (show 1 ≤ 60 by decide)
          have q2 := m3 _ _ e2
          refine ⟨.ref p2, .ref p3, dicD (byName (jall ls) ys'), rfl, .inr ⟨1, by decide, eqs_dict j1 q2 e3⟩, dat_dict q2, dat_dict e3, g1, g2, g3, ?_⟩
          refine ⟨_, rfl, ?_⟩
          refine ite2 (fun h => by cases h) (fun _ => ?_)
          have n22 : H22 p2 = none := fr_none mq f2
          refine ⟨_, rfl, p2, _, rfl, DPut.k (k := Sum.inr "zz") q2 ?_, _, _, rfl, same_put ((mq.trans m2).trans m3) n22⟩
          unfold kvI byName
          rw [List.length_map, List.length_map]
          exact small1000 (by omega)
        · refine ⟨_, rfl, rl, ds, ls, rs.map (·.1), rfl, .inl (SqL.of (mm _ _ r22)), paired_imp (fun d l' h => mm _ _ h) pr22, by rw [List.length_map]; omega, subT, fun ys p2 H2 srt pm e2 f2 m2 => ?_⟩
          refine ⟨_, rfl, _, rfl, rl, ds, ls, rs.map (·.1), rfl, SqL.of (m2 _ _ (mm _ _ r22)), paired_imp (fun d l' h => m2 _ _ (mm _ _ h)) pr22, by rw [List.length_map]; omega, subT, ndT, fun ys' p3 H3 srt' pm' e3 f3 m3 => ?_⟩
          have ey : ys' = ys := sorted_one srt' srt (pm'.trans pm.symm)
          subst ey
          obtain ⟨j1, j2, j3⟩ := joined_fit hP ll4 allT pm
          have g1 := j2.1
          have g2 : (dicD (byName (jall ls) ys')).shown.length ≤ sizeLine := Nat.le_trans j2.2.1 (big_ok (n := 20000) (by decide))
          have g3 : (dicD (byName (jall ls) ys')).depth ≤ 60 := Nat.le_trans j2.2.2 (show 1 ≤ 60 by decide)
          have q2 := m3 _ _ e2
          refine ⟨.ref p2, .ref p3, dicD (byName (jall ls) ys'), rfl, .inr ⟨1, by decide, eqs_dict j1 q2 e3⟩, dat_dict q2, dat_dict e3, g1, g2, g3, ?_⟩
          refine ⟨_, rfl, ?_⟩
          refine ite2 (fun h => by cases h) (fun _ => ?_)
          have n22 : H22 p2 = none := fr_none mm f2
          refine ⟨_, rfl, p2, _, rfl, DPut.k (k := Sum.inr "zz") q2 ?_, _, _, rfl, same_put ((mm.trans m2).trans m3) n22⟩
          unfold kvI byName
          rw [List.length_map, List.length_map]
          exact small1000 (by omega)
      rintro σ H' ⟨w18, w19, rfl, mm⟩
      have S23 := S22.same mm
      refine ⟨_, rfl, .ref am, dicD l, rfl, dat_dict (mm _ _ a22), m1, m2, m3, ?_⟩
      refine ⟨_, rfl, rfl, _, rfl, ?_⟩
      refine ite2 (fun h => by simp at h) (fun _ => ?_)
      refine ⟨_, rfl, .ref ty, yardD cs rs, rfl, dat_yard (vw S23), y1, y2, y3, ?_⟩
      refine ⟨_, rfl, rfl, _, rfl, ?_⟩
      refine ite2 (fun h => by simp at h) (fun _ => ?_)
      exact ⟨_, _, _, _, _, _, _, _, _, _, _, _, _, _, _, _, _, _, rfl, B22.keep mm⟩
    · rintro σ H' ⟨v2, v3, v4, v5, v6, v7, v8, v9, v10, v11, v12, v13, v14, v15, v16, v17, v18, v19, rfl, _⟩
      exact k H'
end
end Y

namespace Y
open PySem PySem.Spec PyProof.Rows L2 Ns
/-- the def's data -/
def fdOf {K : PySem.W.Frag} {x q : Str} {st : Stmt} {f : Addr} {fd : FuncData} (_ : Fun K x q st f fd) : FuncData := fd
set_option maxHeartbeats 4000000 in
theorem all_mk {l : PySem.W.OpenLaw} {w : World} {K : PySem.W.Frag} {h : Heap} {mg : Str → Option Value} {fa : Addr} (X : K.In h) (G : h.Ns mainGlobals mg) (hfa : mg "law" = some (.ref fa))
    {fNs fWN fFi fCh fAB fJ fB fT fS fM fA fN fNN fZ fC fR fY fSm fW fG fAC fLC fAL fTK fAm fLB fNe fLJ fNR fL : Addr}
    {oddNs andNs : Option Addr} {sldNs : Array (Option Value)} {ocdNs kVdNs dcdNs pmdNs cddNs ctdNs : Value}
    {oddWN andWN : Option Addr} {sldWN : Array (Option Value)} {ocdWN kVdWN dcdWN pmdWN cddWN ctdWN : Value}
    {oddFi andFi : Option Addr} {sldFi : Array (Option Value)} {ocdFi kVdFi dcdFi pmdFi cddFi ctdFi : Value}
    {oddCh andCh : Option Addr} {sldCh : Array (Option Value)} {ocdCh kVdCh dcdCh pmdCh cddCh ctdCh : Value}
    {oddAB andAB : Option Addr} {sldAB : Array (Option Value)} {ocdAB kVdAB dcdAB pmdAB cddAB ctdAB : Value}
    {oddJ andJ : Option Addr} {sldJ : Array (Option Value)} {ocdJ kVdJ dcdJ pmdJ cddJ ctdJ : Value}
    {oddB andB : Option Addr} {sldB : Array (Option Value)} {ocdB kVdB dcdB pmdB cddB ctdB : Value}
    {oddT andT : Option Addr} {sldT : Array (Option Value)} {ocdT kVdT dcdT pmdT cddT ctdT : Value}
    {oddS andS : Option Addr} {sldS : Array (Option Value)} {ocdS kVdS dcdS pmdS cddS ctdS : Value}
    {oddM andM : Option Addr} {sldM : Array (Option Value)} {ocdM kVdM dcdM pmdM cddM ctdM : Value}
    {oddA andA : Option Addr} {sldA : Array (Option Value)} {ocdA kVdA dcdA pmdA cddA ctdA : Value}
    {oddN andN : Option Addr} {sldN : Array (Option Value)} {ocdN kVdN dcdN pmdN cddN ctdN : Value}
    {oddNN andNN : Option Addr} {sldNN : Array (Option Value)} {ocdNN kVdNN dcdNN pmdNN cddNN ctdNN : Value}
    {oddZ andZ : Option Addr} {sldZ : Array (Option Value)} {ocdZ kVdZ dcdZ pmdZ cddZ ctdZ : Value}
    {oddC andC : Option Addr} {sldC : Array (Option Value)} {ocdC kVdC dcdC pmdC cddC ctdC : Value}
    {oddR andR : Option Addr} {sldR : Array (Option Value)} {ocdR kVdR dcdR pmdR cddR ctdR : Value}
    {oddY andY : Option Addr} {sldY : Array (Option Value)} {ocdY kVdY dcdY pmdY cddY ctdY : Value}
    {oddSm andSm : Option Addr} {sldSm : Array (Option Value)} {ocdSm kVdSm dcdSm pmdSm cddSm ctdSm : Value}
    {oddW andW : Option Addr} {sldW : Array (Option Value)} {ocdW kVdW dcdW pmdW cddW ctdW : Value}
    {oddG andG : Option Addr} {sldG : Array (Option Value)} {ocdG kVdG dcdG pmdG cddG ctdG : Value}
    {oddAC andAC : Option Addr} {sldAC : Array (Option Value)} {ocdAC kVdAC dcdAC pmdAC cddAC ctdAC : Value}
    {oddLC andLC : Option Addr} {sldLC : Array (Option Value)} {ocdLC kVdLC dcdLC pmdLC cddLC ctdLC : Value}
    {oddAL andAL : Option Addr} {sldAL : Array (Option Value)} {ocdAL kVdAL dcdAL pmdAL cddAL ctdAL : Value}
    {oddTK andTK : Option Addr} {sldTK : Array (Option Value)} {ocdTK kVdTK dcdTK pmdTK cddTK ctdTK : Value}
    {oddAm andAm : Option Addr} {sldAm : Array (Option Value)} {ocdAm kVdAm dcdAm pmdAm cddAm ctdAm : Value}
    {oddLB andLB : Option Addr} {sldLB : Array (Option Value)} {ocdLB kVdLB dcdLB pmdLB cddLB ctdLB : Value}
    {oddNe andNe : Option Addr} {sldNe : Array (Option Value)} {ocdNe kVdNe dcdNe pmdNe cddNe ctdNe : Value}
    {oddLJ andLJ : Option Addr} {sldLJ : Array (Option Value)} {ocdLJ kVdLJ dcdLJ pmdLJ cddLJ ctdLJ : Value}
    {oddNR andNR : Option Addr} {sldNR : Array (Option Value)} {ocdNR kVdNR dcdNR pmdNR cddNR ctdNR : Value}
    {oddL andL : Option Addr} {sldL : Array (Option Value)} {ocdL kVdL dcdL pmdL cddL ctdL : Value}
    (adNs : PySem.W.nsIn K mainGlobals "needs_of" = some (some (.ref fNs)))
    (ldNs : K.lookup fNs = some ⟨ocdNs, oddNs, .func (PySem.W.fnOf "needs_of" "needs_of" (defArgs sNeedsOf) (defBody sNeedsOf) (defScope sNeedsOf) .none kVdNs dcdNs pmdNs andNs cddNs ctdNs), sldNs⟩)
    (cdNs : PySem.W.codeIn K cddNs "needs_of" = true)
    (kdNs : PySem.W.keepIn K (.ref fNs) = true)
    (adWN : PySem.W.nsIn K mainGlobals "with_needs" = some (some (.ref fWN)))
    (ldWN : K.lookup fWN = some ⟨ocdWN, oddWN, .func (PySem.W.fnOf "with_needs" "with_needs" (defArgs sWithNeeds) (defBody sWithNeeds) (defScope sWithNeeds) .none kVdWN dcdWN pmdWN andWN cddWN ctdWN), sldWN⟩)
    (cdWN : PySem.W.codeIn K cddWN "with_needs" = true)
    (kdWN : PySem.W.keepIn K (.ref fWN) = true)
    (adFi : PySem.W.nsIn K mainGlobals "fits" = some (some (.ref fFi)))
    (ldFi : K.lookup fFi = some ⟨ocdFi, oddFi, .func (PySem.W.fnOf "fits" "fits" (defArgs sFits) (defBody sFits) (defScope sFits) .none kVdFi dcdFi pmdFi andFi cddFi ctdFi), sldFi⟩)
    (cdFi : PySem.W.codeIn K cddFi "fits" = true)
    (kdFi : PySem.W.keepIn K (.ref fFi) = true)
    (adCh : PySem.W.nsIn K mainGlobals "charged" = some (some (.ref fCh)))
    (ldCh : K.lookup fCh = some ⟨ocdCh, oddCh, .func (PySem.W.fnOf "charged" "charged" (defArgs sCharged) (defBody sCharged) (defScope sCharged) .none kVdCh dcdCh pmdCh andCh cddCh ctdCh), sldCh⟩)
    (cdCh : PySem.W.codeIn K cddCh "charged" = true)
    (kdCh : PySem.W.keepIn K (.ref fCh) = true)
    (adAB : PySem.W.nsIn K mainGlobals "amounts_between" = some (some (.ref fAB)))
    (ldAB : K.lookup fAB = some ⟨ocdAB, oddAB, .func (PySem.W.fnOf "amounts_between" "amounts_between" (defArgs sAmountsBetween) (defBody sAmountsBetween) (defScope sAmountsBetween) .none kVdAB dcdAB pmdAB andAB cddAB ctdAB), sldAB⟩)
    (cdAB : PySem.W.codeIn K cddAB "amounts_between" = true)
    (kdAB : PySem.W.keepIn K (.ref fAB) = true)
    (adJ : PySem.W.nsIn K mainGlobals "joined_amounts" = some (some (.ref fJ)))
    (ldJ : K.lookup fJ = some ⟨ocdJ, oddJ, .func (PySem.W.fnOf "joined_amounts" "joined_amounts" (defArgs sJoinedAmounts) (defBody sJoinedAmounts) (defScope sJoinedAmounts) .none kVdJ dcdJ pmdJ andJ cddJ ctdJ), sldJ⟩)
    (cdJ : PySem.W.codeIn K cddJ "joined_amounts" = true)
    (kdJ : PySem.W.keepIn K (.ref fJ) = true)
    (adB : PySem.W.nsIn K mainGlobals "_law_bag" = some (some (.ref fB)))
    (ldB : K.lookup fB = some ⟨ocdB, oddB, .func (PySem.W.fnOf "_law_bag" "_law_bag" (defArgs sBag) (defBody sBag) (defScope sBag) .none kVdB dcdB pmdB andB cddB ctdB), sldB⟩)
    (cdB : PySem.W.codeIn K cddB "_law_bag" = true)
    (kdB : PySem.W.keepIn K (.ref fB) = true)
    (adT : PySem.W.nsIn K mainGlobals "_law_take" = some (some (.ref fT)))
    (ldT : K.lookup fT = some ⟨ocdT, oddT, .func (PySem.W.fnOf "_law_take" "_law_take" (defArgs sTake) (defBody sTake) (defScope sTake) .none kVdT dcdT pmdT andT cddT ctdT), sldT⟩)
    (cdT : PySem.W.codeIn K cddT "_law_take" = true)
    (kdT : PySem.W.keepIn K (.ref fT) = true)
    (adS : PySem.W.nsIn K mainGlobals "_law_some" = some (some (.ref fS)))
    (ldS : K.lookup fS = some ⟨ocdS, oddS, .func (PySem.W.fnOf "_law_some" "_law_some" (defArgs sSome) (defBody sSome) (defScope sSome) .none kVdS dcdS pmdS andS cddS ctdS), sldS⟩)
    (cdS : PySem.W.codeIn K cddS "_law_some" = true)
    (kdS : PySem.W.keepIn K (.ref fS) = true)
    (adM : PySem.W.nsIn K mainGlobals "_law_mixed" = some (some (.ref fM)))
    (ldM : K.lookup fM = some ⟨ocdM, oddM, .func (PySem.W.fnOf "_law_mixed" "_law_mixed" (defArgs sMixed) (defBody sMixed) (defScope sMixed) .none kVdM dcdM pmdM andM cddM ctdM), sldM⟩)
    (cdM : PySem.W.codeIn K cddM "_law_mixed" = true)
    (kdM : PySem.W.keepIn K (.ref fM) = true)
    (adA : PySem.W.nsIn K mainGlobals "_law_alike" = some (some (.ref fA)))
    (ldA : K.lookup fA = some ⟨ocdA, oddA, .func (PySem.W.fnOf "_law_alike" "_law_alike" (defArgs sAlike) (defBody sAlike) (defScope sAlike) .none kVdA dcdA pmdA andA cddA ctdA), sldA⟩)
    (cdA : PySem.W.codeIn K cddA "_law_alike" = true)
    (kdA : PySem.W.keepIn K (.ref fA) = true)
    (adN : PySem.W.nsIn K mainGlobals "_law_name" = some (some (.ref fN)))
    (ldN : K.lookup fN = some ⟨ocdN, oddN, .func (PySem.W.fnOf "_law_name" "_law_name" (defArgs sName) (defBody sName) (defScope sName) .none kVdN dcdN pmdN andN cddN ctdN), sldN⟩)
    (cdN : PySem.W.codeIn K cddN "_law_name" = true)
    (kdN : PySem.W.keepIn K (.ref fN) = true)
    (adNN : PySem.W.nsIn K mainGlobals "_law_names" = some (some (.ref fNN)))
    (ldNN : K.lookup fNN = some ⟨ocdNN, oddNN, .func (PySem.W.fnOf "_law_names" "_law_names" (defArgs sNames) (defBody sNames) (defScope sNames) .none kVdNN dcdNN pmdNN andNN cddNN ctdNN), sldNN⟩)
    (cdNN : PySem.W.codeIn K cddNN "_law_names" = true)
    (kdNN : PySem.W.keepIn K (.ref fNN) = true)
    (adZ : PySem.W.nsIn K mainGlobals "_law_size" = some (some (.ref fZ)))
    (ldZ : K.lookup fZ = some ⟨ocdZ, oddZ, .func (PySem.W.fnOf "_law_size" "_law_size" (defArgs sSize) (defBody sSize) (defScope sSize) .none kVdZ dcdZ pmdZ andZ cddZ ctdZ), sldZ⟩)
    (cdZ : PySem.W.codeIn K cddZ "_law_size" = true)
    (kdZ : PySem.W.keepIn K (.ref fZ) = true)
    (adC : PySem.W.nsIn K mainGlobals "_law_cables" = some (some (.ref fC)))
    (ldC : K.lookup fC = some ⟨ocdC, oddC, .func (PySem.W.fnOf "_law_cables" "_law_cables" (defArgs sCables) (defBody sCables) (defScope sCables) .none kVdC dcdC pmdC andC cddC ctdC), sldC⟩)
    (cdC : PySem.W.codeIn K cddC "_law_cables" = true)
    (kdC : PySem.W.keepIn K (.ref fC) = true)
    (adR : PySem.W.nsIn K mainGlobals "_law_cars" = some (some (.ref fR)))
    (ldR : K.lookup fR = some ⟨ocdR, oddR, .func (PySem.W.fnOf "_law_cars" "_law_cars" (defArgs sCars) (defBody sCars) (defScope sCars) .none kVdR dcdR pmdR andR cddR ctdR), sldR⟩)
    (cdR : PySem.W.codeIn K cddR "_law_cars" = true)
    (kdR : PySem.W.keepIn K (.ref fR) = true)
    (adY : PySem.W.nsIn K mainGlobals "_law_yard_of" = some (some (.ref fY)))
    (ldY : K.lookup fY = some ⟨ocdY, oddY, .func (PySem.W.fnOf "_law_yard_of" "_law_yard_of" (defArgs sYardOf) (defBody sYardOf) (defScope sYardOf) .none kVdY dcdY pmdY andY cddY ctdY), sldY⟩)
    (cdY : PySem.W.codeIn K cddY "_law_yard_of" = true)
    (kdY : PySem.W.keepIn K (.ref fY) = true)
    (adSm : PySem.W.nsIn K mainGlobals "_law_small_yard" = some (some (.ref fSm)))
    (ldSm : K.lookup fSm = some ⟨ocdSm, oddSm, .func (PySem.W.fnOf "_law_small_yard" "_law_small_yard" (defArgs sSmall) (defBody sSmall) (defScope sSmall) .none kVdSm dcdSm pmdSm andSm cddSm ctdSm), sldSm⟩)
    (cdSm : PySem.W.codeIn K cddSm "_law_small_yard" = true)
    (kdSm : PySem.W.keepIn K (.ref fSm) = true)
    (adW : PySem.W.nsIn K mainGlobals "_law_wide_yard" = some (some (.ref fW)))
    (ldW : K.lookup fW = some ⟨ocdW, oddW, .func (PySem.W.fnOf "_law_wide_yard" "_law_wide_yard" (defArgs sWide) (defBody sWide) (defScope sWide) .none kVdW dcdW pmdW andW cddW ctdW), sldW⟩)
    (cdW : PySem.W.codeIn K cddW "_law_wide_yard" = true)
    (kdW : PySem.W.keepIn K (.ref fW) = true)
    (adG : PySem.W.nsIn K mainGlobals "_law_great_yard" = some (some (.ref fG)))
    (ldG : K.lookup fG = some ⟨ocdG, oddG, .func (PySem.W.fnOf "_law_great_yard" "_law_great_yard" (defArgs sGreat) (defBody sGreat) (defScope sGreat) .none kVdG dcdG pmdG andG cddG ctdG), sldG⟩)
    (cdG : PySem.W.codeIn K cddG "_law_great_yard" = true)
    (kdG : PySem.W.keepIn K (.ref fG) = true)
    (adAC : PySem.W.nsIn K mainGlobals "_law_all_cars" = some (some (.ref fAC)))
    (ldAC : K.lookup fAC = some ⟨ocdAC, oddAC, .func (PySem.W.fnOf "_law_all_cars" "_law_all_cars" (defArgs sAllCars) (defBody sAllCars) (defScope sAllCars) .none kVdAC dcdAC pmdAC andAC cddAC ctdAC), sldAC⟩)
    (cdAC : PySem.W.codeIn K cddAC "_law_all_cars" = true)
    (kdAC : PySem.W.keepIn K (.ref fAC) = true)
    (adLC : PySem.W.nsIn K mainGlobals "_law_charged" = some (some (.ref fLC)))
    (ldLC : K.lookup fLC = some ⟨ocdLC, oddLC, .func (PySem.W.fnOf "_law_charged" "_law_charged" (defArgs sLCharged) (defBody sLCharged) (defScope sLCharged) .none kVdLC dcdLC pmdLC andLC cddLC ctdLC), sldLC⟩)
    (cdLC : PySem.W.codeIn K cddLC "_law_charged" = true)
    (kdLC : PySem.W.keepIn K (.ref fLC) = true)
    (adAL : PySem.W.nsIn K mainGlobals "_law_a_lot" = some (some (.ref fAL)))
    (ldAL : K.lookup fAL = some ⟨ocdAL, oddAL, .func (PySem.W.fnOf "_law_a_lot" "_law_a_lot" (defArgs sALot) (defBody sALot) (defScope sALot) .none kVdAL dcdAL pmdAL andAL cddAL ctdAL), sldAL⟩)
    (cdAL : PySem.W.codeIn K cddAL "_law_a_lot" = true)
    (kdAL : PySem.W.keepIn K (.ref fAL) = true)
    (adTK : PySem.W.nsIn K mainGlobals "_law_turned_keys" = some (some (.ref fTK)))
    (ldTK : K.lookup fTK = some ⟨ocdTK, oddTK, .func (PySem.W.fnOf "_law_turned_keys" "_law_turned_keys" (defArgs sTurned) (defBody sTurned) (defScope sTurned) .none kVdTK dcdTK pmdTK andTK cddTK ctdTK), sldTK⟩)
    (cdTK : PySem.W.codeIn K cddTK "_law_turned_keys" = true)
    (kdTK : PySem.W.keepIn K (.ref fTK) = true)
    (adAm : PySem.W.nsIn K mainGlobals "_law_some_amounts" = some (some (.ref fAm)))
    (ldAm : K.lookup fAm = some ⟨ocdAm, oddAm, .func (PySem.W.fnOf "_law_some_amounts" "_law_some_amounts" (defArgs sSomeAmounts) (defBody sSomeAmounts) (defScope sSomeAmounts) .none kVdAm dcdAm pmdAm andAm cddAm ctdAm), sldAm⟩)
    (cdAm : PySem.W.codeIn K cddAm "_law_some_amounts" = true)
    (kdAm : PySem.W.keepIn K (.ref fAm) = true)
    (adLB : PySem.W.nsIn K mainGlobals "_law_between" = some (some (.ref fLB)))
    (ldLB : K.lookup fLB = some ⟨ocdLB, oddLB, .func (PySem.W.fnOf "_law_between" "_law_between" (defArgs sBetween) (defBody sBetween) (defScope sBetween) .none kVdLB dcdLB pmdLB andLB cddLB ctdLB), sldLB⟩)
    (cdLB : PySem.W.codeIn K cddLB "_law_between" = true)
    (kdLB : PySem.W.keepIn K (.ref fLB) = true)
    (adNe : PySem.W.nsIn K mainGlobals "_law_near" = some (some (.ref fNe)))
    (ldNe : K.lookup fNe = some ⟨ocdNe, oddNe, .func (PySem.W.fnOf "_law_near" "_law_near" (defArgs sNear) (defBody sNear) (defScope sNear) .none kVdNe dcdNe pmdNe andNe cddNe ctdNe), sldNe⟩)
    (cdNe : PySem.W.codeIn K cddNe "_law_near" = true)
    (kdNe : PySem.W.keepIn K (.ref fNe) = true)
    (adLJ : PySem.W.nsIn K mainGlobals "_law_joined" = some (some (.ref fLJ)))
    (ldLJ : K.lookup fLJ = some ⟨ocdLJ, oddLJ, .func (PySem.W.fnOf "_law_joined" "_law_joined" (defArgs sJoined) (defBody sJoined) (defScope sJoined) .none kVdLJ dcdLJ pmdLJ andLJ cddLJ ctdLJ), sldLJ⟩)
    (cdLJ : PySem.W.codeIn K cddLJ "_law_joined" = true)
    (kdLJ : PySem.W.keepIn K (.ref fLJ) = true)
    (adNR : PySem.W.nsIn K mainGlobals "_law_needs_right" = some (some (.ref fNR)))
    (ldNR : K.lookup fNR = some ⟨ocdNR, oddNR, .func (PySem.W.fnOf "_law_needs_right" "_law_needs_right" (defArgs sNeedsRight) (defBody sNeedsRight) (defScope sNeedsRight) .none kVdNR dcdNR pmdNR andNR cddNR ctdNR), sldNR⟩)
    (cdNR : PySem.W.codeIn K cddNR "_law_needs_right" = true)
    (kdNR : PySem.W.keepIn K (.ref fNR) = true)
    (adL : PySem.W.nsIn K mainGlobals "law" = some (some (.ref fL)))
    (ldL : K.lookup fL = some ⟨ocdL, oddL, .func (PySem.W.fnOf "law" "law" (defArgs sLaw) (defBody sLaw) (defScope sLaw) .none kVdL dcdL pmdL andL cddL ctdL), sldL⟩)
    (cdL : PySem.W.codeIn K cddL "law" = true)
    (kdL : PySem.W.keepIn K (.ref fL) = true)
    (zabs : PySem.W.nsIn K mainGlobals "abs" = some none)
    (zint : PySem.W.nsIn K mainGlobals "int" = some none)
    (zlen : PySem.W.nsIn K mainGlobals "len" = some none)
    (zrepr : PySem.W.nsIn K mainGlobals "repr" = some none)
    (zisinstance : PySem.W.nsIn K mainGlobals "isinstance" = some none)
    (zrange : PySem.W.nsIn K mainGlobals "range" = some none)
    (zsorted : PySem.W.nsIn K mainGlobals "sorted" = some none)
    (ztuple : PySem.W.nsIn K mainGlobals "tuple" = some none)
    (zlist : PySem.W.nsIn K mainGlobals "list" = some none)
    (zdict : PySem.W.nsIn K mainGlobals "dict" = some none)
    (zset : PySem.W.nsIn K mainGlobals "set" = some none)
    (zsum : PySem.W.nsIn K mainGlobals "sum" = some none)
    (zmax : PySem.W.nsIn K mainGlobals "max" = some none)
    (zmin : PySem.W.nsIn K mainGlobals "min" = some none)
    (zstr : PySem.W.nsIn K mainGlobals "str" = some none)
    (zall : PySem.W.nsIn K mainGlobals "all" = some none)
    (zany : PySem.W.nsIn K mainGlobals "any" = some none)
    (zzip : PySem.W.nsIn K mainGlobals "zip" = some none) :
    ∃ fd : FuncData, (∀ (s : Shared) (v : Value), BindsTo s fd ⟨[v], []⟩ [("script", v)]) ∧ ∀ base : Heap, K.In base → base.Ns mainGlobals mg → GnOk l.prog w K mg base 9 fa fd ["script"] (spTop K) := by
  have e := hfa.symm.trans (PySem.W.mg_of X G adL)
  cases e
  have T : Nat0 mg := ⟨PySem.W.mg_none_of X G zabs, PySem.W.mg_none_of X G zint, PySem.W.mg_none_of X G zlen, PySem.W.mg_none_of X G zrepr, PySem.W.mg_none_of X G zisinstance, PySem.W.mg_none_of X G zrange, PySem.W.mg_none_of X G zsorted, PySem.W.mg_none_of X G ztuple, PySem.W.mg_none_of X G zlist, PySem.W.mg_none_of X G zdict, PySem.W.mg_none_of X G zset, PySem.W.mg_none_of X G zsum, PySem.W.mg_none_of X G zmax, PySem.W.mg_none_of X G zmin, PySem.W.mg_none_of X G zstr, PySem.W.mg_none_of X G zall, PySem.W.mg_none_of X G zany, PySem.W.mg_none_of X G zzip⟩
  have FNs := fun_mk (st := sNeedsOf) ldNs cdNs kdNs
  have bNs := FNs.binds (ps := ["yard"]) fun _ _ _ _ _ _ us hl => match us, hl with | [_], _ => rfl
  have mNs := PySem.W.mg_of X G adNs
  have FWN := fun_mk (st := sWithNeeds) ldWN cdWN kdWN
  have bWN := FWN.binds (ps := ["yard", "needs"]) fun _ _ _ _ _ _ us hl => match us, hl with | [_, _], _ => rfl
  have mWN := PySem.W.mg_of X G adWN
  have FFi := fun_mk (st := sFits) ldFi cdFi kdFi
  have bFi := FFi.binds (ps := ["yard", "amounts"]) fun _ _ _ _ _ _ us hl => match us, hl with | [_, _], _ => rfl
  have mFi := PySem.W.mg_of X G adFi
  have FCh := fun_mk (st := sCharged) ldCh cdCh kdCh
  have bCh := FCh.binds (ps := ["yard", "amounts"]) fun _ _ _ _ _ _ us hl => match us, hl with | [_, _], _ => rfl
  have mCh := PySem.W.mg_of X G adCh
  have FAB := fun_mk (st := sAmountsBetween) ldAB cdAB kdAB
  have bAB := FAB.binds (ps := ["one", "other"]) fun _ _ _ _ _ _ us hl => match us, hl with | [_, _], _ => rfl
  have mAB := PySem.W.mg_of X G adAB
  have FJ := fun_mk (st := sJoinedAmounts) ldJ cdJ kdJ
  have bJ := FJ.binds (ps := ["rows"]) fun _ _ _ _ _ _ us hl => match us, hl with | [_], _ => rfl
  have mJ := PySem.W.mg_of X G adJ
  have FB := fun_mk (st := sBag) ldB cdB kdB
  have bB := FB.binds (ps := ["script"]) fun _ _ _ _ _ _ us hl => match us, hl with | [_], _ => rfl
  have mB := PySem.W.mg_of X G adB
  have FT := fun_mk (st := sTake) ldT cdT kdT
  have bT := FT.binds (ps := ["bag", "many"]) fun _ _ _ _ _ _ us hl => match us, hl with | [_, _], _ => rfl
  have mT := PySem.W.mg_of X G adT
  have FS := fun_mk (st := sSome) ldS cdS kdS
  have bS := FS.binds (ps := ["bag", "things"]) fun _ _ _ _ _ _ us hl => match us, hl with | [_, _], _ => rfl
  have mS := PySem.W.mg_of X G adS
  have FM := fun_mk (st := sMixed) ldM cdM kdM
  have bM := FM.binds (ps := ["bag", "things"]) fun _ _ _ _ _ _ us hl => match us, hl with | [_, _], _ => rfl
  have mM := PySem.W.mg_of X G adM
  have FA := fun_mk (st := sAlike) ldA cdA kdA
  have bA := FA.binds (ps := ["found", "due"]) fun _ _ _ _ _ _ us hl => match us, hl with | [_, _], _ => rfl
  have mA := PySem.W.mg_of X G adA
  have FN := fun_mk (st := sName) ldN cdN kdN
  have bN := FN.binds (ps := ["bag", "taken"]) fun _ _ _ _ _ _ us hl => match us, hl with | [_, _], _ => rfl
  have mN := PySem.W.mg_of X G adN
  have FNN := fun_mk (st := sNames) ldNN cdNN kdNN
  have bNN := FNN.binds (ps := ["bag", "many", "taken"]) fun _ _ _ _ _ _ us hl => match us, hl with | [_, _, _], _ => rfl
  have mNN := PySem.W.mg_of X G adNN
  have FZ := fun_mk (st := sSize) ldZ cdZ kdZ
  have bZ := FZ.binds (ps := ["bag", "most"]) fun _ _ _ _ _ _ us hl => match us, hl with | [_, _], _ => rfl
  have mZ := PySem.W.mg_of X G adZ
  have FC := fun_mk (st := sCables) ldC cdC kdC
  have bC := FC.binds (ps := ["bag", "knots", "many", "most"]) fun _ _ _ _ _ _ us hl => match us, hl with | [_, _, _, _], _ => rfl
  have mC := PySem.W.mg_of X G adC
  have FR := fun_mk (st := sCars) ldR cdR kdR
  have bR := FR.binds (ps := ["bag", "names", "knots", "most"]) fun _ _ _ _ _ _ us hl => match us, hl with | [_, _, _, _], _ => rfl
  have mR := PySem.W.mg_of X G adR
  have FY := fun_mk (st := sYardOf) ldY cdY kdY
  have bY := FY.binds (ps := ["bag", "cars", "knots", "cables", "most"]) fun _ _ _ _ _ _ us hl => match us, hl with | [_, _, _, _, _], _ => rfl
  have mY := PySem.W.mg_of X G adY
  have FSm := fun_mk (st := sSmall) ldSm cdSm kdSm
  have bSm := FSm.binds (ps := ["bag"]) fun _ _ _ _ _ _ us hl => match us, hl with | [_], _ => rfl
  have mSm := PySem.W.mg_of X G adSm
  have FW := fun_mk (st := sWide) ldW cdW kdW
  have bW := FW.binds (ps := ["bag"]) fun _ _ _ _ _ _ us hl => match us, hl with | [_], _ => rfl
  have mW := PySem.W.mg_of X G adW
  have FG := fun_mk (st := sGreat) ldG cdG kdG
  have bG := FG.binds (ps := ["bag"]) fun _ _ _ _ _ _ us hl => match us, hl with | [_], _ => rfl
  have mG := PySem.W.mg_of X G adG
  have FAC := fun_mk (st := sAllCars) ldAC cdAC kdAC
  have bAC := FAC.binds (ps := ["yard"]) fun _ _ _ _ _ _ us hl => match us, hl with | [_], _ => rfl
  have mAC := PySem.W.mg_of X G adAC
  have FLC := fun_mk (st := sLCharged) ldLC cdLC kdLC
  have bLC := FLC.binds (ps := ["yard", "amounts"]) fun _ _ _ _ _ _ us hl => match us, hl with | [_, _], _ => rfl
  have mLC := PySem.W.mg_of X G adLC
  have FAL := fun_mk (st := sALot) ldAL cdAL kdAL
  have bAL := FAL.binds (ps := ["bag", "things"]) fun _ _ _ _ _ _ us hl => match us, hl with | [_, _], _ => rfl
  have mAL := PySem.W.mg_of X G adAL
  have FTK := fun_mk (st := sTurned) ldTK cdTK kdTK
  have bTK := FTK.binds (ps := ["bag", "thing"]) fun _ _ _ _ _ _ us hl => match us, hl with | [_, _], _ => rfl
  have mTK := PySem.W.mg_of X G adTK
  have FAm := fun_mk (st := sSomeAmounts) ldAm cdAm kdAm
  have bAm := FAm.binds (ps := ["bag", "yard", "over"]) fun _ _ _ _ _ _ us hl => match us, hl with | [_, _, _], _ => rfl
  have mAm := PySem.W.mg_of X G adAm
  have FLB := fun_mk (st := sBetween) ldLB cdLB kdLB
  have bLB := FLB.binds (ps := ["one", "other"]) fun _ _ _ _ _ _ us hl => match us, hl with | [_, _], _ => rfl
  have mLB := PySem.W.mg_of X G adLB
  have FNe := fun_mk (st := sNear) ldNe cdNe kdNe
  have bNe := FNe.binds (ps := ["bag", "yard"]) fun _ _ _ _ _ _ us hl => match us, hl with | [_, _], _ => rfl
  have mNe := PySem.W.mg_of X G adNe
  have FLJ := fun_mk (st := sJoined) ldLJ cdLJ kdLJ
  have bLJ := FLJ.binds (ps := ["rows"]) fun _ _ _ _ _ _ us hl => match us, hl with | [_], _ => rfl
  have mLJ := PySem.W.mg_of X G adLJ
  have FNR := fun_mk (st := sNeedsRight) ldNR cdNR kdNR
  have bNR := FNR.binds (ps := ["bag", "yard"]) fun _ _ _ _ _ _ us hl => match us, hl with | [_, _], _ => rfl
  have mNR := PySem.W.mg_of X G adNR
  have FL := fun_mk (st := sLaw) ldL cdL kdL
  exact ⟨_, fun s v => .of_eq rfl, fun base _ _ =>
    have gN : FnOk l.prog w K mg base CX0 3 fN _ ["bag", "taken"] (spName K) := ok_name FN T FT mT bT FS mS bS
    have gNN : FnOk l.prog w K mg base CX0 4 fNN _ ["bag", "many", "taken"] (spNames K) := ok_names FNN T gN FN mN bN
    have gZ : FnOk l.prog w K mg base CX0 3 fZ _ ["bag", "most"] spSize := ok_size FZ T FT mT bT FS mS bS
    have gC : FnOk l.prog w K mg base CX0 4 fC _ ["bag", "knots", "many", "most"] (spCables K) := ok_cables FC T FT mT bT FS mS bS gZ FZ mZ bZ
    have gR : FnOk l.prog w K mg base CX0 4 fR _ ["bag", "names", "knots", "most"] (spCars K) := ok_cars FR T FT mT bT FS mS bS gZ FZ mZ bZ
    have Gg : Gen l.prog w K mg base fT fS fN fNN fC fR _ _ (fdOf FN) _ _ _ := { T := FT, mT := mT, bT := bT, S := FS, mS := mS, bS := bS, N := FNN, mN := mNN, bN := bNN, gN := gNN, C := FC, mC := mC, bC := bC, gC := gC.mono (by decide), R := FR, mR := mR, bR := bR, gR := gR.mono (by decide) }
    have gSm : FnOk l.prog w K mg base CX0 7 fSm _ ["bag"] (spYard K 7) := ok_small FSm T Gg FY mY bY
    have gW : FnOk l.prog w K mg base CX0 7 fW _ ["bag"] (spYard K (10 ^ 12)) := ok_wide FW T Gg FY mY bY
    have gG : FnOk l.prog w K mg base CX0 8 fG _ ["bag"] (spYard K (10 ^ 12)) := ok_great FG T Gg gSm FSm mSm bSm
    have gS : FnOk l.prog w K mg base CX0 2 fS _ ["bag", "things"] (spSome K) := ok_some FS T FT mT bT
    have gWN : FnOk l.prog w K mg base CX0 1 fWN _ ["yard", "needs"] (spWithNeeds K) := ok_withNeeds FWN T
    have gA : GnOk l.prog w K mg base 1 fA _ ["found", "due"] (spAlike K) := ok_alike FA T
    have gAC : FnOk l.prog w K mg base CX0 1 fAC _ ["yard"] (spNamesOf K) := ok_allCars FAC T
    have gAL : FnOk l.prog w K mg base CX0 3 fAL _ ["bag", "things"] (spALot K) := ok_aLot FAL T FT mT bT FM mM bM
    have gTK : FnOk l.prog w K mg base CX0 3 fTK _ ["bag", "thing"] spTurned := ok_turned FTK T FT mT bT FM mM bM
    have D : D5 l.prog w K mg base fB fT fS fSm fW fG fAm fFi fNR fLC fCh fA fNe fAB fLB fJ fLJ _ _ _ _ _ _ _ _ _ _ _ _ _ _ _ _ _ := { B := FB, mB := mB, bB := bB, gB := ok_bag FB T, T := FT, mT := mT, bT := bT, gT := ok_take FT T, S := FS, mS := mS, bS := bS, gS := gS, Sm := FSm, mSm := mSm, bSm := bSm, gSm := gSm, W := FW, mW := mW, bW := bW, gW := gW, G := FG, mG := mG, bG := bG, gG := gG, Am := FAm, mAm := mAm, bAm := bAm, gAm := ok_am FAm T FT mT bT FS mS bS FM mM bM, Fi := FFi, mFi := mFi, bFi := bFi, gFi := ok_fits FFi T FNs mNs bNs, NR := FNR, mNR := mNR, bNR := bNR, gNR := ok_needsRight FNR T FS mS bS gS FAC mAC bAC gAC FAL mAL bAL gAL FTK mTK bTK gTK FWN mWN bWN gWN FA mA bA gA, LC := FLC, mLC := mLC, bLC := bLC, gLC := ok_lcharged FLC T, Ch := FCh, mCh := mCh, bCh := bCh, gCh := ok_charged FCh FNs mNs bNs gWN FWN mWN bWN, A := FA, mA := mA, bA := bA, gA := gA, Ne := FNe, mNe := mNe, bNe := bNe, gNe := ok_near FNe T FT mT bT FS mS bS, AB := FAB, mAB := mAB, bAB := bAB, gAB := ok_between FAB T FNs mNs bNs gWN FWN mWN bWN, LB := FLB, mLB := mLB, bLB := bLB, gLB := ok_lbetween FLB T, J := FJ, mJ := mJ, bJ := bJ, gJ := ok_joinedA FJ T, LJ := FLJ, mLJ := mLJ, bLJ := bLJ, gLJ := ok_ljoined FLJ T }
    ok_law FL T D⟩
end Y
open PySem PySem.W PyProof.Rows in
set_option maxRecDepth 100000 in
set_option maxHeartbeats 0 in
theorem PySem.Challenge.cw_nightstairs_k05_needs_charged_and_joined_holds : PySem.Challenge.rw_nightstairs_k05_needs_charged_and_joined.Holds := by
  w_on; o_law; k_head; (case hw => w_witness2)
  k_fill
  refine Ns.walk_ofG (l := PySem.Challenge.rw_nightstairs_k05_needs_charged_and_joined) (k := 9) rfl rfl ⟨rfl, by decide, by decide⟩ (fun w h Y => PySem.W.kIn_of Y) ?F
  case F =>
    intro w mg fa h KX G hmg
    refine' Y.all_mk KX G hmg ?adNs ?ldNs ?cdNs ?kdNs ?adWN ?ldWN ?cdWN ?kdWN ?adFi ?ldFi ?cdFi ?kdFi ?adCh ?ldCh ?cdCh ?kdCh ?adAB ?ldAB ?cdAB ?kdAB ?adJ ?ldJ ?cdJ ?kdJ ?adB ?ldB ?cdB ?kdB ?adT ?ldT ?cdT ?kdT ?adS ?ldS ?cdS ?kdS ?adM ?ldM ?cdM ?kdM ?adA ?ldA ?cdA ?kdA ?adN ?ldN ?cdN ?kdN ?adNN ?ldNN ?cdNN ?kdNN ?adZ ?ldZ ?cdZ ?kdZ ?adC ?ldC ?cdC ?kdC ?adR ?ldR ?cdR ?kdR ?adY ?ldY ?cdY ?kdY ?adSm ?ldSm ?cdSm ?kdSm ?adW ?ldW ?cdW ?kdW ?adG ?ldG ?cdG ?kdG ?adAC ?ldAC ?cdAC ?kdAC ?adLC ?ldLC ?cdLC ?kdLC ?adAL ?ldAL ?cdAL ?kdAL ?adTK ?ldTK ?cdTK ?kdTK ?adAm ?ldAm ?cdAm ?kdAm ?adLB ?ldLB ?cdLB ?kdLB ?adNe ?ldNe ?cdNe ?kdNe ?adLJ ?ldLJ ?cdLJ ?kdLJ ?adNR ?ldNR ?cdNR ?kdNR ?adL ?ldL ?cdL ?kdL ?zabs ?zint ?zlen ?zrepr ?zisinstance ?zrange ?zsorted ?ztuple ?zlist ?zdict ?zset ?zsum ?zmax ?zmin ?zstr ?zall ?zany ?zzip
    (case adNs => k_is)
    (case ldNs => k_is)
    (case cdNs => k_is)
    (case kdNs => k_is)
    (case adWN => k_is)
    (case ldWN => k_is)
    (case cdWN => k_is)
    (case kdWN => k_is)
    (case adFi => k_is)
    (case ldFi => k_is)
    (case cdFi => k_is)
    (case kdFi => k_is)
    (case adCh => k_is)
    (case ldCh => k_is)
    (case cdCh => k_is)
    (case kdCh => k_is)
    (case adAB => k_is)
    (case ldAB => k_is)
    (case cdAB => k_is)
    (case kdAB => k_is)
    (case adJ => k_is)
    (case ldJ => k_is)
    (case cdJ => k_is)
    (case kdJ => k_is)
    (case adB => k_is)
    (case ldB => k_is)
    (case cdB => k_is)
    (case kdB => k_is)
    (case adT => k_is)
    (case ldT => k_is)
    (case cdT => k_is)
    (case kdT => k_is)
    (case adS => k_is)
    (case ldS => k_is)
    (case cdS => k_is)
    (case kdS => k_is)
    (case adM => k_is)
    (case ldM => k_is)
    (case cdM => k_is)
    (case kdM => k_is)
    (case adA => k_is)
    (case ldA => k_is)
    (case cdA => k_is)
    (case kdA => k_is)
    (case adN => k_is)
    (case ldN => k_is)
    (case cdN => k_is)
    (case kdN => k_is)
    (case adNN => k_is)
    (case ldNN => k_is)
    (case cdNN => k_is)
    (case kdNN => k_is)
    (case adZ => k_is)
    (case ldZ => k_is)
    (case cdZ => k_is)
    (case kdZ => k_is)
    (case adC => k_is)
    (case ldC => k_is)
    (case cdC => k_is)
    (case kdC => k_is)
    (case adR => k_is)
    (case ldR => k_is)
    (case cdR => k_is)
    (case kdR => k_is)
    (case adY => k_is)
    (case ldY => k_is)
    (case cdY => k_is)
    (case kdY => k_is)
    (case adSm => k_is)
    (case ldSm => k_is)
    (case cdSm => k_is)
    (case kdSm => k_is)
    (case adW => k_is)
    (case ldW => k_is)
    (case cdW => k_is)
    (case kdW => k_is)
    (case adG => k_is)
    (case ldG => k_is)
    (case cdG => k_is)
    (case kdG => k_is)
    (case adAC => k_is)
    (case ldAC => k_is)
    (case cdAC => k_is)
    (case kdAC => k_is)
    (case adLC => k_is)
    (case ldLC => k_is)
    (case cdLC => k_is)
    (case kdLC => k_is)
    (case adAL => k_is)
    (case ldAL => k_is)
    (case cdAL => k_is)
    (case kdAL => k_is)
    (case adTK => k_is)
    (case ldTK => k_is)
    (case cdTK => k_is)
    (case kdTK => k_is)
    (case adAm => k_is)
    (case ldAm => k_is)
    (case cdAm => k_is)
    (case kdAm => k_is)
    (case adLB => k_is)
    (case ldLB => k_is)
    (case cdLB => k_is)
    (case kdLB => k_is)
    (case adNe => k_is)
    (case ldNe => k_is)
    (case cdNe => k_is)
    (case kdNe => k_is)
    (case adLJ => k_is)
    (case ldLJ => k_is)
    (case cdLJ => k_is)
    (case kdLJ => k_is)
    (case adNR => k_is)
    (case ldNR => k_is)
    (case cdNR => k_is)
    (case kdNR => k_is)
    (case adL => k_is)
    (case ldL => k_is)
    (case cdL => k_is)
    (case kdL => k_is)
    (case zabs => k_is)
    (case zint => k_is)
    (case zlen => k_is)
    (case zrepr => k_is)
    (case zisinstance => k_is)
    (case zrange => k_is)
    (case zsorted => k_is)
    (case ztuple => k_is)
    (case zlist => k_is)
    (case zdict => k_is)
    (case zset => k_is)
    (case zsum => k_is)
    (case zmax => k_is)
    (case zmin => k_is)
    (case zstr => k_is)
    (case zall => k_is)
    (case zany => k_is)
    (case zzip => k_is)

