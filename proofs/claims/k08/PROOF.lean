import PyProof.Rows.All
import Wide.All
import OpenK.AllK
import Wide.FinOn
import PySem.Challenge.RW_courtscore_k08_whole_rows_counted_in_ord
import Lean
import PyProof.EqAt
import PyProof.EqKinds
import PyProof.TupleCall
import PyProof.NeData
import KE.IntBitsLaws
import PyProof.TupleKey
import PyProof.DictWalks
import PyProof.CompMap
import PyProof.AttrMissHeap
import KE.KDictOf
import PyProof.SumAny
import PyProof.SumWalkG
import PyProof.EnumStmt
import PyProof.Rows.SortWalk
import PyProof.MeetsSeq3
import PyProof.FactsAll.list_2
import PyProof.ExcClass3
import PyProof.Rows.MatchSeqLen
set_option Elab.async false
set_option linter.all false
set_option maxRecDepth 100000
def PySem.W.Fast.tw5486893598599535469 : Unit := ()
def PySem.W.Fast.tw4918198752245941850 : Unit := ()
def PySem.W.Fast.tw14386022141759666281 : Unit := ()
def PySem.W.Fast.tw3569955507454803406 : Unit := ()
def PySem.W.Fast.tw18321974278195725055 : Unit := ()
def PySem.W.Fast.tw4704533429133296532 : Unit := ()
def PySem.W.Fast.tw16582804161463481990 : Unit := ()
def PySem.W.Fast.tw4875353576598940068 : Unit := ()
def PySem.W.Fast.tw4014765317685885857 : Unit := ()
def PySem.W.Fast.tw4683936048809762467 : Unit := ()
def PySem.W.Fast.tw9230562773796395983 : Unit := ()
def PySem.W.Fast.tw564141219147046937 : Unit := ()
def PySem.W.Fast.tw6133202133986153005 : Unit := ()
def PySem.W.Fast.tw4384447559624271649 : Unit := ()
def PySem.W.Fast.tw11695712190961318447 : Unit := ()
def PySem.W.Fast.tw17828526141977895230 : Unit := ()
def PySem.W.Fast.tw13272903089621657428 : Unit := ()
def PySem.W.Fast.tw8600334406433901286 : Unit := ()
def PySem.W.Fast.tw11540708084578352589 : Unit := ()
namespace L2
open PySem PySem.Spec PyProof.Rows
abbrev Key := Sum Int Str
def keyIs : Key → Value → Bool
  | .inl k, v => Value.isInt k v
  | .inr x, v => Value.isStrOf x v
def keyH (w : World) : Key → Int
  | .inl k => hashInt k
  | .inr x => hashStr w x
theorem keyIs_shape : ∀ {k : Key} {v : Value}, keyIs k v = true → (∃ i t, k = Sum.inl i ∧ v = Value.int i t) ∨ (∃ x t, k = Sum.inr x ∧ v = Value.str x t)
  | .inl i, v, h => by
    obtain ⟨t, e⟩ := Value.isInt_shape (k := i) (v := v) h
    exact .inl ⟨i, t, rfl, e⟩
  | .inr x, v, h => by
    obtain ⟨t, e⟩ := Value.isStrOf_shape (x := x) (v := v) h
    exact .inr ⟨x, t, rfl, e⟩
theorem keyIs_int (i : Int) (t : Tok) : keyIs (.inl i) (.int i t) = true := by simp [keyIs, Value.isInt]
theorem keyIs_str (x : Str) (t : Tok) : keyIs (.inr x) (.str x t) = true := by simp [keyIs, Value.isStrOf]
theorem key_ll (a b : Int) : decide ((Sum.inl a : Key) = Sum.inl b) = (a == b) := by
  by_cases e : a = b
  · subst e; simp
  · have h : ¬ (Sum.inl a : Key) = Sum.inl b := fun q => e (Sum.inl.inj q)
    rw [decide_eq_false h]
    exact (beq_eq_false_iff_ne.mpr e).symm
theorem key_rr (a b : Str) : decide ((Sum.inr a : Key) = Sum.inr b) = decide (a = b) := by
  by_cases e : a = b
  · subst e; simp
  · have h : ¬ (Sum.inr a : Key) = Sum.inr b := fun q => e (Sum.inr.inj q)
    rw [decide_eq_false h, decide_eq_false e]
theorem key_lr (a : Int) (b : Str) : decide ((Sum.inl a : Key) = Sum.inr b) = false := decide_eq_false (fun q => nomatch q)
theorem key_rl (a : Str) (b : Int) : decide ((Sum.inr a : Key) = Sum.inl b) = false := decide_eq_false (fun q => nomatch q)
def mixKind (prog : Program) (w : World) : PySem.KeyKind prog w Key where
  is := keyIs
  hash := keyH w
  inj := fun v a b ha hb => by
    rcases keyIs_shape ha with ⟨i, t, rfl, rfl⟩ | ⟨x, t, rfl, rfl⟩
    · rcases keyIs_shape hb with ⟨j, u, rfl, e⟩ | ⟨y, u, rfl, e⟩
      · injection e with e1 _; rw [e1]
      · exact nomatch e
    · rcases keyIs_shape hb with ⟨j, u, rfl, e⟩ | ⟨y, u, rfl, e⟩
      · exact nomatch e
      · injection e with e1 _; rw [e1]
  byValue := fun k v h => by
    rcases keyIs_shape h with ⟨i, t, rfl, rfl⟩ | ⟨x, t, rfl, rfl⟩ <;> rfl
  pyHash := fun hv h => by
    rcases keyIs_shape hv with ⟨i, t, rfl, rfl⟩ | ⟨x, t, rfl, rfl⟩
    · exact wpAny_pyHash_int h
    · exact wpAny_pyHash_str h
  eqBool := fun hu hv h => by
    rcases keyIs_shape hu with ⟨i, t, rfl, rfl⟩ | ⟨x, t, rfl, rfl⟩
    · rcases keyIs_shape hv with ⟨j, u, rfl, rfl⟩ | ⟨y, u, rfl, rfl⟩
      · rw [key_ll] at h; exact wpAny_eqBool_int h
      · rw [key_lr] at h; exact SeqAt.EqAt.int_str i t y u _ _ _ _ h
    · rcases keyIs_shape hv with ⟨j, u, rfl, rfl⟩ | ⟨y, u, rfl, rfl⟩
      · rw [key_rl] at h; exact SeqAt.EqAt.str_int x t j u _ _ _ _ h
      · rw [key_rr] at h; exact wpAny_eqBool_str h
  «strs» := fun k x t v h => by
    rcases keyIs_shape h with ⟨i, u, rfl, e⟩ | ⟨y, u, rfl, e⟩
    · exact nomatch e
    · injection e with e1 _
      subst e1
      cases v <;> rfl
theorem mixKind_int (prog : Program) (w : World) (i : Int) (t : Tok) : (mixKind prog w).is (.inl i) (.int i t) = true := keyIs_int i t
theorem mixKind_str (prog : Program) (w : World) (x : Str) (t : Tok) : (mixKind prog w).is (.inr x) (.str x t) = true := keyIs_str x t
end L2
namespace L2
open PySem PySem.Spec PyProof.Rows
inductive V where
  | non | bl (b : Bool) | int (i : Int) | str (x : Str) | byt (b : Array UInt8) | flt (b : UInt64) | ref (a : Addr) | ty (n : String)
  deriving DecidableEq
def RelV : V → Value → Prop
  | .non, u => u = Value.none
  | .bl b, u => u = Value.bool b
  | .int i, u => ∃ t, u = Value.int i t
  | .str x, u => ∃ t, u = Value.str x t
  | .byt b, u => ∃ t, u = Value.bytes b t
  | .flt b, u => ∃ t, u = Value.float b t
  | .ref a, u => u = Value.ref a
  | .ty n, u => u = Value.type n
abbrev Vals : List V → List Value → Prop := Paired RelV
theorem Vals.length {xs : List V} {us : List Value} (r : Vals xs us) : xs.length = us.length := Paired.length r
theorem Vals.get : ∀ {xs : List V} {us : List Value} {i : Nat} {x : V}, Vals xs us → xs[i]? = some x → ∃ u, us[i]? = some u ∧ RelV x u
  | _, _, _, _, .nil, e => by simp at e
  | _, _, 0, _, .cons r _, e => by simp at e; subst e; exact ⟨_, rfl, r⟩
  | _, _, i + 1, x, .cons _ t, e => by
    obtain ⟨u, h1, h2⟩ := Vals.get (i := i) (x := x) t (by simpa using e)
    exact ⟨u, by simpa using h1, h2⟩
theorem Vals.set {x : V} {u : Value} (r : RelV x u) : ∀ {xs : List V} {us : List Value} (i : Nat), Vals xs us → Vals (xs.set i x) (us.set i u)
  | _, _, _, .nil => .nil
  | _, _, 0, .cons _ t => .cons r t
  | _, _, i + 1, .cons q t => .cons q (Vals.set r i t)
theorem Vals.append : ∀ {xs ys : List V} {us ws : List Value}, Vals xs us → Vals ys ws → Vals (xs ++ ys) (us ++ ws)
  | _, _, _, _, .nil, s => s
  | _, _, _, _, .cons r t, s => .cons r (Vals.append t s)
theorem Vals.take : ∀ {xs : List V} {us : List Value} (n : Nat), Vals xs us → Vals (xs.take n) (us.take n)
  | _, _, 0, _ => .nil
  | _, _, _ + 1, .nil => .nil
  | _, _, n + 1, .cons r t => .cons r (Vals.take n t)
theorem Vals.drop : ∀ {xs : List V} {us : List Value} (n : Nat), Vals xs us → Vals (xs.drop n) (us.drop n)
  | _, _, 0, r => r
  | _, _, _ + 1, .nil => .nil
  | _, _, n + 1, .cons _ t => Vals.drop n t
def RelO : Option V → Option Value → Prop
  | some v, some u => RelV v u
  | none, none => True
  | _, _ => False
def KV {κ : Type} : List (κ × V) → List (κ × Value) → Prop := Paired fun (p : κ × V) (q : κ × Value) => p.1 = q.1 ∧ RelV p.2 q.2
def kV : Key → V
  | .inl i => .int i
  | .inr x => .str x
inductive HO where
    | lst (xs : List V)
    | tup (xs : List V)
    | dK (kvs : List (Key × V)) | dT (kvs : List (List Key × V))
    | set (S : Int → Bool) (n : Nat)
    | ins (C dx : Addr) (fs : List (Str × V))
    | own (x : Addr)
    | xd (fs : List (Str × V))
    | met (f x : Addr)
    | rng (lo hi : Int)
    | frz (o : Obj) (u : HO)
    | tbl (ps : Array Value)
    | ext (φ : Heap → Prop)
def TupO (h : Heap) (a : Addr) (items : Array Value) : Prop := ∃ o, h.get? a = some o ∧ o.cls = .type "tuple" ∧ o.dict = none ∧ ∃ n, o.data = .seq items n
theorem TupO.tup {h : Heap} {a : Addr} {items : Array Value} (x : TupO h a items) : IsTup h a items := let ⟨o, e, c, _, d⟩ := x; ⟨o, e, c, d⟩
theorem TupO.new (h : Heap) (items : Array Value) : TupO (h.push { cls := .type "tuple", data := .seq items }) h.objs.size items := ⟨_, Heap.get?_push_size _ rfl, rfl, rfl, _, rfl⟩
abbrev Hp := Addr → Option HO
def upd (H : Hp) (a : Addr) (o : HO) : Hp := fun b => if b = a then some o else H b
theorem upd_same {H : Hp} {a : Addr} {o : HO} : upd H a o a = some o := by unfold upd; rw [if_pos rfl]
theorem upd_ne {H : Hp} {a b : Addr} {o : HO} (h : b ≠ a) : upd H a o b = H b := by unfold upd; rw [if_neg h]
theorem ne_of {H : Hp} {a b : Addr} {o u : HO} (h : H a = some o) (h' : H b = some u) (d : o ≠ u) : a ≠ b := by
  intro e; subst e; rw [h] at h'; exact d (Option.some.inj h')
theorem ne_of_none {H : Hp} {a b : Addr} {o : HO} (h : H a = some o) (h' : H b = none) : a ≠ b := by
  intro e; subst e; rw [h] at h'; cases h'
section
variable (P : Program) (w : World)
def ObjOk (H : Hp) (h : Heap) (a : Addr) : HO → Prop
  | .lst xs => xs.length ≤ sizeLine ∧ ∃ (its : List Value) (n : Nat), Vals xs its ∧ h.get? a = some { cls := .type "list", data := .seq its.toArray n }
  | .tup xs => xs.length ≤ sizeLine ∧ ∃ its : List Value, Vals xs its ∧ TupO h a its.toArray
  | .dK kvs => kvs.length ≤ sizeLine ∧ (a == sysModules) = false ∧ ∃ vs, KV kvs vs ∧ h.DictOf (mixKind P w) a vs
  | .dT kvs => kvs.length ≤ sizeLine ∧ (a == sysModules) = false ∧ ∃ xs : List (List Key × Addr × Value),
      Paired (fun (p : List Key × V) (q : List Key × Addr × Value) => p.1 = q.1 ∧ H q.2.1 = some (.tup (p.1.map kV)) ∧ RelV p.2 q.2.2) kvs xs ∧
      ∃ o es ep, h.get? a = some o ∧ o.ExactDict ∧ o.data = .dict es ep ∧ es.toList = xs.map (entryOfKey (tupleKind (mixKind P w))) ∧ (xs.map (·.1)).Nodup
  | .set S n => h.SetOf (intKind P w) a S n
  | .ins C dx fs => H dx = some (.own a) ∧ fs.length ≤ 1000 ∧ dx ≠ a ∧ h.get? a = some (PySem.W.instObj C dx) ∧
      ∃ mA, h.Ns1 dx mA ∧ (∀ f, RelO (fs.lookup f) (mA f)) ∧ PySem.Within mA (fs.map (·.1))
  | .own _ => ∃ o, h.get? a = some o
  | .xd fs => ∃ mA, h.Ns1 a mA ∧ ∀ f, RelO (fs.lookup f) (mA f)
  | .rng lo hi => ∃ t u v, h.get? a = some { cls := .type "range", data := .fields #[.int lo t, .int hi u, .int 1 v] }
  | .frz o u => h.get? a = some o ∧ ObjOk H h a u
  | .tbl ps => h.get? a = some { cls := .none, data := .fields ps }
  | .met f x => h.get? a = some (PySem.W.methodObj (.ref f) (.ref x))
  | .ext φ => φ h ∧ (∃ o, h.get? a = some o) ∧ ∀ h1 h2 : Heap, φ h1 → (∀ o, h1.get? a = some o → h2.get? a = some o) → φ h2
def HOk (H : Hp) (h : Heap) : Prop := ∀ a o, H a = some o → ObjOk P w H h a o
end
section
variable {P : Program} {w : World} {H H' : Hp} {h h' : Heap} {a : Addr} {o : HO}
theorem ObjOk.lt (x : ObjOk P w H h a o) : a < h.objs.size := by
  cases o with
  | lst xs => obtain ⟨_, _, _, _, e⟩ := x; exact Heap.lt_size e
  | tup xs => obtain ⟨_, _, _, p⟩ := x; exact p.tup.lt
  | dK kvs => obtain ⟨_, _, _, _, o, _, _, e, _⟩ := x; exact Heap.lt_size e
  | dT kvs => obtain ⟨_, _, _, _, o, _, _, e, _⟩ := x; exact Heap.lt_size e
  | set S n => obtain ⟨o, _, _, _, e, _⟩ := x; exact Heap.lt_size e
  | ins C dx fs => obtain ⟨_, _, _, e, _⟩ := x; exact Heap.lt_size e
  | own y => obtain ⟨_, e⟩ := x; exact Heap.lt_size e
  | xd fs => obtain ⟨_, ⟨_, _, _, e, _⟩, _⟩ := x; exact Heap.lt_size e
  | rng lo hi => obtain ⟨_, _, _, e⟩ := x; exact Heap.lt_size e
  | frz ob u => obtain ⟨e, _⟩ := x; exact Heap.lt_size e
  | tbl ps => exact Heap.lt_size (show h.get? a = some _ from x)
  | met f y => exact Heap.lt_size (show h.get? a = some _ from x)
  | ext φ => obtain ⟨_, ⟨_, e⟩, _⟩ := x; exact Heap.lt_size e
theorem Paired.mapP {α β : Type} {F G : α → β → Prop} : ∀ {l₁ : List α} {l₂ : List β}, Paired F l₁ l₂ → (∀ a b, F a b → G a b) → Paired G l₁ l₂
  | _, _, .nil, _ => .nil
  | _, _, .cons r t, f => .cons (f _ _ r) (Paired.mapP t f)
theorem Paired.imp' {α β : Type} {F G : α → β → Prop} (f : ∀ a b, F a b → G a b) {l₁ : List α} {l₂ : List β} (r : Paired F l₁ l₂) : Paired G l₁ l₂ := Paired.mapP r f
theorem ObjOk.stay (x : ObjOk P w H h a o) (k : ∀ b u, (b = a ∨ H b = some (.own a)) → h.get? b = some u → h'.get? b = some u)
    (ho : ∀ b, H b = some (.own a) → H' b = some (.own a)) (ht : ∀ b xs, H b = some (.tup xs) → H' b = some (.tup xs)) : ObjOk P w H' h' a o := by
  induction o with
  | lst xs => obtain ⟨z, its, n, r, e⟩ := x; exact ⟨z, its, n, r, k _ _ (.inl rfl) e⟩
  | tup xs => obtain ⟨z, its, r, ob, e, c⟩ := x; exact ⟨z, its, r, ob, k _ _ (.inl rfl) e, c⟩
  | dK kvs => obtain ⟨z, y, vs, r, ob, es, ep, e, c⟩ := x; exact ⟨z, y, vs, r, ob, es, ep, k _ _ (.inl rfl) e, c⟩
  | dT kvs =>
    obtain ⟨z, y, xs, r, ob, es, ep, e, c⟩ := x
    exact ⟨z, y, xs, Paired.mapP r fun p q z => ⟨z.1, ht _ _ z.2.1, z.2.2⟩, ob, es, ep, k _ _ (.inl rfl) e, c⟩
  | set S n => obtain ⟨ob, es, ep, t, e, c⟩ := x; exact ⟨ob, es, ep, t, k _ _ (.inl rfl) e, c⟩
  | ins C dx fs =>
    obtain ⟨d, z, ne, e, mA, ⟨od, es, ep, e2, c⟩, r⟩ := x
    exact ⟨ho _ d, z, ne, k _ _ (.inl rfl) e, mA, ⟨od, es, ep, k _ _ (.inr d) e2, c⟩, r⟩
  | own y => obtain ⟨ob, e⟩ := x; exact ⟨ob, k _ _ (.inl rfl) e⟩
  | xd fs => obtain ⟨mA, ⟨od, es, ep, e, c⟩, r⟩ := x; exact ⟨mA, ⟨od, es, ep, k _ _ (.inl rfl) e, c⟩, r⟩
  | rng lo hi => obtain ⟨t, u, v, e⟩ := x; exact ⟨t, u, v, k _ _ (.inl rfl) e⟩
  | frz ob u ih => obtain ⟨e, q⟩ := x; exact ⟨k _ _ (.inl rfl) e, ih q⟩
  | tbl ps =>
    have e : h.get? a = some { cls := .none, data := .fields ps } := x
    show h'.get? a = some { cls := .none, data := .fields ps }
    exact k a _ (.inl rfl) e
  | met f y =>
    have e : h.get? a = some (PySem.W.methodObj (.ref f) (.ref y)) := x
    show h'.get? a = some (PySem.W.methodObj (.ref f) (.ref y))
    exact k a _ (.inl rfl) e
  | ext φ => obtain ⟨p, ⟨o, e⟩, st⟩ := x; exact ⟨st _ _ p fun o q => k _ _ (.inl rfl) q, ⟨o, k _ _ (.inl rfl) e⟩, st⟩
theorem HOk.lt (x : HOk P w H h) (e : H a = some o) : a < h.objs.size := (x a o e).lt
theorem HOk.fresh (x : HOk P w H h) (e : h.objs.size ≤ a) : H a = none := by
  cases q : H a with
  | none => rfl
  | some u => exact absurd (Nat.lt_of_lt_of_le (x.lt q) e) (Nat.lt_irrefl _)
theorem HOk.kept (x : HOk P w H h) (k : ∀ b u, h.get? b = some u → h'.get? b = some u) : HOk P w H h' := fun a o e =>
  (x a o e).stay (fun b u _ q => k b u q) (fun _ q => q) fun _ _ q => q
theorem HOk.laid (x : HOk P w H h) (k : ∀ b u, h.get? b = some u → h'.get? b = some u) (hp : h.objs.size ≤ a) (new : ObjOk P w (upd H a o) h' a o) : HOk P w (upd H a o) h' := fun b u e => by
  have hn := x.fresh hp
  by_cases hb : b = a
  · subst hb; rw [upd_same] at e; cases e; exact new
  · rw [upd_ne hb] at e
    exact (x b u e).stay (fun c v _ q => k c v q) (fun c q => by rw [upd_ne (ne_of_none q hn)]; exact q) fun c xs q => by rw [upd_ne (ne_of_none q hn)]; exact q
end
def Rd (H : Hp) (a : Addr) (u : HO) : Prop := H a = some u ∨ ∃ o, H a = some (.frz o u)
theorem Rd.ok {P : Program} {w : World} {H : Hp} {h : Heap} {a : Addr} {u : HO} (r : Rd H a u) (x : HOk P w H h) : ObjOk P w H h a u := by
  rcases r with r | ⟨o, r⟩
  · exact x a u r
  · obtain ⟨_, q⟩ := x a _ r
    exact q
def Mut : Option HO → Prop
  | some (.lst _) => True
  | some (.dK _) => True
  | some (.dT _) => True
  | some (.set _ _) => True
  | some (.ins _ _ _) => True
  | some (.ext _) => True
  | _ => False
section
variable {P : Program} {w : World} {H : Hp} {h h' : Heap} {x e : Addr} {o' : HO}
theorem HOk.write (ok : HOk P w H h) (mu : Mut (H x)) (he : e = x ∨ H e = some (.own x)) (k : ∀ b u, b ≠ e → h.get? b = some u → h'.get? b = some u) (heo : ∃ u, h'.get? e = some u)
    (new : ObjOk P w (upd H x o') h' x o') : HOk P w (upd H x o') h' := fun b u q => by
  have nown : ∀ c y, H c = some (.own y) → c ≠ x := fun c y r z => by subst z; rw [r] at mu; exact mu
  have ntup : ∀ c xs, H c = some (.tup xs) → c ≠ x := fun c xs r z => by subst z; rw [r] at mu; exact mu
  by_cases hb : b = x
  · subst hb; rw [upd_same] at q; cases q; exact new
  · rw [upd_ne hb] at q
    by_cases hbe : b = e
    · have q' : H b = some (.own x) := by
        rcases he with z | z
        · exact absurd (hbe.trans z) hb
        · rw [hbe]; exact z
      rw [q] at q'; cases q'
      obtain ⟨v, hv⟩ := heo
      exact ⟨v, by rw [hbe]; exact hv⟩
    · refine (ok b u q).stay (fun c v hc r => k c v ?_ r) (fun c r => by rw [upd_ne (nown c b r)]; exact r) fun c xs r => by rw [upd_ne (ntup c xs r)]; exact r
      rcases hc with rfl | hc
      · exact hbe
      · rintro rfl
        rcases he with z | z
        · exact nown c b hc z
        · rw [hc] at z; cases z; exact hb rfl
end
structure Un (fs ex : List Addr) (H H' : Hp) (h h' : Heap) : Prop where
  keep : ∀ b o, h.get? b = some o → H b = none → b ∉ fs → b ∉ ex → h'.get? b = some o
  slot : ∀ b o, h.get? b = some o → H b = none → b ∈ fs → b ∉ ex → ∃ sl, h'.get? b = some { o with slots := sl }
  free : ∀ b o, h.get? b = some o → H b = none → b ∉ ex → H' b = none
  there : ∀ b o, h.get? b = some o → b ∉ ex → ∃ o', h'.get? b = some o'
  tups : ∀ b xs, H b = some (.tup xs) → H' b = some (.tup xs)
  frzs : ∀ b o u, H b = some (.frz o u) → H' b = some (.frz o u)
  tbls : ∀ b ps, H b = some (.tbl ps) → ∃ more, H' b = some (.tbl (ps ++ more))
section
variable {fs fs' ex ex' : List Addr} {H H1 H2 : Hp} {h h1 h2 h' : Heap} {a x e : Addr} {o : HO}
theorem Un.any (u : Un fs ex H H1 h h1) {b : Addr} {ob : Obj} (q : h.get? b = some ob) (n : H b = none) (hx : b ∉ ex) : ∃ sl, h1.get? b = some { ob with slots := sl } := by
  by_cases hb : b ∈ fs
  · exact u.slot b ob q n hb hx
  · exact ⟨ob.slots, u.keep b ob q n hb hx⟩
theorem Un.kept (k : ∀ b u, h.get? b = some u → h'.get? b = some u) : Un fs ex H H h h' :=
  ⟨fun b ob q _ _ _ => k b ob q, fun b ob q _ _ _ => ⟨ob.slots, k b ob q⟩, fun _ _ _ n _ => n, fun b ob q _ => ⟨ob, k b ob q⟩, fun _ _ q => q, fun _ _ _ q => q, fun _ ps q => ⟨#[], by rw [q]; simp⟩⟩
theorem Un.refl : Un fs ex H H h h := Un.kept fun _ _ q => q
theorem Un.laid (k : ∀ b u, h.get? b = some u → h'.get? b = some u) (hp : h.objs.size ≤ a) (hn : H a = none) : Un fs ex H (upd H a o) h h' where
  keep := fun b u q _ _ _ => k b u q
  slot := fun b u q _ _ _ => ⟨u.slots, k b u q⟩
  free := fun b u q n _ => by rw [upd_ne (Nat.ne_of_lt (Nat.lt_of_lt_of_le (Heap.lt_size q) hp))]; exact n
  there := fun b u q _ => ⟨u, k b u q⟩
  tups := fun b xs q => by rw [upd_ne (ne_of_none q hn)]; exact q
  frzs := fun b u xs q => by rw [upd_ne (ne_of_none q hn)]; exact q
  tbls := fun b ps q => ⟨#[], by rw [upd_ne (ne_of_none q hn), q]; simp⟩
theorem Un.write (mu : Mut (H x)) (he : e = x ∨ H e = some (.own x)) (k : ∀ b u, b ≠ e → h.get? b = some u → h'.get? b = some u) (heo : ∃ u, h'.get? e = some u) : Un fs ex H (upd H x o) h h' := by
  have hx : ∀ b, H b = none → b ≠ x := fun b n z => by subst z; rw [n] at mu; exact mu
  have hb : ∀ b, H b = none → b ≠ e := fun b n z => by
    subst z
    rcases he with r | r
    · exact hx b n r
    · rw [n] at r; cases r
  have hm : ∀ b u, H b = some u → ¬ Mut (some u) → b ≠ x := fun b u q nm z => by subst z; rw [q] at mu; exact nm mu
  refine ⟨fun b u q n _ _ => k b u (hb b n) q, fun b u q n _ _ => ⟨u.slots, k b u (hb b n) q⟩, fun b u q n _ => by rw [upd_ne (hx b n)]; exact n, fun b u q _ => ?_,
    fun b xs q => by rw [upd_ne (hm b _ q fun z => z)]; exact q, fun b u xs q => by rw [upd_ne (hm b _ q fun z => z)]; exact q, fun b ps q => ⟨#[], by rw [upd_ne (hm b _ q fun z => z), q]; simp⟩⟩
  by_cases hbe : b = e
  · subst hbe; exact heo
  · exact ⟨u, k b u hbe q⟩
end
def trk (h : Heap) (H : Hp) : List Addr := (List.range h.objs.size).filter fun a => (H a).isSome
def hidT (h : Heap) (H : Hp) : Heap := PySem.W.hideAll h (trk h H)
theorem hidT_size (h : Heap) (H : Hp) : (hidT h H).objs.size = h.objs.size := PySem.W.hideAll_size _ _
theorem hidT_get {h : Heap} {H : Hp} {b : Addr} {o : Obj} (e : h.get? b = some o) (n : H b = none) : (hidT h H).get? b = some o :=
  PySem.W.hideAll_get _ e fun hm => by
    have q : (H b).isSome = true := (List.mem_filter.mp hm).2
    rw [n] at q; simp at q
theorem of_hidT {h : Heap} {H : Hp} {b : Addr} {o : Obj} (e : (hidT h H).get? b = some o) : h.get? b = some o ∧ H b = none := by
  have e' : h.get? b = some o := PySem.W.of_hideAll (trk h H) e
  refine ⟨e', ?_⟩
  cases q : H b with
  | none => rfl
  | some x =>
    have hm : b ∈ trk h H := List.mem_filter.mpr ⟨List.mem_range.mpr (Heap.lt_size e'), by simp [q]⟩
    have z : (hidT h H).get? b = none := PySem.W.hideAll_none (trk h H) hm
    rw [z] at e; cases e
def allNews (g h : Heap) (L : Addr) : List (Addr × Obj) := (List.range h.objs.size).filterMap fun a => if a = L ∨ (g.get? a).isSome = true then none else (h.get? a).map fun o => (a, o)
def rest (g h : Heap) (L d : Addr) : List (Addr × Obj) := (allNews g h L).filter fun p => decide (p.1 ≠ d)
end L2
namespace L2
open PySem PySem.Spec PyProof.Rows
structure Mod (K : PySem.W.Frag) (mg : Str → Option Value) (base : Heap) : Prop where
  kin : K.In base
  glob : base.Ns mainGlobals mg
  blt : ∃ mb, base.Ns builtinsNs mb ∧ ∀ x : Str, x ≠ "__name__" → mb x = bootBuiltins x
  nolimit : base.NoLimit
structure Cx where
  prog : Program
  w : World
  K : PySem.W.Frag
  mg : Str → Option Value
  base : Heap
  A : Around
  N : List Str
  s₀ : Shared
  H₀ : Hp
  env : Env
  outer : List Env
  stack : List Env
  ex : List Addr
  fn : Str → Bool
  calm : Bool
  pn : List (Addr × Obj)
  xe : Value → Shared → Prop
def frs (l : List Env) : List Addr := l.filterMap (·.frame)
abbrev Cx.fs (X : Cx) : List Addr := frs X.outer
def Vis (sc : Scope) (x : Str) : Prop := sc.names.lookup x = some .local ∨ sc.names.lookup x = some .cell ∨ sc.names.lookup x = some .free
def Loc (sc : Scope) (x : Str) : Prop := sc.names.lookup x = some .local ∨ sc.names.lookup x = some .cell
def Look (env : Env) (h : Heap) (m : Str → Option Value) (x : Str) (u : Value) : Prop :=
  (env.kindOf x = some .local ∧ m x = some u) ∨ ((env.kindOf x = some .cell ∨ env.kindOf x = some .free) ∧ ∃ c, env.cells.lookup x = some c ∧ h.IsCell c (some u))
structure Cx.Ok (X : Cx) : Prop where
  mod : Mod X.K X.mg X.base
  kind : X.env.scope.kind = .function
  glob : X.env.globals = mainGlobals
  blt : X.env.builtins = builtinsNs
  above : X.s₀.heap.objs.size ≤ X.env.locals
  inj : ∀ x y c, X.env.cells.lookup x = some c → X.env.cells.lookup y = some c → x = y
  has : ∀ x, (X.env.kindOf x = some .cell ∨ X.env.kindOf x = some .free) → ∃ c, X.env.cells.lookup x = some c
  cab : ∀ x c, X.fn x = true → X.env.cells.lookup x = some c → X.s₀.heap.objs.size ≤ c
  hd : X.calm = true → X.A.handled = none
  frames : X.A.frames = some X.stack
  stk : X.stack = X.outer ∨ (X.stack = X.env :: X.outer ∧ X.env.frame = some X.env.locals)
  exf : ∀ b ∈ X.ex, b ≠ X.env.locals ∧ ∀ x c, X.env.cells.lookup x = some c → c ≠ b
  bs : ∀ b o, X.base.get? b = some o → X.s₀.heap.get? b = some o ∧ X.H₀ b = none
  bsz : X.base.objs.size ≤ X.s₀.heap.objs.size
  noex : ∀ b o, X.base.get? b = some o → b ∉ X.ex
  exfs : ∀ b ∈ X.ex, b ∉ X.fs
  funs : X.s₀.heap.FunFrames X.base X.outer
  frf : ∀ b ∈ X.fs, X.H₀ b = none
structure Inv (X : Cx) (pins : List (Addr × Obj)) (σ : List (Option V)) (H : Hp) (s : Shared) : Prop where
  ok : X.Ok
  os : s.os = X.s₀.os
  bare : AllBare s.gens
  base : Un X.fs X.ex X.H₀ H X.s₀.heap s.heap
  loc : ∃ m, s.heap.Ns X.env.locals m ∧ ∀ (i : Nat) (x : Str) (v : V), X.N[i]? = some x → σ[i]? = some (some v) → Vis X.env.scope x → ∃ u, RelV v u ∧ Look X.env s.heap m x u
  cell : ∀ x c, X.env.cells.lookup x = some c → ∃ v, s.heap.IsCell c v
  free : H X.env.locals = none
  freeC : ∀ x c, X.env.cells.lookup x = some c → H c = none
  pin : ∀ p ∈ X.pn ++ pins, s.heap.get? p.1 = some p.2 ∧ H p.1 = none ∧ p.1 ≠ X.env.locals ∧ p.1 ∉ X.fs ∧ ∀ v, p.2.data ≠ .cell v
  hok : HOk X.prog X.w H s.heap
  len : σ.length = X.N.length
section
variable {X : Cx} {pins : List (Addr × Obj)} {σ : List (Option V)} {H H' : Hp} {s : Shared} {h' : Heap}
theorem Cx.Ok.nofr (ok : X.Ok) {b : Addr} {o : Obj} (e : X.base.get? b = some o) : b ∉ X.fs := fun hb => by
  have := (ok.funs.mem hb).1
  rw [e] at this; cases this
theorem Inv.bs (I : Inv X pins σ H s) : ∀ b o, X.base.get? b = some o → s.heap.get? b = some o ∧ H b = none := fun b o e =>
  ⟨I.base.keep b o (I.ok.bs b o e).1 (I.ok.bs b o e).2 (I.ok.nofr e) (I.ok.noex b o e), I.base.free b o (I.ok.bs b o e).1 (I.ok.bs b o e).2 (I.ok.noex b o e)⟩
theorem Inv.bk (I : Inv X pins σ H s) : ∀ b o, X.base.get? b = some o → s.heap.get? b = some o := fun b o e => (I.bs b o e).1
theorem Inv.mod (I : Inv X pins σ H s) : Mod X.K X.mg X.base := I.ok.mod
theorem Inv.kIn (I : Inv X pins σ H s) : X.K.In s.heap := I.ok.mod.kin.keeps I.bk
theorem Inv.lt (I : Inv X pins σ H s) : X.env.locals < s.heap.objs.size := let ⟨_, hn, _⟩ := I.loc; hn.lt
theorem Inv.sz (I : Inv X pins σ H s) : X.s₀.heap.objs.size ≤ s.heap.objs.size := Nat.le_trans I.ok.above (Nat.le_of_lt I.lt)
theorem Inv.nofs (I : Inv X pins σ H s) {a : Addr} (h : s.heap.objs.size ≤ a) : a ∉ X.fs := fun hb => by
  obtain ⟨_, o, ho, _⟩ := I.ok.funs.mem hb
  exact absurd (Nat.lt_of_lt_of_le (Heap.lt_size ho) (Nat.le_trans I.sz h)) (Nat.lt_irrefl _)
theorem Inv.cne (I : Inv X pins σ H s) : ∀ x c, X.env.cells.lookup x = some c → c ≠ X.env.locals := fun x c e z => by
  obtain ⟨v, o, ho, hd⟩ := I.cell x c e
  obtain ⟨m, ⟨o', es, ep, ho', hd', _⟩, _⟩ := I.loc
  rw [z, ho'] at ho; cases ho; rw [hd'] at hd; cases hd
theorem Inv.funs (I : Inv X pins σ H s) : s.heap.FunFrames X.base X.outer := by
  have all : ∀ (l : List Env), (∀ b ∈ frs l, b ∈ X.fs) → X.s₀.heap.FunFrames X.base l → s.heap.FunFrames X.base l := by
    intro l
    induction l with
    | nil => intro _ _; trivial
    | cons env r ih =>
      intro hs hl
      obtain ⟨hk, ⟨L, o, hf, hn, ho, hd⟩, hr⟩ := hl
      have hL : L ∈ X.fs := hs L (by unfold frs; rw [List.filterMap_cons, hf]; exact List.mem_cons_self)
      obtain ⟨sl, e⟩ := I.base.slot L o ho (I.ok.frf L hL) hL fun z => I.ok.exfs L z hL
      exact ⟨hk, ⟨L, _, hf, hn, e, hd⟩, ih (fun b hb => hs b (by unfold frs; rw [List.filterMap_cons, hf]; exact List.mem_cons_of_mem _ hb)) hr⟩
  exact all X.outer (fun _ hb => hb) I.ok.funs
theorem Inv.stack (I : Inv X pins σ H s) : s.heap.FunFrames X.base X.stack := by
  rcases I.ok.stk with e | ⟨e, hf⟩
  · rw [e]; exact I.funs
  · rw [e]
    obtain ⟨m, hn, _⟩ := I.loc
    refine .cons (by rw [I.ok.kind]; decide) hf hn ?_ I.funs
    exact Heap.get?_none_of_le (Nat.le_trans I.ok.bsz I.ok.above)
theorem Inv.stkSub (I : Inv X pins σ H s) : ∀ b ∈ frs X.stack, b ∈ X.env.locals :: X.fs := fun b hb => by
  rcases I.ok.stk with e | ⟨e, hf⟩
  · rw [e] at hb; exact List.mem_cons_of_mem _ hb
  · rw [e] at hb
    unfold frs at hb
    rw [List.filterMap_cons, hf] at hb
    exact hb
theorem Inv.stkFree (I : Inv X pins σ H s) : ∀ b ∈ frs X.stack, H b = none := fun b hb => by
  rcases List.mem_cons.mp (I.stkSub b hb) with e | hb
  · rw [e]; exact I.free
  · obtain ⟨_, o, ho, _⟩ := I.ok.funs.mem hb
    exact I.base.free b o ho (I.ok.frf b hb) fun z => I.ok.exfs b z hb
theorem Inv.step {g' : Array GenState} {t' : Nat} {d' : Drawn} {ch : List Addr} (I : Inv X pins σ H s)
    (hch : ∀ b ∈ ch, (b ∈ X.ex ∨ X.s₀.heap.objs.size ≤ b) ∧ b ≠ X.env.locals ∧ (∀ x c, X.env.cells.lookup x = some c → c ≠ b) ∧ ∀ p ∈ X.pn ++ pins, p.1 ≠ b)
    (keep : ∀ b o, b ≠ X.env.locals → b ∉ X.fs → b ∉ ch → s.heap.get? b = some o → H b = none → h'.get? b = some o)
    (slot : ∀ b o, b ≠ X.env.locals → b ∈ X.fs → b ∉ ch → s.heap.get? b = some o → H b = none → ∃ sl, h'.get? b = some { o with slots := sl }) (free : ∀ b o, b ∉ ch → s.heap.get? b = some o → H b = none → H' b = none)
    (there : ∀ b o, b ∉ ch → s.heap.get? b = some o → ∃ o', h'.get? b = some o')
    (tups : ∀ b xs, H b = some (.tup xs) → H' b = some (.tup xs)) (frzs : ∀ b o u, H b = some (.frz o u) → H' b = some (.frz o u)) (tbls : ∀ b ps, H b = some (.tbl ps) → ∃ more, H' b = some (.tbl (ps ++ more)))
    (ns : ∀ m, s.heap.Ns X.env.locals m → h'.Ns X.env.locals m) (hok : HOk X.prog X.w H' h') (hg : AllBare g') :
    Inv X pins σ H' { s with heap := h', gens := g', drawn := d', toks := t' } := by
  have neL : ∀ b o, X.s₀.heap.get? b = some o → b ≠ X.env.locals := fun b o e => Nat.ne_of_lt (Nat.lt_of_lt_of_le (Heap.lt_size e) I.ok.above)
  have neC : ∀ b o, X.s₀.heap.get? b = some o → b ∉ X.ex → b ∉ ch := fun b o e hx hb => by
    rcases (hch b hb).1 with z | z
    · exact hx z
    · exact absurd (Nat.lt_of_lt_of_le (Heap.lt_size e) z) (Nat.lt_irrefl _)
  have cellK : ∀ x c, X.env.cells.lookup x = some c → ∀ v, s.heap.IsCell c v → h'.IsCell c v := fun x c e v ⟨o, ho, hd⟩ => by
    have nch : c ∉ ch := fun z => (hch c z).2.2.1 x c e rfl
    by_cases hc : c ∈ X.fs
    · obtain ⟨sl, q⟩ := slot c o (I.cne x c e) hc nch ho (I.freeC x c e)
      exact ⟨_, q, hd⟩
    · exact ⟨o, keep c o (I.cne x c e) hc nch ho (I.freeC x c e), hd⟩
  refine ⟨I.ok, I.os, hg, ⟨fun b o e n hb hx => ?_, fun b o e n hb hx => ?_, fun b o e n hx => ?_, fun b o e hx => ?_, fun b xs e => tups b xs (I.base.tups b xs e), fun b o xs e => frzs b o xs (I.base.frzs b o xs e), fun b ps e => ?_⟩, ?_, fun x c e => ?_, ?_, fun x c e => ?_, fun p hp => ?_, hok, I.len⟩
  · exact keep b o (neL b o e) hb (neC b o e hx) (I.base.keep b o e n hb hx) (I.base.free b o e n hx)
  · obtain ⟨sl, e1⟩ := I.base.slot b o e n hb hx
    obtain ⟨sl', e2⟩ := slot b _ (neL b o e) hb (neC b o e hx) e1 (I.base.free b o e n hx)
    exact ⟨sl', e2⟩
  · obtain ⟨o', e1⟩ := I.base.there b o e hx
    exact free b o' (neC b o e hx) e1 (I.base.free b o e n hx)
  · obtain ⟨o', e1⟩ := I.base.there b o e hx
    exact there b o' (neC b o e hx) e1
  · obtain ⟨m1, e1⟩ := I.base.tbls b ps e
    obtain ⟨m2, e2⟩ := tbls b _ e1
    exact ⟨m1 ++ m2, by rw [e2, Array.append_assoc]⟩
  · obtain ⟨m, hn, hl⟩ := I.loc
    refine ⟨m, ns m hn, fun i x v e1 e2 e3 => ?_⟩
    obtain ⟨u, r, l⟩ := hl i x v e1 e2 e3
    refine ⟨u, r, ?_⟩
    rcases l with l | ⟨k, c, e, z⟩
    · exact .inl l
    · exact .inr ⟨k, c, e, cellK x c e _ z⟩
  · obtain ⟨v, z⟩ := I.cell x c e
    exact ⟨v, cellK x c e v z⟩
  · obtain ⟨m, ⟨o, _, _, ho, _⟩, _⟩ := I.loc
    exact free _ o (fun z => (hch _ z).2.1 rfl) ho I.free
  · obtain ⟨v, o, ho, hd⟩ := I.cell x c e
    exact free c o (fun z => (hch c z).2.2.1 x c e rfl) ho (I.freeC x c e)
  · obtain ⟨e, n, ne, nf, d⟩ := I.pin p hp
    have nch : p.1 ∉ ch := fun z => (hch p.1 z).2.2.2 p hp rfl
    exact ⟨keep p.1 p.2 ne nf nch e n, free p.1 p.2 nch e n, ne, nf, d⟩
theorem Inv.un {t' : Nat} (I : Inv X pins σ H s) (u : Un X.fs [] H H' s.heap h') (hok : HOk X.prog X.w H' h') : Inv X pins σ H' { s with heap := h', toks := t' } := by
  obtain ⟨m, ⟨o, es, ep, ho, r⟩, _⟩ := id I.loc
  obtain ⟨sl, hL⟩ := u.any ho I.free (by simp)
  exact I.step (g' := s.gens) (d' := s.drawn) (ch := []) (fun _ z => nomatch z) (fun b o _ hb _ e n => u.keep b o e n hb (by simp)) (fun b o _ hb _ e n => u.slot b o e n hb (by simp)) (fun b o _ e n => u.free b o e n (by simp)) (fun b o _ e => u.there b o e (by simp)) u.tups u.frzs u.tbls (fun m' hm => by
    obtain ⟨o', es', ep', ho', r'⟩ := hm
    rw [ho] at ho'; cases ho'
    exact ⟨_, es', ep', hL, r'⟩) hok I.bare
theorem Inv.call {g' : Array GenState} {t' : Nat} {d' : Drawn} {ch : List Addr} (I : Inv X pins σ H s) (u : Un (frs X.stack) ch H H' s.heap h') (hok : HOk X.prog X.w H' h') (hg : AllBare g')
    (hch : ∀ b ∈ ch, (b ∈ X.ex ∨ X.s₀.heap.objs.size ≤ b) ∧ b ≠ X.env.locals ∧ (∀ x c, X.env.cells.lookup x = some c → c ≠ b) ∧ ∀ p ∈ X.pn ++ pins, p.1 ≠ b) :
    Inv X pins σ H' { s with heap := h', gens := g', drawn := d', toks := t' } := by
  obtain ⟨m, ⟨o, es, ep, ho, r⟩, _⟩ := id I.loc
  obtain ⟨sl, hL⟩ := u.any ho I.free fun z => (hch _ z).2.1 rfl
  exact I.step (ch := ch) hch (fun b o hL hb hc e n => u.keep b o e n (fun z => (List.mem_cons.mp (I.stkSub b z)).elim hL hb) hc) (fun b o _ _ hc e n => u.any e n hc) (fun b o hc e n => u.free b o e n hc) (fun b o hc e => u.there b o e hc) u.tups u.frzs u.tbls (fun m' hm => by
    obtain ⟨o', es', ep', ho', r'⟩ := hm
    rw [ho] at ho'; cases ho'
    exact ⟨_, es', ep', hL, r'⟩) hok hg
theorem Inv.turned {t' : Nat} {it : Addr} (I : Inv X pins σ H s) (k : ∀ b o, b ≠ it → s.heap.get? b = some o → h'.get? b = some o) (hn : H it = none) (hL : it ≠ X.env.locals)
    (h1 : it ∈ X.ex ∨ X.s₀.heap.objs.size ≤ it) (h2 : ∀ x c, X.env.cells.lookup x = some c → c ≠ it) (h3 : ∀ p ∈ X.pn ++ pins, p.1 ≠ it) : Inv X pins σ H { s with heap := h', toks := t' } := by
  have nit : ∀ b u, H b = some u → b ≠ it := fun b u e z => by rw [z, hn] at e; cases e
  refine I.step (g' := s.gens) (d' := s.drawn) (ch := [it]) (fun b hb => ?_) (fun b o _ _ hc e _ => k b o (fun z => hc (by simp [z])) e) (fun b o _ _ hc e _ => ⟨o.slots, k b o (fun z => hc (by simp [z])) e⟩) (fun _ _ _ _ n => n)
    (fun b o hc e => ⟨o, k b o (fun z => hc (by simp [z])) e⟩) (fun _ _ e => e) (fun _ _ _ e => e) (fun b ps e => ⟨#[], by rw [e]; simp⟩) (fun m hm => ?_) (fun b u e => ?_) I.bare
  · have e : b = it := by simpa using hb
    subst e
    exact ⟨h1, hL, h2, h3⟩
  · obtain ⟨o, es, ep, ho, r⟩ := hm
    exact ⟨o, es, ep, k _ o (Ne.symm hL) ho, r⟩
  · refine (I.hok b u e).stay (fun c v hc q => k c v ?_ q) (fun _ q => q) fun _ _ q => q
    rcases hc with z | z
    · rw [z]; exact nit b u e
    · exact nit c _ z
theorem Inv.tok (I : Inv X pins σ H s) (t : Nat) : Inv X pins σ H { s with toks := t } := I.un (h' := s.heap) (t' := t) Un.refl I.hok
theorem Inv.kept {t' : Nat} (I : Inv X pins σ H s) (k : ∀ b u, s.heap.get? b = some u → h'.get? b = some u) : Inv X pins σ H { s with heap := h', toks := t' } := I.un (Un.kept k) (I.hok.kept k)
theorem Inv.laid {a : Addr} {o : HO} {t' : Nat} (I : Inv X pins σ H s) (k : ∀ b u, s.heap.get? b = some u → h'.get? b = some u) (hp : s.heap.objs.size ≤ a) (new : ObjOk X.prog X.w (upd H a o) h' a o) :
    Inv X pins σ (upd H a o) { s with heap := h', toks := t' } := I.un (Un.laid k hp (I.hok.fresh hp)) (I.hok.laid k hp new)
theorem Inv.write {x e : Addr} {o : HO} {t' : Nat} (I : Inv X pins σ H s) (mu : Mut (H x)) (he : e = x ∨ H e = some (.own x)) (k : ∀ b u, b ≠ e → s.heap.get? b = some u → h'.get? b = some u) (heo : ∃ u, h'.get? e = some u)
    (new : ObjOk X.prog X.w (upd H x o) h' x o) : Inv X pins σ (upd H x o) { s with heap := h', toks := t' } := I.un (Un.write mu he k heo) (I.hok.write mu he k heo new)
theorem Inv.pins_of {pins' : List (Addr × Obj)} (I : Inv X pins σ H s) (h : ∀ p ∈ pins', s.heap.get? p.1 = some p.2 ∧ H p.1 = none ∧ p.1 ≠ X.env.locals ∧ p.1 ∉ X.fs ∧ ∀ v, p.2.data ≠ .cell v) : Inv X pins' σ H s :=
  ⟨I.ok, I.os, I.bare, I.base, I.loc, I.cell, I.free, I.freeC, fun p hp => (List.mem_append.mp hp).elim (fun z => I.pin p (List.mem_append_left _ z)) (h p), I.hok, I.len⟩
theorem nodup_ix {N : List Str} (hN : N.Nodup) {i j : Nat} {x : Str} (a : N[i]? = some x) (b : N[j]? = some x) : i = j := by
  obtain ⟨h1, e1⟩ := List.getElem?_eq_some_iff.mp a
  obtain ⟨h2, e2⟩ := List.getElem?_eq_some_iff.mp b
  exact (List.getElem_inj hN).mp (e1.trans e2.symm)
theorem store_ok2 {M : Model} {A : Around} {E : Value → Shared → Prop} {i : Nat} {x : Str} {v : V} {u : Value} {Q : Unit → Shared → Prop} (I : Inv X pins σ H s) (hN : X.N.Nodup) (hi : X.N[i]? = some x) (hx : Loc X.env.scope x) (r : RelV v u)
    (h : ∀ s', Inv X pins (σ.set i (some v)) H s' → (∃ a, Heap.SameBut a s.heap s'.heap ∧ (a = X.env.locals ∨ X.env.cells.lookup x = some a)) → Q () s') (hf : X.fn x = true ∨ X.env.scope.names.lookup x = some .local := by first | exact .inl rfl | exact .inr rfl | assumption) : wpAny M A (storeName X.env x u) Q E s := by
  obtain ⟨m, hn, hl⟩ := id I.loc
  have hcls : (X.env.scope.kind == .class || (X.env.scope.kind == .module && X.env.locals != X.env.globals)) = false := by rw [I.ok.kind]; rfl
  have hiσ : i < σ.length := by rw [I.len]; exact (List.getElem?_eq_some_iff.mp hi).1
  have cne := I.cne
  have tracked : ∀ {a : Addr} {h' : Heap}, (∃ o, s.heap.get? a = some o ∧ H a = none) → Heap.SameBut a s.heap h' → HOk X.prog X.w H h' := fun {a h'} ha hs b ob e => by
    obtain ⟨_, _, hfree⟩ := ha
    refine (I.hok b ob e).stay (fun c w' hc q => (hs.2 c ?_).trans q) (fun _ q => q) fun _ _ q => q
    rintro rfl
    rcases hc with rfl | hc
    · rw [hfree] at e; cases e
    · rw [hfree] at hc; cases hc
  rcases hx with hk | hk
  · refine wpAny_storeName_local hk hn (fun h' hn' hs => ?_) hcls
    obtain ⟨oL, _, _, hoL, _⟩ := id hn
    refine h _ ⟨I.ok, I.os, I.bare, ⟨fun b o e n hb hx => ?_, fun b o e n hb hx => ?_, I.base.free, fun b o e hx => ?_, I.base.tups, I.base.frzs, I.base.tbls⟩, ⟨_, hn', fun j y v' e1 e2 e3 => ?_⟩, fun y c e => ?_, I.free, I.freeC, fun p hp => ?_, tracked ⟨oL, hoL, I.free⟩ hs, by simpa using I.len⟩ ⟨_, hs, .inl rfl⟩
    · exact (hs.2 b (Nat.ne_of_lt (Nat.lt_of_lt_of_le (Heap.lt_size e) I.ok.above))).trans (I.base.keep b o e n hb hx)
    · obtain ⟨sl, e1⟩ := I.base.slot b o e n hb hx
      exact ⟨sl, (hs.2 b (Nat.ne_of_lt (Nat.lt_of_lt_of_le (Heap.lt_size e) I.ok.above))).trans e1⟩
    · obtain ⟨o', e1⟩ := I.base.there b o e hx
      exact ⟨o', (hs.2 b (Nat.ne_of_lt (Nat.lt_of_lt_of_le (Heap.lt_size e) I.ok.above))).trans e1⟩
    · by_cases hj : j = i
      · subst hj
        rw [hi] at e1; cases e1
        rw [List.getElem?_set_self hiσ] at e2
        cases e2
        exact ⟨u, r, .inl ⟨hk, by simp⟩⟩
      · rw [List.getElem?_set_ne (Ne.symm hj)] at e2
        obtain ⟨u', r', q⟩ := hl j y v' e1 e2 e3
        refine ⟨u', r', ?_⟩
        rcases q with ⟨k, e⟩ | ⟨k, c, e, z⟩
        · refine .inl ⟨k, ?_⟩
          have : y ≠ x := fun e => hj (nodup_ix hN e1 (e ▸ hi))
          simp [this, e]
        · exact .inr ⟨k, c, e, z.sameBut hs (cne y c e)⟩
    · obtain ⟨w', z⟩ := I.cell y c e
      exact ⟨w', z.sameBut hs (cne y c e)⟩
    · obtain ⟨e, n, ne, nf, d⟩ := I.pin p hp
      exact ⟨(hs.2 p.1 ne).trans e, n, ne, nf, d⟩
  · have hfn : X.fn x = true := by
      rcases hf with z | z
      · exact z
      · rw [z] at hk; cases hk
    obtain ⟨c, hc⟩ := I.ok.has x (.inl hk)
    obtain ⟨w', z⟩ := I.cell x c hc
    refine wpAny_storeName_cell I.ok.kind hk hc z (fun h' hc' hs => ?_)
    obtain ⟨oc, hoc, hocd⟩ := id z
    refine h { s with heap := h' } ⟨I.ok, I.os, I.bare, ⟨fun b o e n hb hx => ?_, fun b o e n hb hx => ?_, I.base.free, fun b o e hx => ?_, I.base.tups, I.base.frzs, I.base.tbls⟩, ⟨m, hn.sameBut hs (Ne.symm (cne x c hc)), fun j y v' e1 e2 e3 => ?_⟩, fun y c' e => ?_, I.free, I.freeC, fun p hp => ?_, tracked ⟨oc, hoc, I.freeC x c hc⟩ hs, by simpa using I.len⟩ ⟨c, hs, .inr hc⟩
    · exact (hs.2 b (Nat.ne_of_lt (Nat.lt_of_lt_of_le (Heap.lt_size e) (I.ok.cab x c hfn hc)))).trans (I.base.keep b o e n hb hx)
    · obtain ⟨sl, e1⟩ := I.base.slot b o e n hb hx
      exact ⟨sl, (hs.2 b (Nat.ne_of_lt (Nat.lt_of_lt_of_le (Heap.lt_size e) (I.ok.cab x c hfn hc)))).trans e1⟩
    · obtain ⟨o', e1⟩ := I.base.there b o e hx
      exact ⟨o', (hs.2 b (Nat.ne_of_lt (Nat.lt_of_lt_of_le (Heap.lt_size e) (I.ok.cab x c hfn hc)))).trans e1⟩
    · by_cases hj : j = i
      · subst hj
        rw [hi] at e1; cases e1
        rw [List.getElem?_set_self hiσ] at e2
        cases e2
        exact ⟨u, r, .inr ⟨.inl hk, c, hc, hc'⟩⟩
      · rw [List.getElem?_set_ne (Ne.symm hj)] at e2
        obtain ⟨u', r', q⟩ := hl j y v' e1 e2 e3
        refine ⟨u', r', ?_⟩
        rcases q with q | ⟨k, c', e, z'⟩
        · exact .inl q
        · refine .inr ⟨k, c', e, z'.sameBut hs ?_⟩
          rintro rfl
          exact hj (nodup_ix hN e1 (I.ok.inj _ _ _ e hc ▸ hi))
    · by_cases hcc : c' = c
      · subst hcc; exact ⟨_, hc'⟩
      · obtain ⟨w2, z2⟩ := I.cell y c' e
        exact ⟨w2, z2.sameBut hs hcc⟩
    · obtain ⟨e, n, ne, nf, d⟩ := I.pin p hp
      refine ⟨(hs.2 p.1 ?_).trans e, n, ne, nf, d⟩
      intro q
      rw [q, hoc] at e
      have q' : oc = p.2 := Option.some.inj e
      exact d w' (by rw [← q']; exact hocd)
theorem store_ok {M : Model} {A : Around} {E : Value → Shared → Prop} {i : Nat} {x : Str} {v : V} {u : Value} {Q : Unit → Shared → Prop} (I : Inv X pins σ H s) (hN : X.N.Nodup) (hi : X.N[i]? = some x) (hx : Loc X.env.scope x) (r : RelV v u)
    (h : ∀ s', Inv X pins (σ.set i (some v)) H s' → Q () s') (hf : X.fn x = true ∨ X.env.scope.names.lookup x = some .local := by first | exact .inl rfl | exact .inr rfl | assumption) : wpAny M A (storeName X.env x u) Q E s :=
  store_ok2 I hN hi hx r (fun s' I' _ => h s' I') hf
theorem Inv.call' {s' : Shared} {ch : List Addr} (I : Inv X pins σ H s) (ho : s'.os = s.os) (u : Un (frs X.stack) ch H H' s.heap s'.heap) (hok : HOk X.prog X.w H' s'.heap) (hg : AllBare s'.gens)
    (hch : ∀ b ∈ ch, (b ∈ X.ex ∨ X.s₀.heap.objs.size ≤ b) ∧ b ≠ X.env.locals ∧ (∀ x c, X.env.cells.lookup x = some c → c ≠ b) ∧ ∀ p ∈ X.pn ++ pins, p.1 ≠ b) : Inv X pins σ H' s' := by
  obtain ⟨h', g', d', t', o'⟩ := s'
  have e : o' = s.os := ho
  subst e
  exact I.call (g' := g') (t' := t') (d' := d') u hok hg hch
end
abbrev XK := Value → Option Addr → Hp → Prop
abbrev St := List (Option V)
abbrev VK := V → Hp → Prop
abbrev TE := St → Hp → VK → Prop
abbrev TT := St → Hp → (Bool → Hp → Prop) → Prop
abbrev TA := St → Hp → (List V → Hp → Prop) → Prop
structure Ends where
  nx : St → Hp → Prop
  rt : VK
  bk : St → Hp → Prop := fun _ _ => False
  ct : St → Hp → Prop := fun _ _ => False
abbrev TS := Ends → St → Hp → Prop
def EP (X : Cx) (pins : List (Addr × Obj)) (σ : St) (Q : VK) (u : Value) (s' : Shared) : Prop := ∃ v H', Inv X pins σ H' s' ∧ RelV v u ∧ Q v H'
def TP (X : Cx) (pins : List (Addr × Obj)) (σ : St) (Q : Bool → Hp → Prop) (b : Bool) (s' : Shared) : Prop := ∃ H', Inv X pins σ H' s' ∧ Q b H'
def AP (X : Cx) (pins : List (Addr × Obj)) (σ : St) (Q : List V → Hp → Prop) (us : List Value) (s' : Shared) : Prop := ∃ vs H', Inv X pins σ H' s' ∧ Vals vs us ∧ Q vs H'
def SP (X : Cx) (pins : List (Addr × Obj)) (D : Ends) (f : Flow) (s' : Shared) : Prop :=
  match f with
  | .next => ∃ σ' H', Inv X pins σ' H' s' ∧ D.nx σ' H'
  | .brk => ∃ σ' H', Inv X pins σ' H' s' ∧ D.bk σ' H'
  | .cont => ∃ σ' H', Inv X pins σ' H' s' ∧ D.ct σ' H'
  | .ret u => ∃ v σ' H', Inv X pins σ' H' s' ∧ RelV v u ∧ D.rt v H'
def PE (X : Cx) (e : Expr) (t : TE) : Prop :=
  ∀ (pins : List (Addr × Obj)) (s : Shared) (σ : St) (H : Hp) (Q : VK), Inv X pins σ H s → t σ H Q → wpAny (model X.prog X.w) X.A (eval e X.env) (EP X pins σ Q) X.xe s
def PT (X : Cx) (e : Expr) (t : TT) : Prop :=
  ∀ (pins : List (Addr × Obj)) (s : Shared) (σ : St) (H : Hp) (Q : Bool → Hp → Prop), Inv X pins σ H s → t σ H Q → wpAny (model X.prog X.w) X.A (isTrue e X.env (eval e X.env)) (TP X pins σ Q) X.xe s
def PW (X : Cx) (e : Expr) (t : TT) : Prop :=
  ∀ (whole : Sem Value) (pins : List (Addr × Obj)) (s : Shared) (σ : St) (H : Hp) (Q : Bool → Hp → Prop), Inv X pins σ H s → t σ H Q → wpAny (model X.prog X.w) X.A (isTrue e X.env whole) (TP X pins σ Q) X.xe s
theorem PW.pt {X : Cx} {e : Expr} {t : TT} (h : PW X e t) : PT X e t := h _
def PA (X : Cx) (es : List Expr) (t : TA) : Prop :=
  ∀ (pos : Pos) (pins : List (Addr × Obj)) (s : Shared) (σ : St) (H : Hp) (Q : List V → Hp → Prop), Inv X pins σ H s → t σ H Q → wpAny (model X.prog X.w) X.A (spliced (backTo pos (starEach es X.env))) (AP X pins σ Q) X.xe s
def PS (X : Cx) (st : Stmt) (t : TS) : Prop :=
  ∀ (pins : List (Addr × Obj)) (s : Shared) (σ : St) (H : Hp) (D : Ends), Inv X pins σ H s → t D σ H → wpAny (model X.prog X.w) X.A (exec st X.env) (SP X pins D) X.xe s
def PSs (X : Cx) (st : List Stmt) (t : TS) : Prop :=
  ∀ (pins : List (Addr × Obj)) (s : Shared) (σ : St) (H : Hp) (D : Ends), Inv X pins σ H s → t D σ H → wpAny (model X.prog X.w) X.A (execs st X.env) (SP X pins D) X.xe s
theorem thn {α : Type} {t : Sem α} {Q Q' : α → Shared → Prop} {M : Model} {A : Around} {E : Value → Shared → Prop} {s : Shared} (h : wpAny M A t Q E s) (hQ : ∀ a s, Q a s → Q' a s) : wpAny M A t Q' E s := wpAny_mono h hQ fun _ _ x => x
end L2
namespace L2
open PySem PySem.Spec PyProof.Rows
section
variable {X : Cx}
def tVar (i : Nat) : TE := fun σ H Q => ∃ v, σ[i]? = some (some v) ∧ Q v H
def tC (v : V) : TE := fun _ H Q => Q v H
theorem pe_var {i : Nat} {x : Str} {pos : Pos} (hN : X.N[i]? = some x) (hv : Vis X.env.scope x) (hd : (x == ("__debug__" : Str)) = false := by decide) (hcd : (x == ("__classdict__" : Str)) = false := by decide) : PE X (.Name x pos) (tVar i) := by
  intro pins s σ H Q I h
  obtain ⟨v, e, h⟩ := h
  obtain ⟨m, hn, hl⟩ := I.loc
  obtain ⟨u, r, l⟩ := hl i x v hN e hv
  have fin : EP X pins σ Q u s := ⟨v, H, I, r, h⟩
  rcases l with ⟨hk, hm⟩ | ⟨hk, c, hc, hcell⟩
  · exact wpAny_Name (wpAny_loadName_local I.ok.kind hk hn hm fin) hd
  · rcases hk with hk | hk
    · exact wpAny_Name (wpAny_loadName_cell I.ok.kind hk hc hcell fin) hd
    · exact wpAny_Name (wpAny_loadName_free I.ok.kind hk hc hcell fin hcd) hd
theorem pe_int {i j pos} : PE X (.Constant (.int i) j pos) (tC (.int i)) := fun _ _ _ H _ I h => wpAny_Constant_int ⟨.int i, H, I.tok _, ⟨_, rfl⟩, h⟩
theorem pe_bl {b j pos} : PE X (.Constant (.bool b) j pos) (tC (.bl b)) := fun _ _ _ H _ I h => Constant_bool ⟨.bl b, H, I, rfl, h⟩
theorem pe_non {j pos} : PE X (.Constant .none j pos) (tC .non) := fun _ _ _ H _ I h => Constant_none ⟨.non, H, I, rfl, h⟩
theorem pe_str {x j pos} : PE X (.Constant (.str x) j pos) (tC (.str x)) := fun _ _ _ H _ I h => Calls.Constant_str ⟨.str x, H, I.tok _, ⟨_, rfl⟩, h⟩
def Gl (X : Cx) (x : Str) : Prop := X.env.kindOf x = some .globalImplicit
theorem ld_glob {E : Value → Shared → Prop} {pins : List (Addr × Obj)} {s : Shared} {σ : St} {H : Hp} {x : Str} {u : Value} {pos : Pos} {Q : Value → Shared → Prop} (I : Inv X pins σ H s) (hg : Gl X x) (hm : X.mg x = some u) (h : Q u s)
    (hd : (x == ("__debug__" : Str)) = false := by decide) : wpAny (model X.prog X.w) X.A (eval (.Name x pos) X.env) Q E s :=
  Calls.Name_function_global I.ok.kind hg (Calls.loadGlobal_global (by rw [I.ok.glob]; exact I.mod.glob.keeps I.bk) hm h) hd
theorem ld_blt {E : Value → Shared → Prop} {pins : List (Addr × Obj)} {s : Shared} {σ : St} {H : Hp} {x : Str} {u : Value} {pos : Pos} {Q : Value → Shared → Prop} (I : Inv X pins σ H s) (hg : Gl X x) (hm : X.mg x = none) (hv : bootBuiltins x = some u) (h : Q u s)
    (hn : x ≠ "__name__" := by decide) (hd : (x == ("__debug__" : Str)) = false := by decide) : wpAny (model X.prog X.w) X.A (eval (.Name x pos) X.env) Q E s := by
  obtain ⟨mb, h1, h2⟩ := I.mod.blt
  exact Calls.Name_function_global I.ok.kind hg (Calls.loadGlobal_builtin (by rw [I.ok.glob]; exact I.mod.glob.keeps I.bk) hm (by rw [I.ok.blt]; exact h1.keeps I.bk) ((h2 x hn).trans hv) h) hd
theorem pe_glob {x : Str} {v : V} {u : Value} {pos : Pos} (hg : Gl X x) (hm : X.mg x = some u) (r : RelV v u) (hd : (x == ("__debug__" : Str)) = false := by decide) : PE X (.Name x pos) (tC v) :=
  fun _ _ _ H _ I h => ld_glob I hg hm ⟨v, H, I, r, h⟩ hd
theorem pe_bltn {x : Str} {v : V} {u : Value} {pos : Pos} (hg : Gl X x) (hm : X.mg x = none) (hv : bootBuiltins x = some u) (r : RelV v u) (hn : x ≠ "__name__" := by decide) (hd : (x == ("__debug__" : Str)) = false := by decide) : PE X (.Name x pos) (tC v) :=
  fun _ _ _ H _ I h => ld_blt I hg hm hv ⟨v, H, I, r, h⟩ hn hd
variable {a b : Expr} {ta tb : TE} {pos : Pos}
theorem nobehind (b : Expr) {op : CmpOp} (h : op ≠ .In) (h2 : op ≠ .NotIn) : behindInMarks op b = false := by
  have e1 : (op == CmpOp.In) = false := by cases op <;> first | rfl | exact absurd rfl h
  have e2 : (op == CmpOp.NotIn) = false := by cases op <;> first | rfl | exact absurd rfl h2
  cases b <;> simp [behindInMarks, e1, e2]
def tB (t : TE) : TT := fun σ H Q => t σ H fun x H1 => ∃ c, x = .bl c ∧ Q c H1
theorem pt_val {e : Expr} {t : TE} (h : PE X e t) (he : ∀ whole, isTrue e X.env whole = (do let v ← whole; standAt e.pos; holding [v] (truthy v)) := by intro _; rfl) : PT X e (tB t) := by
  intro pins s σ H Q I hw
  refine isTrue_plain (thn (h pins s σ H _ I hw) fun v s1 ⟨x, H1, I1, r1, q1⟩ => ?_) (he _)
  obtain ⟨d, rfl, q⟩ := q1
  cases r1
  exact wpAny_truthy_bool ⟨H1, I1, q⟩
variable {tA tB' : TT} {rest : List Expr}
def tAnd (t u : TT) : TT := fun σ H Q => t σ H fun c H1 => if c = true then u σ H1 Q else Q false H1
def tOr (t u : TT) : TT := fun σ H Q => t σ H fun c H1 => if c = true then Q true H1 else u σ H1 Q
def tNot (t : TT) : TT := fun σ H Q => t σ H fun c H1 => Q (!c) H1
theorem pw_and1 (ha : PT X a tA) : PW X (.BoolOp .And [a] pos) tA := by
  intro wh pins s σ H Q I h
  refine isTrue_and (thn (ha pins s σ H Q I h) fun c s1 e => ?_)
  cases c with
  | true => exact isTrue_and_nil e
  | false => exact e
theorem pw_or1 (ha : PT X a tA) : PW X (.BoolOp .Or [a] pos) tA := by
  intro wh pins s σ H Q I h
  refine isTrue_or (thn (ha pins s σ H Q I h) fun c s1 e => ?_)
  cases c with
  | false => exact isTrue_or_nil e
  | true => exact e
theorem pw_and (ha : PT X a tA) (hb : PW X (.BoolOp .And (b :: rest) pos) tB') : PW X (.BoolOp .And (a :: b :: rest) pos) (tAnd tA tB') := by
  intro wh pins s σ H Q I h
  refine isTrue_and (thn (ha pins s σ H _ I h) fun c s1 ⟨H1, I1, q1⟩ => ?_)
  cases c with
  | true => exact hb wh pins s1 σ H1 Q I1 q1
  | false => exact ⟨H1, I1, q1⟩
theorem pw_or (ha : PT X a tA) (hb : PW X (.BoolOp .Or (b :: rest) pos) tB') : PW X (.BoolOp .Or (a :: b :: rest) pos) (tOr tA tB') := by
  intro wh pins s σ H Q I h
  refine isTrue_or (thn (ha pins s σ H _ I h) fun c s1 ⟨H1, I1, q1⟩ => ?_)
  cases c with
  | true => exact ⟨H1, I1, q1⟩
  | false => exact hb wh pins s1 σ H1 Q I1 q1
theorem pt_not (ha : PT X a tA) : PT X (.UnaryOp .Not a pos) (tNot tA) := by
  intro pins s σ H Q I h
  exact isTrue_not (ha pins s σ H (fun c H1 => Q (!c) H1) I h)
def tAndV (ta tb : TE) : TE := fun σ H Q => ta σ H fun x H1 => ∃ c, x = .bl c ∧ if c = true then tb σ H1 Q else Q (.bl false) H1
def tOrV (ta tb : TE) : TE := fun σ H Q => ta σ H fun x H1 => ∃ c, x = .bl c ∧ if c = true then Q (.bl true) H1 else tb σ H1 Q
def tNotV (ta : TE) : TE := fun σ H Q => ta σ H fun x H1 => ∃ c, x = .bl c ∧ Q (.bl (!c)) H1
theorem pe_one {op} {t : TE} (h : PE X a t) : PE X (.BoolOp op [a] pos) t := fun pins s σ H Q I hw => BoolOp_one (h pins s σ H Q I hw)
theorem pe_and (ha : PE X a ta) (hb : PE X (.BoolOp .And (b :: rest) pos) tb) : PE X (.BoolOp .And (a :: b :: rest) pos) (tAndV ta tb) := by
  intro pins s σ H Q I h
  refine BoolOp_and (thn (ha pins s σ H _ I h) fun v s1 ⟨x, H1, I1, r1, q1⟩ => ?_)
  obtain ⟨c, rfl, q1⟩ := q1
  cases r1
  refine wpAny_truthy_bool ?_
  cases c with
  | true => exact hb pins s1 σ H1 Q I1 q1
  | false => exact ⟨.bl false, H1, I1, rfl, q1⟩
theorem pe_or (ha : PE X a ta) (hb : PE X (.BoolOp .Or (b :: rest) pos) tb) : PE X (.BoolOp .Or (a :: b :: rest) pos) (tOrV ta tb) := by
  intro pins s σ H Q I h
  refine BoolOp_or (thn (ha pins s σ H _ I h) fun v s1 ⟨x, H1, I1, r1, q1⟩ => ?_)
  obtain ⟨c, rfl, q1⟩ := q1
  cases r1
  refine wpAny_truthy_bool ?_
  cases c with
  | false => exact hb pins s1 σ H1 Q I1 q1
  | true => exact ⟨.bl true, H1, I1, rfl, q1⟩
theorem pe_not (ha : PE X a ta) : PE X (.UnaryOp .Not a pos) (tNotV ta) := by
  intro pins s σ H Q I h
  refine UnaryOp_ (thn (ha pins s σ H _ I h) fun v s1 ⟨x, H1, I1, r1, q1⟩ => ?_)
  obtain ⟨c, rfl, q1⟩ := q1
  cases r1
  exact not_of (wpAny_truthy_bool ⟨.bl (!c), H1, I1, rfl, q1⟩)
def tIf (t : TT) (ta tb : TE) : TE := fun σ H Q => t σ H fun c H1 => if c = true then ta σ H1 Q else tb σ H1 Q
theorem pe_ifExp {c : Expr} (hc : PT X c tA) (ha : PE X a ta) (hb : PE X b tb) : PE X (.IfExp c a b pos) (tIf tA ta tb) := by
  intro pins s σ H Q I h
  refine wpAny_IfExp (thn (hc pins s σ H _ I h) fun d s1 ⟨H1, I1, q1⟩ => ?_)
  cases d with
  | true => exact ha pins s1 σ H1 Q I1 q1
  | false => exact hb pins s1 σ H1 Q I1 q1
end
end L2
namespace L2
open PySem PySem.Spec PyProof.Rows
def SqL (K : PySem.W.Frag) (H : Hp) (a : Addr) (xs : List V) : Prop :=
  Rd H a (.lst xs) ∨
    ∃ (o : Obj) (its : Array Value) (n : Nat), K.lookup a = some o ∧ o.cls = .type "list" ∧ o.dict = none ∧ o.data = .seq its n ∧ its.size ≤ sizeLine ∧ Vals xs its.toList
def SqT (K : PySem.W.Frag) (H : Hp) (a : Addr) (xs : List V) : Prop :=
  Rd H a (.tup xs) ∨
    ∃ (o : Obj) (its : Array Value) (n : Nat), K.lookup a = some o ∧ o.cls = .type "tuple" ∧ o.dict = none ∧ o.data = .seq its n ∧ its.size ≤ sizeLine ∧ Vals xs its.toList
def absV : Value → Option V
  | .none => some .non
  | .bool b => some (.bl b)
  | .int i _ => some (.int i)
  | .str x _ => some (.str x)
  | .bytes b _ => some (.byt b)
  | .float b _ => some (.flt b)
  | .ref a => some (.ref a)
  | .type n => some (.ty n)
  | _ => none
theorem RelV.abs {x : V} {u : Value} (r : RelV x u) : absV u = some x := by
  cases x with
  | non => cases r; rfl
  | bl _ => cases r; rfl
  | int _ => obtain ⟨t, rfl⟩ := r; rfl
  | str _ => obtain ⟨t, rfl⟩ := r; rfl
  | byt _ => obtain ⟨t, rfl⟩ := r; rfl
  | flt _ => obtain ⟨t, rfl⟩ := r; rfl
  | ref _ => cases r; rfl
  | ty _ => cases r; rfl
theorem RelV.inj {x y : V} {u : Value} (r : RelV x u) (q : RelV y u) : x = y := Option.some.inj (r.abs.symm.trans q.abs)
theorem Vals.inj : ∀ {xs ys : List V} {us : List Value}, Vals xs us → Vals ys us → xs = ys
  | _, _, _, .nil, .nil => rfl
  | _, _, _, .cons r t, .cons r' t' => by rw [r.inj r', Vals.inj t t']
section
variable {X : Cx} {pins : List (Addr × Obj)} {σ : St} {H : Hp} {s : Shared} {a : Addr} {xs ys : List V}
theorem SqL.of {K : PySem.W.Frag} (h : H a = some (.lst xs)) : SqL K H a xs := .inl (.inl h)
theorem SqT.of {K : PySem.W.Frag} (h : H a = some (.tup xs)) : SqT K H a xs := .inl (.inl h)
theorem Inv.list (I : Inv X pins σ H s) (h : SqL X.K H a xs) : ∃ its : List Value, Vals xs its ∧ PlainL s.heap a its.toArray ∧ xs.length ≤ sizeLine := by
  rcases h with h | ⟨o, its, n, hk, hc, hd, hs, hz, r⟩
  · obtain ⟨z, its, n, r, e⟩ := h.ok I.hok
    exact ⟨its, r, ⟨_, n, e, rfl, rfl, rfl⟩, z⟩
  · refine ⟨its.toList, r, ⟨o, n, I.kIn a o hk, hc, hd, by simpa using hs⟩, ?_⟩
    have e := r.length
    simp only [Array.length_toList] at e
    omega
theorem Inv.tupleO (I : Inv X pins σ H s) (h : SqT X.K H a xs) : ∃ its : List Value, Vals xs its ∧ TupO s.heap a its.toArray ∧ xs.length ≤ sizeLine := by
  rcases h with h | ⟨o, its, n, hk, hc, hd, hs, hz, r⟩
  · obtain ⟨z, its, r, p⟩ := h.ok I.hok
    exact ⟨its, r, p, z⟩
  · refine ⟨its.toList, r, ⟨o, I.kIn a o hk, hc, hd, n, by simpa using hs⟩, ?_⟩
    have e := r.length
    simp only [Array.length_toList] at e
    omega
theorem Inv.tuple (I : Inv X pins σ H s) (h : SqT X.K H a xs) : ∃ its : List Value, Vals xs its ∧ IsTup s.heap a its.toArray ∧ xs.length ≤ sizeLine :=
  let ⟨its, r, p, z⟩ := I.tupleO h
  ⟨its, r, p.tup, z⟩
theorem Inv.list_inj (I : Inv X pins σ H s) (h : SqL X.K H a xs) (h' : SqL X.K H a ys) : xs = ys := by
  obtain ⟨its, r, ⟨o, n, e, _, _, d⟩, _⟩ := I.list h
  obtain ⟨its', r', ⟨o', n', e', _, _, d'⟩, _⟩ := I.list h'
  rw [e] at e'; cases e'
  rw [d] at d'
  injection d' with d1 _
  have : its = its' := by simpa using congrArg Array.toList d1
  subst this
  exact r.inj r'
theorem Inv.tuple_inj (I : Inv X pins σ H s) (h : SqT X.K H a xs) (h' : SqT X.K H a ys) : xs = ys := by
  obtain ⟨its, r, ⟨o, e, _, n, d⟩, _⟩ := I.tuple h
  obtain ⟨its', r', ⟨o', e', _, n', d'⟩, _⟩ := I.tuple h'
  rw [e] at e'; cases e'
  rw [d] at d'
  injection d' with d1 _
  have : its = its' := by simpa using congrArg Array.toList d1
  subst this
  exact r.inj r'
end
abbrev Cx.wish (X : Cx) (E : Value → Shared → Prop) : Cx := { X with xe := E }
abbrev Cx.nox (X : Cx) : Cx := X.wish fun _ _ => False
theorem Cx.Ok.wish {X : Cx} (ok : X.Ok) (E : Value → Shared → Prop) : (X.wish E).Ok :=
  ⟨ok.mod, ok.kind, ok.glob, ok.blt, ok.above, ok.inj, ok.has, ok.cab, ok.hd, ok.frames, ok.stk, ok.exf, ok.bs, ok.bsz, ok.noex, ok.exfs, ok.funs, ok.frf⟩
theorem Cx.Ok.unwish {X : Cx} {E : Value → Shared → Prop} (ok : (X.wish E).Ok) : X.Ok :=
  ⟨ok.mod, ok.kind, ok.glob, ok.blt, ok.above, ok.inj, ok.has, ok.cab, ok.hd, ok.frames, ok.stk, ok.exf, ok.bs, ok.bsz, ok.noex, ok.exfs, ok.funs, ok.frf⟩
section
variable {X : Cx} {pins : List (Addr × Obj)} {σ : St} {H : Hp} {s : Shared} {E : Value → Shared → Prop}
theorem Inv.wish (I : Inv X pins σ H s) (E : Value → Shared → Prop) : Inv (X.wish E) pins σ H s := ⟨I.ok.wish E, I.os, I.bare, I.base, I.loc, I.cell, I.free, I.freeC, I.pin, I.hok, I.len⟩
theorem Inv.unwish (I : Inv (X.wish E) pins σ H s) : Inv X pins σ H s := ⟨I.ok.unwish, I.os, I.bare, I.base, I.loc, I.cell, I.free, I.freeC, I.pin, I.hok, I.len⟩
theorem SP.unwish {D : Ends} {f : Flow} {s' : Shared} (h : SP (X.wish E) pins D f s') : SP X pins D f s' := by
  cases f with
  | next => obtain ⟨σ', H', I, q⟩ := h; exact ⟨σ', H', I.unwish, q⟩
  | brk => obtain ⟨σ', H', I, q⟩ := h; exact ⟨σ', H', I.unwish, q⟩
  | cont => obtain ⟨σ', H', I, q⟩ := h; exact ⟨σ', H', I.unwish, q⟩
  | ret u => obtain ⟨v, σ', H', I, r, q⟩ := h; exact ⟨v, σ', H', I.unwish, r, q⟩
theorem PSs.nox {st : List Stmt} {t : TS} (h : PSs X.nox st t) : PSs X st t := fun pins s σ H D I hw =>
  wpAny_mono (h pins s σ H D (I.wish _) hw) (fun _ _ q => q.unwish) fun _ _ z => False.elim z
end
section
variable {X : Cx} {st : Stmt} {rest : List Stmt} {t u : TS} {e : Expr} {te : TE} {pos : Pos}
def tNext : TS := fun D σ H => D.nx σ H
def tSeq (t u : TS) : TS := fun D σ H => t { D with nx := u D } σ H
theorem pss_nil : PSs X [] tNext := fun _ _ σ H _ I h => wpAny_execs_nil ⟨σ, H, I, h⟩
theorem pss_cons (h1 : PS X st t) (h2 : PSs X rest u) : PSs X (st :: rest) (tSeq t u) := by
  intro pins s σ H D I h
  refine wpAny_execs_cons (thn (h1 pins s σ H { D with nx := u D } I h) fun f s1 q => ?_)
  cases f with
  | next =>
    obtain ⟨σ', H', I', q⟩ := q
    exact h2 pins s1 σ' H' D I' q
  | ret v => exact q
  | brk => exact q
  | cont => exact q
theorem pss_one (h1 : PS X st t) : PSs X [st] t := by
  intro pins s σ H D I h
  refine wpAny_execs_cons (thn (h1 pins s σ H D I h) fun f s1 q => ?_)
  cases f with
  | next => exact wpAny_execs_nil q
  | ret v => exact q
  | brk => exact q
  | cont => exact q
theorem Inv.quiet {pins : List (Addr × Obj)} {σ : St} {H : Hp} {s : Shared} (I : Inv X pins σ H s) : interactive X.env = false := by simp [interactive, I.ok.kind]
def tDrop (te : TE) : TS := fun D σ H => te σ H fun _ H1 => D.nx σ H1
theorem ps_expr (he : PE X e te) (hs : swapsWith e none pos.line X.env = pure false := by rfl) : PS X (.Expr e pos) (tDrop te) := by
  intro pins s σ H D I h
  exact wpAny_Expr_any (thn (he pins s σ H _ I h) fun v s1 ⟨x, H1, I1, r1, q1⟩ => ⟨σ, H1, I1, q1⟩) I.quiet hs
def tRet (te : TE) : TS := fun D σ H => te σ H D.rt
theorem ps_ret (he : PE X e te) : PS X (.Return (some e) pos) (tRet te) := by
  intro pins s σ H D I h
  exact wpAny_Return_some (thn (he pins s σ H _ I h) fun v s1 ⟨x, H1, I1, r1, q1⟩ => ⟨x, σ, H1, I1, r1, q1⟩)
def tIfS (c : TT) (t u : TS) : TS := fun D σ H => c σ H fun b H1 => if b = true then t D σ H1 else u D σ H1
theorem ps_if {c : Expr} {a b : List Stmt} {tc : TT} (hc : PT X c tc) (ha : PSs X a t) (hb : PSs X b u) : PS X (.If c a b pos) (tIfS tc t u) := by
  intro pins s σ H D I h
  refine wpAny_If (thn (hc pins s σ H _ I h) fun d s1 ⟨H1, I1, q1⟩ => ?_)
  cases d with
  | true => exact ha pins s1 σ H1 D I1 q1
  | false => exact hb pins s1 σ H1 D I1 q1
def tNever : TS := fun _ _ _ => False
theorem pss_never {sts : List Stmt} : PSs X sts tNever := fun _ _ _ _ _ _ h => h.elim
end
abbrev TG := V → St → Hp → (St → Hp → Prop) → Prop
abbrev TGs := List V → St → Hp → (St → Hp → Prop) → Prop
def PG (X : Cx) (target : Expr) (t : TG) : Prop :=
  ∀ (pins : List (Addr × Obj)) (s : Shared) (σ : St) (H : Hp) (v : V) (u : Value) (Q : St → Hp → Prop), Inv X pins σ H s → RelV v u → t v σ H Q →
    wpAny (model X.prog X.w) X.A (assign target X.env u) (fun _ s' => ∃ σ' H', Inv X pins σ' H' s' ∧ Q σ' H') X.xe s
def PGs (X : Cx) (ts : List Expr) (t : TGs) : Prop :=
  ∀ (pins : List (Addr × Obj)) (s : Shared) (σ : St) (H : Hp) (vs : List V) (us : List Value) (Q : St → Hp → Prop), Inv X pins σ H s → Vals vs us → t vs σ H Q →
    wpAny (model X.prog X.w) X.A (assignInOrder ((assignEach ts X.env).map (·.2)) us) (fun _ s' => ∃ σ' H', Inv X pins σ' H' s' ∧ Q σ' H') X.xe s
abbrev TSet := V → V → V → Hp → (Hp → Prop) → Prop
def PSet (X : Cx) (t : TSet) : Prop :=
  ∀ (pins : List (Addr × Obj)) (s : Shared) (σ : St) (H : Hp) (o i v : V) (ov iv u : Value) (Q : Hp → Prop), Inv X pins σ H s → RelV o ov → RelV i iv → RelV v u → t o i v H Q →
    wpAny (model X.prog X.w) X.A (setItem ov iv u) (fun _ s' => ∃ H', Inv X pins σ H' s' ∧ Q H') X.xe s
abbrev TIp := V → V → Hp → VK → Prop
def PIp (X : Cx) (op : Operator) (t : TIp) : Prop :=
  ∀ (pins : List (Addr × Obj)) (s : Shared) (σ : St) (H : Hp) (x y : V) (v u : Value) (Q : VK), Inv X pins σ H s → RelV x v → RelV y u → t x y H Q →
    wpAny (model X.prog X.w) X.A (inplaceOp op v u) (EP X pins σ Q) X.xe s
section
variable {X : Cx} {pos : Pos}
def gName (i : Nat) : TG := fun v σ H Q => Q (σ.set i (some v)) H
theorem pg_name {i : Nat} {x : Str} (hN : X.N.Nodup) (hi : X.N[i]? = some x) (hx : Loc X.env.scope x) (hf : X.fn x = true ∨ X.env.scope.names.lookup x = some .local := by first | exact .inl rfl | exact .inr rfl | assumption) : PG X (.Name x pos) (gName i) := by
  intro pins s σ H v u Q I r h
  exact wpAny_assign_Name (store_ok I hN hi hx r (fun s' I' => ⟨_, H, I', h⟩) hf)
def gNil : TGs := fun vs σ H Q => vs = [] ∧ Q σ H
def gCons (t : TG) (u : TGs) : TGs := fun vs σ H Q => ∃ v r, vs = v :: r ∧ t v σ H fun σ' H' => u r σ' H' Q
theorem pgs_nil : PGs X [] gNil := by
  intro pins s σ H vs us Q I r h
  obtain ⟨e, h⟩ := h
  subst e
  cases r
  exact assignInOrder_nil ⟨σ, H, I, h⟩
theorem pgs_cons {e : Expr} {es : List Expr} {t : TG} {u : TGs} (h1 : PG X e t) (h2 : PGs X es u)
    (hs : (assignEach (e :: es) X.env).map (·.2) = assign e X.env :: (assignEach es X.env).map (·.2) := by rfl) : PGs X (e :: es) (gCons t u) := by
  intro pins s σ H vs us Q I r h
  obtain ⟨v, vr, e1, h⟩ := h
  subst e1
  cases r with
  | cons r rr =>
    rw [hs]
    refine assignInOrder_cons (thn (h1 pins s σ H _ _ _ I r h) fun _ s1 ⟨σ1, H1, I1, q1⟩ => ?_)
    exact h2 pins s1 σ1 H1 _ _ Q I1 rr q1
def gTup (K : PySem.W.Frag) (n : Nat) (t : TGs) : TG := fun v σ H Q => ∃ a xs, v = .ref a ∧ SqT K H a xs ∧ xs.length = n ∧ t xs σ H Q
theorem pg_tup {es : List Expr} {k : Nat} {t : TGs} {n : Nat} (hc : X.calm = true) (h : PGs X es t)
    (hn : (assignEach es X.env).length = n := by rfl) (hst : (assignEach es X.env).findIdx? (·.1) = none := by rfl) : PG X (.Tuple es k pos) (gTup X.K n t) := by
  intro pins s σ H v u Q I r hw
  obtain ⟨a, xs, e1, hq, hl, hw⟩ := hw
  subst e1
  cases r
  obtain ⟨its, rv, ht, hz⟩ := I.tuple hq
  refine assign_Tuple_tuple (I.ok.hd hc) ht (by simp [hn, ← hl, rv.length]) hst fun h' hx => ?_
  have I1 : Inv X pins σ H { s with heap := h' } := I.kept (t' := s.toks) fun b o e => hx b o (Nat.ne_of_lt (Heap.lt_size e)) e
  exact h pins _ σ H xs _ Q I1 (by simpa using rv) hw
def gSub (to ti : TE) (t : TSet) : TG := fun v σ H Q => to σ H fun o H1 => ti σ H1 fun i H2 => t o i v H2 fun H3 => Q σ H3
theorem pg_sub {o i : Expr} {to ti : TE} {t : TSet} (ho : PE X o to) (hi : PE X i ti) (hs : PSet X t)
    (ha : ∀ v, assign (.Subscript o i pos) X.env v = (do
      let ov ← holding [v] (eval o X.env)
      let iv ← holding [v, ov] (eval i X.env)
      standAt pos
      holding [v, ov, iv] (setItem ov iv v)
      release [v, ov, iv] []) := by intro _; rfl) : PG X (.Subscript o i pos) (gSub to ti t) := by
  intro pins s σ H v u Q I r h
  rw [ha]
  refine wpAny_bind (wpAny_holding (thn (ho pins s σ H _ I h) fun ov s1 ⟨x, H1, I1, r1, q1⟩ => ?_))
  refine wpAny_bind (wpAny_holding (thn (hi pins s1 σ H1 _ I1 q1) fun iv s2 ⟨y, H2, I2, r2, q2⟩ => ?_))
  refine wpAny_bind (wpAny_standAt (wpAny_bind (wpAny_holding (thn (hs pins s2 σ H2 x y v ov iv u _ I2 r1 r2 r q2) fun _ s3 ⟨H3, I3, q3⟩ => ?_))))
  exact wpAny_release ⟨σ, H3, I3, q3⟩
def tAsg (te : TE) (g : TG) : TS := fun D σ H => te σ H fun x H1 => g x σ H1 D.nx
theorem ps_asg {tg e : Expr} {te : TE} {g : TG} (he : PE X e te) (hg : PG X tg g) (hs : swapsWithSole [tg] e pos.line X.env = pure false := by rfl) (hw : swappedStores [tg] e X.env = pure none := by rfl)
    (h1 : (assignEach [tg] X.env).map (·.2) = [assign tg X.env] := by rfl) : PS X (.Assign [tg] e pos) (tAsg te g) := by
  intro pins s σ H D I h
  refine wpAny_Assign_stores (thn (he pins s σ H _ I h) fun v s1 ⟨x, H1, I1, r1, q1⟩ => ?_) hs hw
  rw [h1]
  exact thn (hg pins s1 σ H1 x v _ I1 r1 q1) fun _ s2 q => q
theorem ps_set {i : Nat} {x : Str} {e : Expr} {te : TE} {pos' : Pos} (hN : X.N.Nodup) (hi : X.N[i]? = some x) (hx : Loc X.env.scope x) (he : PE X e te) (hs : swapsWith e (some (.Name x pos')) pos.line X.env = pure false := by rfl) (hf : X.fn x = true ∨ X.env.scope.names.lookup x = some .local := by first | exact .inl rfl | exact .inr rfl | assumption) :
    PS X (.Assign [.Name x pos'] e pos) (tAsg te (gName i)) := by
  intro pins s σ H D I h
  refine wpAny_Assign_Name (thn (he pins s σ H _ I h) fun v s1 ⟨y, H1, I1, r1, q1⟩ => ?_) hs
  exact store_ok I1 hN hi hx r1 (fun s2 I2 => ⟨_, H1, I2, q1⟩) hf
def tAug (i : Nat) (te : TE) (ti : TIp) : TS := fun D σ H => ∃ x, σ[i]? = some (some x) ∧ te σ H fun y H1 => ti x y H1 fun z H2 => D.nx (σ.set i (some z)) H2
theorem ps_aug {i : Nat} {x : Str} {e : Expr} {te : TE} {op : Operator} {ti : TIp} {pos' : Pos} (hN : X.N.Nodup) (hi : X.N[i]? = some x) (hx : Loc X.env.scope x) (he : PE X e te) (ho : PIp X op ti) (hf : X.fn x = true ∨ X.env.scope.names.lookup x = some .local := by first | exact .inl rfl | exact .inr rfl | assumption) :
    PS X (.AugAssign (.Name x pos') op e pos) (tAug i te ti) := by
  intro pins s σ H D I h
  obtain ⟨v, e1, h⟩ := h
  obtain ⟨m, hn, hl⟩ := I.loc
  have vis : Vis X.env.scope x := by rcases hx with k | k; exact .inl k; exact .inr (.inl k)
  obtain ⟨u, r, l⟩ := hl i x v hi e1 vis
  refine wpAny_AugAssign_Name ?_
  have go : wpAny (model X.prog X.w) X.A (eval e X.env) (fun w s₂ => wpAny (model X.prog X.w) X.A (inplaceOp op u w) (fun r s₃ => wpAny (model X.prog X.w) X.A (storeName X.env x r) (fun _ => SP X pins D .next) X.xe s₃) X.xe s₂) X.xe s := by
    refine thn (he pins s σ H _ I h) fun w s1 ⟨y, H1, I1, r1, q1⟩ => ?_
    refine thn (ho pins s1 σ H1 v y u w _ I1 r r1 q1) fun z s2 ⟨zv, H2, I2, r2, q2⟩ => ?_
    exact store_ok I2 hN hi hx r2 (fun s3 I3 => ⟨_, H2, I3, q2⟩) hf
  rcases l with ⟨hk, hm⟩ | ⟨hk, c, hc, hcell⟩
  · exact wpAny_loadName_local I.ok.kind hk hn hm go
  · rcases hk with hk | hk
    · exact wpAny_loadName_cell I.ok.kind hk hc hcell go
    · rcases hx with k | k
      · have : X.env.scope.names.lookup x = some .free := hk
        rw [k] at this; cases this
      · have : X.env.scope.names.lookup x = some .free := hk
        rw [k] at this; cases this
def ipI (f : Int → Int → Int) : TIp := fun x y H Q => ∃ i j, x = .int i ∧ y = .int j ∧ Q (.int (f i j)) H
theorem ip_add : PIp X .Add (ipI fun i j => i + j) := by
  intro pins s σ H x y v u Q I r1 r2 h
  obtain ⟨i, j, e1, e2, q⟩ := h
  subst e1; subst e2
  obtain ⟨t, rfl⟩ := r1
  obtain ⟨t', rfl⟩ := r2
  exact iadd_int ⟨.int _, H, I.tok _, ⟨_, rfl⟩, q⟩
theorem ip_sub : PIp X .Sub (ipI fun i j => i - j) := by
  intro pins s σ H x y v u Q I r1 r2 h
  obtain ⟨i, j, e1, e2, q⟩ := h
  subst e1; subst e2
  obtain ⟨t, rfl⟩ := r1
  obtain ⟨t', rfl⟩ := r2
  exact isub_int ⟨.int _, H, I.tok _, ⟨_, rfl⟩, q⟩
end
section
variable {X : Cx} {pos : Pos}
end
structure It where
  go : Nat → Hp → Prop
  yld : Nat → Hp → V → Hp → Prop
  stop : Nat → Hp → Prop
def FpOk (X : Cx) (pins : List (Addr × Obj)) (H : Hp) (b : Addr) : Prop :=
  H b = none ∧ b ≠ X.env.locals ∧ b ∉ X.fs ∧ (b ∈ X.ex ∨ X.s₀.heap.objs.size ≤ b) ∧ (∀ x c, X.env.cells.lookup x = some c → c ≠ b) ∧ ∀ p ∈ X.pn ++ pins, p.1 ≠ b
theorem Inv.fpOk {X : Cx} {pins : List (Addr × Obj)} {σ : St} {H H' : Hp} {s : Shared} {b : Addr} (I : Inv X pins σ H s) (hb : s.heap.objs.size ≤ b) (hn : H' b = none) : FpOk X pins H' b := by
  refine ⟨hn, Nat.ne_of_gt (Nat.lt_of_lt_of_le I.lt hb), I.nofs hb, .inr (Nat.le_trans I.sz hb), fun x c e z => ?_, fun p hp z => ?_⟩
  · obtain ⟨v, q⟩ := I.cell x c e
    exact absurd (Nat.lt_of_lt_of_le q.lt (by rw [z]; exact hb)) (Nat.lt_irrefl _)
  · exact absurd (Nat.lt_of_lt_of_le (Heap.lt_size (I.pin p hp).1) (by rw [z]; exact hb)) (Nat.lt_irrefl _)
structure Turn (P : Program) (w : World) (K : PySem.W.Frag) (tg : Expr) (J : It) (fp : List Addr) (it : Addr) (tn : Nat → Heap → Prop) : Prop where
  mem : it ∈ fp
  obj : ∀ i h, tn i h → ∀ b ∈ fp, ∃ o, h.get? b = some o ∧ ∀ v, o.data ≠ .cell v
  keep : ∀ i h h', tn i h → (∀ b ∈ fp, ∀ o, h.get? b = some o → h'.get? b = some o) → tn i h'
  item : ∀ (X : Cx), X.prog = P → X.w = w → X.K = K → X.calm = true → ∀ (i : Nat) (pins : List (Addr × Obj)) (s : Shared) (σ : St) (H : Hp) (E : Value → Shared → Prop), Inv X pins σ H s → (∀ b ∈ fp, FpOk X pins H b) → tn i s.heap → J.go i H →
    wpAny (model P w) X.A (pyNext (.ref it)) (fun r s1 => ∃ u, r = some u ∧
      wpAny (model P w) X.A (letOwnedTupleGo tg (.ref it) u) (fun _ s2 => ∃ x H', Inv X pins σ H' s2 ∧ RelV x u ∧ J.yld i H x H' ∧ tn (i + 1) s2.heap ∧ ∀ b ∈ fp, H' b = none) E s1) E s
  done : ∀ (X : Cx), X.prog = P → X.w = w → X.K = K → X.calm = true → ∀ (i : Nat) (pins : List (Addr × Obj)) (s : Shared) (σ : St) (H : Hp) (E : Value → Shared → Prop), Inv X pins σ H s → (∀ b ∈ fp, FpOk X pins H b) → tn i s.heap → J.stop i H →
    wpAny (model P w) X.A (pyNext (.ref it)) (fun r s1 => r = none ∧ Inv X pins σ H s1) E s
  self : ∀ (A : Around) (i : Nat) (s : Shared) (Q : Value → Shared → Prop) (E : Value → Shared → Prop), tn i s.heap → Q (.ref it) s → wpAny (model P w) A (pyIter (.ref it)) Q E s
abbrev TI := St → Hp → (It → Hp → Prop) → Prop
def PIE (X : Cx) (pins : List (Addr × Obj)) (σ : St) (tg : Expr) (R : It → Hp → Prop) (itv : Value) (s2 : Shared) : Prop :=
  ∃ (it : Addr) (fp : List Addr) (tn : Nat → Heap → Prop) (J : It) (H' : Hp), itv = .ref it ∧ Inv X pins σ H' s2 ∧ Turn X.prog X.w X.K tg J fp it tn ∧ tn 0 s2.heap ∧ (∀ b ∈ fp, FpOk X pins H' b) ∧ R J H'
def PI (X : Cx) (tg iter : Expr) (wi : TI) : Prop :=
  ∀ (pins : List (Addr × Obj)) (s : Shared) (σ : St) (H : Hp) (R : It → Hp → Prop), Inv X pins σ H s → wi σ H R →
    wpAny (model X.prog X.w) X.A (eval iter X.env) (fun v s1 => wpAny (model X.prog X.w) X.A (pyIter v) (PIE X pins σ tg R) X.xe s1) X.xe s
theorem go_of {M : Model} {A : Around} {E : Value → Shared → Prop} {s : Shared} {tg : Expr} {it : Addr} {u : Value} {o : Obj} {n : String} {vs : Array Value} {Q : Unit → Shared → Prop} (ho : s.heap.get? it = some o) (hc : o.cls = .type n) (hd : o.data = .fields vs)
    (hn : ["enumerate", "zip", "dict_itemiterator", "dict_reverseitemiterator", "odict_iterator", "itertools.zip_longest", "itertools.pairwise"].contains n = false) (hQ : Q () s) : wpAny M A (letOwnedTupleGo tg (.ref it) u) Q E s := by
  unfold letOwnedTupleGo
  cases tg <;> first
    | exact wpAny_pure hQ
    | (cases u <;> first
        | exact wpAny_pure hQ
        | (refine wpAny_bind (wpAny_load ho ?_)
           rw [hc, hd]
           show wpAny M A (if (["enumerate", "zip", "dict_itemiterator", "dict_reverseitemiterator", "odict_iterator", "itertools.zip_longest", "itertools.pairwise"].contains n && vs[0]? == some (rawInt _)) = true then _ else _) Q E s
           rw [if_neg (by intro h; rw [hn, Bool.false_and] at h; cases h)]
           exact wpAny_pure hQ))
def Itl (K : PySem.W.Frag) (a : Addr) : It :=
  ⟨fun i H => ∃ xs x, SqL K H a xs ∧ xs[i]? = some x, fun i H x H' => H' = H ∧ ∀ xs, SqL K H a xs → xs[i]? = some x, fun i H => ∃ xs, SqL K H a xs ∧ xs.length ≤ i⟩
def Itr (lo : Int) (n : Nat) : It := ⟨fun i _ => i < n, fun i H x H' => H' = H ∧ x = .int (lo + i), fun i _ => n ≤ i⟩
theorem turn_list {P : Program} {w : World} {K : PySem.W.Frag} {tg : Expr} (a it : Addr) : Turn P w K tg (Itl K a) [it] it (fun i h => h.IsListIter it a i) where
  mem := by simp
  obj := fun i h st b hb => by
    have e : b = it := by simpa using hb
    subst e
    obtain ⟨o, e, c, d⟩ := st
    exact ⟨o, e, fun v z => by rw [d] at z; cases z⟩
  keep := fun i h h' st k => st.at fun o e => k it (by simp) o e
  item := by
    intro X hP hw hK hc i pins s σ H E I hf st hg
    subst hP hw hK
    obtain ⟨xs, x, hq, hx⟩ := hg
    obtain ⟨its, rv, p, hz⟩ := I.list hq
    obtain ⟨u, hu, ru⟩ := rv.get hx
    obtain ⟨f0, f1, f2, f3, f4, f5⟩ := hf it (by simp)
    refine wpAny_pyNext_list_item st p.isList (x := u) (by simpa using hu) fun h' st' sb => ?_
    have I1 : Inv X pins σ H { s with heap := h' } := I.turned (t' := s.toks) (fun b o hb e => (sb.2 b hb).trans e) f0 f1 f3 f4 f5
    obtain ⟨o, e, c, d⟩ := id st'
    exact ⟨u, rfl, go_of (s := { s with heap := h' }) e c d (by decide) ⟨x, H, I1, ru, ⟨rfl, fun ys hy => by rw [I.list_inj hy hq]; exact hx⟩, st', fun b hb => (hf b hb).1⟩⟩
  done := by
    intro X hP hw hK hc i pins s σ H E I hf st hg
    subst hP hw hK
    obtain ⟨xs, hq, hx⟩ := hg
    obtain ⟨its, rv, p, hz⟩ := I.list hq
    obtain ⟨f0, f1, f2, f3, f4, f5⟩ := hf it (by simp)
    have hl := rv.length
    exact wpAny_pyNext_list_end (I.ok.hd hc) st p.isList (by simp; omega) fun h' eb => ⟨rfl, I.turned (t' := s.toks) (fun b o hb e => eb b o hb e) f0 f1 f3 f4 f5⟩
  self := fun _ _ _ _ _ st h => wpAny_pyIter_listiter st h
theorem turn_range {P : Program} {w : World} {K : PySem.W.Frag} {tg : Expr} (it : Addr) (lo : Int) (n : Nat) : Turn P w K tg (Itr lo n) [it] it (fun i h => IsRangeIter h it (lo + (i : Nat) * 1) ((n : Int) - (i : Nat)) 1) where
  mem := by simp
  obj := fun i h st b hb => by
    have e : b = it := by simpa using hb
    subst e
    exact ⟨_, st, fun v z => by
      have z' : Data.fields _ = Data.cell v := z
      cases z'⟩
  keep := fun i h h' st k => k it (by simp) _ st
  item := by
    intro X hP hw hK hc i pins s σ H E I hf st hg
    subst hP hw hK
    obtain ⟨f0, f1, f2, f3, f4, f5⟩ := hf it (by simp)
    have W := Walks.range (prog := X.prog) (w := X.w) (I.ok.hd hc) it lo 1 n
    refine W.item i s _ _ hg st fun v h' tk hv st' kk => ?_
    obtain ⟨t, rfl⟩ := hv
    have I1 : Inv X pins σ H { s with heap := h', toks := tk } := I.turned (fun b o hb e => kk b o (by simpa using hb) e) f0 f1 f3 f4 f5
    refine ⟨_, rfl, go_of (s := { s with heap := h', toks := tk }) (n := "range_iterator") st' rfl rfl (by decide) ⟨.int (lo + i), H, I1, ⟨t, ?_⟩, ⟨rfl, rfl⟩, st', fun b hb => (hf b hb).1⟩⟩
    rw [Int.mul_one]
  done := by
    intro X hP hw hK hc i pins s σ H E I hf st hg
    subst hP hw hK
    obtain ⟨f0, f1, f2, f3, f4, f5⟩ := hf it (by simp)
    exact wpAny_pyNext_range_end (I.ok.hd hc) st (by have : n ≤ i := hg; omega) fun h' eb => ⟨rfl, I.turned (t' := s.toks) (fun b o hb e => eb b o hb e) f0 f1 f3 f4 f5⟩
  self := fun _ _ _ _ _ st h => wpAny_pyIter_rangeiter st h
end L2
namespace L2
open PySem PySem.Spec PyProof.Rows
section
variable {X : Cx} {tg : Expr}
def iList (K : PySem.W.Frag) (tl : TE) : TI := fun σ H R => tl σ H fun x H1 => ∃ a, x = .ref a ∧ (∃ xs, SqL K H1 a xs) ∧ R (Itl K a) H1
theorem pi_list {l : Expr} {tl : TE} (hl : PE X l tl) : PI X tg l (iList X.K tl) := by
  intro pins s σ H R I h
  refine thn (hl pins s σ H _ I h) fun v s1 ⟨x, H1, I1, r1, q1⟩ => ?_
  obtain ⟨a, e, ⟨xs, hq⟩, q⟩ := q1
  subst e
  cases r1
  obtain ⟨its, rv, p, hz⟩ := I1.list hq
  refine wpAny_pyIter_list p.isList ?_
  refine ⟨s1.heap.objs.size, [s1.heap.objs.size], _, _, H1, rfl, I1.kept (t' := s1.toks) fun b o e => Heap.get?_push_of_some _ e, turn_list a _, ⟨_, Heap.get?_push_size _ rfl, rfl, rfl⟩, fun b hb => ?_, q⟩
  have e : b = s1.heap.objs.size := by simpa using hb
  subst e
  exact I1.fpOk (Nat.le_refl _) (I1.hok.fresh (Nat.le_refl _))
theorem range_it {pins : List (Addr × Obj)} {σ : St} {H : Hp} {s : Shared} {R : It → Hp → Prop} {E : Value → Shared → Prop} {lo hi : Int} {t u v : Tok} {tk : Nat} (I : Inv X pins σ H s) (h1 : -(2 ^ 62) ≤ lo) (h2 : lo < 2 ^ 62) (h3 : -(2 ^ 62) ≤ hi) (h4 : hi < 2 ^ 62)
    (q : R (Itr lo (hi - lo).toNat) H) : wpAny (model X.prog X.w) X.A (pyIter (.ref s.heap.objs.size)) (PIE X pins σ tg R) E { s with heap := s.heap.push { cls := .type "range", data := .fields #[.int lo t, .int hi u, .int 1 v] }, toks := tk } := by
  refine wpAny_pyIter_range (IsRange.new ..) (small_one h1 h2 h3 h4) ?_
  have I1 : Inv X pins σ H { s with heap := s.heap.push { cls := .type "range", data := .fields #[.int lo t, .int hi u, .int 1 v] }, toks := tk } := I.kept fun b o e => Heap.get?_push_of_some _ e
  refine ⟨(s.heap.push { cls := .type "range", data := .fields #[.int lo t, .int hi u, .int 1 v] }).objs.size, [(s.heap.push { cls := .type "range", data := .fields #[.int lo t, .int hi u, .int 1 v] }).objs.size], _, _, H, rfl,
    I1.kept (t' := tk) fun b o e => Heap.get?_push_of_some _ e, turn_range _ lo (hi - lo).toNat, ?_, fun b hb => ?_, q⟩
  · have e1 : lo + ((0 : Nat) : Int) * 1 = lo := by simp
    have e2 : (((hi - lo).toNat : Nat) : Int) - ((0 : Nat) : Int) = Builtin.Range.rangeSize lo hi 1 := by rw [rangeSize_one]; split <;> omega
    show IsRangeIter _ _ (lo + ((0 : Nat) : Int) * 1) ((((hi - lo).toNat : Nat) : Int) - ((0 : Nat) : Int)) 1
    rw [e1, e2]
    exact Heap.get?_push_size _ rfl
  · have e : b = (s.heap.push { cls := .type "range", data := .fields #[.int lo t, .int hi u, .int 1 v] }).objs.size := by simpa using hb
    subst e
    exact I1.fpOk (Nat.le_refl _) (I1.hok.fresh (Nat.le_refl _))
def iRng1 (ta : TA) : TI := fun σ H R => ta σ H fun vs H1 => ∃ j : Int, vs = [.int j] ∧ -(2 ^ 62) ≤ j ∧ j < 2 ^ 62 ∧ R (Itr 0 j.toNat) H1
theorem pi_range1 {a : Expr} {ta : TA} {p pos : Pos} (hg : Gl X "range") (hm : X.mg "range" = none) (ha : PA X [a] ta) (hs : starEach [a] X.env = [(false, eval a X.env)] := by rfl) : PI X tg (.Call (.Name "range" p) [a] [] pos) (iRng1 ta) := by
  intro pins s σ H R I h
  refine Call_ (ld_blt I hg hm boot_range (PyProof.Rows.callWith_type1 (thn (ha pos pins s σ H _ I h) fun us s1 ⟨vs, H1, I1, r1, q1⟩ => ?_) hs rfl))
  obtain ⟨j, e, q1, q2, q⟩ := q1
  subst e
  cases r1 with
  | cons r rr =>
    cases rr
    obtain ⟨t, rfl⟩ := r
    exact call_range_1 (range_it I1 (by omega) (by omega) q1 q2 (by simpa using q))
def tFor (wi : TI) (g : TG) (tb : TS) : TS := fun D σ H => wi σ H fun J H1 => ∃ W : Nat → Nat → St → Hp → Prop, (∃ m, W 0 m σ H1) ∧ ∀ i m σ H, W i m σ H →
  (J.stop i H ∧ D.nx σ H) ∨ (J.go i H ∧ ∃ N : St → Hp → Prop, (∀ σ' H', N σ' H' → ∃ m', m' < m ∧ W (i + 1) m' σ' H') ∧ ∀ x H', J.yld i H x H' → g x σ H' fun σ2 H2 => tb { D with nx := N, ct := N, bk := D.nx } σ2 H2)
def pinsAt (fp : List Addr) (h : Heap) : List (Addr × Obj) := fp.filterMap fun b => (h.get? b).map fun o => (b, o)
theorem mem_pinsAt {fp : List Addr} {h : Heap} {b : Addr} {o : Obj} (hb : b ∈ fp) (e : h.get? b = some o) : (b, o) ∈ pinsAt fp h := List.mem_filterMap.mpr ⟨b, hb, by rw [e]; rfl⟩
theorem of_pinsAt {fp : List Addr} {h : Heap} {p : Addr × Obj} (hp : p ∈ pinsAt fp h) : p.1 ∈ fp ∧ h.get? p.1 = some p.2 := by
  obtain ⟨b, hb, e⟩ := List.mem_filterMap.mp hp
  cases q : h.get? b with
  | none => rw [q] at e; cases e
  | some o =>
    rw [q] at e
    have e' : (b, o) = p := Option.some.inj e
    subst e'
    exact ⟨hb, q⟩
theorem Inv.pinned {pins : List (Addr × Obj)} {σ : St} {H : Hp} {s : Shared} {fp : List Addr} (I : Inv X pins σ H s) (hf : ∀ b ∈ fp, FpOk X pins H b) (ho : ∀ b ∈ fp, ∃ o, s.heap.get? b = some o ∧ ∀ v, o.data ≠ .cell v) : Inv X (pins ++ pinsAt fp s.heap) σ H s :=
  I.pins_of fun p hp => (List.mem_append.mp hp).elim (fun z => I.pin p (List.mem_append_right _ z)) fun z => by
    obtain ⟨hb, e⟩ := of_pinsAt z
    obtain ⟨f0, f1, f2, _⟩ := hf p.1 hb
    obtain ⟨o, e', d⟩ := ho p.1 hb
    rw [e] at e'; cases e'
    exact ⟨e, f0, f1, f2, d⟩
theorem Inv.unpinned {pins pl : List (Addr × Obj)} {σ : St} {H : Hp} {s : Shared} (I : Inv X (pins ++ pl) σ H s) : Inv X pins σ H s := I.pins_of fun p hp => I.pin p (List.mem_append_right _ (List.mem_append_left _ hp))
theorem ps_for {iter : Expr} {body : List Stmt} {wi : TI} {g : TG} {tb : TS} {pos : Pos} (hp : PassesOwn (model X.prog X.w) X.A X.env X.xe) (hc : X.calm = true) (hi : PI X tg iter wi) (hg : PG X tg g) (hb : PSs X body tb)
    (hs : ∀ x, foldedSetIterable iter X.env x = pure x := by intro _; rfl) : PS X (.For tg iter body [] pos) (tFor wi g tb) := by
  intro pins s σ H D I h
  refine wpAny_For (thn (hi pins s σ H _ I h) fun v s1 h1 => thn h1 fun itv s2 h2 => ?_) hs
  obtain ⟨it, fp, tn, J, H2, e, I2, T, st2, f2, W, ⟨m0, w0⟩, turn⟩ := h2
  subst e
  have stat : ∀ {H' : Hp}, (∀ b ∈ fp, H' b = none) → ∀ b ∈ fp, FpOk X pins H' b := fun hn b hb => ⟨hn b hb, (f2 b hb).2⟩
  refine codeAny_forLoop_any (fun n s' => ∃ i σ' H', Inv X pins σ' H' s' ∧ tn i s'.heap ∧ (∀ b ∈ fp, H' b = none) ∧ W i n σ' H') ?_ m0 ⟨0, σ, H2, I2, st2, fun b hb => (f2 b hb).1, w0⟩
  rintro n s3 ⟨i, σ3, H3, I3, st3, fr3, w3⟩
  rcases turn i n σ3 H3 w3 with ⟨stop, qn⟩ | ⟨go, N, hN, step⟩
  · refine wpAny_passesOwn hp (thn (T.done X rfl rfl rfl hc i pins s3 σ3 H3 X.xe I3 (stat fr3) st3 stop) fun r s4 ⟨hr, I4⟩ => ?_)
    subst hr
    exact wpAny_execs_nil ⟨σ3, H3, I4, qn⟩
  · refine wpAny_passesOwn hp (thn (T.item X rfl rfl rfl hc i pins s3 σ3 H3 X.xe I3 (stat fr3) st3 go) fun r s4 ⟨u, hr, h4⟩ => ?_)
    subst hr
    refine wpAny_passesOwn hp (thn h4 fun _ s5 ⟨x, H5, I5, r5, y5, st5, fr5⟩ => ?_)
    have I5' := I5.pinned (stat fr5) (T.obj _ _ st5)
    refine wpAny_passesOwn hp (thn (hg _ s5 σ3 H5 x u _ I5' r5 (step x H5 y5)) fun _ s6 ⟨σ6, H6, I6, q6⟩ => ?_)
    refine wpAny_passesOwn hp (thn (hb _ s6 σ6 H6 _ I6 q6) fun f s7 q7 => ?_)
    have again : ∀ {σ7 : St} {H7 : Hp}, Inv X (pins ++ pinsAt fp s5.heap) σ7 H7 s7 → N σ7 H7 → ∃ m, m < n ∧ ∃ i σ' H', Inv X pins σ' H' s7 ∧ tn i s7.heap ∧ (∀ b ∈ fp, H' b = none) ∧ W i m σ' H' := fun {σ7 H7} I7 n7 => by
      obtain ⟨m', hm, w7⟩ := hN σ7 H7 n7
      refine ⟨m', hm, i + 1, σ7, H7, I7.unpinned, T.keep _ _ _ st5 fun b hb o e => (I7.pin (b, o) (List.mem_append_right _ (List.mem_append_right _ (mem_pinsAt hb e)))).1, fun b hb => ?_, w7⟩
      obtain ⟨o, e, d⟩ := T.obj _ _ st5 b hb
      exact (I7.pin (b, o) (List.mem_append_right _ (List.mem_append_right _ (mem_pinsAt hb e)))).2.1
    cases f with
    | next => obtain ⟨σ7, H7, I7, n7⟩ := q7; exact again I7 n7
    | cont => obtain ⟨σ7, H7, I7, n7⟩ := q7; exact again I7 n7
    | brk => obtain ⟨σ7, H7, I7, q7⟩ := q7; exact ⟨σ7, H7, I7.unpinned, q7⟩
    | ret v => obtain ⟨x7, σ7, H7, I7, r7, q7⟩ := q7; exact ⟨x7, σ7, H7, I7.unpinned, r7, q7⟩
end
theorem for_list {K : PySem.W.Frag} {a : Addr} {xs : List V} {g : TG} {tb : TS} {D : Ends} {σ : St} {H : Hp} (Pv : Nat → St → Hp → Prop) (h0 : Pv 0 σ H) (hl : ∀ i σ H, i ≤ xs.length → Pv i σ H → SqL K H a xs)
    (hs : ∀ i x σ H, xs[i]? = some x → Pv i σ H → g x σ H fun σ2 H2 => tb { D with nx := Pv (i + 1), ct := Pv (i + 1), bk := D.nx } σ2 H2) (hd : ∀ σ H, Pv xs.length σ H → D.nx σ H) :
    ∃ W : Nat → Nat → St → Hp → Prop, (∃ m, W 0 m σ H) ∧ ∀ i m σ H, W i m σ H →
      ((Itl K a).stop i H ∧ D.nx σ H) ∨ ((Itl K a).go i H ∧ ∃ N : St → Hp → Prop, (∀ σ' H', N σ' H' → ∃ m', m' < m ∧ W (i + 1) m' σ' H') ∧ ∀ x H', (Itl K a).yld i H x H' → g x σ H' fun σ2 H2 => tb { D with nx := N, ct := N, bk := D.nx } σ2 H2) := by
  refine ⟨fun i m σ H => m = xs.length - i ∧ i ≤ xs.length ∧ Pv i σ H, ⟨xs.length, by simp, Nat.zero_le _, h0⟩, ?_⟩
  rintro i m σ H ⟨rfl, hi, p⟩
  have q := hl i σ H hi p
  by_cases hlt : i < xs.length
  · refine .inr ⟨⟨xs, xs[i], q, by simp [hlt]⟩, Pv (i + 1), fun σ' H' p' => ⟨xs.length - (i + 1), by omega, rfl, hlt, p'⟩, fun x H' y => ?_⟩
    obtain ⟨e, y⟩ := y
    subst e
    exact hs i x σ _ (y xs q) p
  · have e : i = xs.length := by omega
    subst e
    exact .inl ⟨⟨xs, q, Nat.le_refl _⟩, hd σ H p⟩
theorem for_range {lo : Int} {n : Nat} {g : TG} {tb : TS} {D : Ends} {σ : St} {H : Hp} (Pv : Nat → St → Hp → Prop) (h0 : Pv 0 σ H)
    (hs : ∀ i σ H, i < n → Pv i σ H → g (.int (lo + i)) σ H fun σ2 H2 => tb { D with nx := Pv (i + 1), ct := Pv (i + 1), bk := D.nx } σ2 H2) (hd : ∀ σ H, Pv n σ H → D.nx σ H) :
    ∃ W : Nat → Nat → St → Hp → Prop, (∃ m, W 0 m σ H) ∧ ∀ i m σ H, W i m σ H →
      ((Itr lo n).stop i H ∧ D.nx σ H) ∨ ((Itr lo n).go i H ∧ ∃ N : St → Hp → Prop, (∀ σ' H', N σ' H' → ∃ m', m' < m ∧ W (i + 1) m' σ' H') ∧ ∀ x H', (Itr lo n).yld i H x H' → g x σ H' fun σ2 H2 => tb { D with nx := N, ct := N, bk := D.nx } σ2 H2) := by
  refine ⟨fun i m σ H => m = n - i ∧ i ≤ n ∧ Pv i σ H, ⟨n, by simp, Nat.zero_le _, h0⟩, ?_⟩
  rintro i m σ H ⟨rfl, hi, p⟩
  by_cases hlt : i < n
  · refine .inr ⟨hlt, Pv (i + 1), fun σ' H' p' => ⟨n - (i + 1), by omega, rfl, hlt, p'⟩, fun x H' y => ?_⟩
    obtain ⟨e, y⟩ := y
    subst e y
    exact hs i σ _ hlt p
  · have e : i = n := by omega
    subst e
    exact .inl ⟨Nat.le_refl _, hd σ H p⟩
end L2
namespace L2
open PySem PySem.Spec PyProof.Rows
abbrev R2 := V → V → Hp → VK → Prop
def OpR (X : Cx) (f : Value → Value → Sem Value) (r : R2) : Prop :=
  ∀ (pins : List (Addr × Obj)) (s : Shared) (σ : St) (H : Hp) (x y : V) (v u : Value) (Q : VK), Inv X pins σ H s → RelV x v → RelV y u → r x y H Q →
    wpAny (model X.prog X.w) X.A (f v u) (EP X pins σ Q) X.xe s
def UnR (X : Cx) (f : Value → Sem Value) (r : V → Hp → VK → Prop) : Prop :=
  ∀ (pins : List (Addr × Obj)) (s : Shared) (σ : St) (H : Hp) (x : V) (v : Value) (Q : VK), Inv X pins σ H s → RelV x v → r x H Q →
    wpAny (model X.prog X.w) X.A (f v) (EP X pins σ Q) X.xe s
def CallR (X : Cx) (f : Value) (r : List V → Hp → VK → Prop) : Prop :=
  ∀ (pins : List (Addr × Obj)) (s : Shared) (σ : St) (H : Hp) (xs : List V) (us : List Value) (Q : VK), Inv X pins σ H s → Vals xs us → r xs H Q →
    wpAny (model X.prog X.w) X.A (call f us) (EP X pins σ Q) X.xe s
def tOp (r : R2) (ta tb : TE) : TE := fun σ H Q => ta σ H fun x H1 => tb σ H1 fun y H2 => r x y H2 Q
def tUn (r : V → Hp → VK → Prop) (ta : TE) : TE := fun σ H Q => ta σ H fun x H1 => r x H1 Q
def rI (C : Int → Int → Prop) (g : Int → Int → V) : R2 := fun x y H Q => ∃ i j, x = .int i ∧ y = .int j ∧ C i j ∧ Q (g i j) H
def rI0 (g : Int → Int → V) : R2 := fun x y H Q => ∃ i j, x = .int i ∧ y = .int j ∧ Q (g i j) H
def rU (g : Int → V) : V → Hp → VK → Prop := fun x H Q => ∃ i, x = .int i ∧ Q (g i) H
section
variable {X : Cx} {a b c : Expr} {ta tb tc : TE} {pos : Pos}
theorem binT (ha : PE X a ta) (hb : PE X b tb) {pins : List (Addr × Obj)} {s : Shared} {σ : St} {H : Hp} {R : V → V → Hp → Prop} (I : Inv X pins σ H s)
    (h : ta σ H fun x H1 => tb σ H1 fun y H2 => R x y H2) {Q : Value → Shared → Prop} {f : Value → Value → Sem Value}
    (hf : ∀ v u s2 x y H2, Inv X pins σ H2 s2 → RelV x v → RelV y u → R x y H2 → wpAny (model X.prog X.w) X.A (f v u) Q X.xe s2) :
    wpAny (model X.prog X.w) X.A (eval a X.env) (fun v s₁ => wpAny (model X.prog X.w) X.A (eval b X.env) (fun u s₂ => wpAny (model X.prog X.w) X.A (f v u) Q X.xe s₂) X.xe s₁) X.xe s := by
  refine thn (ha pins s σ H _ I h) fun v s1 ⟨x, H1, I1, r1, q1⟩ => ?_
  refine thn (hb pins s1 σ H1 _ I1 q1) fun u s2 ⟨y, H2, I2, r2, q2⟩ => ?_
  exact hf v u s2 x y H2 I2 r1 r2 q2
theorem pe_op {op : Operator} {r : R2} (ho : OpR X (binaryOp op) r) (ha : PE X a ta) (hb : PE X b tb) : PE X (.BinOp a op b pos) (tOp r ta tb) := by
  intro pins s σ H Q I h
  exact wpAny_BinOp (binT ha hb I h fun v u s2 x y H2 I2 rx ry q => ho pins s2 σ H2 x y v u Q I2 rx ry q)
theorem pe_un {op : UnaryOp} {r : V → Hp → VK → Prop} (ho : UnR X (unaryOp op) r) (ha : PE X a ta) : PE X (.UnaryOp op a pos) (tUn r ta) := by
  intro pins s σ H Q I h
  exact UnaryOp_ (thn (ha pins s σ H _ I h) fun v s1 ⟨x, H1, I1, r1, q1⟩ => ho pins s1 σ H1 x v Q I1 r1 q1)
theorem opI {f : Value → Value → Sem Value} {C : Int → Int → Prop} {g : Int → Int → Int}
    (rule : ∀ (i j : Int) (t u : Tok) (s : Shared) (Q : Value → Shared → Prop) (E : Value → Shared → Prop), C i j → Q (.int (g i j) s.toks) { s with toks := s.toks + 1 } → wpAny (model X.prog X.w) X.A (f (.int i t) (.int j u)) Q E s) :
    OpR X f (rI C fun i j => .int (g i j)) := by
  intro pins s σ H x y v u Q I rx ry h
  obtain ⟨i, j, rfl, rfl, hc, q⟩ := h
  obtain ⟨t, rfl⟩ := rx
  obtain ⟨t', rfl⟩ := ry
  exact rule i j t t' s _ _ hc ⟨.int (g i j), H, I.tok _, ⟨_, rfl⟩, q⟩
theorem opI0 {f : Value → Value → Sem Value} {g : Int → Int → Int}
    (rule : ∀ (i j : Int) (t u : Tok) (s : Shared) (Q : Value → Shared → Prop) (E : Value → Shared → Prop), Q (.int (g i j) s.toks) { s with toks := s.toks + 1 } → wpAny (model X.prog X.w) X.A (f (.int i t) (.int j u)) Q E s) :
    OpR X f (rI0 fun i j => .int (g i j)) := by
  intro pins s σ H x y v u Q I rx ry h
  obtain ⟨i, j, rfl, rfl, q⟩ := h
  obtain ⟨t, rfl⟩ := rx
  obtain ⟨t', rfl⟩ := ry
  exact rule i j t t' s _ _ ⟨.int (g i j), H, I.tok _, ⟨_, rfl⟩, q⟩
theorem opB0 {f : Value → Value → Sem Value} {g : Int → Int → Bool}
    (rule : ∀ (i j : Int) (t u : Tok) (s : Shared) (Q : Value → Shared → Prop) (E : Value → Shared → Prop), Q (.bool (g i j)) s → wpAny (model X.prog X.w) X.A (f (.int i t) (.int j u)) Q E s) :
    OpR X f (rI0 fun i j => .bl (g i j)) := by
  intro pins s σ H x y v u Q I rx ry h
  obtain ⟨i, j, rfl, rfl, q⟩ := h
  obtain ⟨t, rfl⟩ := rx
  obtain ⟨t', rfl⟩ := ry
  exact rule i j t t' s _ _ ⟨.bl (g i j), H, I, rfl, q⟩
def CDiv (i j : Int) : Prop := 0 < j ∧ j < 1073741824
def CMul (i j : Int) : Prop := (-(2 ^ 64) < i ∧ i < 2 ^ 64) ∨ (-(2 ^ 64) < j ∧ j < 2 ^ 64)
theorem CMul.ok {i j : Int} (h : CMul i j) : IntMulOk i j := by
  rcases h with ⟨h1, h2⟩ | ⟨h1, h2⟩
  · exact .of_left (intBits_le_64 h1 h2)
  · exact .of_right (intBits_le_64 h1 h2)
theorem op_add : OpR X (binaryOp .Add) (rI0 fun i j => .int (i + j)) := opI0 fun _ _ _ _ _ _ _ q => add_int q
theorem op_sub : OpR X (binaryOp .Sub) (rI0 fun i j => .int (i - j)) := opI0 fun _ _ _ _ _ _ _ q => sub_int q
theorem op_mul : OpR X (binaryOp .Mult) (rI CMul fun i j => .int (i * j)) := opI fun _ _ _ _ _ _ _ hc q => mul_int q hc.ok
theorem op_fdiv : OpR X (binaryOp .FloorDiv) (rI CDiv fun i j => .int (i / j)) := opI fun i j _ _ _ _ _ hc q => by
  have h1 : (0 : Int) < j := hc.1
  have h2 : j < 1073741824 := hc.2
  exact floordiv_int (by omega) (by rw [Int.fdiv_eq_ediv_of_nonneg i (by omega)]; exact q) (.inl (PyProof.noPylong_small (by omega)))
theorem op_mod : OpR X (binaryOp .Mod) (rI (fun _ j => 0 < j) fun i j => .int (i % j)) := opI fun i j _ _ _ _ _ hc q => by
  have h1 : (0 : Int) < j := hc
  exact mod_int' (by omega) (by rw [Int.fmod_eq_emod_of_nonneg i (by omega)]; exact q)
theorem unI {f : Value → Sem Value} {g : Int → Int}
    (rule : ∀ (i : Int) (t : Tok) (s : Shared) (Q : Value → Shared → Prop) (E : Value → Shared → Prop), Q (.int (g i) s.toks) { s with toks := s.toks + 1 } → wpAny (model X.prog X.w) X.A (f (.int i t)) Q E s) :
    UnR X f (rU fun i => .int (g i)) := by
  intro pins s σ H x v Q I rx h
  obtain ⟨i, rfl, q⟩ := h
  obtain ⟨t, rfl⟩ := rx
  exact rule i t s _ _ ⟨.int (g i), H, I.tok _, ⟨_, rfl⟩, q⟩
theorem un_neg : UnR X (unaryOp .USub) (rU fun i => .int (-i)) := unI fun _ _ _ _ _ q => neg_int q
end
def scal : V → V → Bool
  | .non, .non => true | .non, .int _ => true | .int _, .non => true | .non, .bl _ => true | .bl _, .non => true | .non, .str _ => true | .str _, .non => true
  | .int _, .int _ => true | .bl _, .bl _ => true | .str _, .str _ => true | .byt _, .byt _ => true
  | .int _, .str _ => true | .str _, .int _ => true | .bl _, .str _ => true | .str _, .bl _ => true
  | _, _ => false
def rEq : R2 := fun x y H Q => scal x y = true ∧ Q (.bl (decide (x = y))) H
def rNe : R2 := fun x y H Q => scal x y = true ∧ Q (.bl (!decide (x = y))) H
theorem dec_int {i j : Int} : decide (V.int i = V.int j) = (i == j) := by
  rw [Bool.eq_iff_iff]
  simp
theorem dec_bl {i j : Bool} : decide (V.bl i = V.bl j) = (i == j) := by
  rw [Bool.eq_iff_iff]
  simp
theorem dec_str {i j : Str} : decide (V.str i = V.str j) = (i == j) := by
  rw [Bool.eq_iff_iff]
  simp
theorem dec_byt {i j : Array UInt8} : decide (V.byt i = V.byt j) = (i.toList == j.toList) := by
  rw [Bool.eq_iff_iff]
  cases i
  cases j
  simp
section
variable {X : Cx} {a b c : Expr} {ta tb tc : TE} {pos : Pos}
theorem fin_bl {pins : List (Addr × Obj)} {σ : St} {H : Hp} {s : Shared} {Q : VK} {k k' : Bool} (I : Inv X pins σ H s) (q : Q (.bl k) H) (e : k = k') : EP X pins σ Q (.bool k') s := by
  subst e
  exact ⟨.bl k, H, I, rfl, q⟩
theorem op_eq : OpR X (compareOp .Eq) rEq := by
  intro pins s σ H x y v u Q I rx ry h
  obtain ⟨hs, q⟩ := h
  cases x with
  | non =>
    cases rx
    cases y with
    | non => cases ry; exact PySem.EqNone.eq_none_none (fin_bl I q (by simp))
    | bl j => cases ry; exact PySem.EqNone.eq_none_bool (fin_bl I q (by simp))
    | int j => obtain ⟨t', rfl⟩ := ry; exact PySem.EqNone.eq_none_int (fin_bl I q (by simp))
    | str j => obtain ⟨t', rfl⟩ := ry; exact PySem.EqNone.eq_none_str (fin_bl I q (by simp))
    | _ => exact absurd (show false = true from hs) Bool.false_ne_true
  | bl i =>
    cases rx
    cases y with
    | non => cases ry; exact PySem.EqNone.eq_bool_none (fin_bl I q (by simp))
    | bl j => cases ry; exact eq_bool (fin_bl I q dec_bl)
    | str j => obtain ⟨t', rfl⟩ := ry; exact PySem.EqMixed.eq_bool_str (fin_bl I q (by simp))
    | _ => exact absurd (show false = true from hs) Bool.false_ne_true
  | int i =>
    obtain ⟨t, rfl⟩ := rx
    cases y with
    | non => cases ry; exact PySem.EqNone.eq_int_none (fin_bl I q (by simp))
    | int j => obtain ⟨t', rfl⟩ := ry; exact eq_int (fin_bl I q dec_int)
    | str j => obtain ⟨t', rfl⟩ := ry; exact PySem.EqMixed.eq_int_str (fin_bl I q (by simp))
    | _ => exact absurd (show false = true from hs) Bool.false_ne_true
  | str i =>
    obtain ⟨t, rfl⟩ := rx
    cases y with
    | non => cases ry; exact PySem.EqNone.eq_str_none (fin_bl I q (by simp))
    | bl j => cases ry; exact PySem.EqMixed.eq_str_bool (fin_bl I q (by simp))
    | int j => obtain ⟨t', rfl⟩ := ry; exact PySem.EqMixed.eq_str_int (fin_bl I q (by simp))
    | str j => obtain ⟨t', rfl⟩ := ry; exact eq_str (fin_bl I q dec_str)
    | _ => exact absurd (show false = true from hs) Bool.false_ne_true
  | byt i =>
    obtain ⟨t, rfl⟩ := rx
    cases y with
    | byt j => obtain ⟨t', rfl⟩ := ry; exact PySem.W.eq_bytes (fin_bl I q dec_byt)
    | _ => exact absurd (show false = true from hs) Bool.false_ne_true
  | _ => cases y <;> exact absurd (show false = true from hs) Bool.false_ne_true
theorem op_ne : OpR X (compareOp .NotEq) rNe := by
  intro pins s σ H x y v u Q I rx ry h
  obtain ⟨hs, q⟩ := h
  cases x with
  | non =>
    cases rx
    cases y with
    | non => cases ry; exact PySem.EqNone.ne_none_none (fin_bl I q (by simp))
    | bl j => cases ry; exact PySem.EqNone.ne_none_bool (fin_bl I q (by simp))
    | int j => obtain ⟨t', rfl⟩ := ry; exact PySem.EqNone.ne_none_int (fin_bl I q (by simp))
    | str j => obtain ⟨t', rfl⟩ := ry; exact PySem.EqNone.ne_none_str (fin_bl I q (by simp))
    | _ => exact absurd (show false = true from hs) Bool.false_ne_true
  | bl i =>
    cases rx
    cases y with
    | non => cases ry; exact PySem.EqNone.ne_bool_none (fin_bl I q (by simp))
    | bl j => cases ry; exact ne_bool (fin_bl I q (congrArg not dec_bl))
    | str j => obtain ⟨t', rfl⟩ := ry; exact PySem.EqMixed.ne_bool_str (fin_bl I q (by simp))
    | _ => exact absurd (show false = true from hs) Bool.false_ne_true
  | int i =>
    obtain ⟨t, rfl⟩ := rx
    cases y with
    | non => cases ry; exact PySem.EqNone.ne_int_none (fin_bl I q (by simp))
    | int j => obtain ⟨t', rfl⟩ := ry; exact ne_int (fin_bl I q (congrArg not dec_int))
    | str j => obtain ⟨t', rfl⟩ := ry; exact PySem.EqMixed.ne_int_str (fin_bl I q (by simp))
    | _ => exact absurd (show false = true from hs) Bool.false_ne_true
  | str i =>
    obtain ⟨t, rfl⟩ := rx
    cases y with
    | non => cases ry; exact PySem.EqNone.ne_str_none (fin_bl I q (by simp))
    | bl j => cases ry; exact PySem.EqMixed.ne_str_bool (fin_bl I q (by simp))
    | int j => obtain ⟨t', rfl⟩ := ry; exact PySem.EqMixed.ne_str_int (fin_bl I q (by simp))
    | str j => obtain ⟨t', rfl⟩ := ry; exact ne_str (fin_bl I q (congrArg not dec_str))
    | _ => exact absurd (show false = true from hs) Bool.false_ne_true
  | byt i =>
    obtain ⟨t, rfl⟩ := rx
    cases y with
    | byt j => obtain ⟨t', rfl⟩ := ry; exact PySem.W.ne_bytes (fin_bl I q (congrArg not dec_byt))
    | _ => exact absurd (show false = true from hs) Bool.false_ne_true
  | _ => cases y <;> exact absurd (show false = true from hs) Bool.false_ne_true
theorem op_lt : OpR X (compareOp .Lt) (rI0 fun i j => .bl (decide (i < j))) := opB0 fun _ _ _ _ _ _ _ q => lt_int q
theorem op_gt : OpR X (compareOp .Gt) (rI0 fun i j => .bl (decide (j < i))) := opB0 fun _ _ _ _ _ _ _ q => gt_int q
theorem op_ge : OpR X (compareOp .GtE) (rI0 fun i j => .bl (decide (j ≤ i))) := opB0 fun _ _ _ _ _ _ _ q => ge_int q
theorem op_isN : OpR X (compareOp .Is) (fun x y H Q => y = .non ∧ Q (.bl (decide (x = .non))) H) := by
  intro pins s σ H x y v u Q I rx ry h
  obtain ⟨rfl, q⟩ := h
  cases ry
  refine is_none_gen (fin_bl I q ?_)
  cases x <;> first
    | (cases rx; rfl)
    | (obtain ⟨t, rfl⟩ := rx; rfl)
theorem op_notN : OpR X (compareOp .IsNot) (fun x y H Q => y = .non ∧ Q (.bl (!decide (x = .non))) H) := by
  intro pins s σ H x y v u Q I rx ry h
  obtain ⟨rfl, q⟩ := h
  cases ry
  refine isnot_none_gen (fin_bl I q ?_)
  cases x <;> first
    | (cases rx; rfl)
    | (obtain ⟨t, rfl⟩ := rx; rfl)
theorem pe_cmpR {op : CmpOp} {r : R2} (ho : OpR X (compareOp op) r) (ha : PE X a ta) (hb : PE X b tb) (hm : behindInMarks op b = false) : PE X (.Compare a [op] [b] pos) (tOp r ta tb) := by
  intro pins s σ H Q I h
  exact wpAny_Compare1 (binT ha hb I h fun v u s2 x y H2 I2 rx ry q => ho pins s2 σ H2 x y v u Q I2 rx ry q) hm
def tTest (t : TE) : TT := fun σ H Q => t σ H fun x H' => ∃ k, x = .bl k ∧ Q k H'
theorem pt_cmpR {op : CmpOp} {r : R2} (ho : OpR X (compareOp op) r) (ha : PE X a ta) (hb : PE X b tb) (hm : behindInMarks op b = false) : PT X (.Compare a [op] [b] pos) (tTest (tOp r ta tb)) := by
  intro pins s σ H Q I h
  refine wpAny_isTrue_Compare1 (thn (ha pins s σ H _ I h) fun v s1 ⟨x, H1, I1, r1, q1⟩ => thn (hb pins s1 σ H1 _ I1 q1) fun u s2 ⟨y, H2, I2, r2, q2⟩ =>
    thn (ho pins s2 σ H2 x y v u _ I2 r1 r2 q2) fun c s3 ⟨z, H3, I3, r3, k, e, q3⟩ => ?_) hm
  subst e
  cases r3
  exact wpAny_truthy_bool ⟨H3, I3, q3⟩
theorem line63 : (sizeLine : Nat) < 2 ^ 63 := by rw [sizeLine_eq]; decide
theorem vals1 {x : V} {us : List Value} (r : Vals [x] us) : ∃ u, us = [u] ∧ RelV x u := by
  cases r with
  | cons r1 r2 => cases r2; exact ⟨_, rfl, r1⟩
theorem vals2 {x y : V} {us : List Value} (r : Vals [x, y] us) : ∃ u w', us = [u, w'] ∧ RelV x u ∧ RelV y w' := by
  cases r with
  | cons r1 r2 =>
    cases r2 with
    | cons r3 r4 => cases r4; exact ⟨_, _, rfl, r1, r3⟩
theorem call_abs : CallR X (.builtin "abs") (fun xs H Q => ∃ i, xs = [.int i] ∧ Q (.int (if i < 0 then -i else i)) H) := by
  intro pins s σ H xs us Q I r h
  obtain ⟨i, rfl, q⟩ := h
  obtain ⟨u, rfl, t, rfl⟩ := vals1 r
  exact call_abs_int fun u tk => ⟨.int (if i < 0 then -i else i), H, I.tok _, ⟨_, rfl⟩, q⟩
theorem call_max2 (hc : X.calm = true) : CallR X (.builtin "max") (fun xs H Q => ∃ i j, xs = [.int i, .int j] ∧ Q (.int (if j > i then j else i)) H) := by
  intro pins s σ H xs us Q I r h
  obtain ⟨i, j, rfl, q⟩ := h
  obtain ⟨u, w', rfl, ⟨t, rfl⟩, ⟨t', rfl⟩⟩ := vals2 r
  refine max_two_ints (I.ok.hd hc) fun h' tk k => ⟨_, H, I.kept k, ?_, q⟩
  by_cases hj : j > i
  · rw [if_pos hj, if_pos hj]; exact ⟨_, rfl⟩
  · rw [if_neg hj, if_neg hj]; exact ⟨_, rfl⟩
end
end L2
namespace L2
open PySem PySem.Spec PyProof.Rows
structure ObjM (h : Heap) (x dx C : Addr) (mA : Str → Option Value) : Prop where
  obj : h.get? x = some (PySem.W.instObj C dx)
  ns : h.Ns1 dx mA
  ne : dx ≠ x
theorem lookIn_ns {h : Heap} {dx : Addr} {mA : Str → Option Value} (n : h.Ns1 dx mA) : ∃ od, h.get? dx = some od ∧ ∀ name, PySem.W.lookIn name od = some (mA name) := by
  obtain ⟨o, es, ep, ho, hd, hk, _, hm⟩ := n
  refine ⟨o, ho, fun name => ?_⟩
  have e := hm name
  unfold nsFind findBy at e
  rw [← Array.find?_toList] at e
  unfold PySem.W.lookIn
  rw [hd]
  dsimp only
  split
  · rename_i y q
    rw [q] at e
    exact congrArg some e
  · rename_i q
    rw [q] at e
    have a : es.toList.any (·.refKey) = false := by
      rw [List.any_eq_false]
      intro y hy
      obtain ⟨z, t, hkey⟩ := hk y (Array.mem_toList_iff.mp hy)
      simp [DictEntry.refKey, hkey]
    have a' : ¬ es.toList.any (·.refKey) = true := by rw [a]; exact Bool.false_ne_true
    rw [if_neg a']
    exact congrArg some e
theorem ObjM.look {h : Heap} {x dx C : Addr} {mA : Str → Option Value} (I : ObjM h x dx C mA) : ∃ od, PySem.W.InstAt h x (PySem.W.instObj C dx) C (some od) ∧ ∀ name, PySem.W.lookIn name od = some (mA name) :=
  let ⟨od, ho, hl⟩ := lookIn_ns I.ns
  ⟨od, ⟨I.obj, rfl, rfl, ho⟩, hl⟩
section
variable {prog : Program} {w : World} {A : Around} {E : Value → Shared → Prop} {s : Shared} {K : PySem.W.Frag} {x dx C f : Addr} {mA : Str → Option Value} {name : Str} {v : Value}
theorem get_map {expr : Bool} {Q : Value → Shared → Prop} (X : K.In s.heap) (I : ObjM s.heap x dx C mA) (hg : PySem.W.plainGet K C name = true) (hh : PySem.W.hasDictIn K C = true)
    (ha : PySem.W.findIn K (.ref C) name = some none) (hv : mA name = some v) (hv' : PySem.W.handedIn v = true) (h : Q v { s with toks := s.toks + 1 }) :
    wpAny (model prog w) A (getAttr (.ref x) name expr) Q E s := by
  obtain ⟨od, J, hl⟩ := I.look
  exact PySem.W.get_value X J (PySem.W.plainGet_of hg).1 (PySem.W.findObj_own hh ha rfl (by rw [hl, hv])) hv' h
theorem get_meth {pl : Sem Bool} {Q : Value × List Value → Shared → Prop} (X : K.In s.heap) (I : ObjM s.heap x dx C mA) (hg : PySem.W.plainGet K C name = true)
    (hf : PySem.W.findIn K (.ref C) name = some (some (.ref f))) (ht : PySem.W.isFn K (.ref f) = true) (hv : mA name = none) (h : Q (.ref f, [.ref x]) s) :
    wpAny (model prog w) A (getMethod (.ref x) name pl) Q E s := by
  obtain ⟨od, J, hl⟩ := I.look
  exact PySem.W.method_fn X J (PySem.W.plainGet_of hg).1 (PySem.W.plainGet_of hg).2 hf (beq_iff_eq.mp ht) (by show (PySem.W.lookIn name od).map (·.isSome) = some false; rw [hl, hv]; rfl) h
theorem set_map {ns : List Str} {Q : Unit → Shared → Prop} (X : K.In s.heap) (I : ObjM s.heap x dx C mA)
    (hs : PySem.W.findIn K (.ref C) "__setattr__" = some (some (.builtin "object.__setattr__"))) (hp : PySem.W.plainOver K C = true) (ht : PySem.W.takerIn K C name = some none) (hh : PySem.W.hasDictIn K C = true)
    (hw : PySem.Within mA ns) (hsz : ns.length ≤ sizeLine)
    (h : ∀ h', ObjM h' x dx C (fun y => if y = name then some v else mA y) → Heap.SameBut dx s.heap h' → Q () { s with heap := h', toks := s.toks + 2 }) :
    wpAny (model prog w) A (setAttr (.ref x) name v) Q E s := by
  obtain ⟨od, J, hl⟩ := I.look
  refine PySem.W.set_plain X J hs (PySem.W.osa_open (s := { s with toks := s.toks + 1 }) (r := none) X J hp ht fun b => ?_)
  obtain ⟨cd, hc, hd'⟩ := PySem.W.any_some hh
  have hx : s.heap.get? x = some ⟨.ref C, some dx, .plain, #[]⟩ := I.obj
  refine wpAny_bind (wpAny_pure (wpAny_bind (wpAny_bind (wpAny_loadPart hx (wpAny_bind (PySem.W.Looks.here (s := { s with toks := s.toks + 1 }) (PySem.W.looks_clsIn X hc) ?_))))))
  rw [hd']
  refine wpAny_pure (a := some dx) (wpAny_bind (wpAny_pure (wpAny_bind ?_)))
  refine wpAny_nsSet1 (s := { s with toks := s.toks + 1 }) I.ns fun h' hn2 hs2 => ?_
  obtain ⟨oD, esD, epD, hoD, hdD, hcD⟩ := hn2.count (PySem.Within.cons name v hw)
  refine wpAny_bind (wpAny_lookBehind hoD (by rw [hdD]; exact pastItsLine_dict (Nat.le_trans hcD (by rw [List.length_cons]; omega))) ?_)
  exact wpAny_pure (h _ ⟨(hs2.2 _ (Ne.symm I.ne)).trans I.obj, hn2, I.ne⟩ hs2)
theorem make_map {R : Result → Shared → Prop} {vs : List Value} {kw : List (Str × Value)} (X : K.In s.heap) (hm : PySem.W.makesIn K C = true)
    (hi : PySem.W.findIn K (.ref C) "__init__" = some (some (.ref f))) (hf : PySem.W.typeIn K (.ref f) = some (.type "function"))
    (h : codeAny (model prog w) (A.under (.builtin "type.__call__" ⟨.ref C :: vs, kw⟩)) (.call (.ref f) ⟨.ref (s.heap.objs.size + 1) :: vs, kw⟩) (PySem.W.InitBack (s.heap.objs.size + 1) R)
      { s with heap := (s.heap.push PySem.W.emptyDict).push (PySem.W.instObj C s.heap.objs.size) }) :
    codeAny (model prog w) A (.call (.ref C) ⟨vs, kw⟩) R s := by
  obtain ⟨hh, g, d, t, os⟩ := s
  exact PySem.W.make_core (PySem.W.makes_of X hm) (PySem.W.looks_findIn X hi) (fun self => PySem.W.bind_fn X self hf) (.inl rfl) h
end
def putF (f : Str) (v : V) : List (Str × V) → List (Str × V)
  | [] => [(f, v)]
  | (g, x) :: r => if g = f then (g, v) :: r else (g, x) :: putF f v r
theorem lookup_putF (f g : Str) (v : V) : ∀ fs : List (Str × V), (putF f v fs).lookup g = if g = f then some v else fs.lookup g
  | [] => by
    show List.lookup g [(f, v)] = _
    by_cases h : g = f
    · have hb : (g == f) = true := beq_iff_eq.mpr h
      simp only [List.lookup, hb, if_pos h]
    · have hb : (g == f) = false := beq_eq_false_iff_ne.mpr h
      simp only [List.lookup, hb, if_neg h]
  | (k, x) :: r => by
    have ih := lookup_putF f g v r
    rw [show putF f v ((k, x) :: r) = (if k = f then (k, v) :: r else (k, x) :: putF f v r) from rfl]
    by_cases hk : k = f
    · rw [if_pos hk]
      by_cases h : g = k
      · have hb : (g == k) = true := beq_iff_eq.mpr h
        simp only [List.lookup, hb, if_pos (h.trans hk)]
      · have hb : (g == k) = false := beq_eq_false_iff_ne.mpr h
        simp only [List.lookup, hb, if_neg (fun e : g = f => h (e.trans hk.symm))]
    · rw [if_neg hk]
      by_cases h : g = k
      · have hb : (g == k) = true := beq_iff_eq.mpr h
        simp only [List.lookup, hb, if_neg (fun e : g = f => hk (h.symm.trans e))]
      · have hb : (g == k) = false := beq_eq_false_iff_ne.mpr h
        simp only [List.lookup, hb]
        exact ih
theorem keys_putF (f : Str) (v : V) : ∀ fs : List (Str × V), f ∈ (putF f v fs).map (·.1) ∧ ∀ g, g ∈ fs.map (·.1) → g ∈ (putF f v fs).map (·.1)
  | [] => ⟨by simp [putF], fun g h => by simp at h⟩
  | (k, x) :: r => by
    obtain ⟨i1, i2⟩ := keys_putF f v r
    rw [show putF f v ((k, x) :: r) = (if k = f then (k, v) :: r else (k, x) :: putF f v r) from rfl]
    by_cases hk : k = f
    · rw [if_pos hk]
      subst hk
      exact ⟨by simp, fun g h => by simpa using h⟩
    · rw [if_neg hk]
      refine ⟨?_, fun g h => ?_⟩
      · rw [List.map_cons]
        exact List.mem_cons_of_mem _ i1
      · rw [List.map_cons] at h ⊢
        rcases List.mem_cons.mp h with e | e
        · exact List.mem_cons.mpr (.inl e)
        · exact List.mem_cons_of_mem _ (i2 g e)
theorem length_putF (f : Str) (v : V) : ∀ fs : List (Str × V), (putF f v fs).length ≤ fs.length + 1
  | [] => by simp [putF]
  | (k, x) :: r => by
    have ih := length_putF f v r
    rw [show putF f v ((k, x) :: r) = (if k = f then (k, v) :: r else (k, x) :: putF f v r) from rfl]
    by_cases hk : k = f
    · rw [if_pos hk, List.length_cons, List.length_cons]; omega
    · rw [if_neg hk, List.length_cons, List.length_cons]; omega
theorem RelO.some_of {v : V} {o : Option Value} (r : RelO (some v) o) : ∃ u, o = some u ∧ RelV v u := by
  cases o with
  | none => exact (show False from r).elim
  | some u => exact ⟨u, rfl, r⟩
theorem RelO.none_of {o : Option Value} (r : RelO none o) : o = none := by
  cases o with
  | none => rfl
  | some u => exact (show False from r).elim
theorem handed_of {v : V} {u : Value} (r : RelV v u) : PySem.W.handedIn u = true := by
  cases v with
  | non => cases (show u = Value.none from r); rfl
  | bl b => cases (show u = Value.bool b from r); rfl
  | int i => obtain ⟨t, e⟩ := (show ∃ t, u = Value.int i t from r); cases e; rfl
  | str x => obtain ⟨t, e⟩ := (show ∃ t, u = Value.str x t from r); cases e; rfl
  | byt b => obtain ⟨t, e⟩ := (show ∃ t, u = Value.bytes b t from r); cases e; rfl
  | flt b => obtain ⟨t, e⟩ := (show ∃ t, u = Value.float b t from r); cases e; rfl
  | ref a => cases (show u = Value.ref a from r); rfl
  | ty n => cases (show u = Value.type n from r); rfl
section
variable {P : Program} {w : World} {H H' : Hp} {h h' : Heap} {a C dx : Addr} {fs fs' : List (Str × V)}
theorem ins_get (hok : HOk P w H h) (e : H a = some (.ins C dx fs)) : ∃ mA, ObjM h a dx C mA ∧ (∀ f, RelO (fs.lookup f) (mA f)) ∧ PySem.Within mA (fs.map (·.1)) ∧ fs.length ≤ 1000 ∧ H dx = some (.own a) := by
  obtain ⟨d, z, ne, ob, mA, n, r, q⟩ := (show ObjOk P w H h a (.ins C dx fs) from hok a _ e)
  exact ⟨mA, ⟨ob, n, ne⟩, r, q, z, d⟩
end
structure Cls (K : PySem.W.Frag) (C : Addr) : Prop where
  pg : PySem.W.plainGet K C Str.empty = true
  hd : PySem.W.hasDictIn K C = true
  po : PySem.W.plainOver K C = true
  sa : PySem.W.findIn K (.ref C) "__setattr__" = some (some (.builtin "object.__setattr__"))
theorem Cls.get {K : PySem.W.Frag} {C : Addr} (c : Cls K C) (f : Str) : PySem.W.plainGet K C f = true := c.pg
def NoAttr (K : PySem.W.Frag) (C : Addr) (f : Str) : Prop := PySem.W.findIn K (.ref C) f = some none
theorem NoAttr.taker {K : PySem.W.Frag} {C : Addr} {f : Str} (n : NoAttr K C f) : PySem.W.takerIn K C f = some none := by
  unfold PySem.W.takerIn
  rw [show PySem.W.findIn K (.ref C) f = some none from n]
  rfl
structure Con (K : PySem.W.Frag) (C : Addr) (f : Str) (v : V) (u : Value) : Prop where
  at_ : PySem.W.findIn K (.ref C) f = some (some u)
  rel : RelV v u
  get : PySem.W.specialIn K u "__get__" = some none
  cp : PySem.W.copiedNames.contains f = false
structure Meth (K : PySem.W.Frag) (C : Addr) (m : Str) (f : Addr) : Prop where
  at_ : PySem.W.findIn K (.ref C) m = some (some (.ref f))
  fn : PySem.W.isFn K (.ref f) = true
  kp : PySem.W.keepIn K (.ref f) = true
section
variable {X : Cx} {pins : List (Addr × Obj)} {σ : St} {H : Hp} {s : Shared} {a C dx : Addr} {fs : List (Str × V)} {f : Str} {v : V} {A : Around} {E : Value → Shared → Prop}
theorem getattr_ok {b : Bool} {Q : Value → Shared → Prop} (I : Inv X pins σ H s) (e : H a = some (.ins C dx fs)) (c : Cls X.K C) (n : NoAttr X.K C f) (l : fs.lookup f = some v)
    (h : ∀ u s', Inv X pins σ H s' → RelV v u → Q u s') : wpAny (model X.prog X.w) A (getAttr (.ref a) f b) Q E s := by
  obtain ⟨mA, O, r, _, _, _⟩ := ins_get I.hok e
  obtain ⟨u, hu, ru⟩ := RelO.some_of (v := v) (o := mA f) (by rw [← l]; exact r f)
  exact get_map I.kIn O (c.get f) c.hd n hu (handed_of ru) (h u _ (I.tok _) ru)
theorem getmeth_ok {m : Str} {g : Addr} {pl : Sem Bool} {Q : Value × List Value → Shared → Prop} (I : Inv X pins σ H s) (e : H a = some (.ins C dx fs)) (c : Cls X.K C) (k : Meth X.K C m g) (l : fs.lookup m = none)
    (h : Q (.ref g, [.ref a]) s) : wpAny (model X.prog X.w) A (getMethod (.ref a) m pl) Q E s := by
  obtain ⟨mA, O, r, _, _, _⟩ := ins_get I.hok e
  have hn : mA m = none := RelO.none_of (by rw [← l]; exact r m)
  exact get_meth I.kIn O (c.get m) k.at_ k.fn hn h
theorem setattr_ok {y : V} {u : Value} {Q : Unit → Shared → Prop} (I : Inv X pins σ H s) (e : H a = some (.ins C dx fs)) (c : Cls X.K C) (n : NoAttr X.K C f) (hl : fs.length < 1000) (ry : RelV y u)
    (h : ∀ s', Inv X pins σ (upd H a (.ins C dx (putF f y fs))) s' → Q () s') : wpAny (model X.prog X.w) A (setAttr (.ref a) f u) Q E s := by
  obtain ⟨mA, O, r, wi, _, ho⟩ := ins_get I.hok e
  have hz : (fs.map (·.1)).length ≤ sizeLine := by rw [List.length_map, sizeLine_eq]; omega
  refine set_map I.kIn O c.sa c.po n.taker c.hd wi hz fun h' O' sb => h _ ?_
  have hd : ∃ o, h'.get? dx = some o := let ⟨o, _, _, e', _⟩ := O'.ns; ⟨o, e'⟩
  refine I.write (x := a) (e := dx) (by rw [e]; exact True.intro) (.inr ho) (fun b q hb z => (sb.2 b hb).trans z) hd ?_
  refine ⟨by rw [upd_ne O.ne]; exact ho, ?_, O.ne, O'.obj, _, O'.ns, fun g => ?_, fun g hg => ?_⟩
  · have := length_putF f y fs; omega
  · show RelO ((putF f y fs).lookup g) (if g = f then some u else mA g)
    rw [lookup_putF]
    by_cases q : g = f
    · rw [if_pos q, if_pos q]; exact ry
    · rw [if_neg q, if_neg q]; exact r g
  · by_cases q : g = f
    · rw [q]; exact (keys_putF f y fs).1
    · refine (keys_putF f y fs).2 g (wi g fun z => hg ?_)
      show (if g = f then some u else mA g) = none
      rw [if_neg q]; exact z
theorem Inv.made (I : Inv X pins σ H s) : Inv X pins σ (upd (upd H s.heap.objs.size (.own (s.heap.objs.size + 1))) (s.heap.objs.size + 1) (.ins C s.heap.objs.size []))
    { s with heap := (s.heap.push PySem.W.emptyDict).push (PySem.W.instObj C s.heap.objs.size) } := by
  have e1 : (s.heap.push PySem.W.emptyDict).get? s.heap.objs.size = some PySem.W.emptyDict := Heap.get?_push_size s.heap rfl
  have e2 : ((s.heap.push PySem.W.emptyDict).push (PySem.W.instObj C s.heap.objs.size)).get? (s.heap.objs.size + 1) = some (PySem.W.instObj C s.heap.objs.size) := by
    have := Heap.get?_push_size (s.heap.push PySem.W.emptyDict) (o := PySem.W.instObj C s.heap.objs.size) rfl
    rwa [Heap.size_push] at this
  have e3 : (s.heap.push PySem.W.emptyDict).Ns s.heap.objs.size (fun _ => none) := ⟨PySem.W.emptyDict, #[], _, e1, rfl, (fun e he => absurd he (by simp)), fun _ => rfl⟩
  have I1 := I.laid (a := s.heap.objs.size) (o := .own (s.heap.objs.size + 1)) (h' := s.heap.push PySem.W.emptyDict) (t' := s.toks) (fun b u q => Heap.get?_push_of_some _ q) (Nat.le_refl _) ⟨_, e1⟩
  refine I1.laid (a := s.heap.objs.size + 1) (o := .ins C s.heap.objs.size []) (t' := s.toks) (fun b u q => Heap.get?_push_of_some _ q) (Nat.le_of_eq (Heap.size_push _ _)) ?_
  have ne : s.heap.objs.size ≠ s.heap.objs.size + 1 := Nat.ne_of_lt (Nat.lt_succ_self _)
  refine ⟨by rw [upd_ne ne, upd_same], Nat.zero_le _, ne, e2, fun _ => none, (Heap.Ns1.of_empty e3).at fun o q => Heap.get?_push_of_some _ q, fun _ => True.intro, fun y hy => absurd rfl hy⟩
theorem attr_of {prog : Program} {w : World} {env : Env} {e : Expr} {f : Str} {pos : Pos} {s : Shared} {Q : Value → Shared → Prop} (hb : attributeBase e f env (eval e env) = eval e env)
    (h : wpAny (model prog w) A (eval e env) (fun o s₁ => wpAny (model prog w) A (getAttr o f true) Q E s₁) E s) : wpAny (model prog w) A (eval (.Attribute e f pos) env) Q E s :=
  Attribute_any_ h (by rw [arm_eval_Attribute, hb])
end
def tFld (K : PySem.W.Frag) (ta : TE) (f : Str) : TE := fun σ H Q => ta σ H fun x H1 => ∃ a C dx fs v, x = .ref a ∧ H1 a = some (.ins C dx fs) ∧ Cls K C ∧ NoAttr K C f ∧ fs.lookup f = some v ∧ Q v H1
def sFld (K : PySem.W.Frag) (ta tv : TE) (f : Str) : TS := fun D σ H => tv σ H fun y H1 => ta σ H1 fun x H2 => ∃ a C dx fs, x = .ref a ∧ H2 a = some (.ins C dx fs) ∧ Cls K C ∧ NoAttr K C f ∧ fs.length < 1000 ∧
  D.nx σ (upd H2 a (.ins C dx (putF f y fs)))
section
variable {X : Cx} {o e value : Expr} {f : Str} {pos pos' tpos : Pos} {ta tv : TE}
theorem pe_fld (he : PE X e ta) (hb : attributeBase e f X.env (eval e X.env) = eval e X.env) : PE X (.Attribute e f pos) (tFld X.K ta f) := by
  intro pins s σ H Q I h
  refine attr_of hb (thn (he pins s σ H _ I h) fun u s1 ⟨x, H1, I1, rx, a, C, dx, fs, v, ex, ea, c, n, l, q⟩ => ?_)
  subst ex
  obtain rfl : u = Value.ref a := rx
  exact getattr_ok I1 ea c n l fun u' s2 I2 ru => ⟨v, H1, I2, ru, q⟩
theorem ps_fld (ha : PE X o ta) (hv : PE X value tv) (hs : swapsWith value (some (.Attribute o f pos')) pos.line X.env = pure false) : PS X (.Assign [.Attribute o f pos'] value pos) (sFld X.K ta tv f) := by
  intro pins s σ H D I h
  refine plainObj_wpAny_Assign_Attribute (thn (hv pins s σ H _ I h) fun u s1 ⟨y, H1, I1, ry, q⟩ => thn (ha pins s1 σ H1 _ I1 q) fun ov s2 ⟨x, H2, I2, rx, a, C, dx, fs, ex, ea, c, n, l, q2⟩ => ?_) hs
  subst ex
  obtain rfl : ov = Value.ref a := rx
  exact setattr_ok I2 ea c n l ry fun s3 I3 => ⟨σ, _, I3, q2⟩
end
section
variable {X : Cx} {pins : List (Addr × Obj)} {σ : St} {H : Hp} {s : Shared} {A : Around} {E : Value → Shared → Prop} {Q : Value → Shared → Prop} {c : Value} {b : Bool}
inductive TyOf (K : PySem.W.Frag) (H : Hp) : V → Value → Prop where
  | non : TyOf K H .non (.type "NoneType")
  | bl (x : Bool) : TyOf K H (.bl x) (.type "bool")
  | int (i : Int) : TyOf K H (.int i) (.type "int")
  | str (x : Str) : TyOf K H (.str x) (.type "str")
  | flt (x : UInt64) : TyOf K H (.flt x) (.type "float")
  | lst {a : Addr} {xs : List V} (e : H a = some (.lst xs)) : TyOf K H (.ref a) (.type "list")
  | frz {a : Addr} {o : Obj} {xs : List V} (e : H a = some (.frz o (.lst xs))) : TyOf K H (.ref a) (.type "list")
  | tup {a : Addr} {xs : List V} (e : H a = some (.tup xs)) : TyOf K H (.ref a) (.type "tuple")
  | dK {a : Addr} {kvs : List (Key × V)} (e : H a = some (.dK kvs)) : TyOf K H (.ref a) (.type "dict")
  | dT {a : Addr} {kvs : List (List Key × V)} (e : H a = some (.dT kvs)) : TyOf K H (.ref a) (.type "dict")
  | ins {a C dx : Addr} {fs : List (Str × V)} (e : H a = some (.ins C dx fs)) (cl : Cls K C) (ha : PySem.W.findIn K (.ref C) "__class__" = some (some (.builtin "object.__class__")))
      (hn : PySem.W.specialIn K (.builtin "object.__class__") "__get__" = some (some (.builtin "getset_descriptor.__get__"))) (htk : PySem.W.takesIn K (.builtin "object.__class__") = some true)
      (hm : PySem.W.mroIn K C (.type "object") = some true) : TyOf K H (.ref a) (.ref C)
end
end L2
namespace L2
open PySem PySem.Spec PyProof.Rows
structure Room (k : Nat) (A : Around) : Prop where
  hd : A.handled = none
  dp : A.depth + 3 * k + 5 < recursionLimit
  un : A.units + 16 * k + 200 < cLine
theorem Room.mono {j k : Nat} {A : Around} (r : Room k A) (h : j ≤ k) : Room j A := ⟨r.hd, by have := r.dp; omega, by have := r.un; omega⟩
theorem Room.deeper {k : Nat} {A : Around} (r : Room (k + 1) A) (env : Env) : Room k (A.deeper env) :=
  ⟨r.hd, by have := r.dp; show A.depth + 1 + 3 * k + 5 < _; omega, by have := r.un; show A.units + 3 + 16 * k + 200 < _; omega⟩
theorem make_depth {A : Around} {C : Addr} {us : List Value} {kw : List (Str × Value)} : (A.under (.builtin "type.__call__" ⟨.ref C :: us, kw⟩)).depth = A.depth + 1 := by
  first | rfl | simp [Around.under, Code.weight, Code.isCreation, Code.isGuard, Code.isCaller, Code.frames, Code.isFrame, guardIds]
theorem make_units {A : Around} {C : Addr} {us : List Value} {kw : List (Str × Value)} : (A.under (.builtin "type.__call__" ⟨.ref C :: us, kw⟩)).units = A.units + 1 := by
  first | rfl | simp [Around.under, Code.cUnits, Code.frames, Code.isFrame]
theorem Room.make {k : Nat} {A : Around} (r : Room (k + 1) A) (C : Addr) (us : List Value) (kw : List (Str × Value)) : Room k (A.under (.builtin "type.__call__" ⟨.ref C :: us, kw⟩)) :=
  ⟨r.hd, by have := r.dp; rw [make_depth]; omega, by have := r.un; rw [make_units]; omega⟩
theorem Room.depth {k : Nat} {A : Around} (r : Room k A) : A.depth < recursionLimit := by have := r.dp; omega
theorem Room.units {k : Nat} {A : Around} (r : Room k A) : A.units + 64 < cLine := by have := r.un; omega
def tNil : TA := fun _ H Q => Q [] H
def tCons (ta : TE) (tr : TA) : TA := fun σ H Q => ta σ H fun x H1 => tr σ H1 fun xs H2 => Q (x :: xs) H2
section
variable {X : Cx} {e : Expr} {es : List Expr} {te : TE} {t : TA} {pos : Pos}
theorem pa_nil : PA X [] tNil := fun _ _ _ _ H Q I h => Calls.spliced_nil ⟨[], H, I, .nil, h⟩
theorem pa_cons (ha : PE X e te) (hr : PA X es t) (hs : starEach (e :: es) X.env = (false, eval e X.env) :: starEach es X.env := by rfl) : PA X (e :: es) (tCons te t) := by
  intro pos pins s σ H Q I h
  rw [hs]
  show wpAny _ _ (spliced ((false, eval e X.env) :: backTo pos (starEach es X.env))) _ _ s
  refine Calls.spliced_cons (thn (ha pins s σ H _ I h) fun u s1 ⟨x, H1, I1, r1, q1⟩ => ?_)
  exact thn (hr pos pins s1 σ H1 _ I1 q1) fun us s2 ⟨xs, H2, I2, r2, q2⟩ => ⟨x :: xs, H2, I2, .cons r1 r2, q2⟩
def tTup (t : TA) : TE := fun σ H Q => t σ H fun xs H1 => xs.length ≤ sizeLine ∧ ∀ p, H1 p = none → Q (.ref p) (upd H1 p (.tup xs))
def tLst (t : TA) : TE := fun σ H Q => t σ H fun xs H1 => xs.length ≤ sizeLine ∧ ∀ p, H1 p = none → Q (.ref p) (upd H1 p (.lst xs))
theorem pe_tup {x1} (h : PA X es t) : PE X (.Tuple es x1 pos) (tTup t) := by
  intro pins s σ H Q I hq
  refine wpAny_Tuple_spliced (thn (h pos pins s σ H _ I hq) fun us s1 ⟨xs, H1, I1, r, z, q⟩ => ⟨by rw [← r.length]; exact z, ?_⟩)
  have hf : H1 s1.heap.objs.size = none := I1.hok.fresh (Nat.le_refl _)
  refine ⟨.ref s1.heap.objs.size, upd H1 s1.heap.objs.size (.tup xs), I1.laid (t' := s1.toks) (fun b u e => Heap.get?_push_of_some _ e) (Nat.le_refl _) ?_, rfl, q _ hf⟩
  exact ⟨z, us, r, ⟨_, Heap.get?_push_size _ rfl, rfl, rfl, _, rfl⟩⟩
theorem pe_lst (h : PA X es t) : PE X (.List es pos) (tLst t) := by
  intro pins s σ H Q I hq
  refine wpAny_List_spliced (thn (h pos pins s σ H _ I hq) fun us s1 ⟨xs, H1, I1, r, z, q⟩ => ⟨by rw [← r.length]; exact z, ?_⟩)
  have hf : H1 s1.heap.objs.size = none := I1.hok.fresh (Nat.le_refl _)
  refine ⟨.ref s1.heap.objs.size, upd H1 s1.heap.objs.size (.lst xs), I1.laid (t' := s1.toks) (fun b u e => Heap.get?_push_of_some _ e) (Nat.le_refl _) ?_, rfl, q _ hf⟩
  exact ⟨z, us, 0, r, Heap.get?_push_size _ rfl⟩
end
abbrev Sp := List V → Hp → VK → XK → Prop
abbrev CXT := List Env → Hp → Shared → XK → Value → Shared → Prop
structure Env0 (P : Program) (w : World) (K : PySem.W.Frag) (mg : Str → Option Value) (base : Heap) (A : Around) (outer : List Env) (s : Shared) (H : Hp) : Prop where
  frames : A.frames = some outer
  mod : Mod K mg base
  bs : ∀ b o, base.get? b = some o → s.heap.get? b = some o ∧ H b = none
  bsz : base.objs.size ≤ s.heap.objs.size
  funs : s.heap.FunFrames base outer
  frf : ∀ b ∈ frs outer, H b = none
  hok : HOk P w H s.heap
  bare : AllBare s.gens
def CE (outer : List Env) (P : Program) (w : World) (H : Hp) (s : Shared) (Q : VK) (u : Value) (s' : Shared) : Prop :=
  ∃ v H', s'.os = s.os ∧ AllBare s'.gens ∧ Un (frs outer) [] H H' s.heap s'.heap ∧ HOk P w H' s'.heap ∧ RelV v u ∧ Q v H'
def CR (CX : CXT) (outer : List Env) (P : Program) (w : World) (H : Hp) (s : Shared) (Q : VK) (E : XK) (r : Result) (s' : Shared) : Prop :=
  match r with
  | .ok (.ret u) => CE outer P w H s Q u s'
  | .ok _ => False
  | .error e => CX outer H s E e s'
structure FnOk (P : Program) (w : World) (K : PySem.W.Frag) (mg : Str → Option Value) (base : Heap) (CX : CXT) (k : Nat) (f : Addr) (fd : FuncData) (ps : List Str) (sp : Sp) : Prop where
  len : ∀ vs H Q E, sp vs H Q E → vs.length = ps.length
  run : ∀ (A : Around) (outer : List Env) (s : Shared) (H : Hp) (args : Args) (us : List Value) (vs : List V) (Q : VK) (E : XK), Room k A → Env0 P w K mg base A outer s H → BindsTo s fd args (ps.zip us) → Vals vs us → sp vs H Q E →
    codeAny (model P w) A (.call (.ref f) args) (CR CX outer P w H s Q E) s
theorem Env0.make {P : Program} {w : World} {K : PySem.W.Frag} {mg : Str → Option Value} {base : Heap} {A : Around} {outer : List Env} {s : Shared} {H : Hp} (e : Env0 P w K mg base A outer s H) (C : Addr) (us : List Value) (kw : List (Str × Value)) :
    Env0 P w K mg base (A.under (.builtin "type.__call__" ⟨.ref C :: us, kw⟩)) outer s H := ⟨by first | exact e.frames | (simpa [Around.under, Code.envs, Code.isFrame, pushEnvs] using e.frames), e.mod, e.bs, e.bsz, e.funs, e.frf, e.hok, e.bare⟩
section
variable {X : Cx} {pins : List (Addr × Obj)} {σ : St} {H : Hp} {s s' : Shared}
theorem Inv.env0 (I : Inv X pins σ H s) : Env0 X.prog X.w X.K X.mg X.base X.A X.stack s H :=
  ⟨I.ok.frames, I.ok.mod, I.bs, Nat.le_trans I.ok.bsz I.sz, I.stack, I.stkFree, I.hok, I.bare⟩
theorem Inv.after {Q : VK} {u : Value} (I : Inv X pins σ H s) (h : CE X.stack X.prog X.w H s Q u s') : EP X pins σ Q u s' := by
  obtain ⟨v, H', os, bare, un, hok, r, q⟩ := h
  obtain ⟨hh, g, d, t, os'⟩ := s'
  obtain rfl : os' = s.os := os
  exact ⟨v, H', I.call (h' := hh) (g' := g) (d' := d) (t' := t) (ch := []) un hok bare (fun b z => absurd z (by simp)), r, q⟩
end
def tCall (sp : Sp) (dvs : List V) (E : XK) (t : TA) : TE := fun σ H Q => t σ H fun vs H1 => sp (vs ++ dvs) H1 Q E
def tMeth (C : Addr) (m : Str) (sp : Sp) (dvs : List V) (E : XK) (ta : TE) (t : TA) : TE := fun σ H Q => ta σ H fun x H1 => ∃ a dx fs, x = .ref a ∧ H1 a = some (.ins C dx fs) ∧ fs.lookup m = none ∧
  t σ H1 fun vs H2 => sp (x :: (vs ++ dvs)) H2 Q E
def tMake (C : Addr) (sp : Sp) (dvs : List V) (E : XK) (t : TA) : TE := fun σ H Q => t σ H fun vs H1 => ∀ x dx, H1 x = none → H1 dx = none → dx ≠ x →
  sp (.ref x :: (vs ++ dvs)) (upd (upd H1 dx (.own x)) x (.ins C dx [])) (fun v H2 => v = .non ∧ Q (.ref x) H2) E
def Binds (K : PySem.W.Frag) (fd : FuncData) (ps : List Str) (ds : List Value) : Prop :=
  ∀ (s : Shared) (us : List Value), K.In s.heap → (us ++ ds).length = ps.length → BindsTo s fd ⟨us, []⟩ (ps.zip (us ++ ds))
theorem Binds.all {K : PySem.W.Frag} {fd : FuncData} {ps : List Str} (h : ∀ us : List Value, us.length = ps.length → bindArgs fd ⟨us, []⟩ = pure (ps.zip us)) : Binds K fd ps [] := fun s us _ hl => by
  rw [List.append_nil] at hl ⊢
  exact .of_eq (h us hl)
def Passes (CX : CXT) (X : Cx) (E : XK) : Prop := ∀ (pins : List (Addr × Obj)) (σ : St) (H : Hp) (s : Shared) (e : Value) (s' : Shared), Inv X pins σ H s → CX X.stack H s E e s' → X.xe e s'
section
variable {X : Cx} {CX : CXT} {k : Nat} {f C : Addr} {fd : FuncData} {ps : List Str} {sp : Sp} {dvs : List V} {ds : List Value} {E : XK} {x m : Str} {p pos apos : Pos} {e o : Expr} {es : List Expr} {ta : TE} {t : TA}
theorem run_fn {pins : List (Addr × Obj)} {σ : St} {H : Hp} {s : Shared} {Q : VK} {us : List Value} {vs : List V} (F : FnOk X.prog X.w X.K X.mg X.base CX k f fd ps sp) (hr : Room k X.A) (hb : Binds X.K fd ps ds) (hd : Vals dvs ds) (hx : Passes CX X E)
    (I : Inv X pins σ H s) (r : Vals vs us) (h : sp (vs ++ dvs) H Q E) : wpAny (model X.prog X.w) X.A (call (.ref f) us) (EP X pins σ Q) X.xe s := by
  have r2 : Vals (vs ++ dvs) (us ++ ds) := r.append hd
  have hl : (us ++ ds).length = ps.length := by rw [← r2.length]; exact F.len _ _ _ _ h
  refine wpAny_call (codeAny_mono (F.run X.A X.stack s H ⟨us, []⟩ (us ++ ds) (vs ++ dvs) Q E hr I.env0 (hb s us I.kIn hl) r2 h) fun r s' hq => ?_)
  cases r with
  | error e => exact hx pins σ H s e s' I hq
  | ok fl =>
    cases fl with
    | ret u => exact I.after hq
    | next => exact False.elim hq
    | brk => exact False.elim hq
    | cont => exact False.elim hq
theorem pe_call (F : FnOk X.prog X.w X.K X.mg X.base CX k f fd ps sp) (hr : Room k X.A) (hg : Gl X x) (hm : X.mg x = some (.ref f)) (hk : PySem.W.keepIn X.K (.ref f) = true) (hb : Binds X.K fd ps ds) (hd : Vals dvs ds) (hx : Passes CX X E)
    (ha : PA X (e :: es) t) (hdb : (x == ("__debug__" : Str)) = false := by decide) (he : starEach (e :: es) X.env = (false, eval e X.env) :: starEach es X.env := by rfl) (hpl : (backTo pos (starEach es X.env)).any (·.1) = false := by rfl) :
    PE X (.Call (.Name x p) (e :: es) [] pos) (tCall sp dvs E t) := by
  intro pins s σ H Q I h
  refine wpAny_Call_Name_kw (ld_glob I hg hm ?_ hdb)
  refine PySem.W.callWith_K (h₀ := X.base) I.ok.mod.kin hk (thn (ha pos pins s σ H _ I h) fun us s1 ⟨vs, H1, I1, r, q⟩ => ⟨I1.kIn, ?_⟩) he hpl
  exact run_fn F hr hb hd hx I1 r q
theorem pe_call0 (F : FnOk X.prog X.w X.K X.mg X.base CX k f fd ps sp) (hr : Room k X.A) (hg : Gl X x) (hm : X.mg x = some (.ref f)) (hk : PySem.W.keepIn X.K (.ref f) = true) (hb : Binds X.K fd ps ds) (hd : Vals dvs ds) (hx : Passes CX X E)
    (hdb : (x == ("__debug__" : Str)) = false := by decide) : PE X (.Call (.Name x p) [] [] pos) (tCall sp dvs E tNil) := by
  intro pins s σ H Q I h
  refine wpAny_Call_Name_kw (ld_glob I hg hm ?_ hdb)
  exact PySem.W.callWith_K0 I.kIn hk (run_fn (us := []) F hr hb hd hx I .nil h)
theorem pe_meth0 {pl : Sem Bool} (he : PE X o ta) (c : Cls X.K C) (hm : Meth X.K C m f) (F : FnOk X.prog X.w X.K X.mg X.base CX k f fd ps sp) (hr : Room k X.A) (hb : Binds X.K fd ps ds) (hd : Vals dvs ds) (hx : Passes CX X E)
    (ht : eval (.Call (.Attribute o m apos) [] [] pos) X.env = (do
      let ov ← eval o X.env
      standAt apos.atName
      let (f, first) ← holding [ov] (getMethod ov m pl)
      callWith pos f first (backTo pos (starEach [] X.env)) (backToKw pos (keywordEach [] X.env))) := by rfl) :
    PE X (.Call (.Attribute o m apos) [] [] pos) (tMeth C m sp dvs E ta tNil) := by
  intro pins s σ H Q I h
  refine PySem.W.methodCall_KW (pl := pl) (thn (he pins s σ H _ I h) fun u s1 ⟨x, H1, I1, rx, a, dx, fs, ex, ea, l, q⟩ => ?_) ht
  subst ex
  obtain rfl : u = Value.ref a := rx
  refine getmeth_ok I1 ea c hm l ?_
  exact PySem.W.callWith_K0 (first := [.ref a]) I1.kIn hm.kp (run_fn (us := [.ref a]) (vs := [.ref a]) F hr hb hd hx I1 (.cons rfl .nil) q)
structure Mk (K : PySem.W.Frag) (C f : Addr) : Prop where
  makes : PySem.W.makesIn K C = true
  init : PySem.W.findIn K (.ref C) "__init__" = some (some (.ref f))
  fn : PySem.W.isFn K (.ref f) = true
  kp : PySem.W.keepIn K (.ref C) = true
theorem run_make {pins : List (Addr × Obj)} {σ : St} {H : Hp} {s : Shared} {Q : VK} {us : List Value} {vs : List V} (M : Mk X.K C f) (F : FnOk X.prog X.w X.K X.mg X.base CX k f fd ps sp) (hr : Room (k + 1) X.A) (hb : Binds X.K fd ps ds) (hd : Vals dvs ds)
    (hx : Passes CX X E) (I : Inv X pins σ H s) (r : Vals vs us)
    (h : ∀ x dx, H x = none → H dx = none → dx ≠ x → sp (.ref x :: (vs ++ dvs)) (upd (upd H dx (.own x)) x (.ins C dx [])) (fun v H2 => v = .non ∧ Q (.ref x) H2) E) :
    wpAny (model X.prog X.w) X.A (call (.ref C) us) (EP X pins σ Q) X.xe s := by
  have hq := h (s.heap.objs.size + 1) s.heap.objs.size (I.hok.fresh (Nat.le_succ _)) (I.hok.fresh (Nat.le_refl _)) (Nat.ne_of_lt (Nat.lt_succ_self _))
  have I2 := Inv.made (C := C) I
  have r2 : Vals (V.ref (s.heap.objs.size + 1) :: (vs ++ dvs)) (Value.ref (s.heap.objs.size + 1) :: (us ++ ds)) := .cons rfl (r.append hd)
  have hl : (Value.ref (s.heap.objs.size + 1) :: us ++ ds).length = ps.length := by
    have e := r2.length
    rw [F.len _ _ _ _ hq] at e
    exact e.symm
  refine wpAny_call (make_map (f := f) I.kIn M.makes M.init (beq_iff_eq.mp M.fn) (codeAny_mono (F.run _ X.stack _ _ ⟨Value.ref (s.heap.objs.size + 1) :: us, []⟩ (Value.ref (s.heap.objs.size + 1) :: (us ++ ds)) _ _ E (hr.make C us [])
    (I2.env0.make C us []) (hb _ (Value.ref (s.heap.objs.size + 1) :: us) I2.kIn hl) r2 hq) fun r s' hq' => ?_))
  cases r with
  | error e => exact hx pins σ _ _ e s' I2 hq'
  | ok fl =>
    cases fl with
    | ret u =>
      obtain ⟨v, H', I3, rv, ev, q3⟩ := I2.after hq'
      subst ev
      exact ⟨rv, ⟨V.ref (s.heap.objs.size + 1), H', I3, rfl, q3⟩⟩
    | next => exact False.elim hq'
    | brk => exact False.elim hq'
    | cont => exact False.elim hq'
theorem pe_make (M : Mk X.K C f) (F : FnOk X.prog X.w X.K X.mg X.base CX k f fd ps sp) (hr : Room (k + 1) X.A) (hg : Gl X x) (hm : X.mg x = some (.ref C)) (hb : Binds X.K fd ps ds) (hd : Vals dvs ds) (hx : Passes CX X E)
    (ha : PA X (e :: es) t) (hdb : (x == ("__debug__" : Str)) = false := by decide) (he : starEach (e :: es) X.env = (false, eval e X.env) :: starEach es X.env := by rfl) (hpl : (backTo pos (starEach es X.env)).any (·.1) = false := by rfl) :
    PE X (.Call (.Name x p) (e :: es) [] pos) (tMake C sp dvs E t) := by
  intro pins s σ H Q I h
  refine wpAny_Call_Name_kw (ld_glob I hg hm ?_ hdb)
  refine PySem.W.callWith_K (h₀ := X.base) I.ok.mod.kin M.kp (thn (ha pos pins s σ H _ I h) fun us s1 ⟨vs, H1, I1, r, q⟩ => ⟨I1.kIn, ?_⟩) he hpl
  exact run_make M F hr hb hd hx I1 r q
end
section
variable {X : Cx} {CX : CXT} {k : Nat} {f C : Addr} {fd : FuncData} {ps ks : List Str} {sp : Sp} {E : XK} {x m : Str} {p pos apos kpos : Pos} {e o : Expr} {es : List Expr} {kws : List Keyword} {te ta : TE} {t tk : TA} {nm : Option Str}
structure KBinds (K : PySem.W.Frag) (fd : FuncData) (ps ks : List Str) (g : List Value → List Value → List Value) (gV : List V → List V → List V) : Prop where
  to : ∀ (s : Shared) (us ws : List Value), K.In s.heap → (g us ws).length = ps.length → BindsTo s fd ⟨us, ks.zip ws⟩ (ps.zip (g us ws))
  rel : ∀ {vs : List V} {us : List Value} {zs : List V} {ws : List Value}, Vals vs us → Vals zs ws → Vals (gV vs zs) (g us ws)
variable {g : List Value → List Value → List Value} {gV : List V → List V → List V}
end
structure FnScope (N P : List Str) (sc : Scope) : Prop where
  kind : sc.kind = .function
  co : sc.isCoroutine = false
  gen : sc.isGenerator = false
  nd : N.Nodup
  pre : N.take P.length = P
  par : ∀ x ∈ P, sc.names.lookup x = some .local ∨ sc.names.lookup x = some .cell
  nofree : ∀ y ∈ sc.names, y.2 ≠ .free
theorem bindL_out {kindOf : Str → Option NameKind} {x : Str} : ∀ {binds : List (Str × Value)} {m : Str → Option Value}, (∀ v, (x, v) ∉ binds) → bindL kindOf binds m x = m x
  | [], _, _ => rfl
  | (n, v) :: r, m, h => by
    unfold bindL
    rw [bindL_out fun w hw => h w (List.mem_cons_of_mem _ hw)]
    split
    · have : x ≠ n := by rintro rfl; exact h v List.mem_cons_self
      simp [this]
    · rfl
theorem bindC_out {kindOf : Str → Option NameKind} {x : Str} : ∀ {binds : List (Str × Value)} {m : Str → Option Value}, (∀ v, (x, v) ∉ binds) → bindC kindOf binds m x = m x
  | [], _, _ => rfl
  | (n, v) :: r, m, h => by
    unfold bindC
    rw [bindC_out fun w hw => h w (List.mem_cons_of_mem _ hw)]
    split
    · rfl
    · have : x ≠ n := by rintro rfl; exact h v List.mem_cons_self
      simp [this]
theorem bindL_get {kindOf : Str → Option NameKind} {x : Str} {v : Value} : ∀ {P : List Str} {vs : List Value} {i : Nat} {m : Str → Option Value}, P.Nodup → P[i]? = some x → vs[i]? = some v → kindOf x = some .local →
    bindL kindOf (P.zip vs) m x = some v
  | [], _, _, _, _, h, _, _ => by simp at h
  | _ :: _, [], _, _, _, _, h, _ => by simp at h
  | p :: P, w :: vs, 0, m, nd, h1, h2, hk => by
    simp at h1 h2; subst h1; subst h2
    show bindL kindOf ((p, w) :: P.zip vs) m p = _
    unfold bindL
    rw [bindL_out fun v hv => (List.nodup_cons.mp nd).1 (List.of_mem_zip hv).1, if_pos hk]
    simp
  | p :: P, w :: vs, i + 1, m, nd, h1, h2, hk => by
    show bindL kindOf ((p, w) :: P.zip vs) m x = _
    unfold bindL
    exact bindL_get (i := i) (List.nodup_cons.mp nd).2 (by simpa using h1) (by simpa using h2) hk
theorem bindC_get {kindOf : Str → Option NameKind} {x : Str} {v : Value} : ∀ {P : List Str} {vs : List Value} {i : Nat} {m : Str → Option Value}, P.Nodup → P[i]? = some x → vs[i]? = some v → kindOf x ≠ some .local →
    bindC kindOf (P.zip vs) m x = some v
  | [], _, _, _, _, h, _, _ => by simp at h
  | _ :: _, [], _, _, _, _, h, _ => by simp at h
  | p :: P, w :: vs, 0, m, nd, h1, h2, hk => by
    simp at h1 h2; subst h1; subst h2
    show bindC kindOf ((p, w) :: P.zip vs) m p = _
    unfold bindC
    rw [bindC_out fun v hv => (List.nodup_cons.mp nd).1 (List.of_mem_zip hv).1, if_neg hk]
    simp
  | p :: P, w :: vs, i + 1, m, nd, h1, h2, hk => by
    show bindC kindOf ((p, w) :: P.zip vs) m x = _
    unfold bindC
    exact bindC_get (i := i) (List.nodup_cons.mp nd).2 (by simpa using h1) (by simpa using h2) hk
def start (N : List Str) (vs : List V) : St := vs.map some ++ List.replicate (N.length - vs.length) none
def cxOf (CX : CXT) (P : Program) (w : World) (K : PySem.W.Frag) (mg : Str → Option Value) (base : Heap) (N : List Str) (qual : Str) (scope : Scope) (f : Addr) (cd : Value) (A : Around) (outer : List Env) (s : Shared) (H : Hp) (E : XK) : Cx where
  prog := P
  w := w
  K := K
  mg := mg
  base := base
  A := A.deeper (envOfC qual scope s.heap.objs.size f cd)
  N := N
  s₀ := s
  H₀ := H
  env := envOfC qual scope s.heap.objs.size f cd
  outer := outer
  stack := envOfC qual scope s.heap.objs.size f cd :: outer
  ex := []
  calm := true
  fn := fun _ => true
  pn := []
  xe := fun e s' => wpAny (model P w) (A.deeper (envOfC qual scope s.heap.objs.size f cd)) (leaving (envOfC qual scope s.heap.objs.size f cd) e) (fun _ s'' => CX outer H s E e s'') (fun e' s'' => CX outer H s E e' s'') s'
theorem cell_has {sc : Scope} {n : Nat} {x : Str} (h : sc.names.lookup x = some .cell) : ∃ c, (cellsFrom n sc.names []).lookup x = some c := by
  have q := PySem.W.cellsFrom_some sc.names n [] (.inl h)
  exact Option.isSome_iff_exists.mp q
theorem inv_start {CX : CXT} {P : Program} {w : World} {K : PySem.W.Frag} {mg : Str → Option Value} {base : Heap} {N ps : List Str} {qual : Str} {scope : Scope} {f : Addr} {cd : Value} {A : Around} {outer : List Env} {s s1 : Shared} {H : Hp} {E : XK} {us : List Value} {vs : List V}
    (S : FnScope N ps scope) (hd : A.handled = none) (e0 : Env0 P w K mg base A outer s H) (hl : vs.length = ps.length) (r : Vals vs us)
    (x : InCallC s s.heap.objs.size (bindL (envOfC qual scope s.heap.objs.size f cd).kindOf (ps.zip us) fun _ => none) (cellsFrom (s.heap.objs.size + 1) scope.names []) (bindC (envOfC qual scope s.heap.objs.size f cd).kindOf (ps.zip us) fun _ => none) s1) :
    Inv (cxOf CX P w K mg base N qual scope f cd A outer s H E) [] (start N vs) H s1 := by
  have hpl : ps.length ≤ N.length := by have := congrArg List.length S.pre; rw [List.length_take] at this; omega
  obtain ⟨h1, tk, rfl, hk⟩ := x.done
  have noA : ∀ b : Addr, b ∉ (cxOf CX P w K mg base N qual scope f cd A outer s H E).ex := fun b z => absurd (show b ∈ ([] : List Addr) from z) (by simp)
  refine ⟨⟨e0.mod, S.kind, rfl, rfl, Nat.le_refl _, fun y z c h1 h2 => ?_, fun y hy => ?_, fun y c _ h => ?_, fun _ => hd, Around.frames_deeper e0.frames, .inr ⟨rfl, rfl⟩, fun b z => absurd z (noA b), e0.bs, e0.bsz, fun b _ _ => noA b, fun b z => absurd z (noA b), e0.funs, e0.frf⟩,
    rfl, e0.bare, Un.kept hk, ⟨_, x.toInCall.ns, fun i y v h1 h2 h3 => ?_⟩, fun y c h => ⟨_, x.cell y c h⟩, e0.hok.fresh (Nat.le_refl _), fun y c h => ?_, fun p hp => absurd (show p ∈ ([] : List (Addr × Obj)) from hp) (by simp), e0.hok.kept hk, ?_⟩
  · exact name_of_addr x.apart (PySem.mem_of_lookup h1) (PySem.mem_of_lookup h2)
  · have hy : scope.names.lookup y = some .cell ∨ scope.names.lookup y = some .free := hy
    rcases hy with hy | hy
    · exact cell_has hy
    · exact absurd rfl (S.nofree _ (PySem.mem_of_lookup hy))
  · exact Nat.le_of_lt (x.above y c (PySem.mem_of_lookup h))
  · have hi : i < vs.length := by
      unfold start at h2
      by_cases hi : i < vs.length
      · exact hi
      · rw [List.getElem?_append_right (by simpa using hi)] at h2
        rw [List.getElem?_replicate] at h2
        split at h2 <;> cases h2
    have ha : vs[i]? = some v := by
      unfold start at h2
      rw [List.getElem?_append_left (by simpa using hi), List.getElem?_map] at h2
      cases e : vs[i]? with
      | none => rw [e] at h2; cases h2
      | some a => rw [e] at h2; cases h2; rfl
    obtain ⟨u, hu, rv⟩ := r.get ha
    have hp : ps[i]? = some y := by
      rw [← S.pre, List.getElem?_take_of_lt (by omega)]; exact h1
    have ndP : ps.Nodup := by rw [← S.pre]; exact S.nd.sublist (List.take_sublist _ _)
    refine ⟨u, rv, ?_⟩
    rcases S.par y (List.mem_of_getElem? hp) with k | k
    · exact .inl ⟨k, bindL_get ndP hp hu k⟩
    · obtain ⟨c, e⟩ := cell_has (n := s.heap.objs.size + 1) k
      refine .inr ⟨.inl k, c, e, ?_⟩
      have q := x.cell y c e
      rw [bindC_get ndP hp hu (by show scope.names.lookup y ≠ _; rw [k]; decide)] at q
      exact q
  · exact e0.hok.fresh (Nat.le_of_lt (x.above y c (PySem.mem_of_lookup h)))
  · unfold start
    show _ = N.length
    rw [List.length_append, List.length_map, List.length_replicate]
    omega
theorem fn_of {CX : CXT} {P : Program} {w : World} {K : PySem.W.Frag} {mg : Str → Option Value} {base : Heap} {k : Nat} {f : Addr} {name qual : Str} {params : Arguments} {body : List Stmt} {scope : Scope} {dV kV doc pm cdv ct oc : Value} {an od : Option Addr}
    {osl : Array (Option Value)} {N ps : List Str} {sp : Sp} (lk : K.lookup f = some ⟨oc, od, .func (PySem.W.fnOf name qual params body scope dV kV doc pm an cdv ct), osl⟩) (hcd : PySem.W.codeIn K cdv qual = true) (S : FnScope N ps scope)
    (len : ∀ vs H Q E, sp vs H Q E → vs.length = ps.length)
    (hbody : ∀ (A : Around) (outer : List Env) (s : Shared) (H : Hp) (vs : List V) (Q : VK) (E : XK), Room k (A.deeper (envOfC qual scope s.heap.objs.size f cdv)) → sp vs H Q E →
      ∃ t, PSs (cxOf CX P w K mg base N qual scope f cdv A outer s H E) body t ∧ t { nx := fun _ H' => Q .non H', rt := Q } (start N vs) H) :
    FnOk P w K mg base CX (k + 1) f (PySem.W.fnOf name qual params body scope dV kV doc pm an cdv ct) ps sp := by
  refine ⟨len, fun A outer s H args us vs Q E hr e0 hb r hsp => ?_⟩
  have hl := len _ _ _ _ hsp
  have KX : K.In s.heap := e0.mod.kin.keeps fun b o e => (e0.bs b o e).1
  have lim : s.heap.NoLimit := e0.mod.nolimit.keeps fun b o e => (e0.bs b o e).1
  have hkind : ∀ y ∈ ps.zip us, scope.names.lookup y.1 = some .local ∨ (scope.names.lookup y.1 = some .cell ∧ ((cellsFrom (s.heap.objs.size + 1) scope.names []).lookup y.1).isSome = true) := fun ⟨n, v⟩ hy => by
    rcases S.par n (List.of_mem_zip hy).1 with q | q
    · exact .inl q
    · exact .inr ⟨q, PySem.W.cellsFrom_some _ _ _ (.inl q)⟩
  refine codeAny_call_function hr.depth (KX _ _ lk) rfl S.co S.gen rfl (PySem.W.codeRec_of KX hcd) (hb _ _ _ _ ?_)
  refine wpAny_newFunctionEnv_cells S.kind hkind fun env he s1 x => ?_
  subst he
  refine ⟨lim.keeps x.toInCall.keep, codeAny_func ?_⟩
  obtain ⟨t, ht, hq⟩ := hbody A outer s H vs Q E (hr.deeper _) hsp
  have I : Inv (cxOf CX P w K mg base N qual scope f cdv A outer s H E) [] (start N vs) H s1 := inv_start S hr.hd e0 hl r x
  refine wpAny_mono (ht [] s1 (start N vs) H _ I hq) (fun fl s' hs => ?_) fun e s' hs => hs
  have fin : ∀ {σ' : St} {H' : Hp} {v : V} {u : Value}, Inv (cxOf CX P w K mg base N qual scope f cdv A outer s H E) [] σ' H' s' → RelV v u → Q v H' → CE outer P w H s Q u s' :=
    fun {σ' H' v u} J rv q => ⟨v, H', J.os, J.bare, J.base, J.hok, rv, q⟩
  cases fl with
  | ret u =>
    obtain ⟨v, σ', H', J, rv, q⟩ := hs
    exact fin J rv q
  | next =>
    obtain ⟨σ', H', J, q⟩ := hs
    exact fin (v := V.non) (u := Value.none) J rfl q
  | brk =>
    obtain ⟨_, _, _, q⟩ := hs
    exact False.elim q
  | cont =>
    obtain ⟨_, _, _, q⟩ := hs
    exact False.elim q
end L2
namespace L2
open PySem PySem.Spec PyProof.Rows
section
variable {X : Cx} {x : Str} {p pos : Pos} {e : Expr} {es : List Expr} {t : TA} {id T : String} {r : List V → Hp → VK → Prop}
def tCB (r : List V → Hp → VK → Prop) (t : TA) : TE := fun σ H Q => t σ H fun vs H1 => r vs H1 Q
theorem pe_callB (hc : CallR X (.builtin id) r) (hg : Gl X x) (hm : X.mg x = none) (hv : bootBuiltins x = some (.builtin id)) (ha : PA X (e :: es) t) (hn : x ≠ "__name__" := by decide) (hdb : (x == ("__debug__" : Str)) = false := by decide)
    (he : starEach (e :: es) X.env = (false, eval e X.env) :: starEach es X.env := by rfl) (hpl : (backTo pos (starEach es X.env)).any (·.1) = false := by rfl) : PE X (.Call (.Name x p) (e :: es) [] pos) (tCB r t) := by
  intro pins s σ H Q I h
  refine wpAny_Call_Name_kw (ld_blt I hg hm hv ?_ hn hdb)
  exact PyProof.Rows.callWith_builtin1 (thn (ha pos pins s σ H _ I h) fun us s1 ⟨vs, H1, I1, r1, q1⟩ => hc pins s1 σ H1 vs us Q I1 r1 q1) he hpl
theorem pe_callTy (hc : CallR X (.type T) r) (hg : Gl X x) (hm : X.mg x = none) (hv : bootBuiltins x = some (.type T)) (ha : PA X (e :: es) t) (hn : x ≠ "__name__" := by decide) (hdb : (x == ("__debug__" : Str)) = false := by decide)
    (he : starEach (e :: es) X.env = (false, eval e X.env) :: starEach es X.env := by rfl) (hpl : (backTo pos (starEach es X.env)).any (·.1) = false := by rfl) : PE X (.Call (.Name x p) (e :: es) [] pos) (tCB r t) := by
  intro pins s σ H Q I h
  refine wpAny_Call_Name_kw (ld_blt I hg hm hv ?_ hn hdb)
  exact PyProof.Rows.callWith_type1 (thn (ha pos pins s σ H _ I h) fun us s1 ⟨vs, H1, I1, r1, q1⟩ => hc pins s1 σ H1 vs us Q I1 r1 q1) he hpl
end
end L2
namespace HT
open PySem PyProof.Rows
section
open PySem.SeqAt
open PySem.AutoSeq1 (wpAny_loadPart')
open PySem.MeetsSeq PySem.MeetsSeq2 PySem.MeetsSeq3
end
section
variable {prog : Program} {w : World} {A : Around} {E : Value → Shared → Prop} {s : Shared}
def sIx (n d : Nat) : Option Int → Nat
  | none => d
  | some v => if v < 0 then (v + (n : Int)).toNat else min v.toNat n
theorem sIx_none (n d : Nat) : sIx n d none = d := rfl
theorem sIx_nat (n d k : Nat) : sIx n d (some (k : Int)) = min k n := by
  show (if (k : Int) < 0 then ((k : Int) + (n : Int)).toNat else min (k : Int).toNat n) = min k n
  rw [if_neg (by omega), Int.toNat_natCast]
end
end HT
namespace L2
open PySem PySem.Spec PyProof.Rows
abbrev TO := St → Hp → (Option Int → Hp → Prop) → Prop
def PO (X : Cx) (e : Option Expr) (t : TO) : Prop :=
  ∀ (pins : List (Addr × Obj)) (s : Shared) (σ : St) (H : Hp) (Q : Option Int → Hp → Prop), Inv X pins σ H s → t σ H Q →
    wpAny (model X.prog X.w) X.A (evalPart e X.env) (fun u s' => ∃ o H', Inv X pins σ H' s' ∧ IsPart u o ∧ Q o H') X.xe s
def tNoPart : TO := fun _ H Q => Q none H
def tPart (t : TE) : TO := fun σ H Q => t σ H fun x H1 => ∃ i, x = .int i ∧ Q (some i) H1
section
variable {X : Cx} {e : Expr} {te : TE} {lo hi : Option Expr} {tl th : TO} {pos p2 : Pos}
theorem po_none : PO X none tNoPart := by
  intro pins s σ H Q I h
  rw [evalPart_none]
  exact wpAny_pure ⟨none, H, I, .none, h⟩
theorem po_some (h : PE X e te) : PO X (some e) (tPart te) := by
  intro pins s σ H Q I hw
  rw [evalPart_some]
  refine thn (h pins s σ H _ I hw) fun u s1 ⟨x, H1, I1, r1, q1⟩ => ?_
  obtain ⟨i, rfl, q⟩ := q1
  obtain ⟨t, rfl⟩ := r1
  exact ⟨some i, H1, I1, .int i t, q⟩
def SlR (X : Cx) (r : V → Option Int → Option Int → Hp → VK → Prop) : Prop :=
  ∀ (pins : List (Addr × Obj)) (s : Shared) (σ : St) (H : Hp) (x : V) (v vl vu : Value) (lo hi : Option Int) (sl : Addr) (Q : VK), Inv X pins σ H s → RelV x v → s.heap.IsSliceOf sl vl vu .none → IsPart vl lo → IsPart vu hi → r x lo hi H Q →
    ∃ T id, typeLookup (.type T) "__getitem__" = pure (some (.builtin id)) ∧ s.TypeIs v T ∧ wpAny (model X.prog X.w) X.A (getItem v (.ref sl)) (EP X pins σ Q) X.xe s
def tSl (r : V → Option Int → Option Int → Hp → VK → Prop) (te : TE) (tl th : TO) : TE := fun σ H Q => te σ H fun x H1 => tl σ H1 fun l H2 => th σ H2 fun u H3 => r x l u H3 Q
theorem pe_slice {r : V → Option Int → Option Int → Hp → VK → Prop} (hr : SlR X r) (he : PE X e te) (hl : PO X lo tl) (hu : PO X hi th) : PE X (.Subscript e (.Slice lo hi none p2) pos) (tSl r te tl th) := by
  intro pins s σ H Q I h
  refine Subscript_ (thn (he pins s σ H _ I h) fun v s1 ⟨x, H1, I1, r1, q1⟩ => ?_)
  refine wpAny_Slice (thn (hl pins s1 σ H1 _ I1 q1) fun vl s2 ⟨l, H2, I2, pl, q2⟩ => thn (hu pins s2 σ H2 _ I2 q2) fun vu s3 ⟨u, H3, I3, pu, q3⟩ => ?_)
  rw [evalPart_none]
  refine wpAny_pure ?_
  have I4 : Inv X pins σ H3 { s3 with heap := s3.heap.push { cls := .type "slice", data := .fields #[vl, vu, .none] } } := I3.kept (t' := s3.toks) fun b ob q => Heap.get?_push_of_some _ q
  obtain ⟨T, id, hT, ht, hg⟩ := hr pins { s3 with heap := s3.heap.push { cls := .type "slice", data := .fields #[vl, vu, .none] } } σ H3 x v vl vu l u s3.heap.objs.size Q I4 r1 (Heap.IsSliceOf.new ..) pl pu q3
  show wpAny (model X.prog X.w) X.A (subscriptTail e (.Slice lo hi none p2) v (.ref s3.heap.objs.size)) (EP X pins σ Q) X.xe { s3 with heap := s3.heap.push { cls := .type "slice", data := .fields #[vl, vu, .none] } }
  exact tail_any (ops := [.ref s3.heap.objs.size, v]) ht hT hg (by with_unfolding_all rfl)
def cutV (xs : List V) (lo hi : Option Int) : List V := (xs.drop (HT.sIx xs.length 0 lo)).take (HT.sIx xs.length xs.length hi - HT.sIx xs.length 0 lo)
theorem cutV_length (xs : List V) (lo hi : Option Int) : (cutV xs lo hi).length ≤ xs.length := by
  unfold cutV
  rw [List.length_take, List.length_drop]
  omega
end
end L2
namespace L2
open PySem PySem.Spec PyProof.Rows
def ixN (n : Nat) (i : Int) : Option Nat := if 0 ≤ i then (if i < n then some i.toNat else none) else if -(n : Int) ≤ i then some (i + n).toNat else none
def atI {α : Type} (xs : List α) (i : Int) : Option α := (ixN xs.length i).bind fun j => xs[j]?
theorem ixN_seq {n : Nat} {i : Int} {j : Nat} (h : ixN n i = some j) : seqIndex? i n = some j ∧ j < n ∧ -(n : Int) ≤ i ∧ i < n := by
  unfold ixN at h
  by_cases h0 : 0 ≤ i
  · rw [if_pos h0] at h
    by_cases h1 : i < n
    · rw [if_pos h1] at h
      have e : i.toNat = j := Option.some.inj h
      exact ⟨by rw [seqIndex_of h0 h1, e], by omega, by omega, h1⟩
    · rw [if_neg h1] at h; cases h
  · rw [if_neg h0] at h
    by_cases h1 : -(n : Int) ≤ i
    · rw [if_pos h1] at h
      have e : (i + n).toNat = j := Option.some.inj h
      exact ⟨by rw [seqIndex_neg (by omega) h1, e], by omega, h1, by omega⟩
    · rw [if_neg h1] at h; cases h
theorem atI_get {α : Type} {xs : List α} {i : Int} {v : α} (h : atI xs i = some v) : ∃ j, seqIndex? i xs.length = some j ∧ xs[j]? = some v ∧ j < xs.length ∧ -(xs.length : Int) ≤ i ∧ i < xs.length := by
  unfold atI at h
  cases e : ixN xs.length i with
  | none => rw [e] at h; cases h
  | some j =>
    rw [e] at h
    obtain ⟨h1, h2, h3, h4⟩ := ixN_seq e
    exact ⟨j, h1, h, h2, h3, h4⟩
def PlainIx (b : Expr) : Prop := ∀ o i, subscripted b false o i = operate [o, i] (getItem o i)
def IxR (X : Cx) (r : R2) : Prop :=
  ∀ (value slice : Expr) (pins : List (Addr × Obj)) (s : Shared) (σ : St) (H : Hp) (x y : V) (v u : Value) (Q : VK), Inv X pins σ H s → RelV x v → RelV y u → r x y H Q →
    subscripted slice false v u = operate [v, u] (getItem v u) → wpAny (model X.prog X.w) X.A (subscriptTail value slice v u) (EP X pins σ Q) X.xe s
def MtR (X : Cx) (id : String) (r : V → List V → Hp → VK → Prop) : Prop :=
  ∀ (pins : List (Addr × Obj)) (s : Shared) (σ : St) (H : Hp) (x : V) (xs : List V) (v : Value) (us : List Value) (Q : VK), Inv X pins σ H s → RelV x v → Vals xs us → r x xs H Q →
    wpAny (model X.prog X.w) X.A (call (.builtin id) (v :: us)) (EP X pins σ Q) X.xe s
section
variable {X : Cx} {a b : Expr} {ta tb : TE} {pos : Pos}
theorem pe_ix {r : R2} (hr : IxR X r) (ha : PE X a ta) (hb : PE X b tb) (hs : PlainIx b) : PE X (.Subscript a b pos) (tOp r ta tb) := by
  intro pins s σ H Q I h
  exact Subscript_ (binT ha hb I h fun v u s2 x y H2 I2 rx ry q => hr a b pins s2 σ H2 x y v u Q I2 rx ry q (hs _ _))
def rIxL (K : PySem.W.Frag) : R2 := fun x y H Q => ∃ p xs i v, x = .ref p ∧ y = .int i ∧ SqL K H p xs ∧ atI xs i = some v ∧ Q v H
def rIxT (K : PySem.W.Frag) : R2 := fun x y H Q => ∃ p xs i v, x = .ref p ∧ y = .int i ∧ SqT K H p xs ∧ atI xs i = some v ∧ Q v H
theorem ix_list : IxR X (rIxL X.K) := by
  intro value slice pins s σ H x y v u Q I rx ry h hs
  obtain ⟨p, xs, i, z, rfl, rfl, hq, he, q⟩ := h
  cases rx
  obtain ⟨t, rfl⟩ := ry
  obtain ⟨its, r, pl, hz⟩ := I.list hq
  obtain ⟨j, h1, h2, h3, h4, h5⟩ := atI_get he
  obtain ⟨w, ew, rw'⟩ := r.get h2
  have hl := r.length
  have hn := line63
  have fin : EP X pins σ Q w s := ⟨z, H, I, rw', q⟩
  by_cases h0 : 0 ≤ i
  · have hj : i.toNat = j := by
      rw [seqIndex_of h0 h5] at h1
      exact Option.some.inj h1
    exact item_listR pl.isList h0 (by omega) (by rw [hj]; simpa using ew) fin hs
  · have hj : (i + (its.toArray.size : Int)).toNat = j := by
      rw [seqIndex_neg (by omega) h4] at h1
      rw [List.size_toArray, ← hl]
      exact Option.some.inj h1
    exact subscriptTail_builtinR (x := w) pl.isList.typeIs slot_list_getitem.lookup
      (wpAny_getItem_list_neg (Q := fun r s' => r = w ∧ EP X pins σ Q r s') pl.isList (by omega) (by rw [List.size_toArray] <;> omega) (by omega) (by rw [hj]; simpa using ew) ⟨rfl, fin⟩) hs
theorem ix_tup : IxR X (rIxT X.K) := by
  intro value slice pins s σ H x y v u Q I rx ry h hs
  obtain ⟨p, xs, i, z, rfl, rfl, hq, he, q⟩ := h
  cases rx
  obtain ⟨t, rfl⟩ := ry
  obtain ⟨its, r, pl, hz⟩ := I.tuple hq
  obtain ⟨j, h1, h2, h3, h4, h5⟩ := atI_get he
  obtain ⟨w, ew, rw'⟩ := r.get h2
  have hl := r.length
  have hn := line63
  have fin : EP X pins σ Q w s := ⟨z, H, I, rw', q⟩
  exact subscriptTail_builtinR (x := w) pl.typeIs slot_tuple_getitem.lookup
    (getItem_tuple (j := j) (Q := fun r s' => r = w ∧ EP X pins σ Q r s') pl (by omega) (by omega) (by rw [List.size_toArray, ← hl]; exact h1) (by simpa using ew) ⟨rfl, fin⟩) hs
theorem mapSeq_set (its : List Value) (n j : Nat) (u : Value) : Obj.mapSeq (·.setIfInBounds j u) { cls := .type "list", data := .seq its.toArray n } = { cls := .type "list", data := .seq (its.set j u).toArray n } := by
  simp [Obj.mapSeq]
theorem Inv.lst {pins : List (Addr × Obj)} {σ : St} {H : Hp} {s : Shared} {p : Addr} {xs : List V} (I : Inv X pins σ H s) (h : H p = some (.lst xs)) :
    ∃ (its : List Value) (n : Nat), Vals xs its ∧ s.heap.get? p = some { cls := .type "list", data := .seq its.toArray n } ∧ xs.length ≤ sizeLine := by
  obtain ⟨z, its, n, r, e⟩ := I.hok p _ h
  exact ⟨its, n, r, e, z⟩
theorem Inv.lstUpd {pins : List (Addr × Obj)} {σ : St} {H : Hp} {s : Shared} {p : Addr} {xs ys : List V} {its its' : List Value} {n n' : Nat} {f : Obj → Obj} (I : Inv X pins σ H s) (h : H p = some (.lst xs))
    (ho : s.heap.get? p = some { cls := .type "list", data := .seq its.toArray n }) (hf : f { cls := .type "list", data := .seq its.toArray n } = { cls := .type "list", data := .seq its'.toArray n' }) (r : Vals ys its') (hz : ys.length ≤ sizeLine) (t : Nat) :
    Inv X pins σ (upd H p (.lst ys)) { s with heap := s.heap.update p f, toks := t } := by
  have e : (s.heap.update p f).get? p = some { cls := .type "list", data := .seq its'.toArray n' } := by
    rw [Heap.get?_update_self f ho (by rw [hf] <;> rfl), hf]
  refine I.write (x := p) (e := p) (by rw [h]; trivial) (.inl rfl) (fun b u hb q => (Heap.get?_update_other _ _ (Ne.symm hb)).trans q) ⟨_, e⟩ ?_
  exact ⟨hz, its', n', r, e⟩
def rSetL : V → V → V → Hp → (Hp → Prop) → Prop := fun o i v H Q => ∃ p xs k j, o = .ref p ∧ i = .int k ∧ H p = some (.lst xs) ∧ ixN xs.length k = some j ∧ Q (upd H p (.lst (xs.set j v)))
theorem set_list : PSet X rSetL := by
  intro pins s σ H o i v ov iv u Q I ro ri rv h
  obtain ⟨p, xs, k, j, rfl, rfl, hp, hj, q⟩ := h
  cases ro
  obtain ⟨t, rfl⟩ := ri
  obtain ⟨its, n, r, ho, hz⟩ := I.lst hp
  obtain ⟨h1, h2, h3, h4⟩ := ixN_seq hj
  have hl := r.length
  have hn := line63
  have I' : Inv X pins σ (upd H p (.lst (xs.set j v))) { s with heap := s.heap.update p (Obj.mapSeq (·.setIfInBounds j u)) } :=
    I.lstUpd hp ho (mapSeq_set its n j u) (r.set rv j) (by rw [List.length_set]; exact hz) s.toks
  by_cases h0 : 0 ≤ k
  · have hk : k.toNat = j := by
      rw [seqIndex_of h0 h4] at h1
      exact Option.some.inj h1
    exact PySem.W.ki_setAt ho h0 (by omega) (by rw [List.size_toArray, ← hl]; exact h4) (by rw [hk]; exact ⟨_, I', q⟩)
  · have hk : (k + (its.toArray.size : Int)).toNat = j := by
      rw [seqIndex_neg (by omega) h3] at h1
      rw [List.size_toArray, ← hl]
      exact Option.some.inj h1
    exact PySem.W.ki_setBack ho (by omega) (by rw [List.size_toArray, ← hl]; exact h3) (by omega) (by rw [hk]; exact ⟨_, I', q⟩)
theorem slice_bounds (lo hi : Option Int) (n : Nat) : (sliceBounds lo hi none n).1 = ((HT.sIx n 0 lo : Nat) : Int) ∧ (sliceBounds lo hi none n).2.1 = ((HT.sIx n n hi : Nat) : Int) ∧ (sliceBounds lo hi none n).2.2 = 1 := by
  refine ⟨?_, ?_, rfl⟩
  · cases lo with
    | none => simp [sliceBounds, HT.sIx]
    | some i =>
      simp only [sliceBounds, HT.sIx, Option.getD_none, show (1 : Int) > 0 by decide, if_true]
      by_cases h : i < 0
      · simp only [h, if_true] <;> omega
      · simp only [h, if_false] <;> omega
  · cases hi with
    | none => simp [sliceBounds, HT.sIx]
    | some i =>
      simp only [sliceBounds, HT.sIx, Option.getD_none, show (1 : Int) > 0 by decide, if_true]
      by_cases h : i < 0
      · simp only [h, if_true] <;> omega
      · simp only [h, if_false] <;> omega
theorem slicePick_cut (its : List Value) (lo hi : Option Int) : slicePick its.toArray lo hi none = ((its.drop (HT.sIx its.length 0 lo)).take (HT.sIx its.length its.length hi - HT.sIx its.length 0 lo)).toArray := by
  obtain ⟨h1, h2, h3⟩ := slice_bounds lo hi its.toArray.size
  unfold slicePick
  rw [h1, h2, h3]
  simp only [sliceRange_one, pick_run, List.size_toArray] <;> rfl
def rSlL (K : PySem.W.Frag) : V → Option Int → Option Int → Hp → VK → Prop := fun x lo hi H Q => ∃ a xs, x = .ref a ∧ SqL K H a xs ∧ ∀ p, H p = none → Q (.ref p) (upd H p (.lst (cutV xs lo hi)))
theorem sl_list : SlR X (rSlL X.K) := by
  intro pins s σ H x v vl vu lo hi sl Q I rx hs pl pu h
  obtain ⟨a, xs, rfl, hx, q⟩ := h
  cases rx
  obtain ⟨its, r, ht, hz⟩ := I.list hx
  have hlen := r.length
  refine ⟨"list", _, slot_list_getitem.lookup, ht.isList.typeIs, ?_⟩
  refine wpAny_getItem_list_slice ht.isList hs pl pu .none (by simp) ?_ (by rw [List.size_toArray] <;> omega)
  rw [slicePick_cut, ← hlen]
  refine ⟨.ref s.heap.objs.size, _, I.laid (t' := s.toks) (o := .lst (cutV xs lo hi)) (fun b ob q => Heap.get?_push_of_some _ q) (Nat.le_refl _) ?_, rfl, q _ (I.hok.fresh (Nat.le_refl _))⟩
  exact ⟨Nat.le_trans (cutV_length xs lo hi) hz, _, 0, (r.drop (HT.sIx xs.length 0 lo)).take (HT.sIx xs.length xs.length hi - HT.sIx xs.length 0 lo), Heap.get?_push_size _ rfl⟩
def flatV : V → Bool
  | .non => true
  | .bl _ => true
  | .int _ => true
  | .str _ => true
  | _ => false
def eqV : V → V → Bool
  | .non, .non => true
  | .bl a, .bl b => a == b
  | .bl a, .int b => (if a then 1 else 0) == b
  | .int a, .bl b => a == (if b then 1 else 0)
  | .int a, .int b => a == b
  | .str a, .str b => a == b
  | _, _ => false
theorem eqAt_V {A : Around} {s : Shared} {y x : V} {u v : Value} (ry : RelV y u) (rx : RelV x v) (fy : flatV y = true) (fx : flatV x = true) : SeqAt.EqAt A s u v (eqV y x) := by
  cases y with
  | non =>
    cases ry
    cases x with
    | non => cases rx; exact SeqAt.EqAt.same _
    | bl b => cases rx; exact SeqAt.EqAt.none_bool b
    | int b => obtain ⟨t, rfl⟩ := rx; exact SeqAt.EqAt.none_int b t
    | str b => obtain ⟨t, rfl⟩ := rx; exact SeqAt.EqAt.none_str b t
    | _ => exact absurd (show false = true from fx) Bool.false_ne_true
  | bl a =>
    cases ry
    cases x with
    | non => cases rx; exact SeqAt.EqAt.bool_none a
    | bl b => cases rx; exact SeqAt.EqAt.bool_bool a b
    | int b => obtain ⟨t, rfl⟩ := rx; exact SeqAt.EqAt.bool_int a b t
    | str b => obtain ⟨t, rfl⟩ := rx; exact SeqAt.EqAt.bool_str a b t
    | _ => exact absurd (show false = true from fx) Bool.false_ne_true
  | int a =>
    obtain ⟨t', rfl⟩ := ry
    cases x with
    | non => cases rx; exact SeqAt.EqAt.int_none a t'
    | bl b => cases rx; exact SeqAt.EqAt.int_bool a t' b
    | int b => obtain ⟨t, rfl⟩ := rx; exact SeqAt.EqAt.int_int a t' b t
    | str b => obtain ⟨t, rfl⟩ := rx; exact SeqAt.EqAt.int_str a t' b t
    | _ => exact absurd (show false = true from fx) Bool.false_ne_true
  | str a =>
    obtain ⟨t', rfl⟩ := ry
    cases x with
    | non => cases rx; exact SeqAt.EqAt.str_none a t'
    | bl b => cases rx; exact SeqAt.EqAt.str_bool a t' b
    | int b => obtain ⟨t, rfl⟩ := rx; exact SeqAt.EqAt.str_int a t' b t
    | str b => obtain ⟨t, rfl⟩ := rx; exact SeqAt.EqAt.str_str a t' b t
    | _ => exact absurd (show false = true from fx) Bool.false_ne_true
  | _ => exact absurd (show false = true from fy) Bool.false_ne_true
def eqU (x : V) (u : Value) : Bool := match u with
  | .none => eqV .non x
  | .bool b => eqV (.bl b) x
  | .int i _ => eqV (.int i) x
  | .str z _ => eqV (.str z) x
  | _ => false
theorem eqU_of {x y : V} {u : Value} (r : RelV y u) (f : flatV y = true) : eqU x u = eqV y x := by
  cases y with
  | non => cases r; rfl
  | bl b => cases r; rfl
  | int i => obtain ⟨t, rfl⟩ := r; rfl
  | str z => obtain ⟨t, rfl⟩ := r; rfl
  | _ => exact absurd (show false = true from f) Bool.false_ne_true
theorem any_eqU {x : V} : ∀ {xs : List V} {us : List Value}, Vals xs us → xs.all flatV = true → us.any (eqU x) = xs.any fun y => eqV y x
  | _, _, .nil, _ => rfl
  | y :: xs, u :: us, .cons r t, f => by
    rw [List.all_cons, Bool.and_eq_true] at f
    rw [List.any_cons, List.any_cons, eqU_of r f.1, any_eqU t f.2]
theorem mem_eqAt {A : Around} {s : Shared} {x : V} {v : Value} (rx : RelV x v) (fx : flatV x = true) : ∀ {xs : List V} {us : List Value}, Vals xs us → xs.all flatV = true → ∀ u ∈ us, SeqAt.EqAt A s u v (eqU x u)
  | _, _, .nil, _ => fun u hu => by cases hu
  | y :: xs, u :: us, .cons r t, f => fun u' hu => by
    rw [List.all_cons, Bool.and_eq_true] at f
    rcases List.mem_cons.mp hu with rfl | hu
    · rw [eqU_of r f.1]; exact eqAt_V r rx f.1 fx
    · exact mem_eqAt rx fx t f.2 u' hu
def inV (x : V) (xs : List V) : Bool := xs.any fun y => eqV y x
def rIn (K : PySem.W.Frag) (neg : Bool) : R2 := fun x y H Q => ∃ p xs, y = .ref p ∧ (SqL K H p xs ∨ SqT K H p xs) ∧ flatV x = true ∧ xs.all flatV = true ∧ Q (.bl (if neg then !inV x xs else inV x xs)) H
theorem op_in_seq : OpR X (compareOp .In) (rIn X.K false) := by
  intro pins s σ H x y v u Q I rx ry h
  obtain ⟨p, xs, rfl, hq, fx, fs, q⟩ := h
  cases ry
  rcases hq with hq | hq
  · obtain ⟨its, r, pl, hz⟩ := I.list hq
    refine SeqAt.in_listAt (eqU x) pl.isList (fun w hw => mem_eqAt rx fx r fs w (by simpa using hw)) ⟨.bl _, H, I, rfl, ?_⟩
    rw [show its.toArray.any (eqU x) = its.any (eqU x) by simp, any_eqU r fs]
    exact q
  · obtain ⟨its, r, pl, hz⟩ := I.tuple hq
    refine SeqAt.in_tupleAt (eqU x) pl (fun w hw => mem_eqAt rx fx r fs w (by simpa using hw)) ⟨.bl _, H, I, rfl, ?_⟩
    rw [show its.toArray.any (eqU x) = its.any (eqU x) by simp, any_eqU r fs]
    exact q
theorem call_len_seq : CallR X (.builtin "len") (fun xs H Q => ∃ p ys, xs = [.ref p] ∧ (SqL X.K H p ys ∨ SqT X.K H p ys) ∧ Q (.int ys.length) H) := by
  intro pins s σ H xs us Q I r h
  obtain ⟨p, ys, rfl, hq, q⟩ := h
  obtain ⟨u, rfl, rx⟩ := vals1 r
  cases rx
  have hn := line63
  rcases hq with hq | hq
  · obtain ⟨its, r', pl, hz⟩ := I.list hq
    have hlen := r'.length
    exact Calls.call_len_list pl.isList (by simp only [List.size_toArray] <;> omega) ⟨.int ys.length, H, I.tok _, ⟨s.toks + 1, by rw [List.size_toArray, hlen]⟩, q⟩
  · obtain ⟨its, r', pl, hz⟩ := I.tuple hq
    have hlen := r'.length
    exact len_tuple pl (by simp only [List.size_toArray] <;> omega) ⟨.int ys.length, H, I.tok _, ⟨s.toks + 1, by rw [List.size_toArray, hlen]⟩, q⟩
theorem call_list_of : CallR X (.type "list") (fun xs H Q => ∃ p ys, xs = [.ref p] ∧ (SqL X.K H p ys ∨ SqT X.K H p ys) ∧ ∀ l, H l = none → Q (.ref l) (upd H l (.lst ys))) := by
  intro pins s σ H xs us Q I r h
  obtain ⟨p, ys, rfl, hq, q⟩ := h
  obtain ⟨u, rfl, rx⟩ := vals1 r
  cases rx
  have fin : ∀ (its : List Value), Vals ys its → ys.length ≤ sizeLine → ∀ (h' : Heap) (c' : Nat), (∀ b o', s.heap.get? b = some o' → h'.get? b = some o') →
      h'.get? s.heap.objs.size = some { cls := .type "list", dict := none, data := .seq its.toArray c', slots := #[] } → EP X pins σ Q (.ref s.heap.objs.size) { s with heap := h' } := fun its r' hz h' c' kp e =>
    ⟨.ref s.heap.objs.size, _, I.laid (t' := s.toks) kp (Nat.le_refl _) (show ObjOk X.prog X.w _ h' _ (.lst ys) from ⟨hz, its, c', r', e⟩), rfl, q _ (I.hok.fresh (Nat.le_refl _))⟩
  rcases hq with hq | hq
  · obtain ⟨its, r', pl, hz⟩ := I.list hq
    have hlen := r'.length
    obtain ⟨o, ho, hc, n, hd⟩ := pl.isList
    exact call_list_seq p (.inl rfl) ho hc hd (fun h' c' kp e => fin its r' hz h' c' kp e) (by simp only [List.size_toArray] <;> omega)
  · obtain ⟨its, r', pl, hz⟩ := I.tuple hq
    have hlen := r'.length
    obtain ⟨o, ho, hc, n, hd⟩ := pl
    exact call_list_seq p (.inr rfl) ho hc hd (fun h' c' kp e => fin its r' hz h' c' kp e) (by simp only [List.size_toArray] <;> omega)
theorem call_tuple_of : CallR X (.type "tuple") (fun xs H Q => ∃ p ys, xs = [.ref p] ∧ ((SqL X.K H p ys ∧ ∀ l, H l = none → Q (.ref l) (upd H l (.tup ys))) ∨ (SqT X.K H p ys ∧ Q (.ref p) H))) := by
  intro pins s σ H xs us Q I r h
  obtain ⟨p, ys, rfl, h⟩ := h
  obtain ⟨u, rfl, rx⟩ := vals1 r
  cases rx
  rcases h with ⟨hq, q⟩ | ⟨hq, q⟩
  · obtain ⟨its, r', pl, hz⟩ := I.list hq
    have hlen := r'.length
    refine call_tuple_list pl.isList (fun h' kp => ?_) (by simp only [List.size_toArray] <;> omega)
    have I1 : Inv X pins σ H { s with heap := h' } := I.kept (t' := s.toks) kp
    have I2 : Inv X pins σ (upd H h'.objs.size (.tup ys)) { s with heap := h'.push { cls := .type "tuple", data := .seq its.toArray } } :=
      I1.laid (t' := s.toks) (fun b o e => Heap.get?_push_of_some _ e) (Nat.le_refl _) (show ObjOk X.prog X.w _ _ _ (.tup ys) from ⟨hz, its, r', TupO.new _ _⟩)
    exact ⟨.ref h'.objs.size, _, I2, rfl, q _ (I1.hok.fresh (Nat.le_refl _))⟩
  · obtain ⟨its, r', pl, hz⟩ := I.tuple hq
    exact call_tuple_same pl ⟨.ref p, H, I, rfl, q⟩
def tyV (K : PySem.W.Frag) (T : String) (x : V) (H : Hp) : Prop := match x with
  | .str _ => T = "str"
  | .int _ => T = "int"
  | .ref p => (T = "list" ∧ ∃ xs, SqL K H p xs) ∨ (T = "tuple" ∧ ∃ xs, SqT K H p xs) ∨
      (T = "dict" ∧ ((∃ kvs, H p = some (.dK kvs)) ∨ ∃ kvs, H p = some (.dT kvs))) ∨ (T = "set" ∧ ∃ S n, H p = some (.set S n))
  | _ => False
theorem tyV_is {pins : List (Addr × Obj)} {σ : St} {H : Hp} {s : Shared} {T : String} {x : V} {v : Value} (I : Inv X pins σ H s) (r : RelV x v) (ty : tyV X.K T x H) :
    s.TypeIs v T ∧ ∀ a, v = .ref a → ∃ ob, s.heap.get? a = some ob ∧ ob.dict = none := by
  cases x with
  | str z =>
    obtain ⟨t, rfl⟩ := r
    cases (show T = "str" from ty)
    exact ⟨typeIs_str s z t, fun _ e => nomatch e⟩
  | int i =>
    obtain ⟨t, rfl⟩ := r
    cases (show T = "int" from ty)
    exact ⟨typeIs_int s i t, fun _ e => nomatch e⟩
  | ref p =>
    cases r
    rcases ty with ⟨rfl, xs, hq⟩ | ⟨rfl, xs, hq⟩ | ⟨rfl, hk⟩ | ⟨rfl, S, n, hk⟩
    · obtain ⟨its, _, pl, _⟩ := I.list hq
      refine ⟨pl.isList.typeIs, fun a e => ?_⟩
      cases e
      obtain ⟨o, n, e, c, hd, _⟩ := pl
      exact ⟨o, e, hd⟩
    · obtain ⟨its, _, ⟨o, e0, hc, hd, _⟩, _⟩ := I.tupleO hq
      refine ⟨⟨o, e0, hc⟩, fun a e => ?_⟩
      cases e
      exact ⟨o, e0, hd⟩
    · have z : ∃ o, s.heap.get? p = some o ∧ o.ExactDict := by
        rcases hk with ⟨kvs, hk⟩ | ⟨kvs, hk⟩
        · obtain ⟨_, _, _, _, o, _, _, e, ex, _⟩ := I.hok p _ hk
          exact ⟨o, e, ex⟩
        · obtain ⟨_, _, _, _, o, _, _, e, ex, _⟩ := I.hok p _ hk
          exact ⟨o, e, ex⟩
      obtain ⟨o, e, ex⟩ := z
      refine ⟨⟨o, e, ex.1⟩, fun a e2 => ?_⟩
      cases e2
      exact ⟨o, e, ex.2.1⟩
    · obtain ⟨o, _, _, _, e, ex, _⟩ := I.hok p _ hk
      refine ⟨⟨o, e, ex.1⟩, fun a e2 => ?_⟩
      cases e2
      exact ⟨o, e, ex.2.1⟩
  | _ => exact False.elim ty
def tBM (K : PySem.W.Frag) (T : String) (r : V → List V → Hp → VK → Prop) (to : TE) (t : TA) : TE := fun σ H Q => to σ H fun x H1 => tyV K T x H1 ∧ t σ H1 fun xs H2 => r x xs H2 Q
variable {o e : Expr} {es : List Expr} {to : TE} {t : TA} {name : Str} {apos cpos : Pos} {T id : String} {r : V → List V → Hp → VK → Prop}
theorem pe_bm (pa : PlainAttrs T) (slot : Slot T name id) (hty : typeOf (.builtin id) = pure (.type "method_descriptor")) (hm : MtR X id r) (ho : PE X o to) (ha : PA X (e :: es) t)
    (hbase : attributeBase o name X.env (eval o X.env) = eval o X.env := by rfl)
    (hfew : ((backTo cpos (starEach (e :: es) X.env)).all (fun x => !x.1) && (backToKw cpos (keywordEach [] X.env)).all (fun x => x.1.isSome)
      && decide ((e :: es).length + ([] : List Keyword).length + (if ([] : List Keyword).isEmpty then 0 else 1) < 30)) = true := by rfl)
    (hline : (apos.endLine == cpos.line) = true := by rfl) (hs : starEach (e :: es) X.env = (false, eval e X.env) :: starEach es X.env := by rfl) (hplain : (backTo cpos (starEach es X.env)).any (·.1) = false := by rfl) :
    PE X (.Call (.Attribute o name apos) (e :: es) [] cpos) (tBM X.K T r to t) := by
  intro pins s σ H Q I h
  refine wpAny_Call_method_late hbase hfew hline rfl (thn (ho pins s σ H _ I h) fun v s1 ⟨x, H1, I1, r1, ty, q1⟩ => ?_)
  obtain ⟨h1, h2⟩ := tyV_is I1 r1 ty
  refine ⟨T, id, pa, slot, hty, h1, h2, ?_⟩
  have hA := ha cpos pins s1 σ H1 _ I1 q1
  rw [hs] at hA ⊢
  refine Calls.callWith_builtin (by show (false || (backTo cpos (starEach es X.env)).any (·.1)) = false; rw [hplain] <;> rfl) (Calls.evalArgs_plain ?_)
  exact thn hA fun us s2 ⟨vs, H2, I2, r2, q2⟩ => hm pins s2 σ H2 x vs v us Q I2 r1 r2 q2
end
end L2
namespace L2
open PySem PySem.Spec PyProof.Rows
def MtM (X : Cx) (id : String) (r : V → List V → Hp → VK → Prop) : Prop :=
  ∀ (pins : List (Addr × Obj)) (s : Shared) (σ : St) (H : Hp) (x : V) (xs : List V) (v : Value) (us : List Value) (Q : VK), Inv X pins σ H s → RelV x v → Vals xs us → r x xs H Q →
    wpAny (model X.prog X.w) X.A (call (.builtin id) (v :: us)) (EP X pins σ Q) X.xe s
theorem Vals.one : ∀ {x : V} {us : List Value}, Vals [x] us → ∃ u, us = [u] ∧ RelV x u
  | _, _, .cons r .nil => ⟨_, rfl, r⟩
theorem Vals.two : ∀ {x y : V} {us : List Value}, Vals [x, y] us → ∃ u v, us = [u, v] ∧ RelV x u ∧ RelV y v
  | _, _, _, .cons r (.cons q .nil) => ⟨_, _, rfl, r, q⟩
section
variable {X : Cx} {pins : List (Addr × Obj)} {σ : St} {H : Hp} {s : Shared} {l b : Addr} {xs ys zs : List V}
theorem Inv.lset {its its' : List Value} {n : Nat} {f : Array Value → Array Value} {t' : Nat} (I : Inv X pins σ H s) (hH : H l = some (.lst xs))
    (e : s.heap.get? l = some { cls := .type "list", data := .seq its.toArray n }) (hf : f its.toArray = its'.toArray) (hv : Vals ys its') (hz : ys.length ≤ sizeLine) :
    Inv X pins σ (upd H l (.lst ys)) { s with heap := s.heap.update l (Obj.mapSeq f), toks := t' } := by
  have q := PySem.IsL.update e f
  rw [hf] at q
  refine I.write (x := l) (e := l) (by rw [hH]; exact trivial) (.inl rfl) (fun b' u hb hu => (Heap.get?_update_other s.heap (Obj.mapSeq f) (Ne.symm hb)).trans hu) ⟨_, q⟩ ?_
  exact ⟨hz, its', _, hv, q⟩
theorem Inv.lnew {its : List Value} {t' : Nat} (I : Inv X pins σ H s) (hv : Vals ys its) (hz : ys.length ≤ sizeLine) :
    Inv X pins σ (upd H s.heap.objs.size (.lst ys)) { s with heap := s.heap.push { cls := .type "list", data := .seq its.toArray }, toks := t' } :=
  I.laid (fun _ _ q => Heap.get?_push_of_some _ q) (Nat.le_refl _) ⟨hz, its, 0, hv, Heap.get?_push_size _ rfl⟩
theorem Inv.fresh (I : Inv X pins σ H s) : H s.heap.objs.size = none := I.hok.fresh (Nat.le_refl _)
theorem Inv.lstM (I : Inv X pins σ H s) (hH : H l = some (.lst xs)) : xs.length ≤ sizeLine ∧ ∃ (its : List Value) (n : Nat), Vals xs its ∧ xs.length = its.length ∧ s.heap.get? l = some { cls := .type "list", data := .seq its.toArray n } := by
  obtain ⟨z, its, n, r, e⟩ := I.hok l _ hH
  exact ⟨z, its, n, r, r.length, e⟩
end
section
variable {X : Cx}
def rAppend : V → List V → Hp → VK → Prop := fun x vs H Q => ∃ l xs y, x = .ref l ∧ vs = [y] ∧ H l = some (.lst xs) ∧ xs.length < sizeLine ∧ Q .non (upd H l (.lst (xs ++ [y])))
theorem mt_append : MtM X "list.append" rAppend := by
  intro pins s σ H x vs v us Q I rx rv h
  obtain ⟨l, xs, y, rfl, rfl, hH, hz, q⟩ := h
  cases rx
  obtain ⟨u, rfl, ru⟩ := rv.one
  obtain ⟨z, its, n, r, hl, e⟩ := I.lstM hH
  refine call_meets F.slot_list_append ⟨_, e, rfl⟩ F.entry_list_append (F.args_list_append_2 _ _) (PySem.list_append l its.toArray n u (by rw [List.size_toArray]; omega)) ⟨e, ?_⟩
  refine ⟨.non, _, I.lset (its' := its ++ [u]) hH e (by simp) (r.append (.cons ru .nil)) ?_, rfl, q⟩
  rw [List.length_append, List.length_singleton]
  omega
def rCat : R2 := fun x y H Q => ∃ l b xs zs, x = .ref l ∧ y = .ref b ∧ H l = some (.lst xs) ∧ H b = some (.lst zs) ∧ xs.length + zs.length ≤ sizeLine ∧ ∀ p, H p = none → Q (.ref p) (upd H p (.lst (xs ++ zs)))
theorem op_cat : OpR X (binaryOp .Add) rCat := by
  intro pins s σ H x y v u Q I rx ry h
  obtain ⟨l, b, xs, zs, rfl, rfl, hH, hB, hz, q⟩ := h
  cases rx
  cases ry
  obtain ⟨z, its, n, r, hl, e⟩ := I.lstM hH
  obtain ⟨z2, its2, n2, r2, hl2, e2⟩ := I.lstM hB
  refine PySem.P.add_list e e2 ?_ (by rw [List.size_toArray, List.size_toArray]; omega)
  have ea : its.toArray ++ its2.toArray = (its ++ its2).toArray := by simp
  rw [ea]
  exact ⟨.ref _, _, I.lnew (t' := s.toks) (r.append r2) (by rw [List.length_append]; omega), rfl, q _ I.fresh⟩
end
section
variable {prog : Program} {w : World} {A : Around} {E : Value → Shared → Prop} {s : Shared}
set_option maxRecDepth 100000 in
end
section
variable {X : Cx}
end
end L2
namespace Att
open PySem PySem.W PySem.Calls PyProof.Rows
theorem ints_of_wellAll {P : Params} {h : Heap} : ∀ (ns : List Int) (vs : List Value), WellAll P h vs (ns.map WData.int) → IntsAre vs ns := by
  intro ns
  induction ns with
  | nil =>
    intro vs w
    rw [List.map_nil] at w
    cases w
    exact .nil
  | cons n ns ih =>
    intro vs w
    rw [List.map_cons] at w
    cases w with
    | cons a b =>
      cases a
      exact .cons _ _ (ih _ b)
theorem script_of {l : OpenLaw} {n : Nat} (hn : l.most = some n) {P : Params} {h : Heap} {args : List WData} {vals : List Value}
    (hpre : l.row.toRowW.claim.pre args = true) (hwl : WellAll P h vals args) :
    ∃ a vs ns, vals = [Value.ref a] ∧ args = [WData.list (ns.map WData.int)] ∧ h.get? a = some { cls := .type "list", data := .seq vs.toArray } ∧ IntsAre vs ns ∧ ns.length ≤ n := by
  have hsh : WShape.hasAll [] args [.list .int] = true := (pre_splitW hpre).1
  have hc : l.pre.holds [] { args := args } = true := (pre_splitW hpre).2
  obtain ⟨d, r, rfl, h1, h2⟩ := hasAllW_cons hsh
  obtain rfl := hasAllW_nil h2
  obtain ⟨xs, rfl, h3⟩ := hasW_list h1
  obtain ⟨ns, rfl⟩ := items_int h3
  have hlen : ns.length ≤ n := by
    unfold OpenLaw.pre at hc
    have h4 : (WTm.not (.lt (.lit (.int (n : Int))) (.len (.arg 0)))).holds [] { args := [.list (ns.map .int)] } = true := by
      have h4 := (holds_andW hc).1
      rw [hn] at h4
      exact h4
    have h5 := condW_of h4 (w_not (w_lt w_lit (w_len_list (w_arg rfl))))
    rw [List.length_map] at h5
    refine Nat.le_of_not_lt fun q => ?_
    have q' : (n : Int) < ((ns.length : Nat) : Int) := by omega
    first
      | (rw [decide_eq_true q'] at h5; exact absurd h5 (by decide))
      | (simp at h5; omega)
  cases hwl with
  | cons w1 w2 =>
    cases w2
    cases w1 with
    | list ho hall => exact ⟨_, _, ns, rfl, rfl, ho, ints_of_wellAll ns _ hall, hlen⟩
theorem post_true (l : OpenLaw) (args : List WData) : l.row.toRowW.claim.post args (.bool true) args = true :=
  postW_of (r := l.row.toRowW) (X := (true == true))
    (show WShape.has [] (.bool true) .bool = true by first | rfl | decide | simp [WShape.has, WShape.arms, WShape.armsAll])
    (show (WTm.eq .res (.lit (.bool true))).value [] { args := args, res := some (.bool true), after := args } = some (.bool (true == true)) from w_eq_bool (w_res rfl) w_lit) rfl
theorem attach_call {l : OpenLaw} {n : Nat} {q : Program} {loose : List Str} {XP : (Str → Option Value) → Heap → Prop} {YP : World → Heap → Prop} {d : DefRec}
    (hn : l.most = some n) (hdf : d.params.defaults = [])
    (call : ∀ (w : World) (s₀ s₁ : Shared) (mg mb : Str → Option Value) (fa : Addr) (o : Obj) (pm cd doc : Value) (a : Addr) (vs : List Value) (ns : List Int),
      Ground q loose [] XP w s₀ mg mb s₁.heap → YP w s₁.heap →
      s₁.heap.get? fa = some o → o.data = .func (docDef d.name d.params d.body d.scope pm cd doc) → s₁.heap.CodeRec cd d.name → mg d.name = some (.ref fa) →
      s₁.heap.get? a = some { cls := .type "list", data := .seq vs.toArray } → IntsAre vs ns → ns.length ≤ n → s₁.gens = #[] →
      codeAny (model l.prog w) callerA (.call (.ref fa) ⟨[.ref a], []⟩) (fun r s' => r = .ok (.ret (.bool true)) ∧ OldK s₁.heap s'.heap ∧ s'.os = s₁.os ∧ AllBare s'.gens) s₁) :
    WalkO q loose XP YP l.row.toRowW d [] (fun f vs => PySem.call f vs) := by
  intro w s₀ s₁ mg mb G Y fa o pm cd doc dV kV ho hd hcd hD hmg hg args vals as hpre hlay hrd hwl hlo
  obtain rfl : dV = .none := Dflts.none hD hdf
  obtain rfl : kV = .none := Dflts.noKw hD
  obtain ⟨a, vs, ns, rfl, rfl, hobj, hints, hlen⟩ := script_of hn hpre hwl
  refine enter_call (codeAny_mono (call w s₀ s₁ mg mb fa o pm cd doc a vs ns G Y ho (fd_plain hd) hcd hmg hobj hints hlen hg) fun r s' hq => ?_)
  obtain ⟨rfl, h2, h3, h4⟩ := hq
  exact ⟨.inl ⟨.bool true, .bool true, [], rfl, fun _ => rfl, .bool true, post_true l _, fun _ => ⟨List.Pairwise.nil, fun _ hm => (nomatch hm)⟩⟩, h2, h3, h4⟩
section
variable {prog : Program} {w : World} {A : Around} {E : Value → Shared → Prop} {s : Shared} {K : Frag}
end
end Att
namespace L2
open PySem PySem.Spec PyProof.Rows
theorem vals_ints : ∀ {vs : List Value} {ns : List Int}, IntsAre vs ns → Vals (ns.map V.int) vs
  | _, _, .nil => .nil
  | _, _, .cons n t h => .cons ⟨t, rfl⟩ (vals_ints h)
def Only (H : Hp) : Prop := ∀ b, H b = none ∨ ∃ o xs, H b = some (.frz o (.lst xs))
theorem law_call {P : Program} {w : World} {K : PySem.W.Frag} {mg mb : Str → Option Value} {CX : CXT} {k : Nat} {fa a : Addr} {fd : FuncData} {x : Str} {sp : Sp} {s₁ : Shared} {vs : List Value} {ns : List Int}
    (KX : K.In s₁.heap) (hns : s₁.heap.Ns mainGlobals mg) (hb : s₁.heap.Ns builtinsNs mb) (hbb : ∀ x : Str, x ≠ "__name__" → mb x = bootBuiltins x) (hlim : s₁.heap.NoLimit) (hg : s₁.gens = #[])
    (ha : s₁.heap.get? a = some { cls := .type "list", data := .seq vs.toArray }) (hi : IntsAre vs ns) (hl : ns.length ≤ sizeLine) (hr : Room k callerA)
    (F : ∀ base : Heap, K.In base → base.Ns mainGlobals mg → FnOk P w K mg base CX k fa fd [x] sp) (hbind : ∀ (s : Shared) (u : Value), BindsTo s fd ⟨[u], []⟩ [(x, u)])
    (hsp : ∀ H : Hp, Only H → SqL K H a (ns.map V.int) → sp [.ref a] H (fun v _ => v = .bl true) fun _ _ _ => False)
    (hCX : ∀ H e s', CX [] H s₁ (fun _ _ _ => False) e s' → False) :
    codeAny (model P w) callerA (.call (.ref fa) ⟨[.ref a], []⟩) (fun r s' => r = .ok (.ret (.bool true)) ∧ OldK s₁.heap s'.heap ∧ s'.os = s₁.os ∧ AllBare s'.gens) s₁ := by
  have rv := vals_ints hi
  have lenV := hi.length
  have core : ∀ H : Hp, Only H → SqL K H a (ns.map V.int) → HOk P w H s₁.heap → (∀ b, H b ≠ none → b = a) → (H a ≠ none → K.lookup a = none) →
      codeAny (model P w) callerA (.call (.ref fa) ⟨[.ref a], []⟩) (fun r s' => r = .ok (.ret (.bool true)) ∧ OldK s₁.heap s'.heap ∧ s'.os = s₁.os ∧ AllBare s'.gens) s₁ := by
    intro H hO hS hok hA hK
    have base_of : ∀ {b : Addr} {o : Obj}, s₁.heap.get? b = some o → H b = none → (hidT s₁.heap H).get? b = some o := fun e n => hidT_get e n
    have noA : ∀ {b : Addr} {o : Obj} {es : Array DictEntry} {ep : Nat}, s₁.heap.get? b = some o → o.data = .dict es ep → H b = none := fun {b o es ep} e d => by
      cases q : H b with
      | none => rfl
      | some u =>
        have e' : b = a := hA b (by rw [q]; simp)
        subst e'
        rw [ha] at e; cases e
        have d' : Data.seq vs.toArray _ = Data.dict es ep := d
        cases d'
    have nsK : ∀ {b : Addr} {m : Str → Option Value}, s₁.heap.Ns b m → (hidT s₁.heap H).Ns b m := fun {b m} ⟨o, es, ep, e, d, r⟩ => ⟨o, es, ep, base_of e (noA e d), d, r⟩
    have hKb : K.In (hidT s₁.heap H) := fun b o e => base_of (KX b o e) (by
      cases q : H b with
      | none => rfl
      | some u =>
        have e' : b = a := hA b (by rw [q]; simp)
        subst e'
        rw [hK (by rw [q]; simp)] at e; cases e)
    have hM : Mod K mg (hidT s₁.heap H) := ⟨hKb, nsK hns, ⟨mb, nsK hb, hbb⟩, let ⟨mc, h1, h2⟩ := hlim; ⟨mc, nsK h1, h2⟩⟩
    have e0 : Env0 P w K mg (hidT s₁.heap H) callerA [] s₁ H := ⟨rfl, hM, fun b o e => of_hidT e, Nat.le_of_eq (hidT_size _ _), trivial, fun b hb => absurd (show b ∈ ([] : List Addr) from hb) (by simp), hok, .of_eq hg⟩
    refine codeAny_mono ((F _ hKb (nsK hns)).run callerA [] s₁ H ⟨[.ref a], []⟩ [.ref a] [.ref a] _ _ hr e0 (hbind s₁ (.ref a)) (.cons rfl .nil) (hsp H hO hS)) fun r s' h => ?_
    cases r with
    | error e => exact (hCX H e s' h).elim
    | ok fl =>
      cases fl with
      | next => exact False.elim h
      | brk => exact False.elim h
      | cont => exact False.elim h
      | ret u =>
        obtain ⟨v, H', os, bare, un, hok', r', q⟩ := h
        have q' : v = .bl true := q
        subst q'
        obtain rfl : u = Value.bool true := r'
        refine ⟨rfl, OldK.of_keep fun b o e => ?_, os, bare⟩
        cases q : H b with
        | none => exact un.keep b o e q (by intro z; exact absurd (show b ∈ ([] : List Addr) from z) (by simp)) (by simp)
        | some u =>
          rcases hO b with z | ⟨ob, xs, z⟩
          · rw [q] at z; cases z
          · have z2 := un.frzs b ob _ z
            obtain ⟨e1, _⟩ := hok b _ z
            obtain ⟨e2, _⟩ := hok' b _ z2
            rw [e] at e1; cases e1
            exact e2
  cases hk : K.lookup a with
  | some o =>
    have e := KX a o hk
    rw [ha] at e
    cases e
    refine core (fun _ => none) (fun _ => .inl rfl) (.inr ⟨_, vs.toArray, _, hk, rfl, rfl, rfl, by rw [List.size_toArray, lenV]; exact hl, by simpa using rv⟩) (fun b u z => by have z' : (none : Option HO) = some u := z; cases z') (fun b z => absurd rfl z) fun z => absurd rfl z
  | none =>
    refine core (fun b => if b = a then some (.frz { cls := .type "list", data := .seq vs.toArray } (.lst (ns.map V.int))) else none) (fun b => ?_) (.inl (.inr ⟨{ cls := .type "list", data := .seq vs.toArray }, if_pos rfl⟩)) (fun b u z => ?_) (fun b z => ?_) fun _ => hk
    · by_cases hb : b = a
      · exact .inr ⟨_, _, if_pos hb⟩
      · exact .inl (if_neg hb)
    · by_cases hb : b = a
      · have z' := (if_pos hb).symm.trans z
        cases z'
        subst hb
        exact ⟨ha, by rw [List.length_map]; exact hl, vs, _, rv, ha⟩
      · have z' := (if_neg hb).symm.trans z
        cases z'
    · by_cases hb : b = a
      · exact hb
      · exact absurd (if_neg hb) z
end L2
namespace L2
open PySem PySem.Spec PyProof.Rows
abbrev KOf {K : PySem.W.Frag} {h : Heap} (_ : K.In h) : PySem.W.Frag := K
theorem walk_of {l : PySem.W.OpenLaw} {n k : Nat} {q : Program} {loose : List Str} {XP : (Str → Option Value) → Heap → Prop} {YP : World → Heap → Prop} {d : DefRec} {K : Params → PySem.W.Frag} {CX : World → CXT} {sp : World → Sp} {x : Str}
    (hn : l.most = some n) (hn2 : n ≤ sizeLine) (hdf : d.params.defaults = []) (hr : Room k callerA)
    (hY : ∀ (w : World) (h : Heap), YP w h → (K w.params).In h)
    (F : ∀ (w : World) (mg : Str → Option Value) (fa : Addr) (h : Heap), (K w.params).In h → h.Ns mainGlobals mg → mg d.name = some (.ref fa) →
      ∃ fd : FuncData, (∀ (s : Shared) (u : Value), BindsTo s fd ⟨[u], []⟩ [(x, u)]) ∧
        ∀ base : Heap, (K w.params).In base → base.Ns mainGlobals mg → FnOk l.prog w (K w.params) mg base (CX w) k fa fd [x] (sp w))
    (hsp : ∀ (w : World) (H : Hp) (a : Addr) (ns : List Int), ns.length ≤ n → Only H → SqL (K w.params) H a (ns.map V.int) → sp w [.ref a] H (fun v _ => v = .bl true) fun _ _ _ => False)
    (hCX : ∀ (w : World) (H : Hp) (s : Shared) (e : Value) (s' : Shared), CX w [] H s (fun _ _ _ => False) e s' → False) :
    PySem.W.WalkO q loose XP YP l.row.toRowW d [] (fun f vs => PySem.call f vs) := by
  refine Att.attach_call hn hdf fun w s₀ s₁ mg mb fa o pm cd doc a vs ns G Y ho hd hcd hmg hobj hints hlen hg => ?_
  have KX := hY w _ Y
  obtain ⟨fd, hb, hF⟩ := F w mg fa _ KX G.T.g hmg
  exact law_call KX G.T.g G.T.b G.T.builtins G.T.nolimit hg hobj hints (Nat.le_trans hlen hn2) hr hF hb (fun H hO hS => hsp w H a ns hlen hO hS) fun H e s' => hCX w H s₁ e s'
end L2
namespace L2
open PySem PySem.Spec PyProof.Rows
def inClass (s : Stmt) (j : Nat) : Stmt := match s with
  | .ClassDef _ _ _ body _ _ _ _ _ _ _ => body.getD j (.Pass ⟨0, 0, 0, 0⟩)
  | _ => .Pass ⟨0, 0, 0, 0⟩
def defArgs (s : Stmt) : Arguments := match s with
  | .FunctionDef _ a _ _ _ _ _ _ _ _ => a
  | _ => { posonlyargs := [], args := [], vararg := none, kwonlyargs := [], kw_defaults := [], kwarg := none, defaults := [] }
def defBody (s : Stmt) : List Stmt := match s with
  | .FunctionDef _ _ b _ _ _ _ _ _ _ => b
  | _ => []
def defScope (s : Stmt) : Scope := match s with
  | .FunctionDef _ _ _ _ _ _ sc _ _ _ => sc
  | _ => { kind := .function, names := [], isGenerator := false, isCoroutine := false }
abbrev CX0 : CXT := fun _ _ _ _ _ _ => False
abbrev E0 : XK := fun _ _ _ => False
theorem pass0 {X : Cx} : Passes CX0 X E0 := fun _ _ _ _ _ _ _ h => h.elim
structure Fun (K : PySem.W.Frag) (x qual : Str) (st : Stmt) (f : Addr) (fd : FuncData) : Prop where
  ex : ∃ (oc : Value) (od : Option Addr) (kV doc pm : Value) (an : Option Addr) (cdv ct : Value) (osl : Array (Option Value)),
    fd = PySem.W.fnOf x qual (defArgs st) (defBody st) (defScope st) .none kV doc pm an cdv ct ∧ K.lookup f = some ⟨oc, od, .func fd, osl⟩ ∧ PySem.W.codeIn K cdv qual = true
  kp : PySem.W.keepIn K (.ref f) = true
section
variable {P : Program} {w : World} {K : PySem.W.Frag} {mg : Str → Option Value} {base : Heap}
theorem Fun.ok {x qual : Str} {st : Stmt} {f : Addr} {fd : FuncData} {N ps : List Str} {k : Nat} {sp : Sp} (F : Fun K x qual st f fd) (S : FnScope N ps (defScope st)) (len : ∀ vs H Q E, sp vs H Q E → vs.length = ps.length)
    (hbody : ∀ (cdv : Value) (A : Around) (outer : List Env) (s : Shared) (H : Hp) (vs : List V) (Q : VK) (E : XK), Room k (A.deeper (envOfC qual (defScope st) s.heap.objs.size f cdv)) → sp vs H Q E →
      ∃ t, PSs (cxOf CX0 P w K mg base N qual (defScope st) f cdv A outer s H E).nox (defBody st) t ∧ t { nx := fun _ H' => Q .non H', rt := Q } (start N vs) H) : FnOk P w K mg base CX0 (k + 1) f fd ps sp := by
  obtain ⟨oc, od, kV, doc, pm, an, cdv, ct, osl, rfl, lk, hcd⟩ := F.ex
  refine fn_of lk hcd S len fun A outer s H vs Q E hr hsp => ?_
  obtain ⟨t, h, q⟩ := hbody cdv A outer s H vs Q E hr hsp
  exact ⟨t, h.nox, q⟩
theorem Fun.binds {x qual : Str} {st : Stmt} {f : Addr} {fd : FuncData} {ps : List Str} (F : Fun K x qual st f fd)
    (h : ∀ (kV doc pm : Value) (an : Option Addr) (cdv ct : Value) (us : List Value), us.length = ps.length → bindArgs (PySem.W.fnOf x qual (defArgs st) (defBody st) (defScope st) .none kV doc pm an cdv ct) ⟨us, []⟩ = pure (ps.zip us)) : Binds K fd ps [] := by
  obtain ⟨oc, od, kV, doc, pm, an, cdv, ct, osl, rfl, lk, hcd⟩ := F.ex
  exact .all (h kV doc pm an cdv ct)
theorem fun_mk {x qual : Str} {st : Stmt} {f : Addr} {oc : Value} {od an : Option Addr} {osl : Array (Option Value)} {kV doc pm cdv ct : Value} (l : K.lookup f = some ⟨oc, od, .func (PySem.W.fnOf x qual (defArgs st) (defBody st) (defScope st) .none kV doc pm an cdv ct), osl⟩)
    (c : PySem.W.codeIn K cdv qual = true) (k : PySem.W.keepIn K (.ref f) = true) : Fun K x qual st f (PySem.W.fnOf x qual (defArgs st) (defBody st) (defScope st) .none kV doc pm an cdv ct) := ⟨⟨oc, od, kV, doc, pm, an, cdv, ct, osl, rfl, l, c⟩, k⟩
end
theorem small1000 {n : Nat} (h : n ≤ 1000) : n < sizeLine := Nat.lt_of_le_of_lt h (by decide)
section
variable {X : Cx}
end
def Same (H H' : Hp) : Prop := ∀ b o, H b = some o → H' b = some o
theorem Same.refl (H : Hp) : Same H H := fun _ _ h => h
theorem Same.trans {H H1 H2 : Hp} (a : Same H H1) (b : Same H1 H2) : Same H H2 := fun c o h => b c o (a c o h)
theorem Same.free {H H' : Hp} (e : Same H H') {l : Addr} (h : H' l = Option.none) : H l = Option.none := by
  cases q : H l with
  | none => rfl
  | some o =>
    rw [e l o q] at h
    cases h
theorem Same.seq {K : PySem.W.Frag} {H H' : Hp} {a : Addr} {xs : List V} (e : Same H H') (h : SqL K H a xs) : SqL K H' a xs := by
  rcases h with (h | ⟨o, h⟩) | h
  · exact .inl (.inl (e _ _ h))
  · exact .inl (.inr ⟨o, e _ _ h⟩)
  · exact .inr h
end L2
set_option Elab.async false
set_option linter.all false
set_option maxRecDepth 100000
namespace L2
open PySem PySem.Spec PyProof.Rows
end L2
namespace L2
open PySem PySem.Spec PyProof.Rows
section
variable (P : Program) (w : World)
end
section
variable {P : Program} {w : World} {H H' : Hp} {h h' : Heap} {a : Addr} {o : HO}
end
section
variable {P : Program} {w : World} {H : Hp} {h h' : Heap} {x e : Addr} {o' : HO}
end
section
variable {fs fs' ex ex' : List Addr} {H H1 H2 : Hp} {h h1 h2 h' : Heap} {a x e : Addr} {o : HO}
end
end L2
namespace L2
open PySem PySem.Spec PyProof.Rows
section
variable {X : Cx} {pins : List (Addr × Obj)} {σ : List (Option V)} {H H' : Hp} {s : Shared} {h' : Heap}
end
end L2
namespace L2
open PySem PySem.Spec PyProof.Rows
section
variable {X : Cx}
variable {a b : Expr} {ta tb : TE} {pos : Pos}
variable {tA tB' : TT} {rest : List Expr}
end
end L2
namespace L2
open PySem PySem.Spec PyProof.Rows
section
variable {X : Cx} {pins : List (Addr × Obj)} {σ : St} {H : Hp} {s : Shared} {a : Addr} {xs ys : List V}
end
section
variable {X : Cx} {pins : List (Addr × Obj)} {σ : St} {H : Hp} {s : Shared} {E : Value → Shared → Prop}
end
section
variable {X : Cx} {st : Stmt} {rest : List Stmt} {t u : TS} {e : Expr} {te : TE} {pos : Pos}
end
section
variable {X : Cx} {pos : Pos}
end
section
variable {X : Cx} {pos : Pos}
end
end L2
namespace L2
open PySem PySem.Spec PyProof.Rows
section
variable {X : Cx} {tg : Expr}
end
end L2
namespace L2
open PySem PySem.Spec PyProof.Rows
section
variable {X : Cx} {a b c : Expr} {ta tb tc : TE} {pos : Pos}
end
section
variable {X : Cx} {a b c : Expr} {ta tb tc : TE} {pos : Pos}
end
end L2
namespace L2
open PySem PySem.Spec PyProof.Rows
section
variable {prog : Program} {w : World} {A : Around} {E : Value → Shared → Prop} {s : Shared} {K : PySem.W.Frag} {x dx C f : Addr} {mA : Str → Option Value} {name : Str} {v : Value}
end
section
variable {P : Program} {w : World} {H H' : Hp} {h h' : Heap} {a C dx : Addr} {fs fs' : List (Str × V)}
end
section
variable {X : Cx} {pins : List (Addr × Obj)} {σ : St} {H : Hp} {s : Shared} {a C dx : Addr} {fs : List (Str × V)} {f : Str} {v : V} {A : Around} {E : Value → Shared → Prop}
end
section
variable {X : Cx} {o e value : Expr} {f : Str} {pos pos' tpos : Pos} {ta tv : TE}
end
section
variable {X : Cx} {pins : List (Addr × Obj)} {σ : St} {H : Hp} {s : Shared} {A : Around} {E : Value → Shared → Prop} {Q : Value → Shared → Prop} {c : Value} {b : Bool}
end
end L2
namespace L2
open PySem PySem.Spec PyProof.Rows
section
variable {X : Cx} {e : Expr} {es : List Expr} {te : TE} {t : TA} {pos : Pos}
end
section
variable {X : Cx} {pins : List (Addr × Obj)} {σ : St} {H : Hp} {s s' : Shared}
end
section
variable {X : Cx} {CX : CXT} {k : Nat} {f C : Addr} {fd : FuncData} {ps : List Str} {sp : Sp} {dvs : List V} {ds : List Value} {E : XK} {x m : Str} {p pos apos : Pos} {e o : Expr} {es : List Expr} {ta : TE} {t : TA}
end
section
variable {X : Cx} {CX : CXT} {k : Nat} {f C : Addr} {fd : FuncData} {ps ks : List Str} {sp : Sp} {E : XK} {x m : Str} {p pos apos kpos : Pos} {e o : Expr} {es : List Expr} {kws : List Keyword} {te ta : TE} {t tk : TA} {nm : Option Str}
variable {g : List Value → List Value → List Value} {gV : List V → List V → List V}
end
end L2
namespace L2
open PySem PySem.Spec PyProof.Rows
section
variable {X : Cx} {x : Str} {p pos : Pos} {e : Expr} {es : List Expr} {t : TA} {id T : String} {r : List V → Hp → VK → Prop}
end
end L2
namespace L2
open PySem PySem.Spec PyProof.Rows
section
variable {κ : Type} [DecidableEq κ]
end
theorem kV_is {P : Program} {w : World} {k : Key} {u : Value} (r : RelV (kV k) u) : (mixKind P w).is k u = true := by
  cases k with
  | inl i => obtain ⟨t, e⟩ := (show ∃ t, u = Value.int i t from r); subst e; exact mixKind_int P w i t
  | inr x => obtain ⟨t, e⟩ := (show ∃ t, u = Value.str x t from r); subst e; exact mixKind_str P w x t
theorem items_are {P : Program} {w : World} : ∀ {ks : List Key} {us : List Value}, Vals (ks.map kV) us → ItemsAre (mixKind P w) ks us
  | [], _, r => by rw [List.map_nil] at r; cases r; exact .nil
  | k :: ks, _, r => by
    rw [List.map_cons] at r
    cases r with
    | cons h t => exact .cons (kV_is h) (items_are t)
section
variable {P : Program} {w : World} {H : Hp} {h : Heap} {a : Addr}
end
section
variable {X : Cx} {pins : List (Addr × Obj)} {σ : St} {H : Hp} {s : Shared} {a : Addr} {y v : V} {u r : Value} {o : Option V} {A : Around} {E : Value → Shared → Prop}
theorem Inv.big (I : Inv X pins σ H s) : sysModules < s.heap.objs.size := by
  have h : mainGlobals < s.heap.objs.size := (I.mod.glob.keeps I.bk).lt
  exact Nat.lt_trans (by decide) h
theorem d_write {h' : Heap} {t' : Nat} {ob : HO} (I : Inv X pins σ H s) (mu : Mut (H a)) (hs : Heap.SameBut a s.heap h') (he : ∃ q, h'.get? a = some q) (new : ObjOk X.prog X.w (upd H a ob) h' a ob) :
    Inv X pins σ (upd H a ob) { s with heap := h', toks := t' } :=
  I.write (x := a) (e := a) mu (.inl rfl) (fun b q hb z => (hs.2 b hb).trans z) he new
end
section
variable {X : Cx} {pins : List (Addr × Obj)} {σ : St} {H : Hp} {s : Shared} {a : Addr} {kvs : List (Key × V)} {k : Key} {u : Value} {A : Around} {E : Value → Shared → Prop}
end
def NoSl (i : Expr) : Prop := ∀ ov iv, subscripted i false ov iv = operate [ov, iv] (getItem ov iv)
theorem subD_of {prog : Program} {w : World} {A : Around} {E : Value → Shared → Prop} {s : Shared} {env : Env} {value slice : Expr} {pos : Pos} {T id : String} {Q : Value → Shared → Prop}
    (hl : typeLookup (.type T) "__getitem__" = pure (some (.builtin id))) (hs : NoSl slice)
    (h : wpAny (model prog w) A (eval value env) (fun o s₁ => wpAny (model prog w) A (eval slice env) (fun i s₂ => s₂.TypeIs o T ∧ wpAny (model prog w) A (getItem o i) Q E s₂) E s₁) E s) :
    wpAny (model prog w) A (eval (.Subscript value slice pos) env) Q E s := by
  refine Subscript_ (wpAny_mono h (fun o s₁ h₁ => wpAny_mono h₁ (fun i s₂ h₂ => ?_) fun _ _ x => x) fun _ _ x => x)
  obtain ⟨hT, h₂⟩ := h₂
  unfold subscriptTail
  refine wpAny_bind ?_
  rw [getitemInPython_of_ne hT.not_modules]
  refine wpAny_bind (wpAny_specialOf hT hl ?_)
  have fin : wpAny (model prog w) A (subscripted slice false o i) (fun r s₃ => wpAny (model prog w) A (letTemporaryGo value o r >>= fun _ => pure r) Q E s₃) E s₂ := by
    rw [hs o i]
    exact wpAny_operating (wpAny_mono h₂ (fun r s₃ h₃ => wpAny_bind (wpAny_letTemporaryGo (wpAny_pure h₃))) fun _ _ x => x)
  first
    | exact wpAny_pure (wpAny_bind fin)
    | exact wpAny_bind (wpAny_pure (wpAny_bind fin))
    | exact wpAny_bind fin
section
variable {X : Cx} {o i e value : Expr} {pos pos' tpos : Pos} {td ty tv : TE}
end
section
variable {X : Cx} {pos : Pos}
end
structure M1 (X : Cx) (o : Expr) (m : Str) (apos : Pos) (e : Expr) (cpos : Pos) : Prop where
  base : attributeBase o m X.env (eval o X.env) = eval o X.env
  few : ((backTo cpos (starEach [e] X.env)).all (fun x => !x.1) && (backToKw cpos (keywordEach [] X.env)).all (fun x => x.1.isSome)
    && decide (([e] : List Expr).length + ([] : List Keyword).length + (if ([] : List Keyword).isEmpty then 0 else 1) < 30)) = true
  line : (apos.endLine == cpos.line) = true
  trees : backTo cpos (starEach [e] X.env) = [(false, eval e X.env)]
structure M2 (X : Cx) (o : Expr) (m : Str) (apos : Pos) (e f : Expr) (cpos : Pos) : Prop where
  base : attributeBase o m X.env (eval o X.env) = eval o X.env
  few : ((backTo cpos (starEach [e, f] X.env)).all (fun x => !x.1) && (backToKw cpos (keywordEach [] X.env)).all (fun x => x.1.isSome)
    && decide (([e, f] : List Expr).length + ([] : List Keyword).length + (if ([] : List Keyword).isEmpty then 0 else 1) < 30)) = true
  line : (apos.endLine == cpos.line) = true
  trees : backTo cpos (starEach [e, f] X.env) = [(false, eval e X.env), (false, eval f X.env)]
section
variable {X : Cx} {pins : List (Addr × Obj)} {σ : St} {H : Hp} {s : Shared} {a : Addr} {y d : V} {u r : Value} {o : Option V} {A : Around} {E : Value → Shared → Prop}
end
section
variable {X : Cx} {o e f : Expr} {apos cpos : Pos} {td ty tx : TE}
end
section
variable {X : Cx} {pins : List (Addr × Obj)} {σ : St} {H : Hp} {s : Shared} {a : Addr} {kvs : List (Key × V)} {A : Around} {E : Value → Shared → Prop}
end
section
variable {X : Cx} {pins : List (Addr × Obj)} {σ : St} {H : Hp} {s : Shared} {a : Addr} {y : V} {u : Value} {A : Around} {E : Value → Shared → Prop}
end
end L2
namespace Att
open PySem PySem.W PySem.Calls PyProof.Rows
section
variable {prog : Program} {w : World} {A : Around} {E : Value → Shared → Prop} {s : Shared} {K : Frag}
end
end Att
namespace L2
open PySem PySem.Spec PyProof.Rows
end L2
namespace L2
open PySem PySem.Spec PyProof.Rows
end L2
namespace L2
open PySem PySem.Spec PyProof.Rows
section
variable {P : Program} {w : World} {K : PySem.W.Frag} {mg : Str → Option Value} {base : Heap}
end
section
variable {X : Cx}
end
section
variable {κ : Type} [DecidableEq κ]
end
end L2
set_option Elab.async false
set_option linter.all false
set_option maxRecDepth 100000
namespace PySem.SeqAt
open AutoSeq1 (wpAny_loadPart')
open MeetsSeq MeetsSeq2 MeetsSeq3 SeqRoads2
theorem tuple_index_pair (l : Addr) (v0 v1 x : Value) (n : Nat) (dd : Option Addr) (sl : Array (Option Value)) (b0 b1 : Bool) (hb : b0 = true ∨ b1 = true) :
    Meets (Builtin.«tuple.index» ⟨[.ref l, x], []⟩)
      (fun A R s => s.heap.get? l = some { cls := .type "tuple", dict := dd, data := .seq #[v0, v1] n, slots := sl } ∧ EqAt A.in1 s v0 x b0 ∧ EqAt A.in1 s v1 x b1 ∧
        R (.ok (.ret (.int (if b0 then 0 else 1) s.toks))) { s with toks := s.toks + 1 }) := by
  intro prog w A R s h
  obtain ⟨hp, g, d, tk, os⟩ := s; obtain ⟨hl, h0, h1, h⟩ := h
  unfold Builtin.«tuple.index»
  simp only [Std.Legacy.Range.forIn_eq_forIn_range']
  wp_walk using wpAny_loadPart' hl
  have e : List.range' 0 (Std.Legacy.Range.size [:min (#[v0, v1] : Array Value).size (#[v0, v1] : Array Value).size]) = [0, 1] := by
    show List.range' 0 (Std.Legacy.Range.size [:2]) = [0, 1]
    decide
  simp only [e]
  simp only [List.forIn'.loop]
  simp only [show (#[v0, v1] : Array Value)[0]? = some v0 from rfl, show (#[v0, v1] : Array Value)[1]? = some v1 from rfl]
  refine wpAny_bind (wpAny_bind (h0 prog w _ _ ?_))
  cases b0 with
  | true =>
    rw [if_pos rfl]
    wp_walk
    exact h
  | false =>
    rw [if_neg Bool.false_ne_true]
    have e1 : b1 = true := by simpa using hb
    subst e1
    refine wpAny_pure ?_
    refine wpAny_bind (wpAny_bind (h1 prog w _ _ ?_))
    rw [if_pos rfl]
    wp_walk
    exact h
end PySem.SeqAt
namespace L3
open PySem PySem.Spec PyProof.Rows L2
theorem sameT {K : PySem.W.Frag} {H H' : Hp} {a : Addr} {xs : List V} (e : Same H H') (h : SqT K H a xs) : SqT K H' a xs := by
  rcases h with (h | ⟨o, h⟩) | h
  · exact .inl (.inl (e _ _ h))
  · exact .inl (.inr ⟨o, e _ _ h⟩)
  · exact .inr h
theorem same_upd {H : Hp} {a : Addr} {o : HO} (h : H a = none) : Same H (upd H a o) := fun b u e => by rw [upd_ne (ne_of_none e h)]; exact e
inductive D where
  | non | bl (b : Bool) | int (i : Int) | str (x : Str) | tup (ds : List D) | lst (ds : List D) | obj (C : Addr) (fs : List (Str × V)) | ty (n : String) | adr (a : Addr) | exc (C : Addr) | ob (C : Addr) (ns : List Str) (ds : List D)
def excAt (p C : Addr) : Heap → Prop := fun h => ∃ vs, h.get? p = some { cls := .ref C, data := .fields vs }
mutual
inductive Is (K : PySem.W.Frag) (H : Hp) : D → V → Prop
  | non : Is K H .non .non
  | bl (b : Bool) : Is K H (.bl b) (.bl b)
  | int (i : Int) : Is K H (.int i) (.int i)
  | str (x : Str) : Is K H (.str x) (.str x)
  | ty (n : String) : Is K H (.ty n) (.ty n)
  | adr (a : Addr) : Is K H (.adr a) (.ref a)
  | tup {p : Addr} {xs : List V} {ds : List D} : SqT K H p xs → IsL K H ds xs → Is K H (.tup ds) (.ref p)
  | lst {p : Addr} {xs : List V} {ds : List D} : SqL K H p xs → IsL K H ds xs → Is K H (.lst ds) (.ref p)
  | obj {p C dx : Addr} {fs : List (Str × V)} : H p = some (.ins C dx fs) → Is K H (.obj C fs) (.ref p)
  | exc {p C : Addr} : H p = some (.ext (excAt p C)) → Is K H (.exc C) (.ref p)
  | ob {p C dx : Addr} {fs : List (Str × V)} {ns : List Str} {ds : List D} {vs : List V} : H p = some (.ins C dx fs) → ns.map (fun n => fs.lookup n) = vs.map some → (∀ m, m ∉ ns → fs.lookup m = none) → IsL K H ds vs → Is K H (.ob C ns ds) (.ref p)
inductive IsL (K : PySem.W.Frag) (H : Hp) : List D → List V → Prop
  | nil : IsL K H [] []
  | cons {d : D} {v : V} {ds : List D} {vs : List V} : Is K H d v → IsL K H ds vs → IsL K H (d :: ds) (v :: vs)
end
section
variable {K : PySem.W.Frag} {H H' : Hp}
mutual
theorem Is.mono (e : Same H H') : ∀ {d : D} {v : V}, Is K H d v → Is K H' d v
  | _, _, .non => .non
  | _, _, .bl b => .bl b
  | _, _, .int i => .int i
  | _, _, .str x => .str x
  | _, _, .ty n => .ty n
  | _, _, .adr a => .adr a
  | _, _, .tup h l => .tup (sameT e h) (IsL.mono e l)
  | _, _, .lst h l => .lst (e.seq h) (IsL.mono e l)
  | _, _, .obj h => .obj (e _ _ h)
  | _, _, .exc h => .exc (e _ _ h)
  | _, _, .ob h1 h2 h3 h4 => .ob (e _ _ h1) h2 h3 (IsL.mono e h4)
theorem IsL.mono (e : Same H H') : ∀ {ds : List D} {vs : List V}, IsL K H ds vs → IsL K H' ds vs
  | _, _, .nil => .nil
  | _, _, .cons h l => .cons (Is.mono e h) (IsL.mono e l)
end
theorem IsL.length : ∀ {ds : List D} {vs : List V}, IsL K H ds vs → ds.length = vs.length
  | _, _, .nil => rfl
  | _, _, .cons _ l => by rw [List.length_cons, List.length_cons, IsL.length l]
theorem IsL.get : ∀ {ds : List D} {vs : List V} {i : Nat} {d : D}, IsL K H ds vs → ds[i]? = some d → ∃ v, vs[i]? = some v ∧ Is K H d v
  | _, _, _, _, .nil, e => by simp at e
  | _, _, 0, _, .cons h _, e => by simp at e; subst e; exact ⟨_, rfl, h⟩
  | _, _, i + 1, d, .cons _ l, e => by
    obtain ⟨v, h1, h2⟩ := IsL.get (i := i) (d := d) l (by simpa using e)
    exact ⟨v, by simpa using h1, h2⟩
theorem IsL.get' : ∀ {ds : List D} {vs : List V} {i : Nat} {v : V}, IsL K H ds vs → vs[i]? = some v → ∃ d, ds[i]? = some d ∧ Is K H d v
  | _, _, _, _, .nil, e => by simp at e
  | _, _, 0, _, .cons h _, e => by simp at e; subst e; exact ⟨_, rfl, h⟩
  | _, _, i + 1, v, .cons _ l, e => by
    obtain ⟨d, h1, h2⟩ := IsL.get' (i := i) (v := v) l (by simpa using e)
    exact ⟨d, by simpa using h1, h2⟩
theorem IsL.append : ∀ {ds es : List D} {vs us : List V}, IsL K H ds vs → IsL K H es us → IsL K H (ds ++ es) (vs ++ us)
  | _, _, _, _, .nil, s => s
  | _, _, _, _, .cons h l, s => .cons h (IsL.append l s)
theorem IsL.ints : ∀ (ns : List Int), IsL K H (ns.map D.int) (ns.map V.int)
  | [] => .nil
  | _ :: ns => .cons (.int _) (IsL.ints ns)
theorem IsL.atI {ds : List D} {vs : List V} {i : Int} {d : D} (l : IsL K H ds vs) (h : L2.atI ds i = some d) : ∃ v, L2.atI vs i = some v ∧ Is K H d v := by
  unfold L2.atI at h ⊢
  rw [← l.length]
  cases e : ixN ds.length i with
  | none => rw [e] at h; cases h
  | some j =>
    rw [e] at h
    exact l.get h
end
mutual
def toPy : D → PyData
  | .bl b => .bool b
  | .int i => .int i
  | .str x => .str x
  | .tup ds => .tuple (toPys ds)
  | .lst ds => .list (toPys ds)
  | .non => .none
  | .obj _ _ => .none
  | .ty _ => .none
  | .adr _ => .none
  | .exc _ => .none
  | .ob _ _ _ => .none
def toPys : List D → List PyData
  | [] => []
  | d :: ds => toPy d :: toPys ds
end
mutual
def pyOk : D → Bool
  | .bl _ => true
  | .int _ => true
  | .str x => PyData.strOk x
  | .tup ds => pyOks ds
  | .lst ds => pyOks ds
  | .non => true
  | .obj _ _ => false
  | .ty _ => false
  | .adr _ => false
  | .exc _ => false
  | .ob _ _ _ => false
def pyOks : List D → Bool
  | [] => true
  | d :: ds => pyOk d && pyOks ds
end
mutual
theorem canLay_of : ∀ (d : D), pyOk d = true → (toPy d).canLay0 = true
  | .bl _, _ => rfl
  | .int _, _ => rfl
  | .str x, h => h
  | .tup ds, h => canLays_of ds h
  | .lst ds, h => canLays_of ds h
  | .non, _ => rfl
  | .obj _ _, h => nomatch h
  | .ty _, h => nomatch h
  | .adr _, h => nomatch h
  | .exc _, h => nomatch h
  | .ob _ _ _, h => nomatch h
theorem canLays_of : ∀ (ds : List D), pyOks ds = true → PyData.canLayAll0 (toPys ds) = true
  | [], _ => rfl
  | d :: ds, h => by
    have h' : pyOk d = true ∧ pyOks ds = true := by simpa [pyOks] using h
    show ((toPy d).canLay0 && PyData.canLayAll0 (toPys ds)) = true
    rw [canLay_of d h'.1, canLays_of ds h'.2]; rfl
end
def eqD (d e : D) : Bool := PyData.eqv (toPy d) (toPy e)
theorem eqD_refl (d : D) (h : pyOk d = true) : eqD d d = true := SeqAt.eqv_refl _ (canLay_of d h)
def depD (d : D) : Nat := (toPy d).depth
section
variable {X : Cx} {pins : List (Addr × Obj)} {σ : L2.St} {H : Hp} {s : Shared}
mutual
theorem reads_of (I : Inv X pins σ H s) : ∀ {d : D} {v : V} {u : Value}, Is X.K H d v → RelV v u → pyOk d = true → ∃ as, Reads s.heap u (toPy d) as
  | _, _, _, .non, r, _ => by cases r; exact ⟨_, .none⟩
  | _, _, _, .bl b, r, _ => by cases r; exact ⟨_, .bool b⟩
  | _, _, _, .int i, r, _ => by obtain ⟨t, rfl⟩ := r; exact ⟨_, .int i t⟩
  | _, _, _, .str x, r, _ => by obtain ⟨t, rfl⟩ := r; exact ⟨_, .str x t⟩
  | _, _, _, .ty _, _, h => nomatch h
  | _, _, _, .adr _, _, h => nomatch h
  | _, _, _, .obj _, _, h => nomatch h
  | _, _, _, .exc _, _, h => nomatch h
  | _, _, _, .ob _ _ _ _, _, h => nomatch h
  | _, _, _, .tup hq l, r, h => by
    cases r
    obtain ⟨its, rv, ⟨o, e, c, n, d⟩, _⟩ := I.tuple hq
    obtain ⟨as, ra⟩ := readsL_of I l rv h
    exact ⟨_, .tuple e c d (by simpa using ra)⟩
  | _, _, _, .lst hq l, r, h => by
    cases r
    obtain ⟨its, rv, ⟨o, n, e, c, _, d⟩, _⟩ := I.list hq
    obtain ⟨as, ra⟩ := readsL_of I l rv h
    exact ⟨_, .list e c d (by simpa using ra)⟩
theorem readsL_of (I : Inv X pins σ H s) : ∀ {ds : List D} {vs : List V} {us : List Value}, IsL X.K H ds vs → Vals vs us → pyOks ds = true → ∃ as, ReadsAll s.heap us (toPys ds) as
  | _, _, _, .nil, .nil, _ => ⟨_, .nil⟩
  | _, _, _, .cons h l, .cons r t, e => by
    have h' := e
    simp only [pyOks, Bool.and_eq_true] at h'
    obtain ⟨as, ra⟩ := reads_of I h r h'.1
    obtain ⟨bs, rb⟩ := readsL_of I l t h'.2
    exact ⟨_, .cons ra rb⟩
end
end
section
variable {X : Cx}
def rEqD (K : PySem.W.Frag) (f : Bool → Bool) : R2 := fun x y H Q => ∃ d e, Is K H d x ∧ Is K H e y ∧ pyOk d = true ∧ pyOk e = true ∧ depD d ≤ 60 ∧ Q (.bl (f (eqD d e))) H
theorem op_eqD (hu : X.A.units + 64 < cLine) : OpR X (compareOp .Eq) (rEqD X.K id) := by
  intro pins s σ H x y v u Q I rx ry h
  obtain ⟨d, e, hd, he, od, oe, dp, q⟩ := h
  obtain ⟨as, ra⟩ := reads_of I hd rx od
  obtain ⟨bs, rb⟩ := reads_of I he ry oe
  exact SeqAt.compareEq_reads ra rb (canLay_of _ od) (canLay_of _ oe) (by unfold depD at dp; omega) ⟨.bl _, H, I, rfl, q⟩
theorem op_neD (hu : X.A.units + 64 < cLine) : OpR X (compareOp .NotEq) (rEqD X.K not) := by
  intro pins s σ H x y v u Q I rx ry h
  obtain ⟨d, e, hd, he, od, oe, dp, q⟩ := h
  obtain ⟨as, ra⟩ := reads_of I hd rx od
  obtain ⟨bs, rb⟩ := reads_of I he ry oe
  exact SeqAt.compareNe_reads ra rb (canLay_of _ od) (canLay_of _ oe) (by unfold depD at dp; omega) ⟨.bl _, H, I, rfl, q⟩
def tyD : D → Option String
  | .non => some "NoneType"
  | .bl _ => some "bool"
  | .int _ => some "int"
  | .str _ => some "str"
  | .tup _ => some "tuple"
  | .lst _ => some "list"
  | _ => none
theorem call_isi : CallR X (.builtin "isinstance") (fun xs H Q => ∃ d x T t b, xs = [x, .ty T] ∧ Is X.K H d x ∧ tyD d = some t ∧ PySem.W.kitOne X.K (.type t) (.type T) = some b ∧ Q (.bl b) H) := by
  intro pins s σ H xs us Q I r h
  obtain ⟨d, x, T, t, b, rfl, hd, ht, e, q⟩ := h
  obtain ⟨u, c, rfl, rx, rc⟩ := vals2 r
  obtain rfl : c = Value.type T := rc
  have fin : ∀ tk, EP X pins σ Q (.bool b) { s with toks := tk } := fun tk => ⟨.bl b, H, I.tok _, rfl, q⟩
  cases hd with
  | non => cases ht; cases rx; exact PySem.W.kia_one PySem.W.kitx_none I.kIn True.intro e (fun z => nomatch z) fin
  | bl y => cases ht; cases rx; exact PySem.W.kia_one PySem.W.kitx_bool I.kIn True.intro e (fun z => nomatch z) fin
  | int i => cases ht; obtain ⟨_, rfl⟩ := rx; exact PySem.W.kia_one PySem.W.kitx_int I.kIn True.intro e (fun z => nomatch z) fin
  | str y => cases ht; obtain ⟨_, rfl⟩ := rx; exact PySem.W.kia_one PySem.W.kitx_str I.kIn True.intro e (fun z => nomatch z) fin
  | tup hq l =>
    cases ht; cases rx
    obtain ⟨its, rv, ⟨o, h1, h2, _⟩, _⟩ := I.tuple hq
    exact PySem.W.kia_one PySem.W.kitx_tuple I.kIn ⟨o, h1, h2⟩ e (fun z => nomatch z) fin
  | lst hq l =>
    cases ht; cases rx
    obtain ⟨its, rv, ⟨o, n, h1, h2, _⟩, _⟩ := I.list hq
    exact PySem.W.kia_one PySem.W.kitx_list I.kIn ⟨o, h1, h2⟩ e (fun z => nomatch z) fin
  | ty _ => cases ht
  | adr _ => cases ht
  | obj _ => cases ht
  | exc _ => cases ht
  | ob _ _ _ _ => cases ht
theorem call_maxT (hc : X.calm = true) : CallR X (.builtin "max") (fun xs H Q => ∃ p i j, xs = [.ref p] ∧ SqT X.K H p [.int i, .int j] ∧ Q (.int (if j > i then j else i)) H) := by
  intro pins s σ H xs us Q I r h
  obtain ⟨p, i, j, rfl, hq, q⟩ := h
  obtain ⟨u, rfl, rx⟩ := vals1 r
  cases rx
  obtain ⟨its, rv, ht, _⟩ := I.tuple hq
  obtain ⟨v0, v1, rfl, ⟨t0, rfl⟩, ⟨t1, rfl⟩⟩ := Vals.two rv
  have hT : s.heap.IsTuple p (intItems #[(i, t0), (j, t1)]) := by
    have e : intItems #[(i, t0), (j, t1)] = [Value.int i t0, Value.int j t1].toArray := by simp [intItems]
    rw [e]; exact ht
  have hlt : p < s.heap.objs.size := ht.lt
  refine call_max_walk (wpAny_pyIter_tuple hT ?_)
  refine ⟨_, [_, p], [_], _, _, _, _, rfl, Walks.tuple (A := X.A.in1) (I.ok.hd hc) _ p (Nat.ne_of_lt hlt) (intItems #[(i, t0), (j, t1)]),
    ⟨⟨_, Heap.get?_push_size _ rfl, rfl, rfl⟩, hT.push _⟩, fun c hc' => ?_, by simp [intItems], CmpOf.ints_gt (numAt #[(i, t0), (j, t1)]) (fun _ _ => intItems_at), fun v h' tk hP hk => ?_⟩
  · show c < (s.heap.push _).objs.size
    rw [Heap.size_push]
    rcases List.mem_cons.mp hc' with rfl | hc'
    · exact Nat.lt_succ_self _
    · rcases List.mem_cons.mp hc' with rfl | hc'
      · exact Nat.lt_succ_of_lt hlt
      · cases hc'
  · have hold : ∀ c o, s.heap.get? c = some o → h'.get? c = some o := fun c o e => by
      refine hk c o (fun hm => ?_) (Heap.get?_push_of_some _ e)
      rcases List.mem_cons.mp hm with e1 | hm
      · have := Heap.lt_size e; rw [e1] at this; exact Nat.lt_irrefl _ this
      · cases hm
    have hP' : (intItems #[(i, t0), (j, t1)])[argBest (fun a b => decide (numAt #[(i, t0), (j, t1)] a > numAt #[(i, t0), (j, t1)] b)) 1]? = some v := by
      have hsz2 : (intItems #[(i, t0), (j, t1)]).size - 1 = 1 := by simp [intItems]
      rw [← hsz2]; exact hP
    refine ⟨_, H, I.kept hold, ?_, q⟩
    by_cases hba : j > i
    · have e : argBest (fun a b => decide (numAt #[(i, t0), (j, t1)] a > numAt #[(i, t0), (j, t1)] b)) 1 = 1 := by simp [argBest, numAt, hba]
      rw [e] at hP'
      have hv : Value.int j t1 = v := by simpa [intItems] using hP'
      rw [if_pos hba, ← hv]; exact ⟨_, rfl⟩
    · have e : argBest (fun a b => decide (numAt #[(i, t0), (j, t1)] a > numAt #[(i, t0), (j, t1)] b)) 1 = 0 := by simp [argBest, numAt, hba]
      rw [e] at hP'
      have hv : Value.int i t0 = v := by simpa [intItems] using hP'
      rw [if_neg hba, ← hv]; exact ⟨_, rfl⟩
theorem call_minT (hc : X.calm = true) : CallR X (.builtin "min") (fun xs H Q => ∃ p i j, xs = [.ref p] ∧ SqT X.K H p [.int i, .int j] ∧ Q (.int (if j < i then j else i)) H) := by
  intro pins s σ H xs us Q I r h
  obtain ⟨p, i, j, rfl, hq, q⟩ := h
  obtain ⟨u, rfl, rx⟩ := vals1 r
  cases rx
  obtain ⟨its, rv, ht, _⟩ := I.tuple hq
  obtain ⟨v0, v1, rfl, ⟨t0, rfl⟩, ⟨t1, rfl⟩⟩ := Vals.two rv
  have hT : s.heap.IsTuple p (intItems #[(i, t0), (j, t1)]) := by
    have e : intItems #[(i, t0), (j, t1)] = [Value.int i t0, Value.int j t1].toArray := by simp [intItems]
    rw [e]; exact ht
  have hlt : p < s.heap.objs.size := ht.lt
  refine call_min_walk (wpAny_pyIter_tuple hT ?_)
  refine ⟨_, [_, p], [_], _, _, _, _, rfl, Walks.tuple (A := X.A.in1) (I.ok.hd hc) _ p (Nat.ne_of_lt hlt) (intItems #[(i, t0), (j, t1)]),
    ⟨⟨_, Heap.get?_push_size _ rfl, rfl, rfl⟩, hT.push _⟩, fun c hc' => ?_, by simp [intItems], CmpOf.ints_lt (numAt #[(i, t0), (j, t1)]) (fun _ _ => intItems_at), fun v h' tk hP hk => ?_⟩
  · show c < (s.heap.push _).objs.size
    rw [Heap.size_push]
    rcases List.mem_cons.mp hc' with rfl | hc'
    · exact Nat.lt_succ_self _
    · rcases List.mem_cons.mp hc' with rfl | hc'
      · exact Nat.lt_succ_of_lt hlt
      · cases hc'
  · have hold : ∀ c o, s.heap.get? c = some o → h'.get? c = some o := fun c o e => by
      refine hk c o (fun hm => ?_) (Heap.get?_push_of_some _ e)
      rcases List.mem_cons.mp hm with e1 | hm
      · have := Heap.lt_size e; rw [e1] at this; exact Nat.lt_irrefl _ this
      · cases hm
    have hP' : (intItems #[(i, t0), (j, t1)])[argBest (fun a b => decide (numAt #[(i, t0), (j, t1)] a < numAt #[(i, t0), (j, t1)] b)) 1]? = some v := by
      have hsz2 : (intItems #[(i, t0), (j, t1)]).size - 1 = 1 := by simp [intItems]
      rw [← hsz2]; exact hP
    refine ⟨_, H, I.kept hold, ?_, q⟩
    by_cases hba : j < i
    · have e : argBest (fun a b => decide (numAt #[(i, t0), (j, t1)] a < numAt #[(i, t0), (j, t1)] b)) 1 = 1 := by simp [argBest, numAt, hba]
      rw [e] at hP'
      have hv : Value.int j t1 = v := by simpa [intItems] using hP'
      rw [if_pos hba, ← hv]; exact ⟨_, rfl⟩
    · have e : argBest (fun a b => decide (numAt #[(i, t0), (j, t1)] a < numAt #[(i, t0), (j, t1)] b)) 1 = 0 := by simp [argBest, numAt, hba]
      rw [e] at hP'
      have hv : Value.int i t0 = v := by simpa [intItems] using hP'
      rw [if_neg hba, ← hv]; exact ⟨_, rfl⟩
def rIndexT (K : PySem.W.Frag) : V → List V → Hp → VK → Prop := fun x vs H Q => ∃ p a b k, x = .ref p ∧ vs = [.int k] ∧ SqT K H p [.int a, .int b] ∧ (a = k ∨ b = k) ∧ Q (.int (if a = k then 0 else 1)) H
theorem mt_indexT : MtR X "tuple.index" (rIndexT X.K) := by
  intro pins s σ H x vs v us Q I rx rv h
  obtain ⟨p, a, b, k, rfl, rfl, hq, hk, q⟩ := h
  cases rx
  obtain ⟨u, rfl, t, rfl⟩ := rv.one
  obtain ⟨its, r, ⟨⟨cl, dd, dt, sl⟩, e, hc, hd, n, hs⟩, _⟩ := I.tupleO hq
  obtain ⟨v0, v1, rfl, ⟨t0, rfl⟩, ⟨t1, rfl⟩⟩ := Vals.two r
  dsimp only at hc hd hs
  subst hc; subst hd; subst hs
  refine call_meets F.slot_tuple_index ⟨_, e, rfl⟩ F.entry_tuple_index (F.args_tuple_index_2 _ _) (SeqAt.tuple_index_pair p (.int a t0) (.int b t1) (.int k t) n none sl (a == k) (b == k) (by simpa using hk))
    ⟨e, SeqAt.EqAt.int_int a t0 k t, SeqAt.EqAt.int_int b t1 k t, ?_⟩
  have ei : (if (a == k) = true then (0 : Int) else 1) = if a = k then 0 else 1 := by
    by_cases h : a = k <;> simp [h]
  rw [ei]
  exact ⟨.int (if a = k then 0 else 1), H, I.tok _, ⟨_, rfl⟩, q⟩
end
end L3
set_option Elab.async false
set_option linter.all false
set_option maxRecDepth 100000
namespace L3
open PySem PySem.Spec PyProof.Rows L2
def tD (K : PySem.W.Frag) (σ : L2.St) (H : Hp) (d : D) : TE := fun σ' H1 Q => σ' = σ ∧ Same H H1 ∧ ∀ v H2, Same H1 H2 → Is K H2 d v → Q v H2
def tDA (K : PySem.W.Frag) (σ : L2.St) (H : Hp) (ds : List D) : TA := fun σ' H1 Q => σ' = σ ∧ Same H H1 ∧ ∀ vs H2, Same H1 H2 → IsL K H2 ds vs → Q vs H2
def tDT (σ : L2.St) (H : Hp) (b : Bool) : TT := fun σ' H1 Q => σ' = σ ∧ Same H H1 ∧ ∀ H2, Same H1 H2 → Q b H2
def PD (X : Cx) (e : Expr) (σ : L2.St) (H : Hp) (d : D) : Prop := PE X e (tD X.K σ H d)
def PDA (X : Cx) (es : List Expr) (σ : L2.St) (H : Hp) (ds : List D) : Prop := PA X es (tDA X.K σ H ds)
def PDT (X : Cx) (e : Expr) (σ : L2.St) (H : Hp) (b : Bool) : Prop := PT X e (tDT σ H b)
def PDW (X : Cx) (e : Expr) (σ : L2.St) (H : Hp) (b : Bool) : Prop := PW X e (tDT σ H b)
section
variable {X : Cx} {e a b c : Expr} {es : List Expr} {σ : L2.St} {H H' : Hp} {d d' : D} {ds : List D} {pos : Pos} {i j : Int} {k k' : Bool}
theorem PE.imp {t t' : TE} (h : PE X e t) (f : ∀ σ H Q, t' σ H Q → t σ H Q) : PE X e t' := fun pins s σ H Q I q => h pins s σ H Q I (f _ _ _ q)
theorem PA.imp {t t' : TA} (h : PA X es t) (f : ∀ σ H Q, t' σ H Q → t σ H Q) : PA X es t' := fun p pins s σ H Q I q => h p pins s σ H Q I (f _ _ _ q)
theorem PT.imp {t t' : TT} (h : PT X e t) (f : ∀ σ H Q, t' σ H Q → t σ H Q) : PT X e t' := fun pins s σ H Q I q => h pins s σ H Q I (f _ _ _ q)
theorem PW.imp {t t' : TT} (h : PW X e t) (f : ∀ σ H Q, t' σ H Q → t σ H Q) : PW X e t' := fun w pins s σ H Q I q => h w pins s σ H Q I (f _ _ _ q)
theorem PE.guard {p : Prop} {t : TE} (h : p → PE X e t) : PE X e (fun σ H Q => p ∧ t σ H Q) := fun pins s σ H Q I q => h q.1 pins s σ H Q I q.2
theorem PW.guard {p : Prop} {t : TT} (h : p → PW X e t) : PW X e (fun σ H Q => p ∧ t σ H Q) := fun w pins s σ H Q I q => h q.1 w pins s σ H Q I q.2
theorem PD.of {t : TE} (h : PE X e t) (f : ∀ H1 Q, Same H H1 → (∀ v H2, Same H1 H2 → Is X.K H2 d v → Q v H2) → t σ H1 Q) : PD X e σ H d :=
  PE.imp h fun σ' H1 Q ⟨hs, e1, q⟩ => by subst hs; exact f H1 Q e1 q
theorem PDT.of {t : TT} (h : PT X e t) (f : ∀ H1 Q, Same H H1 → (∀ H2, Same H1 H2 → Q k H2) → t σ H1 Q) : PDT X e σ H k :=
  PT.imp h fun σ' H1 Q ⟨hs, e1, q⟩ => by subst hs; exact f H1 Q e1 q
theorem PDW.pt (h : PDW X e σ H k) : PDT X e σ H k := L2.PW.pt h
theorem PD.cast (h : PD X e σ H d) (q : d = d') : PD X e σ H d' := q ▸ h
theorem PDT.cast (h : PDT X e σ H k) (q : k = k') : PDT X e σ H k' := q ▸ h
theorem pd_pe {v : V} (h : PE X e (tC v)) (r : Is X.K H d v) : PD X e σ H d := PD.of h fun _ _ e1 q => q _ _ (Same.refl _) (r.mono e1)
theorem pd_var (n : Nat) {x : Str} {v : V} (hs : σ[n]? = some (some v)) (r : Is X.K H d v) (hN : X.N[n]? = some x := by rfl)
    (hv : Vis X.env.scope x := by first | exact Or.inl rfl | exact Or.inr (Or.inl rfl) | exact Or.inr (Or.inr rfl)) (hd : (x == ("__debug__" : Str)) = false := by decide)
    (hcd : (x == ("__classdict__" : Str)) = false := by decide) : PD X (.Name x pos) σ H d :=
  PD.of (pe_var hN hv hd hcd) fun _ _ e1 q => ⟨v, hs, q _ _ (Same.refl _) (r.mono e1)⟩
theorem pd_int {i : Int} {n : Nat} : PD X (.Constant (.int i) n pos) σ H (.int i) := pd_pe pe_int (.int i)
theorem pd_bl {k : Bool} {n : Nat} : PD X (.Constant (.bool k) n pos) σ H (.bl k) := pd_pe pe_bl (.bl k)
theorem pd_non {n : Nat} : PD X (.Constant .none n pos) σ H .non := pd_pe pe_non .non
theorem pd_str {x : Str} {n : Nat} : PD X (.Constant (.str x) n pos) σ H (.str x) := pd_pe pe_str (.str x)
theorem pd_glob {x : Str} {v : V} {u : Value} (hm : X.mg x = some u) (r : RelV v u) (hd : Is X.K H d v) (hg : Gl X x := by rfl) (hdb : (x == ("__debug__" : Str)) = false := by decide) : PD X (.Name x pos) σ H d :=
  pd_pe (pe_glob hg hm r hdb) hd
theorem pd_ty {x : Str} {T : String} (hm : X.mg x = none) (hv : bootBuiltins x = some (.type T) := by first | rfl | decide +kernel) (hg : Gl X x := by rfl) (hn : x ≠ "__name__" := by decide) (hd : (x == ("__debug__" : Str)) = false := by decide) :
    PD X (.Name x pos) σ H (.ty T) := pd_pe (v := .ty T) (pe_bltn hg hm hv rfl hn hd) (.ty T)
theorem pd_op2 {op : Operator} {r : R2} (ho : OpR X (binaryOp op) r) (ha : PD X a σ H d) (hb : PD X b σ H d')
    {z : D} (f : ∀ x y H1 Q, Same H H1 → Is X.K H1 d x → Is X.K H1 d' y → (∀ v H2, Same H1 H2 → Is X.K H2 z v → Q v H2) → r x y H1 Q) : PD X (.BinOp a op b pos) σ H z :=
  PD.of (pe_op ho ha hb) fun H1 Q e1 q => ⟨rfl, e1, fun x H2 e2 hx => ⟨rfl, e1.trans e2, fun y H3 e3 hy =>
    f x y H3 Q ((e1.trans e2).trans e3) (hx.mono e3) hy fun v H4 e4 hv => q v H4 ((e2.trans e3).trans e4) hv⟩⟩
theorem pd_cmp2 {op : CmpOp} {r : R2} (ho : OpR X (compareOp op) r) (ha : PD X a σ H d) (hb : PD X b σ H d') (hm : behindInMarks op b = false)
    {z : D} (f : ∀ x y H1 Q, Same H H1 → Is X.K H1 d x → Is X.K H1 d' y → (∀ v H2, Same H1 H2 → Is X.K H2 z v → Q v H2) → r x y H1 Q) : PD X (.Compare a [op] [b] pos) σ H z :=
  PD.of (pe_cmpR ho ha hb hm) fun H1 Q e1 q => ⟨rfl, e1, fun x H2 e2 hx => ⟨rfl, e1.trans e2, fun y H3 e3 hy =>
    f x y H3 Q ((e1.trans e2).trans e3) (hx.mono e3) hy fun v H4 e4 hv => q v H4 ((e2.trans e3).trans e4) hv⟩⟩
theorem pdt_cmp2 {op : CmpOp} {r : R2} (ho : OpR X (compareOp op) r) (ha : PD X a σ H d) (hb : PD X b σ H d') (hm : behindInMarks op b = false)
    (f : ∀ x y H1 Q, Same H H1 → Is X.K H1 d x → Is X.K H1 d' y → (∀ v H2, Same H1 H2 → Is X.K H2 (.bl k) v → Q v H2) → r x y H1 Q) : PDT X (.Compare a [op] [b] pos) σ H k :=
  PDT.of (pt_cmpR ho ha hb hm) fun H1 Q e1 q => ⟨rfl, e1, fun x H2 e2 hx => ⟨rfl, e1.trans e2, fun y H3 e3 hy =>
    f x y H3 _ ((e1.trans e2).trans e3) (hx.mono e3) hy fun v H4 e4 hv => by cases hv; exact ⟨k, rfl, q H4 ((e2.trans e3).trans e4)⟩⟩⟩
theorem nm {op : CmpOp} (b : Expr) (h1 : op ≠ .In := by decide) (h2 : op ≠ .NotIn := by decide) : behindInMarks op b = false := nobehind _ h1 h2
theorem pd_add (ha : PD X a σ H (.int i)) (hb : PD X b σ H (.int j)) : PD X (.BinOp a .Add b pos) σ H (.int (i + j)) :=
  pd_op2 op_add ha hb fun _ _ _ _ _ hx hy q => by cases hx; cases hy; exact ⟨i, j, rfl, rfl, q _ _ (Same.refl _) (.int _)⟩
theorem pd_sub (ha : PD X a σ H (.int i)) (hb : PD X b σ H (.int j)) : PD X (.BinOp a .Sub b pos) σ H (.int (i - j)) :=
  pd_op2 op_sub ha hb fun _ _ _ _ _ hx hy q => by cases hx; cases hy; exact ⟨i, j, rfl, rfl, q _ _ (Same.refl _) (.int _)⟩
theorem pd_mul (ha : PD X a σ H (.int i)) (hb : PD X b σ H (.int j)) (hc : CMul i j) : PD X (.BinOp a .Mult b pos) σ H (.int (i * j)) :=
  pd_op2 op_mul ha hb fun _ _ _ _ _ hx hy q => by cases hx; cases hy; exact ⟨i, j, rfl, rfl, hc, q _ _ (Same.refl _) (.int _)⟩
theorem pd_div (ha : PD X a σ H (.int i)) (hb : PD X b σ H (.int j)) (hc : CDiv i j) : PD X (.BinOp a .FloorDiv b pos) σ H (.int (i / j)) :=
  pd_op2 op_fdiv ha hb fun _ _ _ _ _ hx hy q => by cases hx; cases hy; exact ⟨i, j, rfl, rfl, hc, q _ _ (Same.refl _) (.int _)⟩
theorem pd_mod (ha : PD X a σ H (.int i)) (hb : PD X b σ H (.int j)) (hc : 0 < j) : PD X (.BinOp a .Mod b pos) σ H (.int (i % j)) :=
  pd_op2 op_mod ha hb fun _ _ _ _ _ hx hy q => by cases hx; cases hy; exact ⟨i, j, rfl, rfl, hc, q _ _ (Same.refl _) (.int _)⟩
theorem pd_neg (ha : PD X a σ H (.int i)) : PD X (.UnaryOp .USub a pos) σ H (.int (-i)) :=
  PD.of (pe_un un_neg ha) fun H1 Q e1 q => ⟨rfl, e1, fun x H2 e2 hx => by cases hx; exact ⟨i, rfl, q _ _ e2 (.int _)⟩⟩
theorem pd_ge (ha : PD X a σ H (.int i)) (hb : PD X b σ H (.int j)) : PD X (.Compare a [.GtE] [b] pos) σ H (.bl (decide (j ≤ i))) :=
  pd_cmp2 op_ge ha hb (nm _) fun _ _ _ _ _ hx hy q => by cases hx; cases hy; exact ⟨i, j, rfl, rfl, q _ _ (Same.refl _) (.bl _)⟩
theorem pd_eqI (ha : PD X a σ H (.int i)) (hb : PD X b σ H (.int j)) : PD X (.Compare a [.Eq] [b] pos) σ H (.bl (decide (i = j))) :=
  (pd_cmp2 op_eq ha hb (nm _) fun _ _ _ _ _ hx hy q => by cases hx; cases hy; exact ⟨rfl, q _ _ (Same.refl _) (.bl _)⟩ : PD X _ σ H (.bl (decide (V.int i = V.int j)))).cast (by simp)
theorem pd_eqD (hu : X.A.units + 64 < cLine) (ha : PD X a σ H d) (hb : PD X b σ H d') (o1 : pyOk d = true) (o2 : pyOk d' = true) (dp : depD d ≤ 60) : PD X (.Compare a [.Eq] [b] pos) σ H (.bl (eqD d d')) :=
  pd_cmp2 (op_eqD hu) ha hb (nm _) fun _ _ _ _ _ hx hy q => ⟨d, d', hx, hy, o1, o2, dp, q _ _ (Same.refl _) (.bl _)⟩
def isNon : D → Bool
  | .non => true
  | _ => false
theorem isNon_of {K : PySem.W.Frag} {v : V} (h : Is K H d v) : decide (v = .non) = isNon d := by
  cases h <;> simp [isNon]
theorem pdt_lt (ha : PD X a σ H (.int i)) (hb : PD X b σ H (.int j)) : PDT X (.Compare a [.Lt] [b] pos) σ H (decide (i < j)) :=
  pdt_cmp2 op_lt ha hb (nm _) fun _ _ _ _ _ hx hy q => by cases hx; cases hy; exact ⟨i, j, rfl, rfl, q _ _ (Same.refl _) (.bl _)⟩
theorem pdt_gt (ha : PD X a σ H (.int i)) (hb : PD X b σ H (.int j)) : PDT X (.Compare a [.Gt] [b] pos) σ H (decide (j < i)) :=
  pdt_cmp2 op_gt ha hb (nm _) fun _ _ _ _ _ hx hy q => by cases hx; cases hy; exact ⟨i, j, rfl, rfl, q _ _ (Same.refl _) (.bl _)⟩
theorem pdt_ge (ha : PD X a σ H (.int i)) (hb : PD X b σ H (.int j)) : PDT X (.Compare a [.GtE] [b] pos) σ H (decide (j ≤ i)) :=
  pdt_cmp2 op_ge ha hb (nm _) fun _ _ _ _ _ hx hy q => by cases hx; cases hy; exact ⟨i, j, rfl, rfl, q _ _ (Same.refl _) (.bl _)⟩
theorem pdt_eqI (ha : PD X a σ H (.int i)) (hb : PD X b σ H (.int j)) : PDT X (.Compare a [.Eq] [b] pos) σ H (decide (i = j)) :=
  (pdt_cmp2 op_eq ha hb (nm _) fun _ _ _ _ _ hx hy q => by cases hx; cases hy; exact ⟨rfl, q _ _ (Same.refl _) (.bl _)⟩ : PDT X _ σ H (decide (V.int i = V.int j))).cast (by simp)
theorem pdt_neI (ha : PD X a σ H (.int i)) (hb : PD X b σ H (.int j)) : PDT X (.Compare a [.NotEq] [b] pos) σ H (!decide (i = j)) :=
  (pdt_cmp2 op_ne ha hb (nm _) fun _ _ _ _ _ hx hy q => by cases hx; cases hy; exact ⟨rfl, q _ _ (Same.refl _) (.bl _)⟩ : PDT X _ σ H (!decide (V.int i = V.int j))).cast (by simp)
theorem pdt_neD (hu : X.A.units + 64 < cLine) (ha : PD X a σ H d) (hb : PD X b σ H d') (o1 : pyOk d = true) (o2 : pyOk d' = true) (dp : depD d ≤ 60) : PDT X (.Compare a [.NotEq] [b] pos) σ H (!eqD d d') :=
  pdt_cmp2 (op_neD hu) ha hb (nm _) fun _ _ _ _ _ hx hy q => ⟨d, d', hx, hy, o1, o2, dp, q _ _ (Same.refl _) (.bl _)⟩
theorem pdt_isN {n : Nat} {p' : Pos} (ha : PD X a σ H d) : PDT X (.Compare a [.Is] [.Constant .none n p'] pos) σ H (isNon d) :=
  pdt_cmp2 op_isN ha pd_non (nm _) fun x y H1 Q e1 hx hy q => by
    cases hy
    refine ⟨rfl, ?_⟩
    rw [isNon_of hx]
    exact q _ _ (Same.refl _) (.bl _)
theorem pdt_notN {n : Nat} {p' : Pos} (ha : PD X a σ H d) : PDT X (.Compare a [.IsNot] [.Constant .none n p'] pos) σ H (!isNon d) :=
  pdt_cmp2 op_notN ha pd_non (nm _) fun x y H1 Q e1 hx hy q => by
    cases hy
    refine ⟨rfl, ?_⟩
    rw [isNon_of hx]
    exact q _ _ (Same.refl _) (.bl _)
theorem pdt_val (h : PD X e σ H (.bl k)) (he : ∀ whole, isTrue e X.env whole = (do let v ← whole; standAt e.pos; holding [v] (truthy v)) := by intro _; rfl) : PDT X e σ H k :=
  PDT.of (pt_val h he) fun H1 Q e1 q => ⟨rfl, e1, fun v H2 e2 hv => by cases hv; exact ⟨k, rfl, q _ e2⟩⟩
variable {rest : List Expr}
theorem pdw_and1 (ha : PDT X a σ H k) : PDW X (.BoolOp .And [a] pos) σ H k := pw_and1 ha
theorem pdw_or1 (ha : PDT X a σ H k) : PDW X (.BoolOp .Or [a] pos) σ H k := pw_or1 ha
theorem pdw_and (ha : PDT X a σ H k) (hb : k = true → PDW X (.BoolOp .And (b :: rest) pos) σ H k') : PDW X (.BoolOp .And (a :: b :: rest) pos) σ H (k && k') :=
  PW.imp (pw_and ha (PW.guard hb)) fun σ' H1 Q ⟨hs, e1, q⟩ => ⟨hs, e1, fun H2 e2 => by
    cases k with
    | true => exact ⟨rfl, hs, e1.trans e2, fun H3 e3 => q H3 (e2.trans e3)⟩
    | false => exact q H2 e2⟩
theorem pdw_or (ha : PDT X a σ H k) (hb : k = false → PDW X (.BoolOp .Or (b :: rest) pos) σ H k') : PDW X (.BoolOp .Or (a :: b :: rest) pos) σ H (k || k') :=
  PW.imp (pw_or ha (PW.guard hb)) fun σ' H1 Q ⟨hs, e1, q⟩ => ⟨hs, e1, fun H2 e2 => by
    cases k with
    | true => exact q H2 e2
    | false => exact ⟨rfl, hs, e1.trans e2, fun H3 e3 => q H3 (e2.trans e3)⟩⟩
theorem pdt_not (ha : PDT X a σ H k) : PDT X (.UnaryOp .Not a pos) σ H (!k) := PT.imp (pt_not ha) fun _ _ _ ⟨hs, e1, q⟩ => ⟨hs, e1, q⟩
theorem pd_one {op : BoolOp} (h : PD X a σ H d) : PD X (.BoolOp op [a] pos) σ H d := pe_one h
theorem pd_and (ha : PD X a σ H (.bl k)) (hb : k = true → PD X (.BoolOp .And (b :: rest) pos) σ H (.bl k')) : PD X (.BoolOp .And (a :: b :: rest) pos) σ H (.bl (k && k')) :=
  PD.of (pe_and ha (PE.guard hb)) fun H1 Q e1 q => ⟨rfl, e1, fun v H2 e2 hv => by
    cases hv
    refine ⟨k, rfl, ?_⟩
    cases k with
    | true => exact ⟨rfl, rfl, e1.trans e2, fun v H3 e3 hv => q _ _ (e2.trans e3) hv⟩
    | false => exact q _ _ e2 (.bl false)⟩
theorem pd_or (ha : PD X a σ H (.bl k)) (hb : k = false → PD X (.BoolOp .Or (b :: rest) pos) σ H (.bl k')) : PD X (.BoolOp .Or (a :: b :: rest) pos) σ H (.bl (k || k')) :=
  PD.of (pe_or ha (PE.guard hb)) fun H1 Q e1 q => ⟨rfl, e1, fun v H2 e2 hv => by
    cases hv
    refine ⟨k, rfl, ?_⟩
    cases k with
    | true => exact q _ _ e2 (.bl true)
    | false => exact ⟨rfl, rfl, e1.trans e2, fun v H3 e3 hv => q _ _ (e2.trans e3) hv⟩⟩
theorem pd_not (ha : PD X a σ H (.bl k)) : PD X (.UnaryOp .Not a pos) σ H (.bl (!k)) :=
  PD.of (pe_not ha) fun H1 Q e1 q => ⟨rfl, e1, fun v H2 e2 hv => by cases hv; exact ⟨k, rfl, q _ _ e2 (.bl _)⟩⟩
theorem pd_ifExp (hc : PDT X c σ H k) (ha : k = true → PD X a σ H d) (hb : k = false → PD X b σ H d') : PD X (.IfExp c a b pos) σ H (if k = true then d else d') :=
  PD.of (pe_ifExp hc (PE.guard ha) (PE.guard hb)) fun H1 Q e1 q => ⟨rfl, e1, fun H2 e2 => by
    cases k with
    | true => exact ⟨rfl, rfl, e1.trans e2, fun v H3 e3 hv => q _ _ (e2.trans e3) hv⟩
    | false => exact ⟨rfl, rfl, e1.trans e2, fun v H3 e3 hv => q _ _ (e2.trans e3) hv⟩⟩
theorem pda_nil : PDA X [] σ H [] := PA.imp pa_nil fun _ _ _ ⟨_, _, q⟩ => q _ _ (Same.refl _) .nil
theorem pda_cons (ha : PD X e σ H d) (hr : PDA X es σ H ds) (hs : starEach (e :: es) X.env = (false, eval e X.env) :: starEach es X.env := by rfl) : PDA X (e :: es) σ H (d :: ds) :=
  PA.imp (pa_cons ha hr hs) fun σ' H1 Q ⟨hs, e1, q⟩ => ⟨hs, e1, fun v H2 e2 hv => ⟨hs, e1.trans e2, fun vs H3 e3 hvs => q _ _ (e2.trans e3) (.cons (hv.mono e3) hvs)⟩⟩
end
end L3
set_option Elab.async false
set_option linter.all false
set_option maxRecDepth 100000
namespace L3
open PySem PySem.Spec PyProof.Rows L2
section
variable {X : Cx} {e a b c o : Expr} {es : List Expr} {σ : L2.St} {H H' : Hp} {d d' : D} {ds : List D} {pos : Pos} {i j : Int} {k k' : Bool}
theorem pd_globI {x : Str} {t : Tok} (hm : X.mg x = some (.int i t)) (hg : Gl X x := by rfl) (hdb : (x == ("__debug__" : Str)) = false := by decide) : PD X (.Name x pos) σ H (.int i) :=
  pd_glob (v := .int i) hm ⟨t, rfl⟩ (.int i) hg hdb
theorem pd_globR {x : Str} {q : Addr} (hm : X.mg x = some (.ref q)) (hd : Is X.K H d (.ref q)) (hg : Gl X x := by rfl) (hdb : (x == ("__debug__" : Str)) = false := by decide) : PD X (.Name x pos) σ H d :=
  pd_glob (v := .ref q) hm rfl hd hg hdb
theorem pd_tup {x1 : Nat} (h : PDA X es σ H ds) (hl : ds.length ≤ 1000 := by simp) : PD X (.Tuple es x1 pos) σ H (.tup ds) :=
  PD.of (pe_tup h) fun H1 Q e1 q => ⟨rfl, e1, fun vs H2 e2 hvs => ⟨Nat.le_of_lt (small1000 (by rw [← hvs.length]; exact hl)), fun p hp =>
    q _ _ (e2.trans (same_upd hp)) (.tup (SqT.of upd_same) (hvs.mono (same_upd hp)))⟩⟩
theorem pd_lst (h : PDA X es σ H ds) (hl : ds.length ≤ 1000 := by simp) : PD X (.List es pos) σ H (.lst ds) :=
  PD.of (pe_lst h) fun H1 Q e1 q => ⟨rfl, e1, fun vs H2 e2 hvs => ⟨Nat.le_of_lt (small1000 (by rw [← hvs.length]; exact hl)), fun p hp =>
    q _ _ (e2.trans (same_upd hp)) (.lst (SqL.of upd_same) (hvs.mono (same_upd hp)))⟩⟩
theorem pd_ixT (ha : PD X a σ H (.tup ds)) (hb : PD X b σ H (.int i)) (hi : atI ds i = some d := by rfl) (hs : PlainIx b := by intro _ _; rfl) : PD X (.Subscript a b pos) σ H d :=
  PD.of (pe_ix ix_tup ha hb hs) fun H1 Q e1 q => ⟨rfl, e1, fun x H2 e2 hx => ⟨rfl, e1.trans e2, fun y H3 e3 hy => by
    cases hy
    cases hx with
    | tup hq l =>
      obtain ⟨v, hv, hd⟩ := IsL.atI l hi
      exact ⟨_, _, i, v, rfl, rfl, sameT e3 hq, hv, q _ _ (e2.trans e3) (hd.mono e3)⟩⟩⟩
theorem pd_ixL (ha : PD X a σ H (.lst ds)) (hb : PD X b σ H (.int i)) (hi : atI ds i = some d := by rfl) (hs : PlainIx b := by intro _ _; rfl) : PD X (.Subscript a b pos) σ H d :=
  PD.of (pe_ix ix_list ha hb hs) fun H1 Q e1 q => ⟨rfl, e1, fun x H2 e2 hx => ⟨rfl, e1.trans e2, fun y H3 e3 hy => by
    cases hy
    cases hx with
    | lst hq l =>
      obtain ⟨v, hv, hd⟩ := IsL.atI l hi
      exact ⟨_, _, i, v, rfl, rfl, e3.seq hq, hv, q _ _ (e2.trans e3) (hd.mono e3)⟩⟩⟩
theorem pd_B {id : String} {x : Str} {p : Pos} {r : List V → Hp → VK → Prop} (hc : CallR X (.builtin id) r) (hm : X.mg x = none) (hv : bootBuiltins x = some (.builtin id)) (ha : PDA X (e :: es) σ H ds)
    (f : ∀ vs H1 Q, Same H H1 → IsL X.K H1 ds vs → (∀ v H2, Same H1 H2 → Is X.K H2 d v → Q v H2) → r vs H1 Q)
    (hg : Gl X x := by rfl) (hn : x ≠ "__name__" := by decide) (hdb : (x == ("__debug__" : Str)) = false := by decide)
    (he : starEach (e :: es) X.env = (false, eval e X.env) :: starEach es X.env := by rfl) (hpl : (backTo pos (starEach es X.env)).any (·.1) = false := by rfl) : PD X (.Call (.Name x p) (e :: es) [] pos) σ H d :=
  PD.of (pe_callB hc hg hm hv ha hn hdb he hpl) fun H1 Q e1 q => ⟨rfl, e1, fun vs H2 e2 hvs => f vs H2 Q (e1.trans e2) hvs fun v H3 e3 hv => q _ _ (e2.trans e3) hv⟩
theorem pd_T {T : String} {x : Str} {p : Pos} {r : List V → Hp → VK → Prop} (hc : CallR X (.type T) r) (hm : X.mg x = none) (hv : bootBuiltins x = some (.type T)) (ha : PDA X (e :: es) σ H ds)
    (f : ∀ vs H1 Q, Same H H1 → IsL X.K H1 ds vs → (∀ v H2, Same H1 H2 → Is X.K H2 d v → Q v H2) → r vs H1 Q)
    (hg : Gl X x := by rfl) (hn : x ≠ "__name__" := by decide) (hdb : (x == ("__debug__" : Str)) = false := by decide)
    (he : starEach (e :: es) X.env = (false, eval e X.env) :: starEach es X.env := by rfl) (hpl : (backTo pos (starEach es X.env)).any (·.1) = false := by rfl) : PD X (.Call (.Name x p) (e :: es) [] pos) σ H d :=
  PD.of (pe_callTy hc hg hm hv ha hn hdb he hpl) fun H1 Q e1 q => ⟨rfl, e1, fun vs H2 e2 hvs => f vs H2 Q (e1.trans e2) hvs fun v H3 e3 hv => q _ _ (e2.trans e3) hv⟩
variable {p : Pos}
def absI (i : Int) : Int := if i < 0 then -i else i
theorem pd_abs (hm : X.mg "abs" = none) (ha : PD X a σ H (.int i)) (hg : Gl X "abs" := by rfl) (he : starEach [a] X.env = (false, eval a X.env) :: starEach [] X.env := by rfl) : PD X (.Call (.Name "abs" p) [a] [] pos) σ H (.int (absI i)) :=
  pd_B call_abs hm (by decide +kernel) (pda_cons ha pda_nil he) (fun vs H1 Q e1 hvs q => by
    cases hvs with | cons h l => cases h; cases l; exact ⟨i, rfl, q _ _ (Same.refl _) (.int _)⟩) hg (by decide) (by decide) he rfl
def dP (q : Int × Int) : D := .tup [.int q.1, .int q.2]
def mxP (q : Int × Int) : Int := if q.2 > q.1 then q.2 else q.1
def mnP (q : Int × Int) : Int := if q.2 < q.1 then q.2 else q.1
theorem dP_inv {K : PySem.W.Frag} {q : Int × Int} {v : V} (h : Is K H (dP q) v) : ∃ a, v = .ref a ∧ SqT K H a [.int q.1, .int q.2] := by
  cases h with
  | tup hq l =>
    cases l with | cons h1 l => cases l with | cons h2 l => cases l; cases h1; cases h2; exact ⟨_, rfl, hq⟩
theorem pd_max {q : Int × Int} (hc : X.calm = true) (hm : X.mg "max" = none) (ha : PD X a σ H (dP q)) (hg : Gl X "max" := by rfl) (he : starEach [a] X.env = (false, eval a X.env) :: starEach [] X.env := by rfl) : PD X (.Call (.Name "max" p) [a] [] pos) σ H (.int (mxP q)) :=
  pd_B (call_maxT hc) hm (by decide +kernel) (pda_cons ha pda_nil he) (fun vs H1 Q e1 hvs k => by
    cases hvs with
    | cons h l =>
      cases l
      obtain ⟨a, rfl, hq⟩ := dP_inv h
      exact ⟨a, q.1, q.2, rfl, hq, k _ _ (Same.refl _) (.int _)⟩) hg (by decide) (by decide) he rfl
theorem pd_min {q : Int × Int} (hc : X.calm = true) (hm : X.mg "min" = none) (ha : PD X a σ H (dP q)) (hg : Gl X "min" := by rfl) (he : starEach [a] X.env = (false, eval a X.env) :: starEach [] X.env := by rfl) : PD X (.Call (.Name "min" p) [a] [] pos) σ H (.int (mnP q)) :=
  pd_B (call_minT hc) hm (by decide +kernel) (pda_cons ha pda_nil he) (fun vs H1 Q e1 hvs k => by
    cases hvs with
    | cons h l =>
      cases l
      obtain ⟨a, rfl, hq⟩ := dP_inv h
      exact ⟨a, q.1, q.2, rfl, hq, k _ _ (Same.refl _) (.int _)⟩) hg (by decide) (by decide) he rfl
theorem pd_lenL (hm : X.mg "len" = none) (ha : PD X a σ H (.lst ds)) (hg : Gl X "len" := by rfl) (he : starEach [a] X.env = (false, eval a X.env) :: starEach [] X.env := by rfl) : PD X (.Call (.Name "len" p) [a] [] pos) σ H (.int ds.length) :=
  pd_B call_len_seq hm PySem.boot_len (pda_cons ha pda_nil he) (fun vs H1 Q e1 hvs k => by
    cases hvs with
    | cons h l =>
      cases l
      cases h with
      | lst hq l => exact ⟨_, _, rfl, .inl hq, by rw [← l.length]; exact k _ _ (Same.refl _) (.int _)⟩) hg (by decide) (by decide) he rfl
theorem pd_isi {T t : String} (hm : X.mg "isinstance" = none) (ha : PD X a σ H d) (hb : PD X b σ H (.ty T)) (ht : tyD d = some t) (hk : PySem.W.kitOne X.K (.type t) (.type T) = some k := by rfl)
    (hg : Gl X "isinstance" := by rfl) (he : starEach [a, b] X.env = (false, eval a X.env) :: starEach [b] X.env := by rfl) (he2 : starEach [b] X.env = (false, eval b X.env) :: starEach [] X.env := by rfl)
    (hpl : (backTo pos (starEach [b] X.env)).any (·.1) = false := by rfl) : PD X (.Call (.Name "isinstance" p) [a, b] [] pos) σ H (.bl k) :=
  pd_B call_isi hm (by decide +kernel) (pda_cons ha (pda_cons hb pda_nil he2) he) (fun vs H1 Q e1 hvs q => by
    cases hvs with
    | cons h l =>
      cases l with
      | cons h2 l =>
        cases l; cases h2
        exact ⟨d, _, T, t, k, rfl, h, ht, hk, q _ _ (Same.refl _) (.bl _)⟩) hg (by decide) (by decide) he hpl
theorem pd_tupL (hm : X.mg "tuple" = none) (ha : PD X a σ H (.lst ds)) (hg : Gl X "tuple" := by rfl) (he : starEach [a] X.env = (false, eval a X.env) :: starEach [] X.env := by rfl) : PD X (.Call (.Name "tuple" p) [a] [] pos) σ H (.tup ds) :=
  pd_T call_tuple_of hm (by decide +kernel) (pda_cons ha pda_nil he) (fun vs H1 Q e1 hvs q => by
    cases hvs with
    | cons h l =>
      cases l
      cases h with
      | lst hq l => exact ⟨_, _, rfl, .inl ⟨hq, fun p hp => q _ _ (same_upd hp) (.tup (SqT.of upd_same) (l.mono (same_upd hp)))⟩⟩) hg (by decide) (by decide) he rfl
theorem pd_indexT {q : Int × Int} {apos : Pos} (ho : PD X o σ H (dP q)) (ha : PD X a σ H (.int i)) (hi : q.1 = i ∨ q.2 = i)
    (hbase : attributeBase o "index" X.env (eval o X.env) = eval o X.env := by rfl)
    (hfew : ((backTo pos (starEach [a] X.env)).all (fun x => !x.1) && (backToKw pos (keywordEach [] X.env)).all (fun x => x.1.isSome)
      && decide ([a].length + ([] : List Keyword).length + (if ([] : List Keyword).isEmpty then 0 else 1) < 30)) = true := by rfl)
    (hline : (apos.endLine == pos.line) = true := by rfl) (hs : starEach [a] X.env = (false, eval a X.env) :: starEach [] X.env := by rfl) (hplain : (backTo pos (starEach [] X.env)).any (·.1) = false := by rfl) :
    PD X (.Call (.Attribute o "index" apos) [a] [] pos) σ H (.int (if q.1 = i then 0 else 1)) :=
  PD.of (pe_bm PySem.F.plainAttrs_tuple PySem.F.slot_tuple_index PySem.F.type_tuple_index mt_indexT ho (pda_cons ha pda_nil hs) hbase hfew hline hs hplain) fun H1 Q e1 k => ⟨rfl, e1, fun v H2 e2 hv => by
    obtain ⟨a', rfl, hq⟩ := dP_inv hv
    refine ⟨.inr (.inl ⟨rfl, _, hq⟩), rfl, e1.trans e2, fun vs H3 e3 hvs => ?_⟩
    cases hvs with
    | cons h l =>
      cases l; cases h
      exact ⟨a', q.1, q.2, i, rfl, rfl, sameT e3 hq, hi, k _ _ (e2.trans e3) (.int _)⟩⟩
def spD (K : PySem.W.Frag) (R : List D → D → Prop) : Sp := fun vs H Q _ => ∃ ds r, IsL K H ds vs ∧ R ds r ∧ ∀ v H', Same H H' → Is K H' r v → Q v H'
theorem pd_call {CX : CXT} {n : Nat} {f : Addr} {fd : FuncData} {ps : List Str} {R : List D → D → Prop} {x : Str} (F : FnOk X.prog X.w X.K X.mg X.base CX n f fd ps (spD X.K R)) (hr : Room n X.A) (hm : X.mg x = some (.ref f))
    (hk : PySem.W.keepIn X.K (.ref f) = true) (hb : Binds X.K fd ps []) (hx : Passes CX X E0) (ha : PDA X (e :: es) σ H ds) (hR : R ds d) (hg : Gl X x := by rfl) (hdb : (x == ("__debug__" : Str)) = false := by decide)
    (he : starEach (e :: es) X.env = (false, eval e X.env) :: starEach es X.env := by rfl) (hpl : (backTo pos (starEach es X.env)).any (·.1) = false := by rfl) : PD X (.Call (.Name x p) (e :: es) [] pos) σ H d :=
  PD.of (pe_call (dvs := []) F hr hg hm hk hb .nil hx ha hdb he hpl) fun H1 Q e1 q => ⟨rfl, e1, fun vs H2 e2 hvs => ⟨ds, d, by rw [List.append_nil]; exact hvs, hR, fun v H3 e3 hv => q _ _ (e2.trans e3) hv⟩⟩
theorem pd_call0 {CX : CXT} {n : Nat} {f : Addr} {fd : FuncData} {ps : List Str} {R : List D → D → Prop} {x : Str} (F : FnOk X.prog X.w X.K X.mg X.base CX n f fd ps (spD X.K R)) (hr : Room n X.A) (hm : X.mg x = some (.ref f))
    (hk : PySem.W.keepIn X.K (.ref f) = true) (hb : Binds X.K fd ps []) (hx : Passes CX X E0) (hR : R [] d) (hg : Gl X x := by rfl) (hdb : (x == ("__debug__" : Str)) = false := by decide) : PD X (.Call (.Name x p) [] [] pos) σ H d :=
  PD.of (pe_call0 (dvs := []) F hr hg hm hk hb .nil hx hdb) fun H1 Q e1 q => ⟨[], d, .nil, hR, fun v H3 e3 hv => q _ _ e3 hv⟩
theorem pd_meth0 {CX : CXT} {n : Nat} {f C : Addr} {fd : FuncData} {ps : List Str} {R : List D → D → Prop} {m : Str} {apos : Pos} {fs : List (Str × V)} {pl : Sem Bool} (ho : PD X o σ H (.obj C fs)) (hc : Cls X.K C) (hm : Meth X.K C m f)
    (F : FnOk X.prog X.w X.K X.mg X.base CX n f fd ps (spD X.K R)) (hr : Room n X.A) (hb : Binds X.K fd ps []) (hx : Passes CX X E0) (hl : fs.lookup m = none) (hR : R [.obj C fs] d)
    (ht : eval (.Call (.Attribute o m apos) [] [] pos) X.env = (do
      let ov ← eval o X.env
      standAt apos.atName
      let (f, first) ← holding [ov] (getMethod ov m pl)
      callWith pos f first (backTo pos (starEach [] X.env)) (backToKw pos (keywordEach [] X.env))) := by rfl) : PD X (.Call (.Attribute o m apos) [] [] pos) σ H d :=
  PD.of (pe_meth0 (dvs := []) ho hc hm F hr hb .nil hx ht) fun H1 Q e1 q => ⟨rfl, e1, fun v H2 e2 hv => by
    cases hv with
    | obj h => exact ⟨_, _, fs, rfl, h, hl, [.obj C fs], d, .cons (.obj h) .nil, hR, fun v H3 e3 hv => q _ _ (e2.trans e3) hv⟩⟩
theorem pd_fld {C : Addr} {f : Str} {fs : List (Str × V)} {v : V} (ho : PD X o σ H (.obj C fs)) (hc : Cls X.K C) (hn : NoAttr X.K C f) (hl : fs.lookup f = some v) (hd : ∀ H, Is X.K H d v)
    (hb : attributeBase o f X.env (eval o X.env) = eval o X.env := by rfl) : PD X (.Attribute o f pos) σ H d :=
  PD.of (pe_fld ho hb) fun H1 Q e1 q => ⟨rfl, e1, fun x H2 e2 hx => by
    cases hx with
    | obj h => exact ⟨_, C, _, fs, v, rfl, h, hc, hn, hl, q _ _ e2 (hd _)⟩⟩
end
def tR (K : PySem.W.Frag) (σ : L2.St) (H : Hp) (r : D) : TS := fun E σ' H1 => σ' = σ ∧ Same H H1 ∧ ∀ v H2, Same H1 H2 → Is K H2 r v → E.rt v H2
def PR (X : Cx) (st : List Stmt) (σ : L2.St) (H : Hp) (r : D) : Prop := PSs X st (tR X.K σ H r)
def tF (K : PySem.W.Frag) (σ : L2.St) (H : Hp) : TS := fun E σ' H1 => σ' = σ ∧ Same H H1 ∧ ∀ σ2 H2, Same H1 H2 → E.nx σ2 H2
def PF (X : Cx) (st : List Stmt) (σ : L2.St) (H : Hp) : Prop := PSs X st (tF X.K σ H)
def tN (σ : L2.St) (H : Hp) (Post : L2.St → Hp → Prop) : TS := fun E σ' H1 => σ' = σ ∧ Same H H1 ∧ ∀ σ2 H2, Same H1 H2 → Post σ2 H2 → E.nx σ2 H2
def PN1 (X : Cx) (st : Stmt) (σ : L2.St) (H : Hp) (Post : L2.St → Hp → Prop) : Prop := PS X st (tN σ H Post)
def PN (X : Cx) (st : List Stmt) (σ : L2.St) (H : Hp) (Post : L2.St → Hp → Prop) : Prop := PSs X st (tN σ H Post)
section
variable {X : Cx} {e c : Expr} {σ : L2.St} {H H' : Hp} {d r r' : D} {k : Bool} {pos : Pos} {st : Stmt} {sts rest els : List Stmt} {Post : L2.St → Hp → Prop}
theorem PS.imp {t t' : TS} (h : PS X st t) (f : ∀ D σ H, t' D σ H → t D σ H) : PS X st t' := fun pins s σ H D I q => h pins s σ H D I (f _ _ _ q)
theorem PSs.imp {t t' : TS} (h : PSs X sts t) (f : ∀ D σ H, t' D σ H → t D σ H) : PSs X sts t' := fun pins s σ H D I q => h pins s σ H D I (f _ _ _ q)
theorem PSs.guard {p : Prop} {t : TS} (h : p → PSs X sts t) : PSs X sts (fun D σ H => p ∧ t D σ H) := fun pins s σ H D I q => h q.1 pins s σ H D I q.2
theorem PR.cast (h : PR X sts σ H r) (q : r = r') : PR X sts σ H r' := q ▸ h
def tAfter (K : PySem.W.Frag) (H : Hp) (P : L2.St → Hp → Prop) (r : D) : TS := fun E σ' H1 => P σ' H1 ∧ Same H H1 ∧ ∀ v H2, Same H1 H2 → Is K H2 r v → E.rt v H2
theorem pr_after {P : L2.St → Hp → Prop} (h : ∀ σ' H', Same H H' → P σ' H' → PR X rest σ' H' r) : PSs X rest (tAfter X.K H P r) := fun pins s σ' H1 D I ⟨p, e1, q⟩ =>
  h σ' H1 e1 p pins s σ' H1 D I ⟨rfl, Same.refl _, q⟩
theorem pr_ret (h : PD X e σ H d) : PR X (.Return (some e) pos :: rest) σ H d :=
  PSs.imp (pss_cons (ps_ret h) pss_never) fun D σ' H1 ⟨hs, e1, q⟩ => ⟨hs, e1, fun v H2 e2 hv => q v H2 e2 hv⟩
theorem pr_set (i : Nat) {x : Str} {pos' : Pos} (hN : X.N.Nodup) (he : PD X e σ H d) (h : ∀ v H', Same H H' → Is X.K H' d v → PR X rest (σ.set i (some v)) H' r) (hi : X.N[i]? = some x := by rfl)
    (hx : Loc X.env.scope x := by first | exact Or.inl rfl | exact Or.inr rfl) (hs : swapsWith e (some (.Name x pos')) pos.line X.env = pure false := by rfl)
    (hf : X.fn x = true ∨ X.env.scope.names.lookup x = some .local := by first | exact .inl rfl | exact .inr rfl | assumption) : PR X (.Assign [.Name x pos'] e pos :: rest) σ H r :=
  PSs.imp (pss_cons (ps_set hN hi hx he hs hf) (pr_after (H := H) (P := fun σ' H' => ∃ v, σ' = σ.set i (some v) ∧ Is X.K H' d v) fun σ' H' e1 ⟨v, e2, hv⟩ => by subst e2; exact h v H' e1 hv)) fun D σ' H1 ⟨hs, e1, q⟩ => by
    subst hs
    exact ⟨rfl, e1, fun v H2 e2 hv => ⟨⟨v, rfl, hv⟩, e1.trans e2, fun v H3 e3 hv => q v H3 (e2.trans e3) hv⟩⟩
theorem pr_if (hc : PDT X c σ H k) (ha : k = true → PR X sts σ H r) (hb : k = false → PR X rest σ H r) : PR X (.If c sts [] pos :: rest) σ H r :=
  PSs.imp (pss_cons (ps_if hc (PSs.guard ha) pss_nil) (PSs.guard hb)) fun D σ' H1 ⟨hs, e1, q⟩ => ⟨hs, e1, fun H2 e2 => by
    subst hs
    cases k with
    | true => exact ⟨rfl, rfl, e1.trans e2, fun v H3 e3 hv => q v H3 (e2.trans e3) hv⟩
    | false => exact ⟨rfl, rfl, e1.trans e2, fun v H3 e3 hv => q v H3 (e2.trans e3) hv⟩⟩
theorem pr_cons (h1 : PN1 X st σ H Post) (h : ∀ σ' H', Same H H' → Post σ' H' → PR X rest σ' H' r) : PR X (st :: rest) σ H r :=
  PSs.imp (pss_cons h1 (pr_after h)) fun D σ' H1 ⟨hs, e1, q⟩ => ⟨hs, e1, fun σ2 H2 e2 p => ⟨p, e1.trans e2, fun v H3 e3 hv => q v H3 (e2.trans e3) hv⟩⟩
theorem pn1_if (hc : PDT X c σ H k) (ha : k = true → PN X sts σ H Post) (hb : k = false → PN X els σ H Post) : PN1 X (.If c sts els pos) σ H Post :=
  PS.imp (ps_if hc (PSs.guard ha) (PSs.guard hb)) fun D σ' H1 ⟨hs, e1, q⟩ => ⟨hs, e1, fun H2 e2 => by
    subst hs
    cases k with
    | true => exact ⟨rfl, rfl, e1.trans e2, fun σ3 H3 e3 p => q σ3 H3 (e2.trans e3) p⟩
    | false => exact ⟨rfl, rfl, e1.trans e2, fun σ3 H3 e3 p => q σ3 H3 (e2.trans e3) p⟩⟩
theorem pn_nil (h : ∀ H', Same H H' → Post σ H') : PN X [] σ H Post :=
  PSs.imp pss_nil fun D σ' H1 ⟨hs, e1, q⟩ => by subst hs; exact q _ _ (Same.refl _) (h H1 e1)
def tAfterN (H : Hp) (P Post : L2.St → Hp → Prop) : TS := fun E σ' H1 => P σ' H1 ∧ Same H H1 ∧ ∀ σ2 H2, Same H1 H2 → Post σ2 H2 → E.nx σ2 H2
theorem pn_after {P : L2.St → Hp → Prop} (h : ∀ σ' H', Same H H' → P σ' H' → PN X rest σ' H' Post) : PSs X rest (tAfterN H P Post) := fun pins s σ' H1 D I ⟨p, e1, q⟩ =>
  h σ' H1 e1 p pins s σ' H1 D I ⟨rfl, Same.refl _, q⟩
theorem pn_cons {P : L2.St → Hp → Prop} (h1 : PN1 X st σ H P) (h : ∀ σ' H', Same H H' → P σ' H' → PN X rest σ' H' Post) : PN X (st :: rest) σ H Post :=
  PSs.imp (pss_cons h1 (pn_after h)) fun D σ' H1 ⟨hs, e1, q⟩ => ⟨hs, e1, fun σ2 H2 e2 p => ⟨p, e1.trans e2, fun σ3 H3 e3 hv => q σ3 H3 (e2.trans e3) hv⟩⟩
theorem pn_one (h1 : PN1 X st σ H Post) : PN X [st] σ H Post := pss_one h1
theorem pn1_set (i : Nat) {x : Str} {pos' : Pos} (hN : X.N.Nodup) (he : PD X e σ H d) (h : ∀ v H', Same H H' → Is X.K H' d v → Post (σ.set i (some v)) H') (hi : X.N[i]? = some x := by rfl)
    (hx : Loc X.env.scope x := by first | exact Or.inl rfl | exact Or.inr rfl) (hs : swapsWith e (some (.Name x pos')) pos.line X.env = pure false := by rfl)
    (hf : X.fn x = true ∨ X.env.scope.names.lookup x = some .local := by first | exact .inl rfl | exact .inr rfl | assumption) : PN1 X (.Assign [.Name x pos'] e pos) σ H Post :=
  PS.imp (ps_set hN hi hx he hs hf) fun D σ' H1 ⟨hs, e1, q⟩ => by
    subst hs
    exact ⟨rfl, e1, fun v H2 e2 hv => q _ _ e2 (h v H2 (e1.trans e2) hv)⟩
theorem pn1_expr (he : PD X e σ H d) (h : ∀ H', Same H H' → Post σ H') (hs : swapsWith e none pos.line X.env = pure false := by rfl) : PN1 X (.Expr e pos) σ H Post :=
  PS.imp (ps_expr he hs) fun D σ' H1 ⟨hs, e1, q⟩ => by
    subst hs
    exact ⟨rfl, e1, fun v H2 e2 hv => q _ _ e2 (h H2 (e1.trans e2))⟩
theorem pf_of (h : PN X sts σ H fun _ _ => True) : PF X sts σ H := PSs.imp h fun D σ' H1 ⟨hs, e1, q⟩ => ⟨hs, e1, fun σ2 H2 e2 _ => q σ2 H2 e2⟩
variable {body : List Stmt} {iter : Expr} {ds : List D}
def tTurn (K : PySem.W.Frag) (H : Hp) (n : Nat) (at' : Nat → D → Prop) (P : Nat → L2.St → Hp → Prop) : TS := fun E σ' H1 => ∃ i d v σ1, at' i d ∧ Same H H1 ∧ P i σ1 H1 ∧ Is K H1 d v ∧ σ' = σ1.set n (some v) ∧ ∀ σ2 H2, Same H1 H2 → P (i + 1) σ2 H2 → E.nx σ2 H2
theorem turn_of {n : Nat} {at' : Nat → D → Prop} {P : Nat → L2.St → Hp → Prop} (h : ∀ i d v σ1 H1, at' i d → Same H H1 → P i σ1 H1 → Is X.K H1 d v → PN X body (σ1.set n (some v)) H1 (P (i + 1))) : PSs X body (tTurn X.K H n at' P) :=
  fun pins s σ' H1 D I ⟨i, d, v, σ1, ha, e1, p, hv, hs, q⟩ => by
    subst hs
    exact h i d v σ1 H1 ha e1 p hv pins s _ H1 D I ⟨rfl, Same.refl _, q⟩
theorem pn1_forL (n : Nat) {x : Str} {px : Pos} (P : Nat → L2.St → Hp → Prop) (hp : PassesOwn (model X.prog X.w) X.A X.env X.xe) (hc : X.calm = true) (hN : X.N.Nodup) (he : PD X iter σ H (.lst ds))
    (h0 : ∀ H', Same H H' → P 0 σ H') (hs : ∀ i d v σ1 H1, ds[i]? = some d → Same H H1 → P i σ1 H1 → Is X.K H1 d v → PN X body (σ1.set n (some v)) H1 (P (i + 1)))
    (hd : ∀ σ1 H1, Same H H1 → P ds.length σ1 H1 → Post σ1 H1) (hi : X.N[n]? = some x := by rfl) (hx : Loc X.env.scope x := by first | exact Or.inl rfl | exact Or.inr rfl)
    (hf : X.fn x = true ∨ X.env.scope.names.lookup x = some .local := by first | exact .inl rfl | exact .inr rfl | assumption) (hfs : ∀ x, foldedSetIterable iter X.env x = pure x := by intro _; rfl) :
    PN1 X (.For (.Name x px) iter body [] pos) σ H Post :=
  PS.imp (ps_for hp hc (pi_list he) (pg_name hN hi hx hf) (turn_of (H := H) (at' := fun i d => ds[i]? = some d) hs) hfs) fun E σ' H1 ⟨hss, e1, q⟩ => ⟨hss, e1, fun v H2 e2 hv => by
    subst hss
    cases hv with
    | lst hq l =>
      refine ⟨_, rfl, ⟨_, hq⟩, for_list (K := X.K) (xs := _) (fun i σ1 H3 => Same H2 H3 ∧ P i σ1 H3) ⟨Same.refl _, h0 _ (e1.trans e2)⟩ (fun i σ1 H3 _ ⟨e3, _⟩ => e3.seq hq) (fun i y σ1 H3 hy ⟨e3, p⟩ => ?_) (fun σ1 H3 ⟨e3, p⟩ => ?_)⟩
      · obtain ⟨d, hd1, hd2⟩ := l.get' hy
        exact ⟨i, d, y, σ1, hd1, (e1.trans e2).trans e3, p, hd2.mono e3, rfl, fun σ2 H4 e4 p4 => ⟨e3.trans e4, p4⟩⟩
      · rw [← l.length] at p
        exact q σ1 H3 (e2.trans e3) (hd σ1 H3 ((e1.trans e2).trans e3) p)⟩
theorem pn1_forR {j : Int} {a : Expr} {p pos1 : Pos} (n : Nat) {x : Str} {px : Pos} (P : Nat → L2.St → Hp → Prop) (hp : PassesOwn (model X.prog X.w) X.A X.env X.xe) (hc : X.calm = true) (hN : X.N.Nodup) (hm : X.mg "range" = none) (he : PD X a σ H (.int j)) (hj : -(2 ^ 62) ≤ j ∧ j < 2 ^ 62)
    (h0 : ∀ H', Same H H' → P 0 σ H') (hs : ∀ (i : Nat) σ1 H1, i < j.toNat → Same H H1 → P i σ1 H1 → PN X body (σ1.set n (some (.int i))) H1 (P (i + 1)))
    (hd : ∀ σ1 H1, Same H H1 → P j.toNat σ1 H1 → Post σ1 H1) (hi : X.N[n]? = some x := by rfl) (hx : Loc X.env.scope x := by first | exact Or.inl rfl | exact Or.inr rfl)
    (hf : X.fn x = true ∨ X.env.scope.names.lookup x = some .local := by first | exact .inl rfl | exact .inr rfl | assumption) (hg : Gl X "range" := by rfl)
    (hst : starEach [a] X.env = [(false, eval a X.env)] := by rfl) (hfs : ∀ x, foldedSetIterable (.Call (.Name "range" p) [a] [] pos1) X.env x = pure x := by intro _; rfl) :
    PN1 X (.For (.Name x px) (.Call (.Name "range" p) [a] [] pos1) body [] pos) σ H Post :=
  PS.imp (ps_for hp hc (pi_range1 hg hm (pda_cons he pda_nil hst) hst) (pg_name hN hi hx hf) (turn_of (H := H) (at' := fun i d => i < j.toNat ∧ d = .int i) (P := P) fun i d v σ1 H1 ha e1 p hv => by
      obtain ⟨hlt, hd⟩ := ha
      subst hd; cases hv
      exact hs i σ1 H1 hlt e1 p) hfs) fun E σ' H1 ⟨hss, e1, q⟩ => ⟨hss, e1, fun vs H2 e2 hvs => by
    subst hss
    cases hvs with
    | cons h l =>
      cases h; cases l
      refine ⟨j, rfl, hj.1, hj.2, for_range (fun i σ1 H3 => Same H2 H3 ∧ P i σ1 H3) ⟨Same.refl _, h0 _ (e1.trans e2)⟩ (fun i σ1 H3 hlt ⟨e3, p⟩ => ?_) (fun σ1 H3 ⟨e3, p⟩ => ?_)⟩
      · exact ⟨i, .int i, _, σ1, ⟨hlt, rfl⟩, (e1.trans e2).trans e3, p, .int i, by rw [Int.zero_add], fun σ2 H4 e4 p4 => ⟨e3.trans e4, p4⟩⟩
      · exact q σ1 H3 (e2.trans e3) (hd σ1 H3 ((e1.trans e2).trans e3) p)⟩
end
def Has (K : PySem.W.Frag) (mg : Str → Option Value) (x : Str) (st : Stmt) (ps : List Str) : Prop := ∃ f fd, Fun K x x st f fd ∧ mg x = some (.ref f) ∧ Binds K fd ps []
def Does (P : Program) (w : World) (K : PySem.W.Frag) (mg : Str → Option Value) (base : Heap) (n : Nat) (x : Str) (ps : List Str) (R : List D → D → Prop) : Prop :=
  ∃ f fd, FnOk P w K mg base CX0 n f fd ps (spD K R) ∧ mg x = some (.ref f) ∧ PySem.W.keepIn K (.ref f) = true ∧ Binds K fd ps []
abbrev cx0 (P : Program) (w : World) (K : PySem.W.Frag) (mg : Str → Option Value) (base : Heap) (N : List Str) (qual : Str) (st : Stmt) (f : Addr) (cdv : Value) (A : Around) (outer : List Env) (s : Shared) (H : Hp) (E : XK) : Cx :=
  (cxOf CX0 P w K mg base N qual (defScope st) f cdv A outer s H E).nox
section
variable {P : Program} {w : World} {K : PySem.W.Frag} {mg : Str → Option Value} {base : Heap}
theorem fun_ok {x qual : Str} {st : Stmt} {f : Addr} {fd : FuncData} {N ps : List Str} {n : Nat} {R : List D → D → Prop} (F : Fun K x qual st f fd) (S : FnScope N ps (defScope st)) (len : ∀ ds r, R ds r → ds.length = ps.length)
    (hb : ∀ (cdv : Value) (A : Around) (outer : List Env) (s : Shared) (H : Hp) (E : XK) (vs : List V) (ds : List D) (r : D), Room n (cx0 P w K mg base N qual st f cdv A outer s H E).A → IsL K H ds vs → R ds r →
      PR (cx0 P w K mg base N qual st f cdv A outer s H E) (defBody st) (start N vs) H r ∨ (r = .non ∧ PF (cx0 P w K mg base N qual st f cdv A outer s H E) (defBody st) (start N vs) H)) :
    FnOk P w K mg base CX0 (n + 1) f fd ps (spD K R) := by
  refine F.ok S (fun vs H Q E ⟨ds, r, hl, hR, _⟩ => by rw [← hl.length]; exact len ds r hR) fun cdv A outer s H vs Q E hr ⟨ds, r, hl, hR, q⟩ => ?_
  rcases hb cdv A outer s H E vs ds r hr hl hR with h | ⟨rfl, h⟩
  · exact ⟨_, h, rfl, Same.refl _, fun v H2 e2 hv => q v H2 e2 hv⟩
  · exact ⟨_, h, rfl, Same.refl _, fun σ2 H2 e2 => q _ H2 e2 .non⟩
theorem Has.does {x : Str} {st : Stmt} {N ps : List Str} {n : Nat} {R : List D → D → Prop} (h : Has K mg x st ps) (S : FnScope N ps (defScope st)) (len : ∀ ds r, R ds r → ds.length = ps.length)
    (hb : ∀ (f : Addr) (cdv : Value) (A : Around) (outer : List Env) (s : Shared) (H : Hp) (E : XK) (vs : List V) (ds : List D) (r : D), Room n (cx0 P w K mg base N x st f cdv A outer s H E).A → IsL K H ds vs → R ds r →
      PR (cx0 P w K mg base N x st f cdv A outer s H E) (defBody st) (start N vs) H r) : Does P w K mg base (n + 1) x ps R := by
  obtain ⟨f, fd, F, hm, hbd⟩ := h
  exact ⟨f, fd, fun_ok F S len fun cdv A outer s H E vs ds r hr hl hR => .inl (hb f cdv A outer s H E vs ds r hr hl hR), hm, F.kp, hbd⟩
theorem Has.doesF {x : Str} {st : Stmt} {N ps : List Str} {n : Nat} {R : List D → D → Prop} (h : Has K mg x st ps) (S : FnScope N ps (defScope st)) (len : ∀ ds r, R ds r → ds.length = ps.length) (non : ∀ ds r, R ds r → r = .non)
    (hb : ∀ (f : Addr) (cdv : Value) (A : Around) (outer : List Env) (s : Shared) (H : Hp) (E : XK) (vs : List V) (ds : List D), Room n (cx0 P w K mg base N x st f cdv A outer s H E).A → IsL K H ds vs → R ds .non →
      PF (cx0 P w K mg base N x st f cdv A outer s H E) (defBody st) (start N vs) H) : Does P w K mg base (n + 1) x ps R := by
  obtain ⟨f, fd, F, hm, hbd⟩ := h
  exact ⟨f, fd, fun_ok F S len fun cdv A outer s H E vs ds r hr hl hR => .inr ⟨non ds r hR, by obtain rfl := non ds r hR; exact hb f cdv A outer s H E vs ds hr hl hR⟩, hm, F.kp, hbd⟩
end
section
variable {X : Cx} {e : Expr} {es : List Expr} {σ : L2.St} {H : Hp} {d : D} {ds : List D} {p pos : Pos}
theorem pd_does {n : Nat} {x : Str} {ps : List Str} {R : List D → D → Prop} (h : Does X.prog X.w X.K X.mg X.base n x ps R) (hr : Room n X.A) (ha : PDA X (e :: es) σ H ds) (hR : R ds d) (hg : Gl X x := by rfl) (hdb : (x == ("__debug__" : Str)) = false := by decide)
    (he : starEach (e :: es) X.env = (false, eval e X.env) :: starEach es X.env := by rfl) (hpl : (backTo pos (starEach es X.env)).any (·.1) = false := by rfl) : PD X (.Call (.Name x p) (e :: es) [] pos) σ H d := by
  obtain ⟨f, fd, F, hm, hk, hb⟩ := h
  exact pd_call F hr hm hk hb pass0 ha hR hg hdb he hpl
theorem pd_does0 {n : Nat} {x : Str} {ps : List Str} {R : List D → D → Prop} (h : Does X.prog X.w X.K X.mg X.base n x ps R) (hr : Room n X.A) (hR : R [] d) (hg : Gl X x := by rfl) (hdb : (x == ("__debug__" : Str)) = false := by decide) : PD X (.Call (.Name x p) [] [] pos) σ H d := by
  obtain ⟨f, fd, F, hm, hk, hb⟩ := h
  exact pd_call0 F hr hm hk hb pass0 hR hg hdb
end
theorem has_mk {K : PySem.W.Frag} {h : Heap} {mg : Str → Option Value} {x : Str} {st : Stmt} {ps : List Str} {f : Addr} {oc : Value} {od an : Option Addr} {osl : Array (Option Value)} {kV doc pm cdv ct : Value} (X : K.In h) (G : h.Ns mainGlobals mg)
    (a : PySem.W.nsIn K mainGlobals x = some (some (.ref f))) (l : K.lookup f = some ⟨oc, od, .func (PySem.W.fnOf x x (defArgs st) (defBody st) (defScope st) .none kV doc pm an cdv ct), osl⟩) (c : PySem.W.codeIn K cdv x = true) (k : PySem.W.keepIn K (.ref f) = true)
    (hb : ∀ (kV doc pm : Value) (an : Option Addr) (cdv ct : Value) (us : List Value), us.length = ps.length → bindArgs (PySem.W.fnOf x x (defArgs st) (defBody st) (defScope st) .none kV doc pm an cdv ct) ⟨us, []⟩ = pure (ps.zip us)) : Has K mg x st ps :=
  let F := fun_mk (st := st) l c k
  ⟨f, _, F, PySem.W.mg_of X G a, F.binds hb⟩
end L3
set_option Elab.async false
set_option linter.all false
set_option maxRecDepth 100000
namespace L3
open PySem PySem.Spec PyProof.Rows L2
section
variable {K : PySem.W.Frag} {H : Hp} {a b c d : D} {vs : List V}
theorem isL0 (h : IsL K H [] vs) : vs = [] := by cases h; rfl
theorem isL1 (h : IsL K H [a] vs) : ∃ v0, vs = [v0] ∧ Is K H a v0 := by cases h with | cons h1 l => cases l; exact ⟨_, rfl, h1⟩
theorem isL2 (h : IsL K H [a, b] vs) : ∃ v0 v1, vs = [v0, v1] ∧ Is K H a v0 ∧ Is K H b v1 := by
  cases h with | cons h1 l => obtain ⟨v1, rfl, h2⟩ := isL1 l; exact ⟨_, _, rfl, h1, h2⟩
theorem isL3 (h : IsL K H [a, b, c] vs) : ∃ v0 v1 v2, vs = [v0, v1, v2] ∧ Is K H a v0 ∧ Is K H b v1 ∧ Is K H c v2 := by
  cases h with | cons h1 l => obtain ⟨v1, v2, rfl, h2⟩ := isL2 l; exact ⟨_, _, _, rfl, h1, h2⟩
theorem isL4 (h : IsL K H [a, b, c, d] vs) : ∃ v0 v1 v2 v3, vs = [v0, v1, v2, v3] ∧ Is K H a v0 ∧ Is K H b v1 ∧ Is K H c v2 ∧ Is K H d v3 := by
  cases h with | cons h1 l => obtain ⟨v1, v2, v3, rfl, h2⟩ := isL3 l; exact ⟨_, _, _, _, rfl, h1, h2⟩
end
def PQ1 (X : Cx) (st : Stmt) (Pre Nx : L2.St → Hp → Prop) : Prop := PS X st (fun E σ H => Pre σ H ∧ ∀ σ' H', Nx σ' H' → E.nx σ' H')
def PQ (X : Cx) (sts : List Stmt) (Pre Nx : L2.St → Hp → Prop) : Prop := PSs X sts (fun E σ H => Pre σ H ∧ ∀ σ' H', Nx σ' H' → E.nx σ' H')
def PQR (X : Cx) (sts : List Stmt) (Pre : L2.St → Hp → Prop) (Rt : V → Hp → Prop) : Prop := PSs X sts (fun E σ H => Pre σ H ∧ ∀ v H', Rt v H' → E.rt v H')
section
variable {X : Cx} {e c o a i' : Expr} {σ : L2.St} {H H' : Hp} {d r : D} {k : Bool} {pos : Pos} {st : Stmt} {sts rest els body : List Stmt} {Pre Nx Mid : L2.St → Hp → Prop} {Rt : V → Hp → Prop}
theorem pq_nil (h : ∀ σ H, Pre σ H → Nx σ H) : PQ X [] Pre Nx := PSs.imp pss_nil fun E σ H ⟨p, q⟩ => q σ H (h σ H p)
theorem pq_cons (h1 : PQ1 X st Pre Mid) (h2 : PQ X rest Mid Nx) : PQ X (st :: rest) Pre Nx := PSs.imp (pss_cons h1 h2) fun E σ H ⟨p, q⟩ => ⟨p, fun σ' H' m => ⟨m, q⟩⟩
theorem pq_one (h1 : PQ1 X st Pre Nx) : PQ X [st] Pre Nx := pss_one h1
theorem pqr_cons (h1 : PQ1 X st Pre Mid) (h2 : PQR X rest Mid Rt) : PQR X (st :: rest) Pre Rt := PSs.imp (pss_cons h1 h2) fun E σ H ⟨p, q⟩ => ⟨p, fun σ' H' m => ⟨m, q⟩⟩
theorem pqr_pr (h : ∀ σ H, Pre σ H → ∃ r, PR X sts σ H r ∧ ∀ v H', Same H H' → Is X.K H' r v → Rt v H') : PQR X sts Pre Rt := fun pins s σ H D I ⟨p, q⟩ => by
  obtain ⟨r, h1, h2⟩ := h σ H p
  exact h1 pins s σ H D I ⟨rfl, Same.refl _, fun v H2 e2 hv => q v H2 (h2 v H2 e2 hv)⟩
theorem pr_pqr (h : ∀ H1, Same H H1 → PQR X sts (fun σ' H' => σ' = σ ∧ H' = H1) (fun v H2 => Same H1 H2 ∧ Is X.K H2 r v)) : PR X sts σ H r := fun pins s σ' H1 D I ⟨hs, e1, q⟩ =>
  h H1 e1 pins s σ' H1 D I ⟨⟨hs, rfl⟩, fun v H2 ⟨e2, hv⟩ => q v H2 e2 hv⟩
theorem pq1_pn {Post : L2.St → Hp → L2.St → Hp → Prop} (h : ∀ σ H, Pre σ H → PN1 X st σ H (Post σ H)) (f : ∀ σ H σ' H', Pre σ H → Same H H' → Post σ H σ' H' → Nx σ' H') : PQ1 X st Pre Nx := fun pins s σ H D I ⟨p, q⟩ =>
  h σ H p pins s σ H D I ⟨rfl, Same.refl _, fun σ2 H2 e2 p2 => q _ _ (f σ H σ2 H2 p e2 p2)⟩
theorem pq1_set (i : Nat) {x : Str} {pos' : Pos} (hN : X.N.Nodup) (h : ∀ σ H, Pre σ H → ∃ d, PD X e σ H d ∧ ∀ v H', Same H H' → Is X.K H' d v → Nx (σ.set i (some v)) H') (hi : X.N[i]? = some x := by rfl)
    (hx : Loc X.env.scope x := by first | exact Or.inl rfl | exact Or.inr rfl) (hs : swapsWith e (some (.Name x pos')) pos.line X.env = pure false := by rfl)
    (hf : X.fn x = true ∨ X.env.scope.names.lookup x = some .local := by first | exact .inl rfl | exact .inr rfl | assumption) : PQ1 X (.Assign [.Name x pos'] e pos) Pre Nx := fun pins s σ H D I ⟨p, q⟩ => by
  obtain ⟨d, h1, h2⟩ := h σ H p
  exact ps_set hN hi hx h1 hs hf pins s σ H D I ⟨rfl, Same.refl _, fun v H2 e2 hv => q _ _ (h2 v H2 e2 hv)⟩
theorem pq1_if (hc : ∀ σ H, Pre σ H → ∃ k, PDT X c σ H k ∧ (k = true → PQ X sts (fun σ' H' => σ' = σ ∧ Same H H') Nx) ∧ (k = false → PQ X els (fun σ' H' => σ' = σ ∧ Same H H') Nx)) : PQ1 X (.If c sts els pos) Pre Nx := fun pins s σ H D I ⟨p, q⟩ => by
  obtain ⟨k, h1, h2, h3⟩ := hc σ H p
  refine ps_if h1 (PSs.guard h2) (PSs.guard h3) pins s σ H D I ⟨rfl, Same.refl _, fun H2 e2 => ?_⟩
  cases k with
  | true => exact ⟨rfl, ⟨rfl, e2⟩, q⟩
  | false => exact ⟨rfl, ⟨rfl, e2⟩, q⟩
def tTurnQ (n m : Nat) (P : Nat → L2.St → Hp → Prop) : TS := fun E σ' H' => ∃ i : Nat, i < m ∧ (∃ σ1, σ' = List.set σ1 n (some (V.int i)) ∧ P i σ1 H') ∧ ∀ σ2 H2, P (i + 1) σ2 H2 → E.nx σ2 H2
theorem pq1_forR {j : Int} {a : Expr} {p pos1 : Pos} (n : Nat) {x : Str} {px : Pos} (P : Nat → L2.St → Hp → Prop) (hp : PassesOwn (model X.prog X.w) X.A X.env X.xe) (hc : X.calm = true) (hN : X.N.Nodup) (hm : X.mg "range" = none)
    (he : ∀ σ H, Pre σ H → PD X a σ H (.int j)) (hj : -(2 ^ 62) ≤ j ∧ j < 2 ^ 62)
    (h0 : ∀ σ H H', Pre σ H → Same H H' → P 0 σ H') (hs : ∀ (i : Nat), i < j.toNat → PQ X body (fun σ' H' => ∃ σ1, σ' = σ1.set n (some (.int i)) ∧ P i σ1 H') (P (i + 1)))
    (hd : ∀ σ1 H1, P j.toNat σ1 H1 → Nx σ1 H1) (hi : X.N[n]? = some x := by rfl) (hx : Loc X.env.scope x := by first | exact Or.inl rfl | exact Or.inr rfl)
    (hf : X.fn x = true ∨ X.env.scope.names.lookup x = some .local := by first | exact .inl rfl | exact .inr rfl | assumption) (hg : Gl X "range" := by rfl)
    (hst : starEach [a] X.env = [(false, eval a X.env)] := by rfl) (hfs : ∀ x, foldedSetIterable (.Call (.Name "range" p) [a] [] pos1) X.env x = pure x := by intro _; rfl) :
    PQ1 X (.For (.Name x px) (.Call (.Name "range" p) [a] [] pos1) body [] pos) Pre Nx := fun pins s σ H D I ⟨pre, q⟩ => by
  have hb : PSs X body (tTurnQ n j.toNat P) := fun pins s σ' H' D I ⟨i, hlt, p, q⟩ => hs i hlt pins s σ' H' D I ⟨p, q⟩
  refine ps_for hp hc (pi_range1 hg hm (pda_cons (he σ H pre) pda_nil hst) hst) (pg_name hN hi hx hf) hb hfs pins s σ H D I ⟨rfl, Same.refl _, fun vs H2 e2 hvs => ?_⟩
  cases hvs with
  | cons h l =>
    cases h; cases l
    refine ⟨j, rfl, hj.1, hj.2, ?_⟩
    refine for_range (lo := 0) (g := gName n) (tb := tTurnQ n j.toNat P) P (h0 σ H H2 pre e2) (fun i σ1 H3 hlt p => ?_) (fun σ1 H3 p => q _ _ (hd σ1 H3 p))
    exact ⟨i, hlt, ⟨σ1, by rw [Int.zero_add], p⟩, fun σ2 H4 p4 => p4⟩
theorem pq1_append {apos cpos : Pos} (h : ∀ σ H, Pre σ H → ∃ l xs d, PD X o σ H (.adr l) ∧ H l = some (.lst xs) ∧ xs.length < sizeLine ∧ PD X a σ H d ∧ ∀ v H', Same H H' → Is X.K H' d v → Nx σ (upd H' l (.lst (xs ++ [v]))))
    (hbase : attributeBase o "append" X.env (eval o X.env) = eval o X.env := by rfl)
    (hfew : ((backTo cpos (starEach [a] X.env)).all (fun x => !x.1) && (backToKw cpos (keywordEach [] X.env)).all (fun x => x.1.isSome)
      && decide ([a].length + ([] : List Keyword).length + (if ([] : List Keyword).isEmpty then 0 else 1) < 30)) = true := by rfl)
    (hline : (apos.endLine == cpos.line) = true := by rfl) (hs : starEach [a] X.env = (false, eval a X.env) :: starEach [] X.env := by rfl) (hplain : (backTo cpos (starEach [] X.env)).any (·.1) = false := by rfl)
    (hsw : swapsWith (.Call (.Attribute o "append" apos) [a] [] cpos) none pos.line X.env = pure false := by rfl) :
    PQ1 X (.Expr (.Call (.Attribute o "append" apos) [a] [] cpos) pos) Pre Nx := fun pins s σ H D I ⟨p, q⟩ => by
  obtain ⟨l, xs, d, ho, hl, hz, ha, f⟩ := h σ H p
  refine ps_expr (pe_bm PySem.F.plainAttrs_list PySem.F.slot_list_append PySem.F.type_list_append mt_append ho (pda_cons ha pda_nil hs) hbase hfew hline hs hplain) hsw pins s σ H D I ⟨rfl, Same.refl _, fun v H2 e2 hv => ?_⟩
  cases hv
  refine ⟨.inl ⟨rfl, xs, SqL.of (e2 _ _ hl)⟩, rfl, e2, fun vs H3 e3 hvs => ?_⟩
  cases hvs with
  | cons h l' =>
    cases l'
    exact ⟨l, xs, _, rfl, rfl, (e2.trans e3) _ _ hl, hz, q _ _ (f _ H3 (e2.trans e3) h)⟩
theorem pq1_setL {p1 : Pos} (h : ∀ σ H, Pre σ H → ∃ l xs j m d, PD X o σ H (.adr l) ∧ H l = some (.lst xs) ∧ PD X i' σ H (.int j) ∧ ixN xs.length j = some m ∧ PD X e σ H d ∧ ∀ v H', Same H H' → Is X.K H' d v → Nx σ (upd H' l (.lst (xs.set m v))))
    (ha : ∀ v, assign (.Subscript o i' p1) X.env v = (do
      let ov ← holding [v] (eval o X.env)
      let iv ← holding [v, ov] (eval i' X.env)
      standAt p1
      holding [v, ov, iv] (setItem ov iv v)
      release [v, ov, iv] []) := by intro _; rfl)
    (hs : swapsWithSole [.Subscript o i' p1] e pos.line X.env = pure false := by rfl) (hw : swappedStores [.Subscript o i' p1] e X.env = pure none := by rfl)
    (h1 : (assignEach [.Subscript o i' p1] X.env).map (·.2) = [assign (.Subscript o i' p1) X.env] := by rfl) :
    PQ1 X (.Assign [.Subscript o i' p1] e pos) Pre Nx := fun pins s σ H D I ⟨p, q⟩ => by
  obtain ⟨l, xs, j, m, d, ho, hl, hi, hm, he, f⟩ := h σ H p
  refine ps_asg he (pg_sub ho hi set_list ha) hs hw h1 pins s σ H D I ⟨rfl, Same.refl _, fun v H2 e2 hv => ⟨rfl, e2, fun x H3 e3 hx => ?_⟩⟩
  cases hx
  refine ⟨rfl, e2.trans e3, fun y H4 e4 hy => ?_⟩
  cases hy
  have e24 := (e2.trans e3).trans e4
  exact ⟨l, xs, j, m, rfl, rfl, e24 _ _ hl, hm, q _ _ (f v H4 e24 (hv.mono (e3.trans e4)))⟩
end
def tL (K : PySem.W.Frag) (σ : L2.St) (H : Hp) (ds : List D) : TE := fun σ' H1 Q => σ' = σ ∧ Same H H1 ∧ ∀ l vs H2, Same H1 H2 → H1 l = none → H2 l = some (.lst vs) → IsL K H2 ds vs → Q (.ref l) H2
def PL (X : Cx) (e : Expr) (σ : L2.St) (H : Hp) (ds : List D) : Prop := PE X e (tL X.K σ H ds)
section
variable {X : Cx} {e a : Expr} {es : List Expr} {σ : L2.St} {H : Hp} {ds : List D} {pos p : Pos} {Pre Nx : L2.St → Hp → Prop}
theorem PL.pd (h : PL X e σ H ds) : PD X e σ H (.lst ds) := PE.imp h fun σ' H1 Q ⟨hs, e1, q⟩ => ⟨hs, e1, fun l vs H2 e2 hn hl hv => q _ _ e2 (.lst (SqL.of hl) hv)⟩
theorem pl_lst (h : PDA X es σ H ds) (hl : ds.length ≤ 1000 := by simp) : PL X (.List es pos) σ H ds :=
  PE.imp (pe_lst h) fun σ' H1 Q ⟨hs, e1, q⟩ => ⟨hs, e1, fun vs H2 e2 hvs => ⟨Nat.le_of_lt (small1000 (by rw [← hvs.length]; exact hl)), fun p hp => q p vs _ (e2.trans (same_upd hp)) (e2.free hp) upd_same (hvs.mono (same_upd hp))⟩⟩
theorem pl_listT (hm : X.mg "list" = none) (ha : PD X a σ H (.tup ds)) (hg : Gl X "list" := by rfl) (he : starEach [a] X.env = (false, eval a X.env) :: starEach [] X.env := by rfl) : PL X (.Call (.Name "list" p) [a] [] pos) σ H ds :=
  PE.imp (pe_callTy call_list_of hg hm (by decide +kernel) (pda_cons ha pda_nil he) (by decide) (by decide) he rfl) fun σ' H1 Q ⟨hs, e1, q⟩ => ⟨hs, e1, fun vs H2 e2 hvs => by
    cases hvs with
    | cons h l =>
      cases l
      cases h with
      | tup hq l => exact ⟨_, _, rfl, .inr hq, fun p hp => q p _ _ (e2.trans (same_upd hp)) (e2.free hp) upd_same (l.mono (same_upd hp))⟩⟩
theorem pl_listL (hm : X.mg "list" = none) (ha : PD X a σ H (.lst ds)) (hg : Gl X "list" := by rfl) (he : starEach [a] X.env = (false, eval a X.env) :: starEach [] X.env := by rfl) : PL X (.Call (.Name "list" p) [a] [] pos) σ H ds :=
  PE.imp (pe_callTy call_list_of hg hm (by decide +kernel) (pda_cons ha pda_nil he) (by decide) (by decide) he rfl) fun σ' H1 Q ⟨hs, e1, q⟩ => ⟨hs, e1, fun vs H2 e2 hvs => by
    cases hvs with
    | cons h l =>
      cases l
      cases h with
      | lst hq l => exact ⟨_, _, rfl, .inl hq, fun p hp => q p _ _ (e2.trans (same_upd hp)) (e2.free hp) upd_same (l.mono (same_upd hp))⟩⟩
theorem pq1_new (i : Nat) {x : Str} {pos' : Pos} (hN : X.N.Nodup) (h : ∀ σ H, Pre σ H → ∃ ds, PL X e σ H ds ∧ ∀ l vs H', Same H H' → H l = none → H' l = some (.lst vs) → IsL X.K H' ds vs → Nx (σ.set i (some (.ref l))) H') (hi : X.N[i]? = some x := by rfl)
    (hx : Loc X.env.scope x := by first | exact Or.inl rfl | exact Or.inr rfl) (hs : swapsWith e (some (.Name x pos')) pos.line X.env = pure false := by rfl)
    (hf : X.fn x = true ∨ X.env.scope.names.lookup x = some .local := by first | exact .inl rfl | exact .inr rfl | assumption) : PQ1 X (.Assign [.Name x pos'] e pos) Pre Nx := fun pins s σ H D I ⟨p, q⟩ => by
  obtain ⟨ds, h1, h2⟩ := h σ H p
  exact ps_set hN hi hx h1 hs hf pins s σ H D I ⟨rfl, Same.refl _, fun l vs H2 e2 hn hl hv => q _ _ (h2 l vs H2 e2 hn hl hv)⟩
end
theorem putF_len (f : Str) (v : V) : ∀ fs : List (Str × V), (putF f v fs).length ≤ fs.length + 1
  | [] => Nat.le_refl _
  | (g, u) :: r => by
    unfold putF
    split
    · simp
    · have := putF_len f v r
      simp only [List.length_cons]; omega
section
variable {X : Cx} {e o : Expr} {pos : Pos} {Pre Nx : L2.St → Hp → Prop}
theorem pq1_fld {f : Str} {pos' : Pos} (h : ∀ σ H, Pre σ H → ∃ a C dx fs d, PD X o σ H (.adr a) ∧ H a = some (.ins C dx fs) ∧ Cls X.K C ∧ NoAttr X.K C f ∧ fs.length < 1000 ∧ PD X e σ H d ∧ ∀ v H', Same H H' → Is X.K H' d v → Nx σ (upd H' a (.ins C dx (putF f v fs))))
    (hs : swapsWith e (some (.Attribute o f pos')) pos.line X.env = pure false := by rfl) : PQ1 X (.Assign [.Attribute o f pos'] e pos) Pre Nx := fun pins s σ H D I ⟨p, q⟩ => by
  obtain ⟨a, C, dx, fs, d, ho, ha, hc, hn, hl, he, k⟩ := h σ H p
  refine ps_fld ho he hs pins s σ H D I ⟨rfl, Same.refl _, fun v H2 e2 hv => ⟨rfl, e2, fun x H3 e3 hx => ?_⟩⟩
  cases hx
  exact ⟨a, C, dx, fs, rfl, (e2.trans e3) _ _ ha, hc, hn, hl, q _ _ (k v H3 (e2.trans e3) (hv.mono e3))⟩
end
mutual
def noL : D → Bool
  | .tup ds => noLs ds
  | .lst _ => false
  | .obj _ _ => true
  | .non => true
  | .bl _ => true
  | .int _ => true
  | .str _ => true
  | .ty _ => true
  | .adr _ => true
  | .exc _ => true
  | .ob _ _ ds => noLs ds
def noLs : List D → Bool
  | [] => true
  | d :: ds => noL d && noLs ds
end
section
variable {K : PySem.W.Frag} {H : Hp} {l : Addr} {xs : List V} {o : HO}
theorem sqT_upd {p : Addr} {ys : List V} (hl : H l = some (.lst xs)) (h : SqT K H p ys) : SqT K (upd H l o) p ys := by
  rcases h with (h | ⟨b, h⟩) | h
  · exact .inl (.inl (by rw [upd_ne (ne_of h hl (by intro z; cases z))]; exact h))
  · exact .inl (.inr ⟨b, by rw [upd_ne (ne_of h hl (by intro z; cases z))]; exact h⟩)
  · exact .inr h
mutual
theorem Is.updL (hl : H l = some (.lst xs)) : ∀ {d : D} {v : V}, Is K H d v → noL d = true → Is K (upd H l o) d v
  | _, _, .non, _ => .non
  | _, _, .bl b, _ => .bl b
  | _, _, .int i, _ => .int i
  | _, _, .str x, _ => .str x
  | _, _, .ty n, _ => .ty n
  | _, _, .adr a, _ => .adr a
  | _, _, .tup h q, n => .tup (sqT_upd hl h) (IsL.updL hl q n)
  | _, _, .lst _ _, n => absurd n (by simp [noL])
  | _, _, .obj h, n => .obj (by rw [upd_ne (ne_of h hl (by intro z; cases z))]; exact h)
  | _, _, .exc h, _ => .exc (by rw [upd_ne (ne_of h hl (by intro z; cases z))]; exact h)
  | _, _, .ob h1 h2 h3 h4, n => .ob (by rw [upd_ne (ne_of h1 hl (by intro z; cases z))]; exact h1) h2 h3 (IsL.updL hl h4 n)
theorem IsL.updL (hl : H l = some (.lst xs)) : ∀ {ds : List D} {vs : List V}, IsL K H ds vs → noLs ds = true → IsL K (upd H l o) ds vs
  | _, _, .nil, _ => .nil
  | _, _, .cons h q, n => by
    have n' := n
    simp only [noLs, Bool.and_eq_true] at n'
    exact .cons (Is.updL hl h n'.1) (IsL.updL hl q n'.2)
end
end
def DoesM (P : Program) (w : World) (K : PySem.W.Frag) (mg : Str → Option Value) (base : Heap) (n : Nat) (C : Addr) (m : Str) (ps : List Str) (R : List D → D → Prop) : Prop :=
  ∃ f fd, FnOk P w K mg base CX0 n f fd ps (spD K R) ∧ Meth K C m f ∧ Binds K fd ps []
def HasM (K : PySem.W.Frag) (C : Addr) (m qual : Str) (st : Stmt) (ps : List Str) : Prop := ∃ f fd, Fun K m qual st f fd ∧ Meth K C m f ∧ Binds K fd ps []
section
variable {P : Program} {w : World} {K : PySem.W.Frag} {mg : Str → Option Value} {base : Heap}
theorem HasM.does {C : Addr} {m qual : Str} {st : Stmt} {N ps : List Str} {n : Nat} {R : List D → D → Prop} (h : HasM K C m qual st ps) (S : FnScope N ps (defScope st)) (len : ∀ ds r, R ds r → ds.length = ps.length)
    (hb : ∀ (f : Addr) (cdv : Value) (A : Around) (outer : List Env) (s : Shared) (H : Hp) (E : XK) (vs : List V) (ds : List D) (r : D), Room n (cx0 P w K mg base N qual st f cdv A outer s H E).A → IsL K H ds vs → R ds r →
      PR (cx0 P w K mg base N qual st f cdv A outer s H E) (defBody st) (start N vs) H r) : DoesM P w K mg base (n + 1) C m ps R := by
  obtain ⟨f, fd, F, hm, hbd⟩ := h
  exact ⟨f, fd, fun_ok F S len fun cdv A outer s H E vs ds r hr hl hR => .inl (hb f cdv A outer s H E vs ds r hr hl hR), hm, hbd⟩
theorem hasM_mk {C : Addr} {m qual : Str} {st : Stmt} {ps : List Str} {f : Addr} {oc : Value} {od an : Option Addr} {osl : Array (Option Value)} {kV doc pm cdv ct : Value}
    (a : PySem.W.findIn K (.ref C) m = some (some (.ref f))) (i : PySem.W.isFn K (.ref f) = true) (l : K.lookup f = some ⟨oc, od, .func (PySem.W.fnOf m qual (defArgs st) (defBody st) (defScope st) .none kV doc pm an cdv ct), osl⟩) (c : PySem.W.codeIn K cdv qual = true) (k : PySem.W.keepIn K (.ref f) = true)
    (hb : ∀ (kV doc pm : Value) (an : Option Addr) (cdv ct : Value) (us : List Value), us.length = ps.length → bindArgs (PySem.W.fnOf m qual (defArgs st) (defBody st) (defScope st) .none kV doc pm an cdv ct) ⟨us, []⟩ = pure (ps.zip us)) : HasM K C m qual st ps :=
  let F := fun_mk (st := st) l c k
  ⟨f, _, F, ⟨a, i, k⟩, F.binds hb⟩
end
section
variable {X : Cx} {e o : Expr} {es : List Expr} {σ : L2.St} {H : Hp} {d : D} {ds : List D} {p pos apos : Pos} {C : Addr} {fs : List (Str × V)}
theorem pd_doesM0 {n : Nat} {m : Str} {ps : List Str} {R : List D → D → Prop} {pl : Sem Bool} (h : DoesM X.prog X.w X.K X.mg X.base n C m ps R) (hc : Cls X.K C) (hr : Room n X.A) (ho : PD X o σ H (.obj C fs)) (hl : fs.lookup m = none) (hR : R [.obj C fs] d)
    (ht : eval (.Call (.Attribute o m apos) [] [] pos) X.env = (do
      let ov ← eval o X.env
      standAt apos.atName
      let (f, first) ← holding [ov] (getMethod ov m pl)
      callWith pos f first (backTo pos (starEach [] X.env)) (backToKw pos (keywordEach [] X.env))) := by rfl) : PD X (.Call (.Attribute o m apos) [] [] pos) σ H d := by
  obtain ⟨f, fd, F, hm, hb⟩ := h
  exact pd_meth0 ho hc hm F hr hb pass0 hl hR ht
def spMake (K : PySem.W.Frag) (C : Addr) (R : List D → List (Str × V) → Prop) : Sp := fun vs H Q _ => ∃ p dx us ds fs, vs = .ref p :: us ∧ IsL K H ds us ∧ R ds fs ∧ H p = some (.ins C dx []) ∧
  ∀ H', (∀ b o, H b = some o → b ≠ p → H' b = some o) → H' p = some (.ins C dx fs) → Q .non H'
def Makes (P : Program) (w : World) (K : PySem.W.Frag) (mg : Str → Option Value) (base : Heap) (n : Nat) (C : Addr) (x : Str) (ps : List Str) (R : List D → List (Str × V) → Prop) : Prop :=
  ∃ f fd, FnOk P w K mg base CX0 n f fd ps (spMake K C R) ∧ Mk K C f ∧ mg x = some (.ref C) ∧ Binds K fd ps []
theorem pd_makes {n : Nat} {x : Str} {ps : List Str} {R : List D → List (Str × V) → Prop} (h : Makes X.prog X.w X.K X.mg X.base n C x ps R) (hr : Room (n + 1) X.A) (ha : PDA X (e :: es) σ H ds) (hR : R ds fs) (hg : Gl X x := by rfl) (hdb : (x == ("__debug__" : Str)) = false := by decide)
    (he : starEach (e :: es) X.env = (false, eval e X.env) :: starEach es X.env := by rfl) (hpl : (backTo pos (starEach es X.env)).any (·.1) = false := by rfl) : PD X (.Call (.Name x p) (e :: es) [] pos) σ H (.obj C fs) := by
  obtain ⟨f, fd, F, M, hm, hb⟩ := h
  refine PD.of (pe_make (dvs := []) M F hr hg hm hb .nil pass0 ha hdb he hpl) fun H1 Q e1 q => ⟨rfl, e1, fun vs H2 e2 hvs x' dx hx hdx hne => ?_⟩
  have s0 : Same H2 (upd (upd H2 dx (.own x')) x' (.ins C dx [])) := fun b o e => by
    rw [upd_ne (ne_of_none e hx), upd_ne (ne_of_none e hdx)]
    exact e
  refine ⟨x', dx, vs, ds, fs, by rw [List.append_nil], hvs.mono s0, hR, upd_same, fun H' k1 k2 => ⟨rfl, ?_⟩⟩
  exact q _ _ (e2.trans fun b o e => k1 b o (s0 b o e) (ne_of_none e hx)) (.obj k2)
end
end L3
set_option Elab.async false
set_option linter.all false
namespace M
open L3
abbrev Pr := Int × Int
abbrev Stg := Pr × Pr × Pr
def won (q : Pr) (g : Int) : Bool := decide (g ≤ mxP q) && decide (2 ≤ absI (q.1 - q.2))
def wonL (q : Pr) (g l : Int) : Bool := decide (g ≤ mxP q) && decide (l ≤ absI (q.1 - q.2))
def more (q : Pr) (w : Int) : Pr := if w = 0 then (q.1 + 1, q.2) else (q.1, q.2 + 1)
def aft (g1 g2 : Int) (s : Stg) (w : Int) : Stg :=
  if won (more s.2.2 w) g1 = true then
    if won (more s.2.1 w) g2 = true then (more s.1 w, (0, 0), (0, 0)) else (s.1, more s.2.1 w, (0, 0))
  else (s.1, s.2.1, more s.2.2 w)
def onB (q : Pr) (g : Int) : Bool := decide (0 ≤ mnP q) && !won q g
def outB (g3 : Int) (q : Pr) : Bool := decide (mnP q < 0) || (decide (g3 ≤ mnP q) || decide (g3 < mxP q))
def reached (g1 g2 g3 : Int) (s : Stg) : Bool :=
  if outB g3 s.1 = true then false
  else if mxP s.1 = g3 then decide (s.2.1 = (0, 0)) && decide (s.2.2 = (0, 0))
  else onB s.2.1 g2 && onB s.2.2 g1
def over (g3 : Int) (s : Stg) : Bool := decide (mxP s.1 = g3)
def st0 : Stg := ((0, 0), (0, 0), (0, 0))
def Good (g1 g2 g3 : Int) : Prop := 1 ≤ g1 ∧ g1 ≤ 5 ∧ 1 ≤ g2 ∧ g2 ≤ 6 ∧ 1 ≤ g3 ∧ g3 ≤ 3
theorem reached_st0 {g1 g2 g3 : Int} (h : Good g1 g2 g3) : reached g1 g2 g3 st0 = true := by
  obtain ⟨h1, h2, h3, h4, h5, h6⟩ := h
  simp [reached, st0, outB, onB, won, mxP, mnP, absI]
  omega
theorem mx_more {q : Pr} {w : Int} : mxP q ≤ mxP (more q w) ∧ mxP (more q w) ≤ mxP q + 1 := by
  unfold more mxP
  by_cases h : w = 0 <;> simp only [h, if_true, if_false] <;> constructor <;> split <;> split <;> omega
theorem mn_more {q : Pr} {w : Int} : mnP q ≤ mnP (more q w) := by
  unfold more mnP
  by_cases h : w = 0 <;> simp only [h, if_true, if_false] <;> split <;> split <;> omega
theorem reached_aft {g1 g2 g3 : Int} {s : Stg} {w : Int} (hg : Good g1 g2 g3) (h : reached g1 g2 g3 s = true) (ho : over g3 s = false) : reached g1 g2 g3 (aft g1 g2 s w) = true := by
  obtain ⟨h1, h2, h3, h4, h5, h6⟩ := hg
  obtain ⟨sp, gp, pp⟩ := s
  have ho' : ¬ mxP sp = g3 := by simpa [over] using ho
  unfold reached at h
  rw [if_neg ho'] at h
  by_cases hb : outB g3 sp = true
  · rw [if_pos hb] at h; exact absurd h Bool.false_ne_true
  · rw [if_neg hb] at h
    have hb' : ¬ mnP sp < 0 ∧ ¬ g3 ≤ mnP sp ∧ ¬ g3 < mxP sp := by simpa [outB] using hb
    obtain ⟨b1, b2, b3⟩ := hb'
    simp only [Bool.and_eq_true] at h
    obtain ⟨hgp, hpp⟩ := h
    have hp0 : 0 ≤ mnP pp := by simp [onB] at hpp; omega
    have hg0 : 0 ≤ mnP gp := by simp [onB] at hgp; omega
    have on0 : ∀ g : Int, 1 ≤ g → onB (0, 0) g = true := fun g hg => by simp [onB, won, mxP, mnP, absI]
    unfold aft
    by_cases w1 : won (more pp w) g1 = true
    · rw [if_pos w1]
      by_cases w2 : won (more gp w) g2 = true
      · rw [if_pos w2]
        have m1 := mx_more (q := sp) (w := w)
        have m2 := mn_more (q := sp) (w := w)
        have m3 : ¬ g3 ≤ mnP (more sp w) := by
          unfold more mnP at *
          unfold mxP at *
          by_cases hw : w = 0 <;> simp only [hw, if_true, if_false] <;> split <;> split at b2 <;> split at ho' <;> split at b3 <;> simp_all <;> omega
        unfold reached
        have : outB g3 (more sp w) = false := by simp [outB]; omega
        simp only [this, Bool.false_eq_true, if_false]
        split
        · simp
        · rw [on0 g2 h3, on0 g1 h1]; rfl
      · rw [if_neg w2]
        unfold reached
        rw [if_neg hb, if_neg ho', on0 g1 h1]
        have := mn_more (q := gp) (w := w)
        have w2' : won (more gp w) g2 = false := by simpa using w2
        simp [onB, w2']; omega
    · rw [if_neg w1]
      unfold reached
      rw [if_neg hb, if_neg ho']
      have := mn_more (q := pp) (w := w)
      have w1' : won (more pp w) g1 = false := by simpa using w1
      simp [hgp]
      simp [onB, w1']; omega
def wnr (g3 : Int) (s : Stg) : D := if s.1.1 = g3 then .int 0 else if s.1.2 = g3 then .int 1 else .non
theorem wnr_non {g1 g2 g3 : Int} {s : Stg} (h : reached g1 g2 g3 s = true) (ho : over g3 s = false) : wnr g3 s = .non := by
  obtain ⟨sp, gp, pp⟩ := s
  have ho' : ¬ mxP sp = g3 := by simpa [over] using ho
  unfold reached at h
  by_cases hb : outB g3 sp = true
  · rw [if_pos hb] at h; exact absurd h Bool.false_ne_true
  · have hb' : ¬ mnP sp < 0 ∧ ¬ g3 ≤ mnP sp ∧ ¬ g3 < mxP sp := by simpa [outB] using hb
    unfold wnr
    unfold mxP mnP at *
    have e1 : ¬ sp.1 = g3 := by split at ho' <;> split at hb' <;> omega
    have e2 : ¬ sp.2 = g3 := by split at ho' <;> split at hb' <;> omega
    rw [if_neg e1, if_neg e2]
theorem wnr_over {g1 g2 g3 : Int} {s : Stg} (h : reached g1 g2 g3 s = true) (ho : over g3 s = true) : wnr g3 s = .int (if s.1.1 = g3 then 0 else 1) ∧ (s.1.1 = g3 ∨ s.1.2 = g3) := by
  obtain ⟨sp, gp, pp⟩ := s
  have ho' : mxP sp = g3 := by simpa [over] using ho
  unfold wnr
  unfold mxP at ho'
  by_cases e1 : sp.1 = g3
  · simp [e1]
  · have e2 : sp.2 = g3 := by split at ho' <;> omega
    simp [e1, e2]
def run (g1 g2 : Int) : Stg → List Int → Stg
  | s, [] => s
  | s, w :: ws => run g1 g2 (aft g1 g2 s w) ws
def Legal (g1 g2 g3 : Int) : Stg → List Int → Prop
  | _, [] => True
  | s, w :: ws => over g3 s = false ∧ Legal g1 g2 g3 (aft g1 g2 s w) ws
theorem run_append (g1 g2 : Int) : ∀ (s : Stg) (a b : List Int), run g1 g2 s (a ++ b) = run g1 g2 (run g1 g2 s a) b
  | _, [], _ => rfl
  | s, w :: a, b => run_append g1 g2 (aft g1 g2 s w) a b
theorem legal_append {g1 g2 g3 : Int} : ∀ {s : Stg} {a b : List Int}, Legal g1 g2 g3 s (a ++ b) ↔ Legal g1 g2 g3 s a ∧ Legal g1 g2 g3 (run g1 g2 s a) b
  | _, [], _ => by simp [Legal, run]
  | s, w :: a, b => by
    have := legal_append (g1 := g1) (g2 := g2) (g3 := g3) (s := aft g1 g2 s w) (a := a) (b := b)
    simp only [List.cons_append, Legal, run, this, and_assoc]
theorem take_snoc {α : Type} {ws : List α} {i : Nat} {x : α} (h : ws[i]? = some x) : ws.take (i + 1) = ws.take i ++ [x] := by
  rw [List.take_add_one, h]; rfl
theorem run_take (g1 g2 : Int) (s : Stg) {ws : List Int} {i : Nat} {x : Int} (h : ws[i]? = some x) : run g1 g2 s (ws.take (i + 1)) = aft g1 g2 (run g1 g2 s (ws.take i)) x := by
  rw [take_snoc h, run_append]; rfl
theorem reached_run {g1 g2 g3 : Int} (hg : Good g1 g2 g3) : ∀ {s : Stg} {ws : List Int}, reached g1 g2 g3 s = true → Legal g1 g2 g3 s ws → reached g1 g2 g3 (run g1 g2 s ws) = true
  | _, [], h, _ => h
  | s, w :: ws, h, l => reached_run (s := aft g1 g2 s w) (ws := ws) hg (reached_aft hg h l.1) l.2
theorem legal_take {g1 g2 g3 : Int} (hg : Good g1 g2 g3) {s : Stg} {ws : List Int} {i : Nat} {x : Int} (hs : reached g1 g2 g3 s = true) (l : Legal g1 g2 g3 s ws) (h : ws[i]? = some x) :
    reached g1 g2 g3 (run g1 g2 s (ws.take i)) = true ∧ over g3 (run g1 g2 s (ws.take i)) = false := by
  have e : ws = ws.take i ++ (x :: ws.drop (i + 1)) := by
    obtain ⟨h1, h2⟩ := List.getElem?_eq_some_iff.mp h
    rw [← h2, List.getElem_cons_drop, List.take_append_drop]
  rw [e, legal_append] at l
  exact ⟨reached_run hg hs l.1, l.2.1⟩
end M
set_option Elab.async false
set_option linter.all false
namespace M
open L3 L2
def cellF (ns : List Int) (k : Int) : Int := (ns[k.toNat]?).getD 0
def divs : Nat → Int → Int
  | 0, c => c
  | n + 1, c => divs n c / 1000003
def drawF (ns : List Int) (k : Int) : Int :=
  if cellF ns 61 % 2 = 0 then divs (k / 61).toNat (cellF ns (k % 61)) % 1000003
  else
    ((((cellF ns (k % 61) + 7919 * k + 104729) * 48271 % 2147483647) * ((cellF ns (k % 61) + 7919 * k + 104729) * 48271 % 2147483647) % 2147483647) * 16807 % 2147483647) / 8
theorem atI_cell {ns : List Int} {k : Int} (h0 : 0 ≤ k) (h1 : k < ns.length) : atI (ns.map D.int) k = some (.int (cellF ns k)) := by
  unfold atI ixN cellF
  rw [List.length_map, if_pos h0, if_pos h1]
  show (ns.map D.int)[k.toNat]? = _
  rw [List.getElem?_map]
  have : k.toNat < ns.length := by omega
  rw [List.getElem?_eq_getElem this]
  rfl
theorem cell_out {ns : List Int} {k : Int} (h0 : 0 ≤ k) (h1 : ¬ k < ns.length) : cellF ns k = 0 := by
  unfold cellF
  rw [List.getElem?_eq_none (by omega)]
  rfl
structure Walked (g1 g2 g3 : Int) (n : Nat) (z : List Int × Stg) : Prop where
  st : z.2 = run g1 g2 st0 z.1
  leg : Legal g1 g2 g3 st0 z.1
  w01 : ∀ w ∈ z.1, w = 0 ∨ w = 1
  len : z.1.length ≤ n
end M
set_option Elab.async false
set_option linter.all false
namespace M
open L3 L2
structure Told (g1 g2 g3 : Int) (ws : List Int) (z : Stg × Bool) : Prop where
  ok : z.2 = false → Legal g1 g2 g3 st0 ws ∧ z.1 = run g1 g2 st0 ws
  no : z.2 = true → ∃ m, m < ws.length ∧ Legal g1 g2 g3 st0 (ws.take m) ∧ over g3 (run g1 g2 st0 (ws.take m)) = true ∧ z.1 = run g1 g2 st0 (ws.take m)
end M
set_option Elab.async false
set_option linter.all false
set_option maxRecDepth 100000
namespace L3
open PySem PySem.Spec PyProof.Rows L2
section
variable {prog : Program} {w : World} {A : Around} {R : Result → Shared → Prop} {s : Shared}
theorem compLoop_list {elt target iter : Expr} {scope : Scope} {pos : Pos} {it acc : Value} {env : Env} (I : Nat → Shared → Prop)
    (turn : ∀ n s, I n s → wpAny (model prog w) A (pyNext it) (fun r s₁ => match r with
      | none => R (.ok .next) s₁
      | some v => wpAny (model prog w) A (letOwnedTupleGo target it v) (fun _ s₁ => wpAny (model prog w) A (assign target env v) (fun _ s₂ => wpAny (model prog w) A (eval elt env) (fun x s₃ =>
          wpAny (model prog w) A (call (.builtin "list.append") [acc, x]) (fun _ s₄ => ∃ m, m < n ∧ I m s₄) (notedBy (model prog w) A env fun e s' => R (.error e) s') s₃)
          (notedBy (model prog w) A env fun e s' => R (.error e) s') s₂) (notedBy (model prog w) A env fun e s' => R (.error e) s') s₁) (notedBy (model prog w) A env fun e s' => R (.error e) s') s₁)
      (notedBy (model prog w) A env fun e s' => R (.error e) s') s)
    (n : Nat) (h : I n s) : codeAny (model prog w) A (.compLoop (.ListComp elt [⟨target, iter, [], 0⟩] scope pos) 0 it acc env) R s := by
  refine codeAny_loop rfl I (fun n s hI => ?_) n h
  show wpAny _ _ ((compTurn (.ListComp elt [⟨target, iter, [], 0⟩] scope pos) 0 it acc env).onRaise (fun x => do noteFrame x env; theTreesLotGoes x)) _ _ s
  refine wpAny_noted ?_
  rw [compTurn_list1]
  refine wpAny_bind (wpAny_standAt (wpAny_bind (wpAny_mono (turn n s hI) (fun r s₁ h₁ => ?_) fun _ _ h' => h')))
  cases r with
  | none => exact wpAny_pure h₁
  | some v =>
    refine wpAny_bind (wpAny_mono h₁ (fun _ s₁ h₁ => ?_) fun _ _ h' => h')
    exact wpAny_bind (wpAny_mono h₁ (fun _ s₂ h₂ => wpAny_bind (wpAny_bind (wpAny_mono h₂ (fun x s₃ h₃ => wpAny_bind (wpAny_mono h₃
      (fun _ s₄ h₄ => wpAny_pure (wpAny_pure ⟨rfl, h₄⟩)) fun _ _ h' => h')) fun _ _ h' => h'))) fun _ _ h' => h')
end
abbrev cxComp (X : Cx) (scope : Scope) (cl : List (Str × Addr)) (N : List Str) (C : Addr) (s2 : Shared) (H2 : Hp) (fp : List Addr) : Cx where
  prog := X.prog
  w := X.w
  K := X.K
  mg := X.mg
  base := X.base
  A := X.A
  N := N
  s₀ := s2
  H₀ := H2
  env := compEnvC scope cl C X.env
  outer := X.stack
  stack := X.stack
  ex := fp
  fn := fun _ => false
  calm := X.calm
  pn := []
  xe := fun _ _ => False
def Feeds (K : PySem.W.Frag) (J : It) (H : Hp) (n : Nat) (din : Nat → D) : Prop := ∀ H3, Same H H3 → (∀ i, i < n → J.go i H3 ∧ ∀ v H', J.yld i H3 v H' → H' = H3 ∧ Is K H3 (din i) v) ∧ J.stop n H3
def Gives (X : Cx) (tg iter : Expr) (σ : L2.St) (H : Hp) (n : Nat) (din : Nat → D) : Prop := ∃ wi, PI X tg iter wi ∧ ∀ H1 R, Same H H1 → (∀ J H2, Same H1 H2 → Feeds X.K J H2 n din → R J H2) → wi σ H1 R
structure Takes (X : Cx) (σ : L2.St) (scope : Scope) (cl : List (Str × Addr)) (N : List Str) (σc : L2.St) (x : Str) : Prop where
  clos : closureFor scope X.env = pure cl
  cell : ∀ y ∈ scope.names, y.2 ≠ .cell
  kind : scope.kind = .function
  names : ∀ y ∈ scope.names, y.2 = .local → scope.names.lookup y.1 = some .local
  loc : scope.names.lookup x = some .local
  nd : N.Nodup
  first : N[0]? = some x
  len : σc.length = N.length
  sub : ∀ y c, cl.lookup y = some c → X.env.cells.lookup y = some c
  has : ∀ y, ((relabel scope X.env).names.lookup y = some .cell ∨ (relabel scope X.env).names.lookup y = some .free) → ∃ c, cl.lookup y = some c
  cap : ∀ (i : Nat) (y : Str) (v : V), N[i]? = some y → σc[i]? = some (some v) → ∃ j : Nat, X.N[j]? = some y ∧ σ[j]? = some (some v) ∧ X.env.kindOf y = some .cell ∧ (∃ c, cl.lookup y = some c) ∧
    ((relabel scope X.env).names.lookup y = some .cell ∨ (relabel scope X.env).names.lookup y = some .free)
section
variable {X : Cx} {pins : List (Addr × Obj)} {σ σc : L2.St} {H2 : Hp} {s2 : Shared} {scope : Scope} {cl : List (Str × Addr)} {N : List Str} {x : Str} {px pos : Pos} {elt iter : Expr} {J : It} {fp : List Addr} {it : Addr} {tn : Nat → Heap → Prop} {n : Nat} {din dout : Nat → D}
theorem comp_ok (I : Inv X pins σ H2 s2) (t : Takes X σ scope cl N σc x) (fo : ∀ b ∈ fp, FpOk X pins H2 b) (fl : ∀ b ∈ fp, b < s2.heap.objs.size) {C : Addr} (hC : s2.heap.objs.size ≤ C) : (cxComp X scope cl N C s2 H2 fp).Ok where
  mod := I.mod
  kind := t.kind
  glob := I.ok.glob
  blt := I.ok.blt
  above := hC
  inj := fun y z c h1 h2 => I.ok.inj y z c (t.sub _ _ h1) (t.sub _ _ h2)
  has := fun y hy => t.has y hy
  cab := fun _ _ h => nomatch h
  hd := I.ok.hd
  frames := I.ok.frames
  stk := .inl rfl
  exf := fun b hb => ⟨Nat.ne_of_lt (Nat.lt_of_lt_of_le (fl b hb) hC), fun y c h => (fo b hb).2.2.2.2.1 y c (t.sub _ _ h)⟩
  bs := I.bs
  bsz := Nat.le_trans I.ok.bsz I.sz
  noex := fun b o e hb => by
    rcases (fo b hb).2.2.2.1 with z | z
    · exact I.ok.noex b o e z
    · exact absurd (Nat.lt_of_lt_of_le (Heap.lt_size e) (Nat.le_trans I.ok.bsz z)) (Nat.lt_irrefl _)
  exfs := fun b hb hb2 => by
    rcases List.mem_cons.mp (I.stkSub b hb2) with e | e
    · exact (fo b hb).2.1 e
    · exact (fo b hb).2.2.1 e
  funs := I.stack
  frf := I.stkFree
theorem comp_block (I : Inv X pins σ H2 s2) (hc : X.calm = true) (t : Takes X σ scope cl N σc x) (T : Turn X.prog X.w X.K (.Name x px) J fp it tn) (st : tn 0 s2.heap) (fo : ∀ b ∈ fp, FpOk X pins H2 b) (fd : Feeds X.K J H2 n din) (hn : n ≤ 1000)
    (hno : ∀ i, noL (dout i) = true)
    (helt : ∀ (C : Addr) (i : Nat) (v : V) (H3 : Hp), i < n → Same H2 H3 → Is X.K H3 (din i) v → PD (cxComp X scope cl N C s2 H2 fp) elt (σc.set 0 (some v)) H3 (dout i))
    {RR : Value → Addr → Result → Shared → Prop} {E : Value → Shared → Prop}
    (hRR : ∀ (L C : Addr) (s' : Shared) (He : Hp) (vs : List V) (m : Str → Option Value), s2.heap.objs.size ≤ C → s'.os = s2.os → AllBare s'.gens → Un (frs X.stack) fp H2 He s2.heap s'.heap → HOk X.prog X.w He s'.heap → s'.heap.Ns C m → He C = none →
      Same H2 He → H2 L = none → He L = some (.lst vs) → IsL X.K He ((List.range n).map dout) vs → RR (.ref L) C (.ok .next) s') :
    wpAny (model X.prog X.w) X.A (newList []) (fun acc s₃ => wpAny (model X.prog X.w) X.A (newFunctionEnv scope X.env.globals cl [] X.env.qual none .none (some X.env)) (fun cenv s₄ =>
      codeAny (model X.prog X.w) X.A (.compStart (.ListComp elt [⟨.Name x px, iter, [], 0⟩] scope pos) 0 (.ref it) acc { cenv with scope := relabel scope X.env }) (RR acc cenv.locals) s₄) E s₃) E s2 := by
  have fl : ∀ b ∈ fp, b < s2.heap.objs.size := fun b hb => by obtain ⟨o, e, _⟩ := T.obj 0 _ st b hb; exact Heap.lt_size e
  refine wpAny_newObj_type (wpAny_newFunctionEnv t.cell (by intro y hy; simp at hy) (fun h₁ hns₁ hsb₁ => ?_) t.kind)
  dsimp only at hns₁ hsb₁ ⊢
  generalize hG2 : s2.heap.push { cls := .type "list", dict := none, data := .seq ([] : List Value).toArray } = G2 at hns₁ hsb₁ ⊢
  have hC : G2.objs.size = s2.heap.objs.size + 1 := by rw [← hG2, Heap.size_push]
  have hDC : s2.heap.objs.size ≠ G2.objs.size := by rw [hC]; exact Nat.ne_of_lt (Nat.lt_succ_self _)
  have hCle : s2.heap.objs.size ≤ G2.objs.size := by rw [hC]; exact Nat.le_succ _
  have old : ∀ b o, s2.heap.get? b = some o → h₁.get? b = some o := fun b o e => hsb₁.extBut b o (by rw [hC]; exact Nat.ne_of_lt (Nat.lt_succ_of_lt (Heap.lt_size e))) (Heap.get?_push_of_some _ (hG2 ▸ Heap.get?_push_of_some _ e))
  have hL : h₁.get? s2.heap.objs.size = some { cls := .type "list", dict := none, data := .seq ([] : List Value).toArray } := hsb₁.extBut _ _ hDC (Heap.get?_push_of_some _ (hG2 ▸ Heap.get?_push_size _ rfl))
  have fr0 : H2 s2.heap.objs.size = none := I.hok.fresh (Nat.le_refl _)
  have frC : H2 G2.objs.size = none := I.hok.fresh hCle
  have ok := comp_ok I t fo fl hCle
  have I0 : ∀ s₃ : Shared, s₃ = { s2 with heap := h₁, toks := s2.toks + ([] : List (Str × Value)).length } →
      Inv (cxComp X scope cl N G2.objs.size s2 H2 fp) [] σc (upd H2 s2.heap.objs.size (.lst [])) s₃ := by
    rintro s₃ rfl
    refine ⟨ok, rfl, I.bare, Un.laid old (Nat.le_refl _) fr0, ⟨_, hns₁, fun i y v e1 e2 e3 => ?_⟩, fun y c h => ?_, ?_, fun y c h => ?_, fun p hp => absurd (show p ∈ ([] : List (Addr × Obj)) from hp) (by simp), ?_, t.len⟩
    · obtain ⟨j, j1, j2, j3, ⟨c, j4⟩, j5⟩ := t.cap i y v e1 e2
      obtain ⟨m, _, hl⟩ := I.loc
      obtain ⟨u, ru, lk⟩ := hl j y v j1 j2 (.inr (.inl j3))
      refine ⟨u, ru, .inr ⟨j5, c, j4, ?_⟩⟩
      rcases lk with ⟨k1, _⟩ | ⟨_, c', k2, o, ho, hd⟩
      · rw [j3] at k1; cases k1
      · rw [t.sub _ _ j4] at k2; cases k2
        exact ⟨o, old _ _ ho, hd⟩
    · obtain ⟨v, o, ho, hd⟩ := I.cell y c (t.sub _ _ h)
      exact ⟨v, o, old _ _ ho, hd⟩
    · show upd H2 s2.heap.objs.size (.lst []) G2.objs.size = none
      rw [upd_ne (Ne.symm hDC)]; exact frC
    · obtain ⟨v, o, ho, hd⟩ := I.cell y c (t.sub _ _ h)
      rw [upd_ne (Nat.ne_of_lt (Heap.lt_size ho))]; exact I.freeC y c (t.sub _ _ h)
    · exact I.hok.laid old (Nat.le_refl _) ⟨Nat.zero_le _, [], 0, .nil, hL⟩
  have loop : ∀ s₃ : Shared, s₃ = { s2 with heap := h₁, toks := s2.toks + ([] : List (Str × Value)).length } →
      codeAny (model X.prog X.w) X.A (.compLoop (.ListComp elt [⟨.Name x px, iter, [], 0⟩] scope pos) 0 (.ref it) (.ref s2.heap.objs.size) (compEnvC scope cl G2.objs.size X.env))
        (RR (.ref s2.heap.objs.size) G2.objs.size) s₃ := by
    intro s₃ hs₃
    refine compLoop_list (fun k s' => ∃ i a He vs, k = n - i ∧ i ≤ n ∧ Inv (cxComp X scope cl N G2.objs.size s2 H2 fp) [] (σc.set 0 a) He s' ∧ tn i s'.heap ∧ (∀ b ∈ fp, He b = none) ∧ Same H2 He ∧
      He s2.heap.objs.size = some (.lst vs) ∧ IsL X.K He ((List.range i).map dout) vs) ?_ n ?_
    · rintro k s' ⟨i, a, He, vs, rfl, hi, I3, st3, f3, e3, hl3, hv3⟩
      have fpk : ∀ b ∈ fp, FpOk (cxComp X scope cl N G2.objs.size s2 H2 fp) [] He b := fun b hb =>
        ⟨f3 b hb, (ok.exf b hb).1, ok.exfs b hb, .inl hb, (ok.exf b hb).2, fun p hp => absurd (show p ∈ ([] : List (Addr × Obj)) from hp) (by simp)⟩
      by_cases hlt : i < n
      · obtain ⟨go, yl⟩ := (fd He e3).1 i hlt
        refine thn (T.item (cxComp X scope cl N G2.objs.size s2 H2 fp) rfl rfl rfl hc i [] s' _ He _ I3 fpk st3 go) fun r s4 ⟨u, hr, h4⟩ => ?_
        subst hr
        refine thn h4 fun _ s5 ⟨v, H5, I5, r5, y5, st5, f5⟩ => ?_
        obtain ⟨rfl, hv⟩ := yl v H5 y5
        have I5' := I5.pinned (fun b hb => ⟨f5 b hb, (fpk b hb).2⟩) (T.obj _ _ st5)
        refine wpAny_mono (pg_name (X := cxComp X scope cl N G2.objs.size s2 H2 fp) (i := 0) t.nd t.first (.inl (lookup_relabel_local t.loc)) (.inr (lookup_relabel_local t.loc)) _ s5 _ H5 v u (fun σ' H' => σ' = σc.set 0 (some v) ∧ H' = H5) I5' r5 ⟨by rw [List.set_set], rfl⟩)
          (fun _ s6 ⟨σ6, H6, I6, e6, e6'⟩ => ?_) fun _ _ z => z.elim
        subst e6; subst e6'
        refine wpAny_mono (helt G2.objs.size i v H6 hlt e3 hv _ s6 _ H6 (fun y H7 => Same H6 H7 ∧ Is X.K H7 (dout i) y) I6 ⟨rfl, Same.refl _, fun y H7 e7 hy => ⟨e7, hy⟩⟩) (fun y s7 ⟨z, H7, I7, r7, e7, hz⟩ => ?_) fun _ _ z => z.elim
        have hl7 := e7 _ _ hl3
        have hlen : vs.length < sizeLine := small1000 (by rw [← hv3.length, List.length_map, List.length_range]; omega)
        refine wpAny_mono (mt_append (X := cxComp X scope cl N G2.objs.size s2 H2 fp) _ s7 _ H7 (.ref s2.heap.objs.size) [z] (.ref s2.heap.objs.size) [y] (fun _ H8 => H8 = upd H7 s2.heap.objs.size (.lst (vs ++ [z]))) I7 rfl (.cons r7 .nil)
          ⟨_, vs, z, rfl, rfl, hl7, hlen, rfl⟩) (fun _ s8 ⟨_, H8, I8, _, e8⟩ => ?_) fun _ _ z => z.elim
        subst e8
        refine ⟨n - (i + 1), by omega, i + 1, some v, _, vs ++ [z], rfl, hlt, I8.unpinned, ?_, ?_, ?_, upd_same, ?_⟩
        · exact T.keep _ _ _ st5 fun b hb o e => (I8.pin (b, o) (List.mem_append_right _ (List.mem_append_right _ (mem_pinsAt hb e)))).1
        · intro b hb
          obtain ⟨o, e, d⟩ := T.obj _ _ st5 b hb
          exact (I8.pin (b, o) (List.mem_append_right _ (List.mem_append_right _ (mem_pinsAt hb e)))).2.1
        · intro b o e
          rw [upd_ne (ne_of_none e fr0)]; exact e7 _ _ (e3 _ _ e)
        · rw [List.range_succ, List.map_append]
          refine IsL.append ((hv3.mono e7).updL hl7 ?_) (.cons (hz.updL hl7 (hno i)) .nil)
          clear hv3 hlt hi st3 go yl
          generalize List.range i = l
          induction l with
          | nil => rfl
          | cons a l ih => show (noL (dout a) && noLs (l.map dout)) = true; rw [hno a, ih]; rfl
      · obtain rfl : i = n := by omega
        refine wpAny_mono (T.done (cxComp X scope cl N G2.objs.size s2 H2 fp) rfl rfl rfl hc i [] s' _ He (fun _ _ => False) I3 fpk st3 (fd He e3).2) (fun r s4 ⟨hr, I4⟩ => ?_) fun _ _ z => z.elim
        subst hr
        obtain ⟨m, hm, _⟩ := I4.loc
        exact hRR _ _ s4 He vs m hCle I4.os I4.bare I4.base I4.hok hm I4.free e3 fr0 hl3 hv3
    · refine ⟨0, σc[0]?.getD none, _, [], by omega, Nat.zero_le _, ?_, ?_, fun b hb => ?_, same_upd fr0, upd_same, .nil⟩
      · have e : σc.set 0 (σc[0]?.getD none) = σc := by
          cases σc with
          | nil => rfl
          | cons a l => rfl
        rw [e]; exact I0 s₃ hs₃
      · rw [hs₃]; exact T.keep _ _ _ st fun b hb o e => old b o e
      · rw [upd_ne (Nat.ne_of_lt (fl b hb))]; exact (fo b hb).1
  exact codeAny_compStart_list (loop _ rfl) (T.self _ 0 _ _ _ (T.keep _ _ _ st fun b hb o e => old b o e) (loop _ rfl))
theorem comp_after (I : Inv X pins σ H2 s2) (fo : ∀ b ∈ fp, FpOk X pins H2 b) {He : Hp} {s' : Shared} (os : s'.os = s2.os) (bare : AllBare s'.gens) (un : Un (frs X.stack) fp H2 He s2.heap s'.heap) (hok : HOk X.prog X.w He s'.heap) : Inv X pins σ He s' :=
  I.call' os un hok bare fun b hb => ⟨(fo b hb).2.2.2.1, (fo b hb).2.1, (fo b hb).2.2.2.2.1, (fo b hb).2.2.2.2.2⟩
theorem comp_gone {σ : L2.St} {He : Hp} {s' : Shared} {C : Addr} {h' : Heap} (I : Inv X pins σ He s') (hC : X.s₀.heap.objs.size ≤ C) (hCL : C ≠ X.env.locals) (hcells : ∀ x c, X.env.cells.lookup x = some c → c ≠ C) (hpins : ∀ p ∈ X.pn ++ pins, p.1 ≠ C) (hn : He C = none)
    (hs : Heap.SameBut C s'.heap h') : Inv X pins σ He { s' with heap := h' } :=
  I.turned (t' := s'.toks) (fun b o hb e => (hs.2 b hb).trans e) hn hCL (.inr hC) hcells hpins
variable {H : Hp}
theorem pl_comp (hc : X.calm = true) (t : Takes X σ scope cl N σc x) (hG : Gives X (.Name x px) iter σ H n din) (hn : n ≤ 1000) (hno : ∀ i, noL (dout i) = true)
    (helt : ∀ (C : Addr) (s2 : Shared) (H2 : Hp) (fp : List Addr) (i : Nat) (v : V) (H3 : Hp), i < n → Same H H3 → Is X.K H3 (din i) v → PD (cxComp X scope cl N C s2 H2 fp) elt (σc.set 0 (some v)) H3 (dout i))
    (hfs : ∀ x, foldedSetIterable iter X.env x = pure x := by intro _; rfl) : PL X (.ListComp elt [⟨.Name x px, iter, [], 0⟩] scope pos) σ H ((List.range n).map dout) := by
  intro pins s σ' H1 Q I ⟨hs, e1, q⟩
  subst hs
  obtain ⟨wi, hPI, hwi⟩ := hG
  rw [eval_ListComp]
  refine wpAny_comprehension_free (use := none) rfl hfs t.clos t.kind t.names (thn (hPI pins s σ' H1 (fun J H2 => Same H1 H2 ∧ Feeds X.K J H2 n din) I (hwi H1 _ e1 fun J H2 e2 fd => ⟨e2, fd⟩)) fun v s1 h1 => thn h1 fun itv s2 h2 => ?_)
  obtain ⟨it, fp, tn, J, H2, rfl, I2, T, st, fo, e2, fd⟩ := h2
  refine comp_block I2 hc t T st fo fd hn hno (fun C i v H3 hi e3 hv => helt C s2 H2 fp i v H3 hi ((e1.trans e2).trans e3) hv) (RR := fun acc C => compPost (model X.prog X.w) X.A X.xe none (EP X pins σ' Q) acc C) ?_
  intro L C s' He vs m hC os bare un hok hm hCn e3 hLn hl hv
  refine ⟨m, hm, fun h' hs' => ?_⟩
  have I3 := comp_after I2 fo os bare un hok
  have I4 := comp_gone I3 (Nat.le_trans I2.sz hC) (Nat.ne_of_gt (Nat.lt_of_lt_of_le I2.lt hC)) (fun y c e z => by obtain ⟨w', o, ho, _⟩ := I2.cell y c e; exact absurd (Nat.lt_of_lt_of_le (Heap.lt_size ho) (z ▸ hC)) (Nat.lt_irrefl _))
    (fun p hp z => absurd (Nat.lt_of_lt_of_le (Heap.lt_size (I2.pin p hp).1) (z ▸ hC)) (Nat.lt_irrefl _)) hCn hs'
  exact ⟨.ref L, He, I4, rfl, q L vs He (e2.trans e3) (e2.free hLn) hl hv⟩
theorem ps_comp {i : Nat} {y : Str} {py spos : Pos} (hN : X.N.Nodup) (hi : X.N[i]? = some y) (hy : Loc X.env.scope y) (hf : X.fn y = true ∨ X.env.scope.names.lookup y = some .local) (hsw : swapsWith (.ListComp elt [⟨.Name x px, iter, [], 0⟩] scope pos) (some (.Name y py)) spos.line X.env = pure true)
    (hc : X.calm = true) (t : Takes X σ scope cl N σc x) (hG : Gives X (.Name x px) iter σ H n din) (hn : n ≤ 1000) (hno : ∀ i, noL (dout i) = true)
    (helt : ∀ (C : Addr) (s2 : Shared) (H2 : Hp) (fp : List Addr) (i : Nat) (v : V) (H3 : Hp), i < n → Same H H3 → Is X.K H3 (din i) v → PD (cxComp X scope cl N C s2 H2 fp) elt (σc.set 0 (some v)) H3 (dout i))
    (hfs : ∀ x, foldedSetIterable iter X.env x = pure x := by intro _; rfl) : PS X (.Assign [.Name y py] (.ListComp elt [⟨.Name x px, iter, [], 0⟩] scope pos) spos) (tAsg (tL X.K σ H ((List.range n).map dout)) (gName i)) := by
  intro pins s σ' H1 D I ⟨hs, e1, q⟩
  subst hs
  obtain ⟨wi, hPI, hwi⟩ := hG
  rw [exec_Assign_Name_used _ _ _ _ hsw]
  refine wpAny_bind (wpAny_standAt (wpAny_bind ?_))
  show wpAny _ X.A (do let _ ← comprehension (.ListComp elt [⟨.Name x px, iter, [], 0⟩] scope pos) scope X.env _ (newList []) false (eval iter X.env) (some (assign (.Name y py) X.env))) _ _ s
  refine wpAny_bind (wpAny_mono (wpAny_comprehension_free (use := some (assign (.Name y py) X.env)) (Q := fun _ s' => SP X pins D .next s') rfl hfs t.clos t.kind t.names
    (thn (hPI pins s σ' H1 (fun J H2 => Same H1 H2 ∧ Feeds X.K J H2 n din) I (hwi H1 _ e1 fun J H2 e2 fd => ⟨e2, fd⟩)) fun v s1 h1 => thn h1 fun itv s2 h2 => ?_)) (fun _ s' hq => wpAny_pure (wpAny_pure hq)) fun _ _ e => e)
  obtain ⟨it, fp, tn, J, H2, rfl, I2, T, st, fo, e2, fd⟩ := h2
  refine comp_block I2 hc t T st fo fd hn hno (fun C i v H3 hi e3 hv => helt C s2 H2 fp i v H3 hi ((e1.trans e2).trans e3) hv) (RR := fun acc C => compPost (model X.prog X.w) X.A X.xe (some (assign (.Name y py) X.env)) (fun _ s' => SP X pins D .next s') acc C) ?_
  intro L C s' He vs m hC os bare un hok hm hCn e3 hLn hl hv
  have hCL : C ≠ X.env.locals := Nat.ne_of_gt (Nat.lt_of_lt_of_le I2.lt hC)
  have hCc : ∀ x c, X.env.cells.lookup x = some c → c ≠ C := fun y c e z => by obtain ⟨w', o, ho, _⟩ := I2.cell y c e; exact absurd (Nat.lt_of_lt_of_le (Heap.lt_size ho) (z ▸ hC)) (Nat.lt_irrefl _)
  have I3 := comp_after I2 fo os bare un hok
  show wpAny _ X.A (assign (.Name y py) X.env (.ref L)) _ _ s'
  refine wpAny_assign_Name (store_ok2 (v := .ref L) I3 hN hi hy rfl (fun s5 I5 ⟨a, sb, ha⟩ => ?_) hf)
  have haC : C ≠ a := by
    rcases ha with rfl | ha
    · exact hCL
    · exact fun z => hCc _ _ ha z.symm
  refine ⟨m, hm.sameBut sb haC, fun h' hs' => ?_⟩
  have I6 := comp_gone I5 (Nat.le_trans I2.sz hC) hCL hCc (fun p hp z => absurd (Nat.lt_of_lt_of_le (Heap.lt_size (I2.pin p hp).1) (z ▸ hC)) (Nat.lt_irrefl _)) hCn hs'
  exact ⟨_, He, I6, q L vs He (e2.trans e3) (e2.free hLn) hl hv⟩
theorem gives_list {tg : Expr} {ds : List D} (he : PD X iter σ H (.lst ds)) : Gives X tg iter σ H ds.length (fun i => ds.getD i .non) :=
  ⟨_, pi_list he, fun H1 R e1 q => ⟨rfl, e1, fun v H2 e2 hv => by
    cases hv with
    | @lst p xs _ hq l =>
      refine ⟨_, rfl, ⟨_, hq⟩, q _ _ e2 fun H3 e3 => ⟨fun i hi => ?_, ?_⟩⟩
      · have hi' : i < xs.length := by rw [← l.length]; exact hi
        refine ⟨⟨xs, xs[i], e3.seq hq, by simp [hi']⟩, fun v H' ⟨ee, y⟩ => ⟨ee, ?_⟩⟩
        have hx := y xs (e3.seq hq)
        obtain ⟨d, hd1, hd2⟩ := l.get' hx
        show Is X.K H3 (ds.getD i .non) v
        rw [List.getD_eq_getElem?_getD, hd1]
        exact hd2.mono e3
      · exact ⟨xs, e3.seq hq, by rw [l.length]; exact Nat.le_refl _⟩⟩⟩
theorem gives_range {tg a : Expr} {p pos1 : Pos} {j : Int} (hm : X.mg "range" = none) (he : PD X a σ H (.int j)) (hj : 0 ≤ j ∧ j < 2 ^ 62) (hg : Gl X "range" := by rfl) (hst : starEach [a] X.env = [(false, eval a X.env)] := by rfl) :
    Gives X tg (.Call (.Name "range" p) [a] [] pos1) σ H j.toNat (fun i => .int i) :=
  ⟨_, pi_range1 hg hm (pda_cons he pda_nil hst) hst, fun H1 R e1 q => ⟨rfl, e1, fun vs H2 e2 hvs => by
    cases hvs with
    | cons h l =>
      cases h; cases l
      refine ⟨j, rfl, by omega, hj.2, q _ _ e2 fun H3 e3 => ⟨fun i hi => ⟨hi, fun v H' ⟨ee, y⟩ => ⟨ee, ?_⟩⟩, Nat.le_refl _⟩⟩
      rw [y, Int.zero_add]; exact .int _⟩⟩
end
theorem takes0 {X : Cx} {σ : L2.St} {scope : Scope} {x : Str} (hfree : ∀ y ∈ scope.names, y.2 ≠ .free) (hcell : ∀ y ∈ scope.names, y.2 ≠ .cell) (hkind : scope.kind = .function)
    (hnames : ∀ y ∈ scope.names, y.2 = .local → scope.names.lookup y.1 = some .local) (hloc : scope.names.lookup x = some .local) : Takes X σ scope [] [x] [none] x where
  clos := closureFor_none hfree
  cell := hcell
  kind := hkind
  names := hnames
  loc := hloc
  nd := by simp
  first := rfl
  len := rfl
  sub := fun _ _ h => nomatch h
  has := fun y h => by
    have no : ∀ k, (relabel scope X.env).names.lookup y = some k → (k = .cell ∨ k = .free) → False := fun k hk hk2 => by
      have hm := PySem.mem_of_lookup hk
      obtain ⟨⟨n', k'⟩, hm1, hm2⟩ := List.mem_map.mp hm
      have h1 := hfree _ hm1
      have h2 := hcell _ hm1
      dsimp only at hm2 h1 h2
      have e : (k' == NameKind.free) = false := by simpa using h1
      rw [e] at hm2
      simp only [Bool.false_and, Bool.false_eq_true, if_false] at hm2
      cases hm2
      rcases hk2 with z | z
      · exact h2 z
      · exact h1 z
    rcases h with h | h
    · exact (no _ h (.inl rfl)).elim
    · exact (no _ h (.inr rfl)).elim
  cap := fun i y v h1 h2 => by
    match i, h2 with
    | 0, h2 => cases h2
    | i + 1, h2 => simp at h2
section
variable {X : Cx} {a b : Expr} {σ : L2.St} {H : Hp} {d : D} {ds : List D} {pos : Pos}
theorem pdt_inL {x : V} {vs : List V} (ha : PD X a σ H d) (hb : PD X b σ H (.lst ds)) (h1 : ∀ H' v, Is X.K H' d v → v = x) (h2 : ∀ H' us, IsL X.K H' ds us → us = vs) (f1 : flatV x = true := by rfl) (f2 : vs.all flatV = true := by rfl)
    (hm : behindInMarks .In b = false := by with_unfolding_all rfl) : PDT X (.Compare a [.In] [b] pos) σ H (inV x vs) :=
  pdt_cmp2 op_in_seq ha hb hm fun x' y' H1 Q e1 hx hy q => by
    obtain rfl := h1 _ _ hx
    cases hy with
    | lst hq l =>
      obtain rfl := h2 _ _ l
      exact ⟨_, _, rfl, .inl hq, f1, f2, q _ _ (Same.refl _) (.bl _)⟩
end
end L3
set_option Elab.async false
set_option linter.all false
namespace L3
open PySem
def ExcNew (h : Heap) (a C : Addr) : Prop := ∃ vs, h.get? a = some { cls := .ref C, data := .fields vs } ∧ vs[1]? = some .none
def ExcFly (h : Heap) (a T C : Addr) : Prop :=
  ∃ vs oT ts, h.get? a = some { cls := .ref C, data := .fields vs } ∧ vs[1]? = some (.ref T) ∧ T ≠ a ∧ h.get? T = some oT ∧ oT.data = .fields ts ∧ ts[3]? = some .none
structure Past (fr : List Addr) (a : Addr) (T? : Option Addr) (h h' : Heap) : Prop where
  keep : ∀ b o, h.get? b = some o → b ≠ a → T? ≠ some b → b ∉ fr → h'.get? b = some o
  slot : ∀ b o, h.get? b = some o → b ∈ fr → ∃ sl, h'.get? b = some { o with slots := sl }
  there : ∀ b o, h.get? b = some o → ∃ o', h'.get? b = some o'
section
variable {M : Model} {A : Around} {E E' : Value → Shared → Prop} {s : Shared} {base : Heap} {env : Env} {outer : List Env} {L a C : Addr}
theorem flying_step {Z : Shared → Prop} {vs : Array Value} {head : Value} {hn : Bool} (hfr : A.frames = some (env :: outer)) (hl : s.heap.FunFrames base (env :: outer)) (hf : env.frame = some L)
    (he : s.heap.get? a = some { cls := .ref C, data := .fields vs }) (h1 : 1 < vs.size)
    (k : ∀ h' T, s.heap.get? T = none → Past ((env :: outer).filterMap (·.frame)) a none s.heap h' → ExcFly h' a T C → Z { s with heap := h' }) :
    wpAny M A (do setField (.ref a) 1 (← EntryCells.newEntry head (← frameOf env) .none (rawInt L) .none (← entryPlaceOf L hn))) (fun _ s2 => wpAny M A (setFlight (.ref a) none) (fun _ s3 => Z s3) E s2) E' s := by
  have nfr : a ∉ (env :: outer).filterMap (·.frame) := fun z => by
    obtain ⟨_, o, e1, e2⟩ := hl.mem z
    rw [he] at e1
    cases e1
    exact e2 _ rfl
  refine wpAny_bind (wpAny_frameOf_fun hfr hl hf fun g1 sl => ?_)
  refine wpAny_bind (wpAny_entryPlaceOf fun pl hp => ?_)
  refine wpAny_bind (wpAny_newObj_type ?_ (hp.sizeOk5 _ _ _ _ _))
  generalize hob : ({ cls := .type "traceback", dict := none, data := .fields ([head, .ref L, .none, rawInt L, .none] ++ (if pl.isEmpty then List.replicate 6 Value.none else pl)).toArray } : Obj) = ob
  obtain ⟨ts, hts, ht3⟩ : ∃ ts, ob.data = .fields ts ∧ 3 < ts.size := ⟨_, by rw [← hob], by simp only [List.size_toArray, List.length_append, List.length_cons]; omega⟩
  have e1 : g1.get? a = some { cls := .ref C, data := .fields vs } := by rw [sl.2.1 a nfr]; exact he
  have lt := Heap.lt_size e1
  have ne : g1.objs.size ≠ a := Nat.ne_of_gt lt
  have e2 := Heap.get?_push_of_some (h := g1) ob e1
  have t2 : (g1.push ob).get? g1.objs.size = some ob := Heap.get?_push_size g1 (by cases ob; subst hts; rfl)
  refine wpAny_setField (o := { cls := .ref C, data := .fields vs }) e2 rfl h1 ?_
  have e3 := Heap.get?_update_self (Obj.mapFields (·.setIfInBounds 1 (Value.ref g1.objs.size))) e2 rfl
  have t3 : ((g1.push ob).update a (Obj.mapFields (·.setIfInBounds 1 (Value.ref g1.objs.size)))).get? g1.objs.size = some ob := by
    rw [Heap.get?_update_other _ _ (Ne.symm ne)]; exact t2
  unfold setFlight
  refine wpAny_bind (wpAny_field (x := .ref g1.objs.size) e3 rfl (by simp [h1]) ?_)
  rw [if_pos (by simp)]
  refine wpAny_setField t3 hts ht3 (k _ g1.objs.size (Heap.get?_none_of_le (by rw [sl.1]; exact Nat.le_refl _)) ?_ ?_)
  · have oth : ∀ b o, b ≠ a → g1.get? b = some o → (((g1.push ob).update a (Obj.mapFields (·.setIfInBounds 1 (Value.ref g1.objs.size)))).update g1.objs.size (Obj.mapFields (·.setIfInBounds 3 ((none : Option Addr).elim Value.none fun f => rawInt f)))).get? b = some o := fun b o hb q => by
      rw [Heap.get?_update_other _ _ (Nat.ne_of_gt (Heap.lt_size q)), Heap.get?_update_other _ _ (Ne.symm hb)]
      exact Heap.get?_push_of_some _ q
    refine ⟨fun b o q hb _ hnf => oth b o hb (by rw [sl.2.1 b hnf]; exact q), fun b o q hbf => ?_, fun b o q => ?_⟩
    · obtain ⟨z, hz⟩ := sl.2.2 b o q
      exact ⟨z, oth b _ (fun w => nfr (w ▸ hbf)) hz⟩
    · by_cases hb : b = a
      · subst hb
        exact ⟨_, by rw [Heap.get?_update_other _ _ ne]; exact e3⟩
      · obtain ⟨z, hz⟩ := sl.2.2 b o q
        exact ⟨_, oth b _ hb hz⟩
  · refine ⟨_, _, _, by rw [Heap.get?_update_other _ _ ne]; exact e3, by simp [h1], ne, Heap.get?_update_self _ t3 (Obj.isFreed_of_fields (Obj.data_mapFields hts _)), Obj.data_mapFields hts _, ?_⟩
    simp [ht3]
theorem lands_new {Z : Shared → Prop} (hfr : A.frames = some (env :: outer)) (hl : s.heap.FunFrames base (env :: outer)) (hf : env.frame = some L) (x : ExcNew s.heap a C)
    (k : ∀ h' T, s.heap.get? T = none → Past ((env :: outer).filterMap (·.frame)) a none s.heap h' → ExcFly h' a T C → Z { s with heap := h' }) :
    wpAny M A (noteFrame (.ref a) env) (fun _ s2 => wpAny M A (setFlight (.ref a) none) (fun _ s3 => Z s3) E s2) E' s := by
  obtain ⟨vs, he, h1⟩ := x
  unfold noteFrame
  simp only [hf]
  refine wpAny_bind (wpAny_field he rfl h1 ?_)
  rw [if_neg (by decide)]
  exact flying_step hfr hl hf he (Array.getElem?_eq_some_iff.mp h1).1 k
theorem lands_fly {Z : Shared → Prop} {T : Addr} (hfr : A.frames = some (env :: outer)) (hl : s.heap.FunFrames base (env :: outer)) (hf : env.frame = some L) (x : ExcFly s.heap a T C)
    (k : ∀ h' T', s.heap.get? T' = none → Past ((env :: outer).filterMap (·.frame)) a (some T) s.heap h' → ExcFly h' a T' C → Z { s with heap := h' }) :
    wpAny M A (noteFrame (.ref a) env) (fun _ s2 => wpAny M A (setFlight (.ref a) none) (fun _ s3 => Z s3) E s2) E' s := by
  obtain ⟨vs, oT, ts, he, h1, ne, hT, hts, h3⟩ := x
  unfold noteFrame
  simp only [hf]
  refine wpAny_bind (wpAny_field he rfl h1 ?_)
  rw [if_pos (by simp)]
  refine wpAny_bind (wpAny_field hT hts h3 ?_)
  rw [if_neg (by simp [rawInt])]
  refine wpAny_bind (wpAny_setField hT hts (Array.getElem?_eq_some_iff.mp h3).1 ?_)
  have oth : ∀ b, b ≠ T → (s.heap.update T (Obj.mapFields (·.setIfInBounds 3 Value.none))).get? b = s.heap.get? b := fun b hb => Heap.get?_update_other _ _ (Ne.symm hb)
  have own := Heap.get?_update_self (Obj.mapFields (·.setIfInBounds 3 Value.none)) hT (Obj.isFreed_of_fields (Obj.data_mapFields hts _))
  have nT : T ∉ (env :: outer).filterMap (·.frame) := fun z => by
    obtain ⟨_, o, e1, e2⟩ := hl.mem z
    rw [hT] at e1
    cases e1
    exact e2 _ hts
  have all : ∀ b o, s.heap.get? b = some o → ∃ o', (s.heap.update T (Obj.mapFields (·.setIfInBounds 3 Value.none))).get? b = some o' := fun b o q => by
    by_cases hb : b = T
    · subst hb; exact ⟨_, own⟩
    · exact ⟨o, by rw [oth b hb]; exact q⟩
  refine flying_step (s := { s with heap := s.heap.update T (Obj.mapFields (·.setIfInBounds 3 Value.none)) }) hfr (hl.of_keeps fun b o q nf => ⟨o, by rw [oth b (fun z => nf ts (by rw [z, hT] at q; cases q; exact hts))]; exact q, rfl⟩) hf
    (by show Heap.get? _ a = _; rw [oth a (Ne.symm ne)]; exact he) (Array.getElem?_eq_some_iff.mp h1).1 fun h' T' n P fl => k h' T' ?_ ?_ fl
  · cases q : s.heap.get? T' with
    | none => rfl
    | some o =>
      obtain ⟨o', z⟩ := all T' o q
      have n' : (s.heap.update T (Obj.mapFields (·.setIfInBounds 3 Value.none))).get? T' = none := n
      rw [z] at n'; cases n'
  · refine ⟨fun b o q ha hT' hnf => P.keep b o ?_ ha (by simp) hnf, fun b o q hb => P.slot b o ?_ hb, fun b o q => ?_⟩
    · show Heap.get? _ b = _
      rw [oth b (fun z => hT' (by rw [z]))]; exact q
    · show Heap.get? _ b = _
      rw [oth b (fun z => nT (z ▸ hb))]; exact q
    · obtain ⟨o', z⟩ := all b o q
      exact P.there b o' z
end
end L3
namespace L3
open PySem PySem.Spec PyProof.Rows L2
theorem objOk_there {P : Program} {w : World} {H : Hp} {h : Heap} {a : Addr} {o : HO} (x : ObjOk P w H h a o) : ∃ u, h.get? a = some u := by
  cases o with
  | lst xs => obtain ⟨_, _, _, _, e⟩ := x; exact ⟨_, e⟩
  | tup xs => obtain ⟨_, _, _, _, e, _⟩ := x; exact ⟨_, e⟩
  | dK kvs => obtain ⟨_, _, _, _, o, _, _, e, _⟩ := x; exact ⟨_, e⟩
  | dT kvs => obtain ⟨_, _, _, _, o, _, _, e, _⟩ := x; exact ⟨_, e⟩
  | set S n => obtain ⟨o, _, _, _, e, _⟩ := x; exact ⟨_, e⟩
  | ins C dx fs => obtain ⟨_, _, _, e, _⟩ := x; exact ⟨_, e⟩
  | own y => exact x
  | xd fs => obtain ⟨_, ⟨_, _, _, e, _⟩, _⟩ := x; exact ⟨_, e⟩
  | rng lo hi => obtain ⟨_, _, _, e⟩ := x; exact ⟨_, e⟩
  | frz ob u => obtain ⟨e, _⟩ := x; exact ⟨_, e⟩
  | tbl ps => exact ⟨_, x⟩
  | met f y => exact ⟨_, x⟩
  | ext φ => exact x.2.1
theorem free_of_none {P : Program} {w : World} {H : Hp} {h : Heap} {a : Addr} (x : HOk P w H h) (e : h.get? a = none) : H a = none := by
  cases q : H a with
  | none => rfl
  | some u =>
    obtain ⟨v, hv⟩ := objOk_there (x a u q)
    rw [e] at hv; cases hv
section
variable {X : Cx} {pins : List (Addr × Obj)} {σ : L2.St} {H : Hp} {s : Shared} {h' : Heap} {a : Addr} {T? : Option Addr}
theorem inv_past (I : Inv X pins σ H s) (hst : X.stack = X.env :: X.outer) (hfr : X.env.frame = some X.env.locals) (P : Past (frs X.stack) a T? s.heap h') (fa : ∃ o vs, s.heap.get? a = some o ∧ o.data = .fields vs)
    (na : H a = none) (a0 : X.s₀.heap.get? a = none) (pa : ∀ p ∈ X.pn ++ pins, p.1 ≠ a) (hT : ∀ T, T? = some T → H T = none ∧ X.s₀.heap.get? T = none ∧ (∀ p ∈ X.pn ++ pins, p.1 ≠ T) ∧ ∃ o vs, s.heap.get? T = some o ∧ o.data = .fields vs) :
    Inv X pins σ H { s with heap := h' } := by
  have inL : X.env.locals ∈ frs X.stack := by rw [hst]; unfold frs; rw [List.filterMap_cons, hfr]; exact List.mem_cons_self
  have sub : ∀ b ∈ X.fs, b ∈ frs X.stack := fun b hb => by rw [hst]; unfold frs; rw [List.filterMap_cons, hfr]; exact List.mem_cons_of_mem _ hb
  have neT : ∀ b, (∀ T, T? = some T → b ≠ T) → T? ≠ some b := fun b hb z => hb b z rfl
  have cellK : ∀ x c, X.env.cells.lookup x = some c → ∀ v, s.heap.IsCell c v → h'.IsCell c v := fun x c _ v ⟨o, ho, hd⟩ => by
    by_cases hc : c ∈ frs X.stack
    · obtain ⟨sl, q⟩ := P.slot c o ho hc
      exact ⟨_, q, hd⟩
    · refine ⟨o, P.keep c o ho (fun z => ?_) (neT c fun T hTT z => ?_) hc, hd⟩
      · obtain ⟨o2, vs, e, d⟩ := fa
        rw [z, e] at ho; cases ho; rw [d] at hd; cases hd
      · obtain ⟨_, _, _, o2, vs, e, d⟩ := hT T hTT
        rw [z, e] at ho; cases ho; rw [d] at hd; cases hd
  refine ⟨I.ok, I.os, I.bare, ⟨fun b o e n hb hx => ?_, fun b o e n hb hx => ?_, I.base.free, fun b o e hx => ?_, I.base.tups, I.base.frzs, I.base.tbls⟩, ?_, fun x c e => ?_, I.free, I.freeC, fun p hp => ?_, fun b u e => ?_, I.len⟩
  · refine P.keep b o (I.base.keep b o e n hb hx) (fun z => by rw [z, a0] at e; cases e) (neT b fun T hTT z => by rw [z, (hT T hTT).2.1] at e; cases e) fun z => ?_
    rcases List.mem_cons.mp (I.stkSub b z) with y | y
    · exact absurd (Nat.lt_of_lt_of_le (Heap.lt_size e) (y ▸ I.ok.above)) (Nat.lt_irrefl _)
    · exact hb y
  · obtain ⟨sl, e1⟩ := I.base.slot b o e n hb hx
    obtain ⟨sl2, e2⟩ := P.slot b _ e1 (sub b hb)
    exact ⟨sl2, e2⟩
  · obtain ⟨o', e1⟩ := I.base.there b o e hx
    exact P.there b o' e1
  · obtain ⟨m, ⟨o, es, ep, ho, hr⟩, hl⟩ := I.loc
    obtain ⟨sl, q⟩ := P.slot _ o ho inL
    refine ⟨m, ⟨_, es, ep, q, hr⟩, fun i x v e1 e2 e3 => ?_⟩
    obtain ⟨u, r, l⟩ := hl i x v e1 e2 e3
    refine ⟨u, r, ?_⟩
    rcases l with l | ⟨k, c, e, z⟩
    · exact .inl l
    · exact .inr ⟨k, c, e, cellK x c e _ z⟩
  · obtain ⟨v, z⟩ := I.cell x c e
    exact ⟨v, cellK x c e v z⟩
  · obtain ⟨e, n, ne, nf, d⟩ := I.pin p hp
    refine ⟨P.keep _ _ e (pa p hp) (neT _ fun T hTT => (hT T hTT).2.2.1 p hp) fun z => ?_, n, ne, nf, d⟩
    rcases List.mem_cons.mp (I.stkSub _ z) with y | y
    · exact ne y
    · exact nf y
  · have tr : ∀ c u v, H c = some u → s.heap.get? c = some v → h'.get? c = some v := fun c u v hc q => by
      refine P.keep c v q (fun z => by rw [z, na] at hc; cases hc) (neT c fun T hTT z => by rw [z, (hT T hTT).1] at hc; cases hc) fun z => ?_
      rw [I.stkFree c z] at hc; cases hc
    refine (I.hok b u e).stay (fun c v hc q => ?_) (fun _ q => q) fun _ _ q => q
    rcases hc with rfl | hc
    · exact tr c u v e q
    · exact tr c _ v hc q
end
structure Aloft (X : Cx) (pins : List (Addr × Obj)) (H : Hp) (h : Heap) (a C : Addr) : Prop where
  na : H a = none
  s0 : X.s₀.heap.get? a = none
  pa : ∀ p ∈ X.pn ++ pins, p.1 ≠ a
  st : ExcNew h a C ∨ ∃ T, H T = none ∧ X.s₀.heap.get? T = none ∧ (∀ p ∈ X.pn ++ pins, p.1 ≠ T) ∧ ExcFly h a T C
def CX1 (P : Program) (w : World) : CXT := fun outer H s E e s' => ∃ a T C H', e = .ref a ∧ s'.os = s.os ∧ AllBare s'.gens ∧ Un (frs outer) [] H H' s.heap s'.heap ∧ HOk P w H' s'.heap ∧ H' a = none ∧ H' T = none ∧
  s.heap.get? a = none ∧ s.heap.get? T = none ∧ ExcFly s'.heap a T C ∧ E (.ref C) none H'
section
variable {X : Cx} {pins : List (Addr × Obj)} {σ : L2.St} {H : Hp} {s s' : Shared} {a C : Addr} {E : XK} {e : Value}
theorem s0_none (I : Inv X pins σ H s) (hx : X.ex = []) (h : s.heap.get? a = none) : X.s₀.heap.get? a = none := by
  cases q : X.s₀.heap.get? a with
  | none => rfl
  | some o =>
    obtain ⟨o', z⟩ := I.base.there a o q (by rw [hx]; simp)
    rw [h] at z; cases z
theorem pin_ne (I : Inv X pins σ H s) (h : s.heap.get? a = none) : ∀ p ∈ X.pn ++ pins, p.1 ≠ a := fun p hp z => by
  have := (I.pin p hp).1
  rw [z, h] at this; cases this
theorem aloft_call (I : Inv X pins σ H s) (hx : X.ex = []) (h : CX1 X.prog X.w X.stack H s E e s') : ∃ a C H', e = .ref a ∧ Inv X pins σ H' s' ∧ Aloft X pins H' s'.heap a C ∧ E (.ref C) none H' := by
  obtain ⟨a, T, C, H', rfl, os, bare, un, hok, na, nT, a0, T0, fl, q⟩ := h
  exact ⟨a, C, H', rfl, I.call' os un hok bare (fun b z => absurd z (by simp)), ⟨na, s0_none I hx a0, pin_ne I a0, .inr ⟨T, nT, s0_none I hx T0, pin_ne I T0, fl⟩⟩, q⟩
theorem inv_lands {M : Model} {A : Around} {E1 E2 : Value → Shared → Prop} {Z : Shared → Prop} (I : Inv X pins σ H s) (hx : X.ex = []) (hst : X.stack = X.env :: X.outer) (hfr : X.env.frame = some X.env.locals) (hA : A.frames = some X.stack) (al : Aloft X pins H s.heap a C)
    (k : ∀ h' T, Inv X pins σ H { s with heap := h' } → H T = none → X.s₀.heap.get? T = none → (∀ p ∈ X.pn ++ pins, p.1 ≠ T) → ExcFly h' a T C → Z { s with heap := h' }) :
    wpAny M A (noteFrame (.ref a) X.env) (fun _ s2 => wpAny M A (setFlight (.ref a) none) (fun _ s3 => Z s3) E1 s2) E2 s := by
  have hA' : A.frames = some (X.env :: X.outer) := by rw [hA, hst]
  have hl : s.heap.FunFrames X.base (X.env :: X.outer) := hst ▸ I.stack
  have efr : (X.env :: X.outer).filterMap (·.frame) = frs X.stack := by rw [hst]; rfl
  rcases al.st with nw | ⟨T, nT, T0, pT, fl⟩
  · obtain ⟨vs, e1, _⟩ := id nw
    refine lands_new hA' hl hfr nw fun h' T hT P fl => ?_
    rw [efr] at P
    exact k h' T (inv_past I hst hfr P ⟨_, vs, e1, rfl⟩ al.na al.s0 al.pa fun _ z => nomatch z) (free_of_none I.hok hT) (s0_none I hx hT) (pin_ne I hT) fl
  · obtain ⟨vs, oT, ts, e1, _, _, e2, e3, _⟩ := id fl
    refine lands_fly hA' hl hfr fl fun h' T' hT P fl' => ?_
    rw [efr] at P
    exact k h' T' (inv_past I hst hfr P ⟨_, vs, e1, rfl⟩ al.na al.s0 al.pa fun T2 z => by cases z; exact ⟨nT, T0, pT, _, ts, e2, e3⟩) (free_of_none I.hok hT) (s0_none I hx hT) (pin_ne I hT) fl'
end
def Lands (X : Cx) (C : Addr) (P : L2.St → Hp → Prop) : Prop := ∀ pins s σ H a, Inv X pins σ H s → P σ H → Aloft X pins H s.heap a C → X.xe (.ref a) s
theorem lands_fn {P : Program} {w : World} {K : PySem.W.Frag} {mg : Str → Option Value} {base : Heap} {N : List Str} {qual : Str} {scope : Scope} {f : Addr} {cd : Value} {A : Around} {outer : List Env} {s : Shared} {H : Hp} {E : XK} {C : Addr} (h : ∀ H', Same H H' → E (.ref C) none H') :
    Lands (cxOf (CX1 P w) P w K mg base N qual scope f cd A outer s H E) C (fun _ H' => Same H H') := fun pins s' σ' H' a I hP al => by
  show wpAny _ _ (leaving _ _) _ _ _
  unfold leaving
  refine wpAny_bind (inv_lands I rfl rfl rfl I.ok.frames al fun h' T I2 nT T0 _ fl => ?_)
  exact ⟨a, T, C, H', rfl, I2.os, I2.bare, I2.base, I2.hok, al.na, nT, al.s0, T0, fl, h H' hP⟩
def tX (σ : L2.St) (H : Hp) : TS := fun _ σ' H1 => σ' = σ ∧ Same H H1
def PX (X : Cx) (sts : List Stmt) (σ : L2.St) (H : Hp) : Prop := PSs X sts (tX σ H)
def PXE (X : Cx) (e : Expr) (σ : L2.St) (H : Hp) : Prop := PE X e (fun σ' H1 _ => σ' = σ ∧ Same H H1)
def spX (K : PySem.W.Frag) (RX : List D → Addr → Prop) : Sp := fun vs H _ E => ∃ ds C, IsL K H ds vs ∧ RX ds C ∧ ∀ H', Same H H' → E (.ref C) none H'
section
variable {X : Cx} {e c : Expr} {es : List Expr} {σ : L2.St} {H : Hp} {d : D} {ds : List D} {k : Bool} {p pos : Pos} {st : Stmt} {sts rest els : List Stmt} {C : Addr} {Pw : L2.St → Hp → Prop} {Post : L2.St → Hp → Prop}
theorem pxe_call {n : Nat} {f : Addr} {fd : FuncData} {ps : List Str} {RX : List D → Addr → Prop} {x : Str} (F : FnOk X.prog X.w X.K X.mg X.base (CX1 X.prog X.w) n f fd ps (spX X.K RX)) (hr : Room n X.A) (hx : X.ex = []) (hm : X.mg x = some (.ref f))
    (hk : PySem.W.keepIn X.K (.ref f) = true) (hb : Binds X.K fd ps []) (ha : PDA X (e :: es) σ H ds) (hR : RX ds C) (hL : ∀ C, RX ds C → Lands X C Pw) (hP : ∀ H', Same H H' → Pw σ H') (hg : Gl X x := by rfl) (hdb : (x == ("__debug__" : Str)) = false := by decide)
    (he : starEach (e :: es) X.env = (false, eval e X.env) :: starEach es X.env := by rfl) (hpl : (backTo pos (starEach es X.env)).any (·.1) = false := by rfl) : PXE X (.Call (.Name x p) (e :: es) [] pos) σ H := by
  intro pins s σ' H1 Q I ⟨hs, e1⟩
  subst hs
  refine wpAny_Call_Name_kw (ld_glob I hg hm ?_ hdb)
  refine PySem.W.callWith_K (h₀ := X.base) I.ok.mod.kin hk (thn (ha pos pins s σ' H1 (fun vs H2 => Same H1 H2 ∧ IsL X.K H2 ds vs) I ⟨rfl, e1, fun vs H2 e2 hvs => ⟨e2, hvs⟩⟩) fun us s1 ⟨vs, H2, I2, r, e2, hvs⟩ => ⟨I2.kIn, ?_⟩) he hpl
  have sp : spX X.K RX vs H2 (fun _ _ => False) (fun cv _ H' => ∃ C, cv = .ref C ∧ RX ds C ∧ Same H2 H') := ⟨ds, C, hvs, hR, fun H' e3 => ⟨C, rfl, hR, e3⟩⟩
  have hl : (us ++ ([] : List Value)).length = ps.length := by rw [List.append_nil, ← r.length]; exact F.len _ _ _ _ sp
  refine wpAny_call (codeAny_mono (F.run X.A X.stack s1 H2 ⟨us, []⟩ us vs (fun _ _ => False) _ hr I2.env0 (by have := hb s1 us I2.kIn hl; rw [List.append_nil] at this; exact this) r sp) fun rs s' hq => ?_)
  cases rs with
  | error ev =>
    obtain ⟨a, C', H3, rfl, I3, al, C'', ec, hR2, e3⟩ := aloft_call (e := ev) (s' := s') (E := fun cv _ H' => ∃ C, cv = .ref C ∧ RX ds C ∧ Same H2 H') I2 hx hq
    cases ec
    exact hL _ hR2 pins s' σ' H3 a I3 (hP H3 ((e1.trans e2).trans e3)) al
  | ok fl =>
    cases fl with
    | ret u => obtain ⟨_, _, _, _, _, _, _, z⟩ := hq; exact z.elim
    | next => exact False.elim hq
    | brk => exact False.elim hq
    | cont => exact False.elim hq
theorem px_expr (he : PXE X e σ H) (hs : swapsWith e none pos.line X.env = pure false := by rfl) : PX X (.Expr e pos :: rest) σ H :=
  PSs.imp (pss_cons (ps_expr he hs) pss_never) fun _ _ _ h => h
theorem px_set (i : Nat) {x : Str} {pos' : Pos} (hN : X.N.Nodup) (he : PXE X e σ H) (hi : X.N[i]? = some x := by rfl) (hx : Loc X.env.scope x := by first | exact Or.inl rfl | exact Or.inr rfl) (hs : swapsWith e (some (.Name x pos')) pos.line X.env = pure false := by rfl)
    (hf : X.fn x = true ∨ X.env.scope.names.lookup x = some .local := by first | exact .inl rfl | exact .inr rfl | assumption) : PX X (.Assign [.Name x pos'] e pos :: rest) σ H :=
  PSs.imp (pss_cons (ps_set hN hi hx he hs hf) pss_never) fun _ _ _ h => h
theorem px_if (hc : PDT X c σ H k) (ha : k = true → PX X sts σ H) (hb : k = false → PX X rest σ H) : PX X (.If c sts [] pos :: rest) σ H :=
  PSs.imp (pss_cons (ps_if hc (PSs.guard ha) pss_nil) (PSs.guard hb)) fun _ σ' H1 ⟨hs, e1⟩ => ⟨hs, e1, fun H2 e2 => by
    subst hs
    cases k with
    | true => exact ⟨rfl, rfl, e1.trans e2⟩
    | false => exact ⟨rfl, rfl, e1.trans e2⟩⟩
theorem px_ifelse (hc : PDT X c σ H k) (ha : k = true → PX X sts σ H) (hb : k = false → PX X els σ H) : PX X (.If c sts els pos :: rest) σ H :=
  PSs.imp (pss_cons (ps_if hc (PSs.guard ha) (PSs.guard hb)) pss_never) fun _ σ' H1 ⟨hs, e1⟩ => ⟨hs, e1, fun H2 e2 => by
    subst hs
    cases k with
    | true => exact ⟨rfl, rfl, e1.trans e2⟩
    | false => exact ⟨rfl, rfl, e1.trans e2⟩⟩
def tAfterX (H : Hp) (P : L2.St → Hp → Prop) : TS := fun _ σ' H1 => P σ' H1 ∧ Same H H1
theorem px_after {P : L2.St → Hp → Prop} (h : ∀ σ' H', Same H H' → P σ' H' → PX X rest σ' H') : PSs X rest (tAfterX H P) := fun pins s σ' H1 D I ⟨p, e1⟩ =>
  h σ' H1 e1 p pins s σ' H1 D I ⟨rfl, Same.refl _⟩
theorem px_cons (h1 : PN1 X st σ H Post) (h : ∀ σ' H', Same H H' → Post σ' H' → PX X rest σ' H') : PX X (st :: rest) σ H :=
  PSs.imp (pss_cons h1 (px_after h)) fun _ σ' H1 ⟨hs, e1⟩ => ⟨hs, e1, fun σ2 H2 e2 p => ⟨p, e1.trans e2⟩⟩
end
section
variable {P : Program} {w : World} {K : PySem.W.Frag} {mg : Str → Option Value} {base : Heap}
abbrev cx1 (P : Program) (w : World) (K : PySem.W.Frag) (mg : Str → Option Value) (base : Heap) (N : List Str) (qual : Str) (st : Stmt) (f : Addr) (cdv : Value) (A : Around) (outer : List Env) (s : Shared) (H : Hp) (E : XK) : Cx :=
  cxOf (CX1 P w) P w K mg base N qual (defScope st) f cdv A outer s H E
def Raises (P : Program) (w : World) (K : PySem.W.Frag) (mg : Str → Option Value) (base : Heap) (n : Nat) (x : Str) (ps : List Str) (RX : List D → Addr → Prop) : Prop :=
  ∃ f fd, FnOk P w K mg base (CX1 P w) n f fd ps (spX K RX) ∧ mg x = some (.ref f) ∧ PySem.W.keepIn K (.ref f) = true ∧ Binds K fd ps []
theorem Has.raises {x : Str} {st : Stmt} {N ps : List Str} {n : Nat} {RX : List D → Addr → Prop} (h : Has K mg x st ps) (S : FnScope N ps (defScope st)) (len : ∀ ds C, RX ds C → ds.length = ps.length)
    (hb : ∀ (f : Addr) (cdv : Value) (A : Around) (outer : List Env) (s : Shared) (H : Hp) (E : XK) (vs : List V) (ds : List D) (C : Addr), Room n (cx1 P w K mg base N x st f cdv A outer s H E).A → IsL K H ds vs → RX ds C →
      Lands (cx1 P w K mg base N x st f cdv A outer s H E) C (fun _ H' => Same H H') → PX (cx1 P w K mg base N x st f cdv A outer s H E) (defBody st) (start N vs) H) : Raises P w K mg base (n + 1) x ps RX := by
  obtain ⟨f, fd, F, hm, hbd⟩ := h
  refine ⟨f, fd, ?_, hm, F.kp, hbd⟩
  obtain ⟨oc, od, kV, doc, pm, an, cdv, ct, osl, rfl, lk, hcd⟩ := F.ex
  refine fn_of lk hcd S (fun vs H Q E ⟨ds, C, hl, hR, _⟩ => by rw [← hl.length]; exact len ds C hR) fun A outer s H vs Q E hr ⟨ds, C, hl, hR, q⟩ => ?_
  exact ⟨_, hb f cdv A outer s H E vs ds C hr hl hR (lands_fn q), rfl, Same.refl _⟩
end
section
variable {X : Cx} {e : Expr} {es : List Expr} {σ : L2.St} {H : Hp} {ds : List D} {p pos : Pos} {C : Addr} {Pw : L2.St → Hp → Prop}
theorem pxe_raises {n : Nat} {x : Str} {ps : List Str} {RX : List D → Addr → Prop} (h : Raises X.prog X.w X.K X.mg X.base n x ps RX) (hr : Room n X.A) (ha : PDA X (e :: es) σ H ds) (hR : RX ds C) (hL : Lands X C Pw) (hP : ∀ H', Same H H' → Pw σ H') (one : ∀ C', RX ds C' → C' = C) (hx : X.ex = [] := by rfl)
    (hg : Gl X x := by rfl) (hdb : (x == ("__debug__" : Str)) = false := by decide)
    (he : starEach (e :: es) X.env = (false, eval e X.env) :: starEach es X.env := by rfl) (hpl : (backTo pos (starEach es X.env)).any (·.1) = false := by rfl) : PXE X (.Call (.Name x p) (e :: es) [] pos) σ H := by
  obtain ⟨f, fd, F, hm, hk, hb⟩ := h
  exact pxe_call F hr hx hm hk hb ha hR (fun C' z => by rw [one C' z]; exact hL) hP hg hdb he hpl
end
section
variable {X : Cx} {σ : L2.St} {H : Hp} {pos : Pos} {body rest : List Stmt} {iter : Expr} {ds : List D}
def tTurnX (K : PySem.W.Frag) (H : Hp) (n m : Nat) (at' : Nat → D → Prop) (P : Nat → L2.St → Hp → Prop) : TS := fun E σ' H1 => ∃ i d v σ1, i ≤ m ∧ at' i d ∧ Same H H1 ∧ P i σ1 H1 ∧ Is K H1 d v ∧ σ' = σ1.set n (some v) ∧ (i < m → ∀ σ2 H2, Same H1 H2 → P (i + 1) σ2 H2 → E.nx σ2 H2)
theorem turnX_of {n m : Nat} {at' : Nat → D → Prop} {P : Nat → L2.St → Hp → Prop} (h : ∀ i d v σ1 H1, i < m → at' i d → Same H H1 → P i σ1 H1 → Is X.K H1 d v → PN X body (σ1.set n (some v)) H1 (P (i + 1)))
    (hr : ∀ d v σ1 H1, at' m d → Same H H1 → P m σ1 H1 → Is X.K H1 d v → PX X body (σ1.set n (some v)) H1) : PSs X body (tTurnX X.K H n m at' P) :=
  fun pins s σ' H1 D I ⟨i, d, v, σ1, hi, ha, e1, p, hv, hs, q⟩ => by
    subst hs
    by_cases hlt : i < m
    · exact h i d v σ1 H1 hlt ha e1 p hv pins s _ H1 D I ⟨rfl, Same.refl _, q hlt⟩
    · obtain rfl : i = m := by omega
      exact hr d v σ1 H1 ha e1 p hv pins s _ H1 D I ⟨rfl, Same.refl _⟩
theorem px_forL (n m : Nat) {x : Str} {px : Pos} (P : Nat → L2.St → Hp → Prop) (hp : PassesOwn (model X.prog X.w) X.A X.env X.xe) (hc : X.calm = true) (hN : X.N.Nodup) (he : PD X iter σ H (.lst ds)) (hm : m < ds.length)
    (h0 : ∀ H', Same H H' → P 0 σ H') (hs : ∀ i d v σ1 H1, i < m → ds[i]? = some d → Same H H1 → P i σ1 H1 → Is X.K H1 d v → PN X body (σ1.set n (some v)) H1 (P (i + 1)))
    (hr : ∀ d v σ1 H1, ds[m]? = some d → Same H H1 → P m σ1 H1 → Is X.K H1 d v → PX X body (σ1.set n (some v)) H1) (hi : X.N[n]? = some x := by rfl) (hx : Loc X.env.scope x := by first | exact Or.inl rfl | exact Or.inr rfl)
    (hf : X.fn x = true ∨ X.env.scope.names.lookup x = some .local := by first | exact .inl rfl | exact .inr rfl | assumption) (hfs : ∀ x, foldedSetIterable iter X.env x = pure x := by intro _; rfl) :
    PX X (.For (.Name x px) iter body [] pos :: rest) σ H :=
  PSs.imp (pss_cons (ps_for hp hc (pi_list he) (pg_name hN hi hx hf) (turnX_of (H := H) (m := m) (at' := fun i d => ds[i]? = some d) hs hr) hfs) pss_never) fun E σ' H1 ⟨hss, e1⟩ => ⟨hss, e1, fun v H2 e2 hv => by
    subst hss
    cases hv with
    | @lst pl xs _ hq l =>
      refine ⟨_, rfl, ⟨_, hq⟩, fun i k σ1 H3 => k = xs.length - i ∧ i ≤ m ∧ Same H2 H3 ∧ P i σ1 H3, ⟨xs.length, by simp, Nat.zero_le _, Same.refl _, h0 _ (e1.trans e2)⟩, ?_⟩
      rintro i k σ1 H3 ⟨rfl, him, e3, p⟩
      have hlt : i < xs.length := by rw [← l.length]; omega
      refine .inr ⟨⟨xs, xs[i], e3.seq hq, by simp [hlt]⟩, fun σ2 H4 => i < m ∧ Same H2 H4 ∧ P (i + 1) σ2 H4, fun σ2 H4 ⟨z1, z2, z3⟩ => ⟨xs.length - (i + 1), by omega, rfl, z1, z2, z3⟩, fun y H4 hy => ?_⟩
      obtain ⟨ee, hy⟩ := hy
      subst ee
      have hx' := hy xs (e3.seq hq)
      obtain ⟨d, hd1, hd2⟩ := l.get' hx'
      exact ⟨i, d, y, σ1, him, hd1, (e1.trans e2).trans e3, p, hd2.mono e3, rfl, fun hlm σ2 H5 e5 p5 => ⟨hlm, e3.trans e5, p5⟩⟩⟩
end
structure ErrCls (K : PySem.W.Frag) (C : Addr) : Prop where
  raises : ∀ h : Heap, K.In h → ∃ (nm q : Str) (N : Addr) (bs bm : List Value) (hdct : Bool) (sn : List Str) (sub : List Value) (ab : Bool) (col : Option Bool) (dd : Option Addr) (k0 k1 k2 k3 k5 : Option Value) (Bn newId inN B nid initId : String) (bmN bmB : List Value) (mN : Str → Option Value),
    ExcBaseFacts Bn newId inN bmN ∧ bmB.contains (.type Bn) = true ∧ ExcBaseFacts B nid initId bmB ∧ bm.contains (.type "BaseException") = true ∧ mN "__init__" = none ∧
    h.get? C = some (excClassObj nm q C N bs bm hdct sn sub ab col dd k0 k1 k2 k3 k5 newId) ∧ h.Ns N mN ∧ OwnTail h bmB bm
section
variable {X : Cx} {e : Expr} {σ : L2.St} {H : Hp} {d : D} {np cpos pos : Pos} {rest : List Stmt} {C : Addr} {Pw : L2.St → Hp → Prop} {x : Str}
theorem px_raise (ec : ErrCls X.K C) (hc : X.calm = true) (hm : X.mg x = some (.ref C)) (he : PD X e σ H d) (hL : Lands X C Pw) (hP : ∀ H', Same H H' → Pw σ H') (hx : X.ex = [] := by rfl) (hg : Gl X x := by rfl) (hdb : (x == ("__debug__" : Str)) = false := by decide)
    (hs : starEach [e] X.env = (false, eval e X.env) :: starEach [] X.env := by rfl) : PX X (.Raise (some (.Call (.Name x np) [e] [] cpos)) none pos :: rest) σ H := by
  refine PSs.imp (pss_cons (t := fun _ σ' H1 => σ' = σ ∧ Same H H1) ?_ pss_never) fun _ _ _ h => h
  intro pins s σ' H1 D I ⟨hss, e1⟩
  subst hss
  obtain ⟨nm, q, N, bs, bm, hdct, sn, sub, ab, col, dd, k0, k1, k2, k3, k5, Bn, newId, inN, B, nid, initId, bmN, bmB, mN, Fn, hBn, F, hbase, hni, hC, hN, T⟩ := ec.raises X.base I.ok.mod.kin
  refine wpAny_Raise_call_subU (C := C) (nm := nm) (q := q) (N := N) (bs := bs) (bm := bm) (hdct := hdct) (sn := sn) (sub := sub) (ab := ab) (col := col) (dd := dd) (k0 := k0) (k1 := k1) (k2 := k2) (k3 := k3) (k5 := k5) Fn hBn F (mN := mN) hbase (I.ok.hd hc)
    (by rw [hs]; rfl) hni (ld_glob I hg hm ⟨rfl, ?_⟩ hdb)
  have pa := pda_cons he pda_nil hs
  have w := pa cpos pins s σ' H1 (fun vs H2 => Same H1 H2 ∧ IsL X.K H2 [d] vs) I ⟨rfl, e1, fun vs H2 e2 hvs => ⟨e2, hvs⟩⟩
  rw [hs] at w ⊢
  refine Calls.evalArgs_plain (thn w fun us s2 ⟨vs, H2, I2, r, e2, hvs⟩ => ⟨rfl, ?_, I2.bk _ _ hC, hN.keeps I2.bk, T.keeps I2.bk, fun h' a hm' => ?_⟩)
  · show us.length ≤ sizeLine
    rw [← r.length, ← hvs.length]
    exact Nat.le_of_lt (small1000 (by simp))
  · obtain ⟨t, ht, _, _⟩ := hm'.there
    exact hL pins { s2 with heap := h' } σ' H2 a (I2.kept (t' := s2.toks) hm'.keeps) (hP H2 (e1.trans e2)) ⟨free_of_none I2.hok hm'.new, s0_none I2 hx hm'.new, pin_ne I2 hm'.new, .inl ⟨_, ht, rfl⟩⟩
end
end L3
set_option Elab.async false
set_option linter.all false
set_option maxRecDepth 100000
namespace L3
open PySem PySem.Spec PyProof.Rows L2
abbrev cxAt (X : Cx) (pn : List (Addr × Obj)) (E : Value → Shared → Prop) : Cx := { X with pn := pn, xe := E }
abbrev cxMark (X : Cx) (a : Addr) : Cx := { X with A := X.A.mark (some (.ref a)), calm := false }
section
variable {X : Cx} {pins pn : List (Addr × Obj)} {σ : L2.St} {H : Hp} {s : Shared} {E : Value → Shared → Prop} {a C T : Addr}
theorem ok_at (ok : X.Ok) : (cxAt X pn E).Ok := ⟨ok.mod, ok.kind, ok.glob, ok.blt, ok.above, ok.inj, ok.has, ok.cab, ok.hd, ok.frames, ok.stk, ok.exf, ok.bs, ok.bsz, ok.noex, ok.exfs, ok.funs, ok.frf⟩
theorem ok_out (ok : (cxAt X pn E).Ok) : X.Ok := ⟨ok.mod, ok.kind, ok.glob, ok.blt, ok.above, ok.inj, ok.has, ok.cab, ok.hd, ok.frames, ok.stk, ok.exf, ok.bs, ok.bsz, ok.noex, ok.exfs, ok.funs, ok.frf⟩
theorem inv_at (I : Inv X pins σ H s) : Inv (cxAt X (X.pn ++ pins) E) [] σ H s := ⟨ok_at I.ok, I.os, I.bare, I.base, I.loc, I.cell, I.free, I.freeC, fun p hp => I.pin p (by rw [List.append_nil] at hp; exact hp), I.hok, I.len⟩
theorem inv_out {pins2 : List (Addr × Obj)} (I : Inv (cxAt X (X.pn ++ pins) E) pins2 σ H s) : Inv X pins σ H s := ⟨ok_out I.ok, I.os, I.bare, I.base, I.loc, I.cell, I.free, I.freeC, fun p hp => I.pin p (List.mem_append_left _ hp), I.hok, I.len⟩
theorem aloft_out {h : Heap} {pins2 : List (Addr × Obj)} (al : Aloft (cxAt X (X.pn ++ pins) E) pins2 H h a C) : Aloft X pins H h a C :=
  ⟨al.na, al.s0, fun p hp => al.pa p (List.mem_append_left _ hp), al.st.imp id fun ⟨T, h1, h2, h3, h4⟩ => ⟨T, h1, h2, fun p hp => h3 p (List.mem_append_left _ hp), h4⟩⟩
theorem inv_mark (I : Inv X pins σ H s) : Inv (cxMark X a) pins σ H s :=
  ⟨⟨I.ok.mod, I.ok.kind, I.ok.glob, I.ok.blt, I.ok.above, I.ok.inj, I.ok.has, I.ok.cab, fun z => (nomatch z), I.ok.frames, I.ok.stk, I.ok.exf, I.ok.bs, I.ok.bsz, I.ok.noex, I.ok.exfs, I.ok.funs, I.ok.frf⟩, I.os, I.bare, I.base, I.loc, I.cell, I.free, I.freeC, I.pin, I.hok, I.len⟩
theorem inv_unmark (hd : X.calm = true → X.A.handled = none) (I : Inv (cxMark X a) pins σ H s) : Inv X pins σ H s :=
  ⟨⟨I.ok.mod, I.ok.kind, I.ok.glob, I.ok.blt, I.ok.above, I.ok.inj, I.ok.has, I.ok.cab, hd, I.ok.frames, I.ok.stk, I.ok.exf, I.ok.bs, I.ok.bsz, I.ok.noex, I.ok.exfs, I.ok.funs, I.ok.frf⟩, I.os, I.bare, I.base, I.loc, I.cell, I.free, I.freeC, I.pin, I.hok, I.len⟩
theorem inv_track (I : Inv X pins σ H s) (na : H a = none) (a0 : X.s₀.heap.get? a = none) (pa : ∀ p ∈ X.pn ++ pins, p.1 ≠ a) (he : excAt a C s.heap) : Inv X pins σ (upd H a (.ext (excAt a C))) s := by
  have nw : ∀ b u, H b = some u → upd H a (.ext (excAt a C)) b = some u := fun b u e => by rw [upd_ne (ne_of_none e na)]; exact e
  have nn : ∀ b, b ≠ a → H b = none → upd H a (.ext (excAt a C)) b = none := fun b hb e => by rw [upd_ne hb]; exact e
  obtain ⟨vs, hv⟩ := he
  refine ⟨I.ok, I.os, I.bare, ⟨I.base.keep, I.base.slot, fun b o e n hx => nn b (fun z => by rw [z, a0] at e; cases e) (I.base.free b o e n hx), I.base.there, fun b xs e => nw _ _ (I.base.tups b xs e), fun b o u e => nw _ _ (I.base.frzs b o u e), fun b ps e => ?_⟩,
    I.loc, I.cell, nn _ (fun z => ?_) I.free, fun x c e => nn _ (fun z => ?_) (I.freeC x c e), fun p hp => ?_, fun b u e => ?_, I.len⟩
  · obtain ⟨more, q⟩ := I.base.tbls b ps e
    exact ⟨more, nw _ _ q⟩
  · obtain ⟨m, ⟨o, es, ep, ho, hd, _⟩, _⟩ := I.loc
    rw [z, hv] at ho; cases ho; cases hd
  · obtain ⟨v, o, ho, hd⟩ := I.cell x c e
    rw [z, hv] at ho; cases ho; cases hd
  · obtain ⟨e, n, r⟩ := I.pin p hp
    exact ⟨e, nn _ (pa p hp) n, r⟩
  · by_cases hb : b = a
    · subst hb
      rw [upd_same] at e
      cases e
      exact ⟨⟨vs, hv⟩, ⟨_, hv⟩, fun h1 h2 ⟨us, q⟩ kp => ⟨us, kp _ q⟩⟩
    · rw [upd_ne hb] at e
      exact (I.hok b u e).stay (fun c v _ q => q) (fun c q => nw _ _ q) fun c xs q => nw _ _ q
theorem inv_gone {i : Nat} {x : Str} {m : Str → Option Value} {v : Option Value} {h' : Heap} {t' : Nat} (I : Inv X pins σ H s) (hN : X.N.Nodup) (hi : X.N[i]? = some x) (hn : ∀ m, s.heap.Ns X.env.locals m → ∃ v, h'.Ns X.env.locals (fun y => if y = x then v else m y))
    (hs : Heap.SameBut X.env.locals s.heap h') : Inv X pins (σ.set i none) H { s with heap := h', toks := t' } := by
  have kp : ∀ b o, b ≠ X.env.locals → s.heap.get? b = some o → h'.get? b = some o := fun b o hb q => (hs.2 b hb).trans q
  have neL : ∀ b o, X.s₀.heap.get? b = some o → b ≠ X.env.locals := fun b o e => Nat.ne_of_lt (Nat.lt_of_lt_of_le (Heap.lt_size e) I.ok.above)
  have cellK : ∀ x c, X.env.cells.lookup x = some c → ∀ v, s.heap.IsCell c v → h'.IsCell c v := fun x c e v z => z.sameBut hs (I.cne x c e)
  obtain ⟨m, hm, hl⟩ := id I.loc
  obtain ⟨v, hm'⟩ := hn m hm
  refine ⟨I.ok, I.os, I.bare, ⟨fun b o e n hb hx => kp b o (neL b o e) (I.base.keep b o e n hb hx), fun b o e n hb hx => ?_, I.base.free, fun b o e hx => ?_, I.base.tups, I.base.frzs, I.base.tbls⟩, ⟨_, hm', fun j y w e1 e2 e3 => ?_⟩, fun y c e => ?_, I.free, I.freeC, fun p hp => ?_, fun b u e => ?_, by simpa using I.len⟩
  · obtain ⟨sl, e1⟩ := I.base.slot b o e n hb hx
    exact ⟨sl, kp _ _ (neL b o e) e1⟩
  · obtain ⟨o', e1⟩ := I.base.there b o e hx
    exact ⟨o', kp _ _ (neL b o e) e1⟩
  · by_cases hj : j = i
    · subst hj
      rw [List.getElem?_set] at e2
      split at e2
      · split at e2 <;> cases e2
      · rename_i z; exact absurd rfl z
    · rw [List.getElem?_set_ne (Ne.symm hj)] at e2
      obtain ⟨u, r, q⟩ := hl j y w e1 e2 e3
      refine ⟨u, r, ?_⟩
      rcases q with ⟨k, e⟩ | ⟨k, c, e, z⟩
      · have ny : y ≠ x := fun e => hj (nodup_ix hN e1 (e ▸ hi))
        exact .inl ⟨k, by show (if y = x then v else m y) = some u; rw [if_neg ny]; exact e⟩
      · exact .inr ⟨k, c, e, cellK y c e _ z⟩
  · obtain ⟨w, z⟩ := I.cell y c e
    exact ⟨w, cellK y c e w z⟩
  · obtain ⟨e, n, ne, nf, d⟩ := I.pin p hp
    exact ⟨kp _ _ ne e, n, ne, nf, d⟩
  · have nL : ∀ c u, H c = some u → c ≠ X.env.locals := fun c u q z => by rw [z, I.free] at q; cases q
    refine (I.hok b u e).stay (fun c w hc q => kp c w ?_ q) (fun _ q => q) fun _ _ q => q
    rcases hc with rfl | hc
    · exact nL _ _ e
    · exact nL _ _ hc
end
structure Caught (K : PySem.W.Frag) (C CE : Addr) : Prop where
  ty : PySem.W.typeIn K (.ref CE) = some (.type "type")
  cl : (PySem.W.clsIn K CE).isSome = true
  ba : PySem.W.mroIn K CE (.type "BaseException") = some true
  su : PySem.W.mroIn K C (.ref CE) = some true
theorem tuple_of_type : isSubtype (.type "type") (.type "tuple") = pure false := by rw [isSubtype_type]; rfl
theorem excMatches_own {M : Model} {A : Around} {E : Value → Shared → Prop} {K : PySem.W.Frag} {s : Shared} {a C CE : Addr} {Q : Bool → Shared → Prop} (c : Caught K C CE) (X : K.In s.heap) (he : excAt a C s.heap) (h : Q true s) :
    wpAny M A (excMatches (.ref a) (.ref CE)) Q E s := by
  obtain ⟨vs, hv⟩ := he
  have l1 : PySem.W.Looks M s.heap (typeOf (.ref CE)) (.type "type") := PySem.W.looks_typeIn X c.ty
  have l2 : PySem.W.Looks M s.heap (isInstance (.ref CE) (.type "tuple")) false := l1.andThen (PySem.W.Looks.of_pure tuple_of_type)
  have l3 : PySem.W.Looks M s.heap (isType (.ref CE)) true := by
    obtain ⟨cd, hc⟩ := Option.isSome_iff_exists.mp c.cl
    unfold PySem.W.clsIn at hc
    split at hc
    · rename_i ho
      intro A' Q' E' s' k q
      unfold isType loadHead
      exact wpAny_bind (wpAny_loadPart (k _ _ (X _ _ ho)) (wpAny_pure q))
    · cases hc
  have l4 : PySem.W.Looks M s.heap (isSubtype (.ref CE) (.type "BaseException")) true := PySem.W.looks_mroIn X c.ba
  have l5 : PySem.W.Looks M s.heap (typeOf (.ref a)) (.ref C) := (PySem.W.Looks.ld hv).andThen .now
  have l6 : PySem.W.Looks M s.heap (isSubtype (.ref C) (.ref CE)) true := PySem.W.looks_mroIn X c.su
  obtain ⟨hp, g, d, t, os⟩ := s
  unfold excMatches
  refine wpAny_bind (l2.at ?_)
  simp only [Bool.false_eq_true, if_false]
  refine wpAny_bind (wpAny_pure ?_)
  simp only [List.forIn_cons, List.forIn_nil]
  unfold isExcClass
  refine wpAny_bind (wpAny_bind (wpAny_bind (wpAny_bind (l3.at ?_))))
  simp only [if_true]
  refine l4.at ?_
  simp only [Bool.not_true, Bool.false_eq_true, if_false]
  refine wpAny_pure (wpAny_pure ?_)
  refine wpAny_bind (l5.at (wpAny_bind (wpAny_bind (wpAny_bind (l6.at ?_)))))
  simp only [if_true]
  exact wpAny_pure (wpAny_pure (wpAny_pure h))
theorem flight_again {M : Model} {A : Around} {E : Value → Shared → Prop} {s : Shared} {a T C : Addr} {Z : Shared → Prop} (fl : ExcFly s.heap a T C) (h : Z s) : wpAny M A (setFlight (.ref a) none) (fun _ s' => Z s') E s := by
  obtain ⟨vs, oT, ts, e1, e2, ne, e3, e4, e5⟩ := fl
  unfold setFlight
  refine wpAny_bind (wpAny_field e1 rfl e2 ?_)
  rw [if_pos (by simp)]
  refine wpAny_setField e3 e4 (Array.getElem?_eq_some_iff.mp e5).1 ?_
  have z := Heap.update_setField_same s.heap T oT ts 3 .none e3 e4 e5
  show Z { s with heap := s.heap.update T (Obj.mapFields (·.setIfInBounds 3 .none)) }
  rw [z]
  exact h
section
variable {X : Cx} {σ : L2.St} {H : Hp} {pos hpos np : Pos} {body rest suite : List Stmt} {b0 : Stmt} {C CE : Addr} {Post Mid : L2.St → Hp → Prop} {hs : List ExceptHandler} {h0 : ExceptHandler} {x n : Str}
theorem pn1_tryOk (h : PN X body σ H Post) (hX : X.xe = fun _ _ => False) : PN1 X (.Try body (h0 :: hs) [] [] pos) σ H Post := by
  intro pins s σ' H1 D I hq
  refine wpAny_Try_except (wpAny_mono (h pins s σ' H1 D I hq) (fun f s1 h1 => ?_) fun e s1 z => by rw [hX] at z; exact z.elim)
  cases f with
  | next => exact wpAny_execs_nil h1
  | ret v => exact h1
  | brk => exact h1
  | cont => exact h1
theorem pn1_tryCatch (i : Nat) (hX : X.xe = fun _ _ => False) (hc : X.calm = true) (hx : X.ex = []) (hst : X.stack = X.env :: X.outer) (hfr : X.env.frame = some X.env.locals) (hN : X.N.Nodup) (c : Caught X.K C CE) (hm : X.mg x = some (.ref CE))
    (hb : ∀ pn E H1, Same H H1 → Lands (cxAt X pn E) C (fun σ' H' => σ' = σ ∧ Same H1 H') → PX (cxAt X pn E) body σ H1)
    (hsu : ∀ a H', Same H H' → H' a = some (.ext (excAt a C)) → PN (cxMark X a) (b0 :: suite) (σ.set i (some (.ref a))) H' Mid) (hd : ∀ σ' H', Mid σ' H' → Post (σ'.set i none) H')
    (hi : X.N[i]? = some n := by rfl) (hl : X.env.kindOf n = some .local := by rfl) (hg : Gl X x := by rfl) (hdb : (x == ("__debug__" : Str)) = false := by decide) :
    PN1 X (.Try body (.ExceptHandler (some (.Name x np)) (some n) (b0 :: suite) hpos :: hs) [] [] pos) σ H Post := by
  intro pins s σ0 H1 D I ⟨hs0, e1, q⟩
  subst hs0
  refine wpAny_Try_except ?_
  have hcls : (X.env.scope.kind == .class || (X.env.scope.kind == .module && X.env.locals != X.env.globals)) = false := by rw [I.ok.kind]; rfl
  have handled := I.ok.hd
  have land : ∀ s2 σ2 H2 a, Inv X pins σ2 H2 s2 → (σ2 = σ0 ∧ Same H1 H2) → Aloft X pins H2 s2.heap a C →
      wpAny (model X.prog X.w) X.A (noteFrame (.ref a) X.env) (fun _ s3 => wpAny (model X.prog X.w) X.A (setFlight (.ref a) none) (fun _ s4 =>
        wpAny (model X.prog X.w) X.A (handleBy (.ref a) X.env (.ExceptHandler (some (.Name x np)) (some n) (b0 :: suite) hpos :: hs)) (SP X pins D) X.xe s4) X.xe s3) X.xe s2 := by
    intro s2 σ2 H2 a I2 ⟨hs2, e12⟩ al
    subst hs2
    refine inv_lands I2 hx hst hfr I2.ok.frames al fun h' T I3 nT T0 pT fl => ?_
    have hex : excAt a C h' := by obtain ⟨vs, _, _, z, _⟩ := fl; exact ⟨vs, z⟩
    refine wpAny_handleBy_cons (codeAny_handlers_test (ld_glob (X := cxMark X a) (inv_mark I3) hg hm (excMatches_own c I3.kIn hex ?_) hdb)) (by intro z; cases z)
    show codeAny _ _ _ _ _
    refine codeAny_handlers_suite_as (flight_again (s := { s2 with heap := h' }) fl ?_)
    have I4 := inv_mark (a := a) (inv_track I3 al.na al.s0 al.pa hex)
    refine store_ok2 (X := cxMark X a) (v := .ref a) I4 hN hi (.inl hl) rfl (fun s5 I5 _ => ?_) (.inr hl)
    have e3 : Same H (upd H2 a (.ext (excAt a C))) := (e1.trans e12).trans (same_upd al.na)
    refine wpAny_mono (hsu a _ e3 upd_same pins s5 _ _ { nx := fun σ6 H6 => Mid σ6 H6 ∧ Same H1 H6, rt := fun _ _ => False } I5 ⟨rfl, Same.refl _, fun σ6 H6 e6 p6 => ⟨p6, (e12.trans (same_upd al.na)).trans e6⟩⟩) (fun f s6 h6 => ?_) fun e s6 z => ?_
    · cases f with
      | next =>
        obtain ⟨σ6, H6, I6, p6, e6⟩ := h6
        have I6' := inv_unmark handled I6
        obtain ⟨m6, hm6, _⟩ := id I6'.loc
        show wpAny _ _ _ _ _ _
        refine wpAny_nameGoes_keeps hl hm6 hcls fun h7 v hn7 hs7 => ?_
        refine ⟨σ6.set i none, H6, inv_gone I6' hN hi (m := m6) (v := v) (fun m hm' => ?_) hs7, q _ _ e6 (hd _ _ p6)⟩
        obtain rfl : m = m6 := by
          funext y
          obtain ⟨o1, es1, ep1, ho1, hd1, _, hf1⟩ := hm'
          obtain ⟨o2, es2, ep2, ho2, hd2, _, hf2⟩ := hm6
          rw [ho1] at ho2; cases ho2
          rw [hd1] at hd2; cases hd2
          rw [← hf1 y, ← hf2 y]
        exact ⟨v, hn7⟩
      | ret v => obtain ⟨_, _, _, _, _, z⟩ := h6; exact z.elim
      | brk => obtain ⟨_, _, _, z⟩ := h6; exact z.elim
      | cont => obtain ⟨_, _, _, z⟩ := h6; exact z.elim
    · exact absurd z (by show ¬ (cxMark X a).xe e s6; show ¬ X.xe e s6; rw [hX]; exact id)
  refine wpAny_mono (hb (X.pn ++ pins) _ H1 e1 (fun pins2 s2 σ2 H2 a I2 p2 al => land s2 σ2 H2 a (inv_out I2) p2 (aloft_out al)) [] s σ0 H1 { nx := fun _ _ => False, rt := fun _ _ => False } (inv_at I) ⟨rfl, Same.refl _⟩) (fun f s1 h1 => ?_) fun e s1 z => z
  cases f with
  | next => obtain ⟨_, _, _, z⟩ := h1; exact z.elim
  | ret v => obtain ⟨_, _, _, _, _, z⟩ := h1; exact z.elim
  | brk => obtain ⟨_, _, _, z⟩ := h1; exact z.elim
  | cont => obtain ⟨_, _, _, z⟩ := h1; exact z.elim
end
end L3
set_option Elab.async false
set_option linter.all false
set_option maxRecDepth 100000
namespace L3
open PySem PySem.Spec PyProof.Rows L2
structure ExcGet (K : PySem.W.Frag) (C : Addr) : Prop where
  ga : PySem.W.findIn K (.ref C) "__getattribute__" = some (some (.builtin "BaseException.__getattribute__"))
  hk : PySem.W.findIn K (.ref C) "__getattr__" = some none
  ca : PySem.W.findIn K (.ref C) "__class__" = some (some (.builtin "object.__class__"))
  gt : PySem.W.specialIn K (.builtin "object.__class__") "__get__" = some (some (.builtin "getset_descriptor.__get__"))
  tk : PySem.W.takesIn K (.builtin "object.__class__") = some true
  mo : PySem.W.mroIn K C (.type "object") = some true
  mb : PySem.W.mroIn K C (.type "BaseException") = some true
  cs : (PySem.W.clsIn K C).isSome = true
section
variable {prog : Program} {w : World} {A : Around} {E : Value → Shared → Prop} {s : Shared} {K : PySem.W.Frag} {a C : Addr}
theorem exc_inst {h : Heap} (he : excAt a C h) : ∃ ox, PySem.W.InstAt h a ox C none := by
  obtain ⟨vs, e⟩ := he
  exact ⟨_, e, rfl, rfl, trivial⟩
theorem find_class (g : ExcGet K C) : PySem.W.findObj K C none "__class__" = some (.bind (.builtin "getset_descriptor.__get__") (.builtin "object.__class__")) := by
  obtain ⟨cd, hc⟩ := Option.isSome_iff_exists.mp g.cs
  unfold PySem.W.findObj
  rw [hc, Option.bind_some, g.ca, Option.bind_some]
  simp [g.gt, g.tk]
theorem check_ga {M : Model} {nv : Value} {Q : Unit → Shared → Prop} (L0 : PySem.W.Looks M s.heap (typeOf (.ref a)) (.ref C)) (L4 : PySem.W.Looks M s.heap (isSubtype (.ref C) (.type "BaseException")) true) (h : Q () s) :
    wpAny M A (checkBuiltinCall "BaseException.__getattribute__" ⟨[.ref a, nv], []⟩) Q E s := by
  have k1 : builtinKind "BaseException.__getattribute__" = some .slot := by decide +kernel
  have k2 : splitId "BaseException.__getattribute__" = some ("BaseException", "__getattribute__") := by decide +kernel
  have ka := F.args_bexc_ga (.ref a) nv
  have L5 : PySem.W.Looks M s.heap (isInstance (.ref a) (.type "BaseException")) true := L0.andThen L4
  obtain ⟨hh, gg, d, t, os⟩ := s
  simp only [checkBuiltinCall, k1, k2]
  refine wpAny_bind (L5.at ?_)
  rw [if_neg (by simp)]
  unfold argsOk at ka
  cases e : Manifest.signature? "BaseException.__getattribute__" with
  | none => exact wpAny_pure h
  | some sg =>
    rw [e] at ka
    have z : Bind.checkArgs "BaseException.__getattribute__" sg ⟨[.ref a, nv], []⟩ = pure () := ka
    show wpAny M A (Bind.checkArgs "BaseException.__getattribute__" sg ⟨[.ref a, nv], []⟩) Q E _
    rw [z]
    exact wpAny_pure h
theorem getClass_exc {Q : Option Value → Shared → Prop} (g : ExcGet K C) (X : K.In s.heap) (he : excAt a C s.heap) (h : Q (some (.ref C)) { s with toks := s.toks + 1 }) : wpAny (model prog w) A (getAttr? (.ref a) "__class__") Q E s := by
  obtain ⟨ox, I⟩ := exc_inst he
  obtain ⟨hh, gg, d, t, os⟩ := s
  have L0 := I.type (M := model prog w)
  have L1 := PySem.W.looks_findIn (M := model prog w) X g.ga
  have L2 := PySem.W.looks_findIn (M := model prog w) X g.hk
  have L3 := PySem.W.looks_find (M := model prog w) X I (find_class g)
  have L4 := PySem.W.looks_mroIn (M := model prog w) X g.mb
  have hne : (onTheHeap (Value.ref C) && Value.builtin "BaseException.__getattribute__" == Value.builtin "object.__getattribute__") = false := by
    rw [show (Value.builtin "BaseException.__getattribute__" == Value.builtin "object.__getattribute__") = false from by decide +kernel]; rfl
  unfold getAttr? getAttrBy? getAttrBy
  refine wpAny_bind (wpAny_mkText (wpAny_bind (wpAny_attempt (wpAny_holding (wpAny_bind (L0.at (wpAny_bind (L1.at ?_))))))))
  dsimp only
  rw [hne, if_neg Bool.false_ne_true]
  unfold getAttrByItsOwn
  refine wpAny_bind (m := hookBefore (.ref C)) ?_
  unfold hookBefore
  rw [if_pos (show onTheHeap (Value.ref C) = true from rfl)]
  refine L2.at ?_
  refine wpAny_bind (wpAny_attempt (wpAny_holding ?_))
  unfold callGetattribute
  rw [if_neg (by simp)]
  unfold boundAndCalled
  refine wpAny_bind (wpAny_of_eq (F.attr_ValueError.ga.bind (.ref a)) ?_)
  refine wpAny_call (codeAny_call_builtin F.attr_ValueError.ga.plain F.entry_bexc_ga ?_)
  refine check_ga L0 L4 ?_
  iterate 17 lk
  refine L0.at ?_
  refine wpAny_bind (L3.at ?_)
  show wpAny _ _ (holding [Value.builtin "object.__class__"] (call (.builtin "getset_descriptor.__get__") [.builtin "object.__class__", .ref a, .ref C]) >>= ret) _ _ _
  refine wpAny_bind (wpAny_holding (wpAny_call (PySem.W.class_get (s := ⟨hh, gg, d, t + 1, os⟩) X I g.mo ?_)))
  refine wpAny_pure (a := Fin.done (.ret (.ref C))) ?_
  show wpAny _ _ (handedOut (.ref C)) _ _ _
  exact wpAny_pure (wpAny_pure h)
theorem kitx_exc (g : ExcGet K C) : PySem.W.KitX K (.ref a) (.ref C) (excAt a C) where
  ty := fun M h _ he => by
    obtain ⟨ox, I⟩ := exc_inst he
    exact I.type
  it := fun M h X _ => by
    obtain ⟨cd, hc⟩ := Option.isSome_iff_exists.mp g.cs
    unfold PySem.W.clsIn at hc
    split at hc
    · rename_i ho
      intro A' Q' E' s' k q
      unfold isType loadHead
      exact wpAny_bind (wpAny_loadPart (k _ _ (X _ _ ho)) (wpAny_pure q))
    · cases hc
  ne := fun h tp dd its n sl X htp => by
    obtain ⟨cd, hc⟩ := Option.isSome_iff_exists.mp g.cs
    refine Bool.eq_false_iff.mpr fun q => ?_
    obtain rfl : C = tp := Value.ref.inj (beq_iff_eq.mp q)
    unfold PySem.W.clsIn at hc
    split at hc
    · rename_i ho
      have z := X _ _ ho
      rw [htp] at z
      cases z
    · cases hc
  ca := fun X he k => getClass_exc g X he k
end
section
variable {X : Cx} {a b e o : Expr} {es : List Expr} {σ : L2.St} {H : Hp} {d r : D} {ds ds' : List D} {k : Bool} {p pos apos : Pos} {C c : Addr} {rest : List Stmt} {Post : L2.St → Hp → Prop}
theorem call_isiX : CallR X (.builtin "isinstance") (fun xs H Q => ∃ C x c cv b, xs = [x, c] ∧ Is X.K H (.exc C) x ∧ (∀ u, RelV c u → u = cv) ∧ ExcGet X.K C ∧ PySem.W.kitOne X.K (.ref C) cv = some b ∧ Q (.bl b) H) := by
  intro pins s σ H xs us Q I r h
  obtain ⟨C, x, c, cv, b, rfl, hx, hc, g, e, q⟩ := h
  obtain ⟨u, v, rfl, rx, rc⟩ := vals2 r
  obtain rfl := hc v rc
  cases hx with
  | exc hp =>
    cases rx
    have he := (I.hok _ _ hp).1
    exact PySem.W.kia_one (kitx_exc g) I.kIn he e (fun z => nomatch z) fun tk => ⟨.bl b, H, I.tok _, rfl, q⟩
theorem pd_isiX {cv : Value} (g : ExcGet X.K C) (hm : X.mg "isinstance" = none) (ha : PD X a σ H (.exc C)) (hb : PD X b σ H d) (hk : PySem.W.kitOne X.K (.ref C) cv = some k) (hv : ∀ H v u, Is X.K H d v → RelV v u → u = cv := by intro _ _ _ z y; cases z; exact y)
    (hg : Gl X "isinstance" := by rfl) (he : starEach [a, b] X.env = (false, eval a X.env) :: starEach [b] X.env := by rfl) (he2 : starEach [b] X.env = (false, eval b X.env) :: starEach [] X.env := by rfl)
    (hpl : (backTo pos (starEach [b] X.env)).any (·.1) = false := by rfl) : PD X (.Call (.Name "isinstance" p) [a, b] [] pos) σ H (.bl k) :=
  pd_B call_isiX hm (by decide +kernel) (pda_cons ha (pda_cons hb pda_nil he2) he) (fun vs H1 Q e1 hvs q => by
    cases hvs with
    | cons h l =>
      cases l with
      | cons h2 l =>
        cases l
        exact ⟨C, _, _, cv, k, rfl, h, fun u z => hv _ _ _ h2 z, g, hk, q _ _ (Same.refl _) (.bl _)⟩) hg (by decide) (by decide) he hpl
theorem pd_clsR {x : Str} (hm : X.mg x = some (.ref c)) (hg : Gl X x := by rfl) (hdb : (x == ("__debug__" : Str)) = false := by decide) : PD X (.Name x pos) σ H (.adr c) := pd_globR hm (.adr c) hg hdb
theorem pr_new (i : Nat) {x : Str} {pos' : Pos} (hN : X.N.Nodup) (he : PL X e σ H ds) (h : ∀ l vs H', Same H H' → H' l = some (.lst vs) → IsL X.K H' ds vs → PR X rest (σ.set i (some (.ref l))) H' r) (hi : X.N[i]? = some x := by rfl)
    (hx : Loc X.env.scope x := by first | exact Or.inl rfl | exact Or.inr rfl) (hs : swapsWith e (some (.Name x pos')) pos.line X.env = pure false := by rfl)
    (hf : X.fn x = true ∨ X.env.scope.names.lookup x = some .local := by first | exact .inl rfl | exact .inr rfl | assumption) : PR X (.Assign [.Name x pos'] e pos :: rest) σ H r :=
  PSs.imp (pss_cons (ps_set hN hi hx he hs hf) (pr_after (H := H) (P := fun σ' H' => ∃ l vs, σ' = σ.set i (some (.ref l)) ∧ H' l = some (.lst vs) ∧ IsL X.K H' ds vs) fun σ' H' e1 ⟨l, vs, e2, hl, hv⟩ => by subst e2; exact h l vs H' e1 hl hv)) fun D σ' H1 ⟨hs, e1, q⟩ => by
    subst hs
    exact ⟨rfl, e1, fun l vs H2 e2 hn hl hv => ⟨⟨l, vs, rfl, hl, hv⟩, e1.trans e2, fun v H3 e3 hv => q v H3 (e2.trans e3) hv⟩⟩
theorem pl_cat {l : Addr} {xs : List V} (ha : PD X a σ H (.adr l)) (hl : H l = some (.lst xs)) (hx : IsL X.K H ds xs) (hb : PL X b σ H ds') (hz : ds.length + ds'.length ≤ 1000 := by simp) : PL X (.BinOp a .Add b pos) σ H (ds ++ ds') :=
  PE.imp (pe_op op_cat ha hb) fun σ' H1 Q ⟨hs, e1, q⟩ => by
    subst hs
    refine ⟨rfl, e1, fun x H2 e2 hx2 => ?_⟩
    cases hx2
    refine ⟨rfl, e1.trans e2, fun l2 vs H3 e3 hn hl2 hv => ⟨l, l2, xs, vs, rfl, rfl, (e1.trans (e2.trans e3)) _ _ hl, hl2, Nat.le_of_lt (small1000 (by rw [← hx.length, ← hv.length]; exact hz)), fun p hp => ?_⟩⟩
    exact q p _ _ ((e2.trans e3).trans (same_upd hp)) ((e2.trans e3).free hp) upd_same (IsL.append ((hx.mono (e1.trans (e2.trans e3))).mono (same_upd hp)) (hv.mono (same_upd hp)))
theorem isL_bls {K : PySem.W.Frag} : ∀ {bs : List Bool} {vs : List V}, IsL K H (bs.map D.bl) vs → vs = bs.map V.bl
  | [], _, .nil => rfl
  | b :: bs, _, .cons (.bl _) l => by rw [isL_bls l]; rfl
theorem vals_bls : ∀ {bs : List Bool} {us : List Value}, Vals (bs.map V.bl) us → us = bs.map Value.bool
  | [], _, .nil => rfl
  | b :: bs, _, .cons r t => by rw [vals_bls t, show _ = Value.bool b from r]; rfl
def isB (k : Bool) : Value → Bool
  | .bool b => b == k
  | _ => false
theorem mt_countB : MtR X "list.count" (fun x vs H Q => ∃ (p : Addr) (bs : List Bool) (k : Bool), x = .ref p ∧ vs = [.bl k] ∧ SqL X.K H p (bs.map V.bl) ∧ Q (.int (bs.countP (· == k) : Nat)) H) := by
  intro pins s σ H x vs v us Q I rx rv h
  obtain ⟨p, bs, k, rfl, rfl, hq, q⟩ := h
  cases rx
  obtain ⟨u, rfl, ru⟩ := rv.one
  obtain rfl : u = Value.bool k := ru
  obtain ⟨its, r, ⟨⟨cl, dd, dt, sl⟩, n, e, hc, hd, hs⟩, _⟩ := I.list hq
  obtain rfl := vals_bls r
  dsimp only at hc hd hs
  subst hc; subst hd; subst hs
  refine call_meets F.slot_list_count ⟨_, e, rfl⟩ F.entry_list_count (F.args_list_count_2 _ _) (SeqAt.list_countAt p _ n none sl (.bool k) (isB k)) ⟨e, fun y hy => ?_, ?_⟩
  · obtain ⟨b, _, rfl⟩ := List.mem_map.mp (List.mem_toArray.mp hy)
    exact SeqAt.EqAt.bool_bool b k
  · refine ⟨.int (bs.countP (· == k) : Nat), H, I.tok _, ⟨s.toks, ?_⟩, q⟩
    show Value.int _ _ = Value.int _ _
    rw [show ((bs.map Value.bool).toArray.toList.countP (isB k)) = bs.countP (· == k) from by
      show (bs.map Value.bool).countP (isB k) = _
      rw [List.countP_map]; rfl]
theorem mt_indexB : MtR X "list.index" (fun x vs H Q => ∃ (p : Addr) (bs : List Bool) (k : Bool) (j : Nat), x = .ref p ∧ vs = [.bl k] ∧ SqL X.K H p (bs.map V.bl) ∧ bs[j]? = some k ∧ (∀ m, m < j → bs[m]? ≠ some k) ∧ bs.length ≤ 1000 ∧ Q (.int (j : Nat)) H) := by
  intro pins s σ H x vs v us Q I rx rv h
  obtain ⟨p, bs, k, j, rfl, rfl, hq, hj, hno, hz, q⟩ := h
  cases rx
  obtain ⟨u, rfl, ru⟩ := rv.one
  obtain rfl : u = Value.bool k := ru
  obtain ⟨its, r, ⟨⟨cl, dd, dt, sl⟩, n, e, hc, hd, hs⟩, _⟩ := I.list hq
  obtain rfl := vals_bls r
  dsimp only at hc hd hs
  subst hc; subst hd; subst hs
  obtain ⟨hlt, hv⟩ := List.getElem?_eq_some_iff.mp hj
  refine call_meets F.slot_list_index ⟨_, e, rfl⟩ F.entry_list_index (F.args_list_index_2 _ _) (SeqAt.list_indexAt p _ n none sl (.bool k) (isB k) j (by simpa using hlt) (by omega) ?_ ?_) ⟨e, fun y hy => ?_, ?_⟩
  · simp [isB, hv]
  · intro m hm hmj
    have hm' : m < bs.length := by simpa using hm
    have := hno m hmj
    rw [List.getElem?_eq_getElem hm'] at this
    simpa [isB] using fun z => this (by rw [z])
  · obtain ⟨b, _, rfl⟩ := List.mem_map.mp (List.mem_toArray.mp hy)
    exact SeqAt.EqAt.bool_bool b k
  · exact ⟨.int (j : Nat), H, I.tok _, ⟨_, rfl⟩, q⟩
theorem pd_countB {bs : List Bool} (ho : PD X o σ H (.lst (bs.map D.bl))) (ha : PD X a σ H (.bl k))
    (hbase : attributeBase o "count" X.env (eval o X.env) = eval o X.env := by rfl)
    (hfew : ((backTo pos (starEach [a] X.env)).all (fun x => !x.1) && (backToKw pos (keywordEach [] X.env)).all (fun x => x.1.isSome)
      && decide ([a].length + ([] : List Keyword).length + (if ([] : List Keyword).isEmpty then 0 else 1) < 30)) = true := by rfl)
    (hline : (apos.endLine == pos.line) = true := by rfl) (hs : starEach [a] X.env = (false, eval a X.env) :: starEach [] X.env := by rfl) (hplain : (backTo pos (starEach [] X.env)).any (·.1) = false := by rfl) :
    PD X (.Call (.Attribute o "count" apos) [a] [] pos) σ H (.int (bs.countP (· == k) : Nat)) :=
  PD.of (pe_bm PySem.F.plainAttrs_list PySem.F.slot_list_count PySem.F.type_list_count mt_countB ho (pda_cons ha pda_nil hs) hbase hfew hline hs hplain) fun H1 Q e1 q => ⟨rfl, e1, fun v H2 e2 hv => by
    cases hv with
    | lst hq l =>
      obtain rfl := isL_bls l
      refine ⟨.inl ⟨rfl, _, hq⟩, rfl, e1.trans e2, fun vs H3 e3 hvs => ?_⟩
      cases hvs with
      | cons h l =>
        cases l; cases h
        exact ⟨_, bs, k, rfl, rfl, e3.seq hq, q _ _ (e2.trans e3) (.int _)⟩⟩
theorem pd_indexB {bs : List Bool} {j : Nat} (ho : PD X o σ H (.lst (bs.map D.bl))) (ha : PD X a σ H (.bl k)) (hj : bs[j]? = some k) (hno : ∀ m, m < j → bs[m]? ≠ some k) (hz : bs.length ≤ 1000 := by decide)
    (hbase : attributeBase o "index" X.env (eval o X.env) = eval o X.env := by rfl)
    (hfew : ((backTo pos (starEach [a] X.env)).all (fun x => !x.1) && (backToKw pos (keywordEach [] X.env)).all (fun x => x.1.isSome)
      && decide ([a].length + ([] : List Keyword).length + (if ([] : List Keyword).isEmpty then 0 else 1) < 30)) = true := by rfl)
    (hline : (apos.endLine == pos.line) = true := by rfl) (hs : starEach [a] X.env = (false, eval a X.env) :: starEach [] X.env := by rfl) (hplain : (backTo pos (starEach [] X.env)).any (·.1) = false := by rfl) :
    PD X (.Call (.Attribute o "index" apos) [a] [] pos) σ H (.int (j : Nat)) :=
  PD.of (pe_bm PySem.F.plainAttrs_list PySem.F.slot_list_index PySem.F.type_list_index mt_indexB ho (pda_cons ha pda_nil hs) hbase hfew hline hs hplain) fun H1 Q e1 q => ⟨rfl, e1, fun v H2 e2 hv => by
    cases hv with
    | lst hq l =>
      obtain rfl := isL_bls l
      refine ⟨.inl ⟨rfl, _, hq⟩, rfl, e1.trans e2, fun vs H3 e3 hvs => ?_⟩
      cases hvs with
      | cons h l =>
        cases l; cases h
        exact ⟨_, bs, k, j, rfl, rfl, e3.seq hq, hj, hno, hz, q _ _ (e2.trans e3) (.int _)⟩⟩
theorem pn1_comp {elt iter : Expr} {scope : Scope} {cl : List (Str × Addr)} {N : List Str} {σc : L2.St} {x y : Str} {px py spos : Pos} {n : Nat} {din dout : Nat → D} (i : Nat) (hN : X.N.Nodup)
    (hsw : swapsWith (.ListComp elt [⟨.Name x px, iter, [], 0⟩] scope pos) (some (.Name y py)) spos.line X.env = pure true) (hc : X.calm = true) (t : Takes X σ scope cl N σc x) (hG : Gives X (.Name x px) iter σ H n din) (hn : n ≤ 1000) (hno : ∀ i, noL (dout i) = true)
    (helt : ∀ (C : Addr) (s2 : Shared) (H2 : Hp) (fp : List Addr) (i : Nat) (v : V) (H3 : Hp), i < n → Same H H3 → Is X.K H3 (din i) v → PD (cxComp X scope cl N C s2 H2 fp) elt (σc.set 0 (some v)) H3 (dout i))
    (h : ∀ v H', Same H H' → Is X.K H' (.lst ((List.range n).map dout)) v → Post (σ.set i (some v)) H') (hi : X.N[i]? = some y := by rfl) (hy : Loc X.env.scope y := by first | exact Or.inl rfl | exact Or.inr rfl)
    (hf : X.fn y = true ∨ X.env.scope.names.lookup y = some .local := by first | exact .inl rfl | exact .inr rfl | assumption) (hfs : ∀ x, foldedSetIterable iter X.env x = pure x := by intro _; rfl) :
    PN1 X (.Assign [.Name y py] (.ListComp elt [⟨.Name x px, iter, [], 0⟩] scope pos) spos) σ H Post :=
  PS.imp (ps_comp hN hi hy hf hsw hc t hG hn hno helt hfs) fun D σ' H1 ⟨hs, e1, q⟩ => by
    subst hs
    exact ⟨rfl, e1, fun l vs H2 e2 hn hl hv => q _ _ e2 (h (.ref l) H2 (e1.trans e2) (.lst (SqL.of hl) hv))⟩
theorem takes1 {scope : Scope} {x y : Str} {cy : Addr} {j : Nat} {v : V} (clos : closureFor scope X.env = pure [(y, cy)]) (hcell : ∀ z ∈ scope.names, z.2 ≠ .cell) (hkind : scope.kind = .function)
    (hnames : ∀ z ∈ scope.names, z.2 = .local → scope.names.lookup z.1 = some .local) (hloc : scope.names.lookup x = some .local) (hxy : x ≠ y) (hsub : X.env.cells.lookup y = some cy) (hN : X.N[j]? = some y) (hσ : σ[j]? = some (some v)) (hk : X.env.kindOf y = some .cell)
    (hrel : (relabel scope X.env).names.lookup y = some .cell ∨ (relabel scope X.env).names.lookup y = some .free) (hhas : ∀ z ∈ scope.names, z.2 = .free → z.1 = y) : Takes X σ scope [(y, cy)] [x, y] [none, some v] x where
  clos := clos
  cell := hcell
  kind := hkind
  names := hnames
  loc := hloc
  nd := by simp [hxy]
  first := rfl
  len := rfl
  sub := fun z c h => by
    have h' := PySem.mem_of_lookup h
    simp only [List.mem_singleton, Prod.mk.injEq] at h'
    rw [h'.1, h'.2]; exact hsub
  has := fun z h => by
    have hz : z = y := by
      have key : ∀ k, (relabel scope X.env).names.lookup z = some k → (k = .cell ∨ k = .free) → z = y := fun k hk' hk2 => by
        have hm := PySem.mem_of_lookup hk'
        obtain ⟨⟨n', k'⟩, hm1, hm2⟩ := List.mem_map.mp hm
        by_cases hf : k' = .free
        · have := hhas _ hm1 hf
          dsimp only at this hm2
          subst this
          split at hm2
          · exact (Prod.mk.inj hm2).1.symm
          · exact (Prod.mk.inj hm2).1.symm
        · dsimp only at hm2
          have e : (k' == NameKind.free) = false := by simpa using hf
          rw [e] at hm2
          simp only [Bool.false_and, Bool.false_eq_true, if_false] at hm2
          obtain ⟨rfl, rfl⟩ := Prod.mk.inj hm2
          rcases hk2 with q | q
          · exact absurd q (hcell _ hm1)
          · exact absurd q hf
      rcases h with h | h
      · exact key _ h (.inl rfl)
      · exact key _ h (.inr rfl)
    exact ⟨cy, by rw [hz]; simp⟩
  cap := fun i z u h1 h2 => by
    match i, h1, h2 with
    | 0, _, h2 => cases h2
    | 1, h1, h2 =>
      cases h1; cases h2
      exact ⟨j, hN, hσ, hk, ⟨cy, by simp⟩, hrel⟩
    | i + 2, h1, _ => simp at h1
end
end L3
set_option Elab.async false
set_option linter.all false
set_option maxRecDepth 100000
namespace L3
open PySem PySem.Spec PyProof.Rows L2
section
variable {X : Cx} {a b e c o : Expr} {es : List Expr} {σ : L2.St} {H : Hp} {i j : Int} {d : D} {ds : List D} {pos p apos : Pos}
theorem pd_max2 (hcm : X.calm = true) (hm : X.mg "max" = none) (ha : PD X a σ H (.int i)) (hb : PD X b σ H (.int j)) (hg : Gl X "max" := by rfl) (he : starEach [a, b] X.env = (false, eval a X.env) :: starEach [b] X.env := by rfl)
    (he2 : starEach [b] X.env = (false, eval b X.env) :: starEach [] X.env := by rfl) (hpl : (backTo pos (starEach [b] X.env)).any (·.1) = false := by rfl) : PD X (.Call (.Name "max" p) [a, b] [] pos) σ H (.int (mxP (i, j))) :=
  pd_B (call_max2 hcm) hm (by decide +kernel) (pda_cons ha (pda_cons hb pda_nil he2) he) (fun vs H1 Q e1 hvs q => by
    obtain ⟨v0, v1, rfl, h0, h1⟩ := isL2 hvs
    cases h0; cases h1
    exact ⟨i, j, rfl, q _ _ (Same.refl _) (.int _)⟩) hg (by decide) (by decide) he hpl
end
section
variable {X : Cx} {c : Expr} {body : List Stmt} {σ : L2.St} {H : Hp} {pos : Pos} {Post : L2.St → Hp → Prop}
end
section
variable {X : Cx} {e o : Expr} {es : List Expr} {σ : L2.St} {H : Hp} {d : D} {ds fds : List D} {p pos apos : Pos} {C : Addr} {ns : List Str}
end
abbrev k2 (i j : Int) : List Key := [Sum.inl i, Sum.inl j]
section
variable {K : PySem.W.Frag} {H : Hp} {l : Addr} {kvs : List (List Key × V)} {o : HO}
end
section
variable {X : Cx} {o i e k1 k2' : Expr} {σ : L2.St} {H : Hp} {d : D} {pos pos' : Pos} {Pre Nx : L2.St → Hp → Prop}
end
section
variable {X : Cx} {σ : L2.St} {H : Hp} {iter : Expr}
theorem mem_lookup {ys : List (Str × Addr)} {z : Str} (h : z ∈ ys.map (·.1)) : ∃ c, ys.lookup z = some c := by
  induction ys with
  | nil => cases h
  | cons y ys ih =>
    rw [List.lookup_cons]
    by_cases e : (z == y.1) = true
    · rw [e]; exact ⟨_, rfl⟩
    · have e' : (z == y.1) = false := by simpa using e
      rw [e']
      rcases List.mem_cons.mp h with q | q
      · exact absurd (by rw [q]; exact beq_self_eq_true _) e
      · exact ih q
theorem takesN {scope : Scope} {x : Str} {ys : List (Str × Addr)} {vs : List V} (clos : closureFor scope X.env = pure ys) (hcell : ∀ z ∈ scope.names, z.2 ≠ .cell) (hkind : scope.kind = .function)
    (hnames : ∀ z ∈ scope.names, z.2 = .local → scope.names.lookup z.1 = some .local) (hloc : scope.names.lookup x = some .local) (nd : (x :: ys.map (·.1)).Nodup) (hlen : vs.length = ys.length)
    (hsub : ∀ z ∈ ys, X.env.cells.lookup z.1 = some z.2)
    (hcap : ∀ (i : Nat) (z : Str × Addr) (v : V), ys[i]? = some z → vs[i]? = some v → ∃ j : Nat, X.N[j]? = some z.1 ∧ σ[j]? = some (some v) ∧ X.env.kindOf z.1 = some .cell ∧ ((relabel scope X.env).names.lookup z.1 = some .cell ∨ (relabel scope X.env).names.lookup z.1 = some .free))
    (hhas : ∀ z ∈ scope.names, z.2 = .free → z.1 ∈ ys.map (·.1)) : Takes X σ scope ys (x :: ys.map (·.1)) (none :: vs.map some) x where
  clos := clos
  cell := hcell
  kind := hkind
  names := hnames
  loc := hloc
  nd := nd
  first := rfl
  len := by simp [hlen]
  sub := fun z c h => hsub _ (PySem.mem_of_lookup h)
  has := fun z h => by
    have key : ∀ k, (relabel scope X.env).names.lookup z = some k → (k = .cell ∨ k = .free) → z ∈ ys.map (·.1) := fun k hk' hk2 => by
      have hm := PySem.mem_of_lookup hk'
      obtain ⟨⟨n', k'⟩, hm1, hm2⟩ := List.mem_map.mp hm
      by_cases hf : k' = .free
      · have := hhas _ hm1 hf
        dsimp only at this hm2
        have e : n' = z := by
          split at hm2
          · exact (Prod.mk.inj hm2).1
          · exact (Prod.mk.inj hm2).1
        rw [← e]; exact this
      · dsimp only at hm2
        have e : (k' == NameKind.free) = false := by simpa using hf
        rw [e] at hm2
        simp only [Bool.false_and, Bool.false_eq_true, if_false] at hm2
        obtain ⟨rfl, rfl⟩ := Prod.mk.inj hm2
        rcases hk2 with q | q
        · exact absurd q (hcell _ hm1)
        · exact absurd q hf
    rcases h with h | h
    · exact mem_lookup (key _ h (.inl rfl))
    · exact mem_lookup (key _ h (.inr rfl))
  cap := fun i z u h1 h2 => by
    match i, h1, h2 with
    | 0, _, h2 => cases h2
    | i + 1, h1, h2 =>
      have h1' : (ys.map (·.1))[i]? = some z := by simpa using h1
      have h2' : (vs.map some)[i]? = some (some u) := by simpa using h2
      rw [List.getElem?_map] at h1' h2'
      cases e1 : ys[i]? with
      | none => rw [e1] at h1'; cases h1'
      | some y =>
        rw [e1] at h1'
        cases h1'
        cases e2 : vs[i]? with
        | none => rw [e2] at h2'; cases h2'
        | some v =>
          rw [e2] at h2'
          cases h2'
          obtain ⟨j, a1, a2, a3, a4⟩ := hcap i y _ e1 e2
          exact ⟨j, a1, a2, a3, mem_lookup (List.mem_map_of_mem (List.mem_of_getElem? e1)), a4⟩
end
end L3
set_option linter.all false
namespace M
def rv (p e0 e1 c l : Rat) : Nat → Nat → Rat
  | 0, _ => e0
  | _ + 1, 0 => e1
  | i + 1, j + 1 => if i = 0 ∧ j = 0 then l else c + p * rv p e0 e1 c l i (j + 1) + (1 - p) * rv p e0 e1 c l (i + 1) j
termination_by i j => i + j
def lvl (lead : Int) (p e0 e1 c : Rat) : Rat := if lead = 1 then c + p * e0 + (1 - p) * e1 else (p * p * e0 + (1 - p) * (1 - p) * e1 + 2 * c) / (p * p + (1 - p) * (1 - p))
def rc (lead : Int) (p e0 e1 c : Rat) (i j : Nat) : Rat := rv p e0 e1 c (lvl lead p e0 e1 c) i j
end M
set_option linter.all false
namespace M
open L3
theorem won_eq (q : Pr) (g : Int) : won q g = wonL q g 2 := rfl
def bey (g : Int) (q : Pr) : Int := mxP (mxP q - g + 1, 0)
def lk0 (g : Int) (q : Pr) : Int := g + bey g q - q.1
def lk1 (g : Int) (q : Pr) : Int := g + bey g q - q.2
def W (lead g : Int) (p e0 e1 c : Rat) (q : Pr) : Rat :=
  if wonL q g lead = true then (if q.2 < q.1 then e0 else e1) else rc lead p e0 e1 c (lk0 g q).toNat (lk1 g q).toNat
def Goes (lead g : Int) (q : Pr) : Prop := (lead = 2 ∧ wonL q g 2 = false) ∨ (lead = 1 ∧ mxP q < g)
theorem wonL_iff {q : Pr} {g l : Int} : wonL q g l = true ↔ g ≤ mxP q ∧ l ≤ absI (q.1 - q.2) := by simp [wonL]
theorem wonL_not {q : Pr} {g l : Int} : wonL q g l = false ↔ ¬ (g ≤ mxP q ∧ l ≤ absI (q.1 - q.2)) := by
  rw [← wonL_iff]; simp
theorem mx_spec (a b : Int) : a ≤ mxP (a, b) ∧ b ≤ mxP (a, b) ∧ (mxP (a, b) = a ∨ mxP (a, b) = b) := by
  unfold mxP; simp only []; split <;> omega
theorem mn_spec (a b : Int) : mnP (a, b) ≤ a ∧ mnP (a, b) ≤ b ∧ (mnP (a, b) = a ∨ mnP (a, b) = b) := by
  unfold mnP; simp only []; split <;> omega
theorem abs_spec (a : Int) : a ≤ absI a ∧ - a ≤ absI a ∧ (absI a = a ∨ absI a = - a) := by
  unfold absI; split <;> omega
def Known (lead g : Int) (q : Pr) : Prop := Goes lead g q ∨ wonL q g lead = true
end M
set_option linter.all false
namespace M
open L3
section
variable (g1 g2 g3 : Int) (p c E0 E1 : Rat)
def gP : Rat := W 2 g1 p 1 0 0 (0, 0)
def gC : Rat := W 2 g1 p 0 0 c (0, 0)
def sP : Rat := W 2 g2 (gP g1 p) 1 0 0 (0, 0)
def sC : Rat := W 2 g2 (gP g1 p) 0 0 (gC g1 p c) (0, 0)
def Vs (S : Pr) : Rat := W 1 g3 (sP g1 g2 p) E0 E1 (sC g1 g2 p c) S
def Vg (S G : Pr) : Rat := W 2 g2 (gP g1 p) (Vs g1 g2 g3 p c E0 E1 (S.1 + 1, S.2)) (Vs g1 g2 g3 p c E0 E1 (S.1, S.2 + 1)) (gC g1 p c) G
def Vp (S G Q : Pr) : Rat := W 2 g1 p (Vg g1 g2 g3 p c E0 E1 S (G.1 + 1, G.2)) (Vg g1 g2 g3 p c E0 E1 S (G.1, G.2 + 1)) c Q
def worth (s : Stg) : Rat := if over g3 s = true then (if s.1.1 = g3 then E0 else E1) else Vp g1 g2 g3 p c E0 E1 s.1 s.2.1 s.2.2
end
variable {g1 g2 g3 : Int} {p c E0 E1 : Rat}
theorem onB_iff {q : Pr} {g : Int} : onB q g = true ↔ 0 ≤ mnP q ∧ won q g = false := by simp [onB]
structure On (g1 g2 g3 : Int) (s : Stg) : Prop where
  s0 : 0 ≤ mnP s.1
  sm : mxP s.1 < g3
  g : Goes 2 g2 s.2.1
  g0 : 0 ≤ mnP s.2.1
  p : Goes 2 g1 s.2.2
  p0 : 0 ≤ mnP s.2.2
theorem more0 (q : Pr) : more q 0 = (q.1 + 1, q.2) := rfl
theorem more1 (q : Pr) : more q 1 = (q.1, q.2 + 1) := rfl
section
variable (hp0 : 0 ≤ p) (hp1 : p ≤ 1) (he : E1 ≤ E0)
include hp0 hp1 he
end
end M
set_option linter.all false
namespace M
open L3
def Bd (k : Nat) (x : Int) : Prop := 0 ≤ x ∧ x ≤ 2 ^ k
def fr (x : Rat) : Pr := (x.num, (x.den : Int))
def low (a b : Int) : Pr := (a / (Int.gcd a b : Int), b / (Int.gcd a b : Int))
section
variable {a b t0 t1 t2 s0 top : Int}
end
end M
set_option linter.all false
namespace M
open L3
def val (q : Pr) : Rat := (q.1 : Rat) / (q.2 : Rat)
def tp (q : Pr) (B : Int) : Int := q.1 * (B / q.2)
structure IsPart (q : Pr) : Prop where
  n : 0 ≤ q.1
  l : q.1 ≤ q.2
  d : 0 < q.2
structure Fq (n N : Nat) (q : Pr) : Prop where
  pos : 0 < q.2
  den : Bd n q.2
  num : Bd N q.1
end M
set_option linter.all false
namespace M
open L3
structure Fits (lead g : Int) (part cost q E0 E1 : Pr) : Prop where
  ld : lead = 1 ∨ lead = 2
  p : IsPart part
  pb : Bd 400 part.2
  c : Fq 4000 20000 cost
  e0 : Fq 4000 20000 E0
  e1 : Fq 4000 20000 E1
  k : Known lead g q
  l : Goes lead g q → (lk0 g q).toNat + (lk1 g q).toNat ≤ 12
def unit (q : Pr) : Prop := q = (0, 1) ∨ q = (1, 1)
section
variable {g1 g2 g3 : Int} {P C : Pr}
end
section
variable (g1 g2 g3 : Int) (P C E0 E1 : Pr)
end
structure Asked (g1 g2 g3 : Int) (P C E0 E1 : Pr) : Prop where
  g : Good g1 g2 g3
  p : IsPart P
  p5 : P.2 ≤ 5
  c : unit C
  e0 : unit E0
  e1 : unit E1
section
variable {g1 g2 g3 : Int} {P C E0 E1 : Pr} (A : Asked g1 g2 g3 P C E0 E1)
include A
variable {s : Stg} (h : On g1 g2 g3 s)
include h
end
end M
set_option Elab.async false
set_option linter.all false
set_option maxRecDepth 100000
namespace L3
open PySem PySem.Spec PyProof.Rows L2
section
variable {X : Cx} {e c o a b : Expr} {σ : L2.St} {H H' : Hp} {d r : D} {k : Bool} {pos : Pos} {st : Stmt} {sts rest els body : List Stmt} {Pre Nx Mid : L2.St → Hp → Prop}
def two (E : D) (x y : D) : Prop := E = .tup [x, y] ∨ E = .lst [x, y]
end
end L3
namespace M
open L3
end M
set_option linter.all false
namespace M
open L3
structure Sz (n N : Nat) (x : Rat) : Prop where
  den : Bd n (x.den : Int)
  num : Bd N x.num
def IntV (N : Int) (x : Rat) : Prop := ∃ z : Int, x * (N : Rat) = (z : Rat)
section
variable {g1 g2 g3 : Int} {P C E0 E1 : Pr} (A : Asked g1 g2 g3 P C E0 E1)
include A
end
end M
set_option Elab.async false
set_option linter.all false
set_option maxRecDepth 100000
namespace L3
open PySem PySem.Spec PyProof.Rows L2
section
variable {X : Cx} {a b c e : Expr} {σ : L2.St} {H : Hp} {i j k : Int} {d : D} {ds : List D} {pos p2 : Pos} {f f' : Int → Int → Bool}
end
end L3
namespace L3
open PySem PySem.Spec PyProof.Rows L2
end L3
set_option Elab.async false
set_option linter.all false
set_option maxRecDepth 100000
namespace L3
open PySem PySem.Spec PyProof.Rows L2
section
variable {X : Cx} {K : PySem.W.Frag} {a e o : Expr} {σ : L2.St} {H : Hp} {i : Int} {d : D} {ds : List D} {pos apos p : Pos} {y : Str} {ts : List Str}
end
section
variable {X : Cx} {e : Expr} {es : List Expr} {σ : L2.St} {H : Hp} {ds : List D} {p pos : Pos} {C c : Addr} {Pw : L2.St → Hp → Prop}
end
section
variable {X : Cx} {a b e c o : Expr} {σ : L2.St} {H : Hp} {i j : Int} {d : D} {p pos apos cpos : Pos} {Pre Nx : L2.St → Hp → Prop}
end
section
variable {X : Cx} {c : Expr} {st : Stmt} {sts rest : List Stmt} {σ : L2.St} {H H' : Hp} {pos : Pos} {Pre Nx Post : L2.St → Hp → Prop}
theorem pq_pn {Po : L2.St → Hp → L2.St → Hp → Prop} (h : ∀ σ H, Pre σ H → PN X sts σ H (Po σ H)) (f : ∀ σ H σ' H', Pre σ H → Same H H' → Po σ H σ' H' → Nx σ' H') : PQ X sts Pre Nx := fun pins s σ H D I ⟨p, q⟩ =>
  h σ H p pins s σ H D I ⟨rfl, Same.refl _, fun σ2 H2 e2 p2 => q _ _ (f _ _ _ _ p e2 p2)⟩
end
section
variable {X : Cx} {a b : Expr} {σ : L2.St} {H : Hp} {d : D} {ds : List D} {pos : Pos}
end
end L3
set_option Elab.async false
set_option linter.all false
set_option maxRecDepth 100000
namespace L3
open PySem PySem.Spec PyProof.Rows L2
section
variable {X : Cx} {tg : Expr}
end
section
variable {X : Cx} {iter : Expr} {σ : L2.St} {H : Hp} {z : Str}
end
section
variable {X : Cx} {σ : L2.St} {H : Hp} {pos : Pos} {body rest : List Stmt} {iter : Expr} {r : D} {z : Str}
end
section
variable {X : Cx} {a e o : Expr} {σ : L2.St} {H : Hp} {i : Int} {d : D} {ds : List D} {pos apos p p2 : Pos} {y z : Str} {ts : List Str}
end
section
variable {X : Cx} {pos : Pos} {body rest : List Stmt} {iter : Expr} {ts : List Str} {Pre : L2.St → Hp → Prop} {Rt : V → Hp → Prop}
end
end L3
set_option Elab.async false
set_option linter.all false
set_option maxRecDepth 100000
namespace PySem
open Sem (wp)
section
variable {prog : Program} {w : World} {K : Type} [DecidableEq K] (knd : KeyKind prog w K)
inductive NestAre (h : Heap) : List (List K) → List Value → Prop
  | nil : NestAre h [] []
  | cons {k : List K} {a : Addr} {ks : List (List K)} {vs : List Value} : IsTupleKey knd h k a → NestAre h ks vs → NestAre h (k :: ks) (.ref a :: vs)
def IsNest (h : Heap) (ks : List (List K)) (a : Addr) : Prop := ∃ o items n, h.get? a = some o ∧ o.cls = .type "tuple" ∧ o.data = .seq items n ∧ NestAre knd h ks items.toList
variable {knd}
theorem NestAre.inj {h : Heap} : ∀ {x y : List (List K)} {vs : List Value}, NestAre knd h x vs → NestAre knd h y vs → x = y
  | _, _, _, .nil, .nil => rfl
  | _, _, _, .cons a l, .cons b m => by rw [a.inj b, NestAre.inj l m]
theorem NestAre.keeps {h h' : Heap} {d : Addr} {o : Obj} {es ep} (ho : h.get? d = some o) (hd : o.data = .dict es ep) (hs : Heap.SameBut d h h') : ∀ {x : List (List K)} {vs : List Value}, NestAre knd h x vs → NestAre knd h' x vs
  | _, _, .nil => .nil
  | _, _, .cons a l => .cons (a.keeps ho hd hs) (NestAre.keeps ho hd hs l)
theorem IsNest.typeIs {s : Shared} {ks : List (List K)} {a : Addr} (x : IsNest knd s.heap ks a) : s.TypeIs (.ref a) "tuple" := by
  obtain ⟨o, _, _, ho, hc, _⟩ := x
  exact ⟨o, ho, hc⟩
theorem IsNest.inj {h : Heap} {a : Addr} {x y : List (List K)} (hx : IsNest knd h x a) (hy : IsNest knd h y a) : x = y := by
  obtain ⟨o, its, n, ho, _, hd, hi⟩ := hx
  obtain ⟨o2, its2, n2, ho2, _, hd2, hi2⟩ := hy
  cases ho.symm.trans ho2
  rw [hd] at hd2
  cases hd2
  exact hi.inj hi2
theorem IsNest.keeps {h h' : Heap} {ks : List (List K)} {a d : Addr} {o : Obj} {es ep} (x : IsNest knd h ks a) (ho : h.get? d = some o) (hd : o.data = .dict es ep) (hs : Heap.SameBut d h h') : IsNest knd h' ks a := by
  obtain ⟨o1, its, n, ho1, hc, hd1, hi⟩ := x
  have hne : a ≠ d := fun z => by
    subst z
    cases ho1.symm.trans ho
    rw [hd] at hd1
    cases hd1
  exact ⟨o1, its, n, (hs.2 a hne).trans ho1, hc, hd1, hi.keeps ho hd hs⟩
def nestHash (knd : KeyKind prog w K) (ks : List (List K)) : Int := reduceHash (Builtin.Tuple.tupleHashOf (ks.map (tupleKeyHash knd)))
def nestDraws : List (List K) → Nat
  | [] => 0
  | k :: ks => (k.length + 1) + nestDraws ks
theorem nestDraws_app : ∀ (a b : List (List K)), nestDraws (a ++ b) = nestDraws a + nestDraws b
  | [], b => (Nat.zero_add _).symm
  | k :: a, b => by show (k.length + 1) + nestDraws (a ++ b) = (k.length + 1) + nestDraws a + nestDraws b; rw [nestDraws_app a b]; omega
variable {A : Around} {E : Value → Shared → Prop} {s : Shared}
theorem pyHash_nest {ks : List (List K)} {a : Addr} {Q : Int → Shared → Prop} (hu : A.units + 8 < cLine) (hk : IsNest knd s.heap ks a) (h : Q (nestHash knd ks) { s with toks := s.toks + (nestDraws ks + 1) }) : wpAny (model prog w) A (pyHash (.ref a)) Q E s := by
  have hT := hk.typeIs
  obtain ⟨o, its, n, ho, _, hd, hi⟩ := hk
  have hu0 : A.units < cLine := by omega
  unfold pyHash
  first | unfold pyHashByItsType | skip
  first | refine wpAny_bind (wpAny_cRoomFor_or (.inr hu0) ?_) | skip
  refine wpAny_bind (wpAny_specialOf hT F.slot_tuple_hash.lookup ?_)
  show wpAny _ _ (if (some (Value.builtin "tuple.__hash__") == some Value.none) = true then _ else _) Q E s
  rw [if_neg (by rw [beq_builtin_none]; exact Bool.false_ne_true)]
  refine wpAny_bind (wpAny_specialOf hT F.slot_tuple_hash.lookup ?_)
  show wpAny _ _ (callSpecialIfBoundUnlessNone? (.ref a) "__hash__" _ >>= _) Q E s
  refine wpAny_bind (wpAny_callSpecialIfBoundUnlessNone?_slot hT F.slot_tuple_hash (wpAny_call_entry F.slot_tuple_hash hT F.entry_tuple_hash ?_ (F.args_tuple_hash_1 _)))
  show wpAny _ _ (Builtin.Tuple.tupleItemsOf (.ref a) >>= _) _ _ s
  refine wpAny_bind (wpAny_tupleItemsOf ho hd ?_)
  refine wpAny_bind ?_
  rw [← Array.forIn_toList]
  refine wpAny_forIn_list _ (fun rest (b : Array Int) s1 => ∃ gone left, ks = gone ++ left ∧ NestAre knd s.heap left rest ∧ b.toList = gone.map (tupleKeyHash knd) ∧ s1 = { s with toks := s.toks + nestDraws gone }) _ ?_ ?_ _ _ ⟨[], ks, rfl, hi, rfl, rfl⟩
  · rintro x rest b s1 ⟨gone, left, rfl, hl, hb, rfl⟩
    cases hl with
    | @cons k b' ks1 vs1 h1 hl1 =>
      refine wpAny_bind (wpAny_pyHash_tuple (by first | (simp only [Around.in1]; omega) | omega) h1 ?_)
      have fin : ∃ gone2 left2, gone ++ k :: ks1 = gone2 ++ left2 ∧ NestAre knd s.heap left2 rest ∧ (b.push (tupleKeyHash knd k)).toList = gone2.map (tupleKeyHash knd) ∧
          ({ s with toks := s.toks + nestDraws gone + (k.length + 1) } : Shared) = { s with toks := s.toks + nestDraws gone2 } := by
        refine ⟨gone ++ [k], ks1, by simp, hl1, by simp [hb], ?_⟩
        rw [nestDraws_app, show nestDraws [k] = k.length + 1 from rfl, Nat.add_assoc]
      first
        | exact wpAny_pure fin
        | exact wpAny_bind (wpAny_pure (wpAny_pure fin))
  · rintro b s1 ⟨gone, left, rfl, hl, hb, rfl⟩
    cases hl
    rw [List.append_nil] at h
    show wpAny _ _ (retInt (Builtin.Tuple.tupleHashOf b.toList)) _ _ _
    rw [hb]
    refine wpAny_ret_mkInt ?_
    show wpAny _ _ (if (decide (-(2 : Int) ^ 63 ≤ Builtin.Tuple.tupleHashOf (gone.map (tupleKeyHash knd))) && decide (Builtin.Tuple.tupleHashOf (gone.map (tupleKeyHash knd)) < 2 ^ 63)) = true then _ else _) Q E _
    unfold nestHash reduceHash at h
    by_cases hr : (decide (-(2 : Int) ^ 63 ≤ Builtin.Tuple.tupleHashOf (gone.map (tupleKeyHash knd))) && decide (Builtin.Tuple.tupleHashOf (gone.map (tupleKeyHash knd)) < 2 ^ 63)) = true
    · rw [if_pos hr] at h ⊢
      exact wpAny_pure (by simpa [Nat.add_assoc] using h)
    · rw [if_neg hr] at h ⊢
      exact wpAny_bind (wpAny_rule (wpAny_pure (by simpa [Nat.add_assoc] using h)))
theorem eq_tree_nest {x y : List (List K)} {a b : Addr} {P : Fin → Shared → Prop} (hu : A.units + 4 < cLine) (hx : IsNest knd s.heap x a) (hy : IsNest knd s.heap y b) (h : P (.done (.ret (.bool (decide (x = y))))) s) : wpAny (model prog w) A (Builtin.«tuple.__eq__» ⟨[.ref a, .ref b], []⟩) P E s := by
  have hTb := hy.typeIs
  obtain ⟨oa, xs, na, hoa, _, hda, hia⟩ := hx
  obtain ⟨ob, ys, nb, hob, _, hdb, hib⟩ := hy
  show wpAny _ _ (isInstance (.ref b) (.type "tuple") >>= _) _ _ s
  refine wpAny_bind (wpAny_isInstance hTb isSubtype_tuple_tuple ?_)
  simp only [Bool.not_true, Bool.false_eq_true, if_false]
  refine wpAny_bind (wpAny_tupleItemsOf hoa hda (wpAny_bind (wpAny_tupleItemsOf hob hdb (wpAny_bind ?_))))
  refine wpAny_forIn_list _ (fun rest r s1 => r.1 = none ∧ s1 = s ∧ ∃ x1 y1 xs1 ys1, rest = List.zip xs1 ys1 ∧ NestAre knd s.heap x1 xs1 ∧ NestAre knd s.heap y1 ys1 ∧ decide (x1 = y1) = decide (x = y) ∧ (xs1.length == ys1.length) = (xs.size == ys.size)) _ ?_ ?_ _ _
    ⟨rfl, rfl, x, y, xs.toList, ys.toList, rfl, hia, hib, rfl, by simp⟩
  · rintro ⟨u, v⟩ rest r s1 ⟨hr, rfl, x1, y1, xs1, ys1, hz, hx1, hy1, hdec, hlen⟩
    cases hx1 with
    | nil => simp at hz
    | @cons k1 u1 x2 xs2 h1 hx2 =>
      cases hy1 with
      | nil => simp at hz
      | @cons k2 v1 y2 ys2 h2 hy2 =>
        simp only [List.zip_cons_cons, List.cons.injEq, Prod.mk.injEq] at hz
        obtain ⟨⟨rfl, rfl⟩, rfl⟩ := hz
        refine wpAny_bind (wpAny_eqBool_tuple (by omega) h1 h2 ?_)
        by_cases hk : k1 = k2
        · subst hk
          rw [decide_eq_true rfl]
          simp only [Bool.not_true, Bool.false_eq_true, if_false]
          refine wpAny_pure ⟨rfl, rfl, x2, y2, xs2, ys2, rfl, hx2, hy2, ?_, by simpa using hlen⟩
          rw [← hdec]
          by_cases hxy : x2 = y2 <;> simp [hxy]
        · rw [decide_eq_false hk]
          simp only [Bool.not_false, if_true]
          have hf : decide (x = y) = false := by rw [← hdec]; simp [hk]
          rw [hf] at h
          exact wpAny_bind (wpAny_pure (wpAny_pure (wpAny_pure h)))
  · rintro ⟨r1, r2⟩ s1 ⟨hr, rfl, x1, y1, xs1, ys1, hz, hx1, hy1, hdec, hlen⟩
    simp only at hr
    subst hr
    refine wpAny_pure ?_
    have hfin : (xs.size == ys.size) = decide (x = y) := by
      rw [← hdec, ← hlen]
      cases hx1 with
      | nil => cases hy1 <;> simp
      | cons _ _ =>
        cases hy1 with
        | nil => simp
        | cons _ _ => simp at hz
    show P (.done (.ret (.bool (xs.size == ys.size)))) s1
    rw [hfin]; exact h
theorem eqBool_nest {x y : List (List K)} {a b : Addr} {Q : Bool → Shared → Prop} (hu : A.units + 8 < cLine) (hx : IsNest knd s.heap x a) (hy : IsNest knd s.heap y b) (h : Q (decide (x = y)) s) : wpAny (model prog w) A (eqBool (.ref a) (.ref b)) Q E s := by
  unfold eqBool
  try with_reducible refine wpAny_holding ?_
  show wpAny _ _ (if (Value.ref a == Value.ref b) = true then _ else _) Q E s
  by_cases hab : (Value.ref a == Value.ref b) = true
  · rw [if_pos hab]
    have e : a = b := by have := eq_of_beq hab; injection this
    subst e
    obtain rfl := hx.inj hy
    exact wpAny_bind (wpAny_rule (wpAny_pure (by simpa using h)))
  · rw [if_neg hab]
    exact wpAny_bind (wpAny_richCompare_same_room (op := .Eq) hx.typeIs hy.typeIs F.slot_tuple_eq
      (wpAny_call_entry F.slot_tuple_eq hx.typeIs F.entry_tuple_eq (eq_tree_nest (by first | (simp only [Around.in1]; omega) | omega) hx hy ⟨_, rfl, (fun e => nomatch e), wpAny_truthy_bool h⟩) (F.args_tuple_eq_2 _ _)) (by omega))
theorem quiet_flat {ks : List K} {a : Addr} {m : Nat} {Q : Bool → Shared → Prop} (hk : IsTupleKey knd s.heap ks a) (h : Q true s) : wpAny (model prog w) A (eqIsQuiet (m + 1) (.ref a)) Q E s := by
  have hT := hk.typeIs
  obtain ⟨o, its, n, ho, _, hd, hi⟩ := hk
  unfold eqIsQuiet
  refine wpAny_bind (wpAny_specialOf hT F.slot_tuple_eq.lookup ?_)
  show wpAny _ _ (isInstance (.ref a) (.type "tuple") >>= _) _ _ s
  refine wpAny_bind (wpAny_isInstance hT isSubtype_tuple_tuple ?_)
  simp only [Bool.not_true, Bool.false_eq_true, if_false]
  refine wpAny_bind (wpAny_seqItems ho hd (wpAny_bind ?_))
  show wpAny _ _ (forIn its _ _) _ _ s
  rw [← Array.forIn_toList]
  refine wpAny_forIn_list _ (fun rest r s1 => r.1 = none ∧ s1 = s ∧ ∀ v ∈ rest, carriedByValue v = true) _ (fun v rest r s1 ⟨hr, e1, hall⟩ => ?_) (fun ⟨r1, r2⟩ s1 ⟨hr, e1, _⟩ => ?_) _ _ ⟨rfl, rfl, hi.byValue⟩
  · subst e1
    rw [eqIsQuiet_byValue _ (hall v List.mem_cons_self)]
    refine wpAny_bind (wpAny_pure ?_)
    simp only [Bool.not_true, Bool.false_eq_true, if_false]
    exact wpAny_pure ⟨rfl, rfl, fun u hu1 => hall u (List.mem_cons_of_mem _ hu1)⟩
  · subst e1
    simp only at hr
    subst hr
    exact wpAny_pure h
theorem quiet_nest {ks : List (List K)} {a : Addr} {Q : Bool → Shared → Prop} (hk : IsNest knd s.heap ks a) (h : Q true s) : wpAny (model prog w) A (eqIsQuiet 8 (.ref a)) Q E s := by
  have hT := hk.typeIs
  obtain ⟨o, its, n, ho, _, hd, hi⟩ := hk
  unfold eqIsQuiet
  refine wpAny_bind (wpAny_specialOf hT F.slot_tuple_eq.lookup ?_)
  show wpAny _ _ (isInstance (.ref a) (.type "tuple") >>= _) _ _ s
  refine wpAny_bind (wpAny_isInstance hT isSubtype_tuple_tuple ?_)
  simp only [Bool.not_true, Bool.false_eq_true, if_false]
  refine wpAny_bind (wpAny_seqItems ho hd (wpAny_bind ?_))
  show wpAny _ _ (forIn its _ _) _ _ s
  rw [← Array.forIn_toList]
  refine wpAny_forIn_list _ (fun rest r s1 => r.1 = none ∧ s1 = s ∧ ∃ left, NestAre knd s.heap left rest) _ (fun v rest r s1 ⟨hr, e1, left, hl⟩ => ?_) (fun ⟨r1, r2⟩ s1 ⟨hr, e1, _⟩ => ?_) _ _ ⟨rfl, rfl, ks, hi⟩
  · subst e1
    cases hl with
    | @cons k b ks1 vs1 h1 hl1 =>
      refine wpAny_bind (quiet_flat (m := 6) h1 ?_)
      simp only [Bool.not_true, Bool.false_eq_true, if_false]
      exact wpAny_pure ⟨rfl, rfl, ks1, hl1⟩
  · subst e1
    simp only at hr
    subst hr
    exact wpAny_pure h
end
def nestKind {prog : Program} {w : World} {K : Type} [DecidableEq K] (knd : KeyKind prog w K) : HeapKind prog w (List (List K)) where
  is := IsNest knd
  hash := nestHash knd
  draws := fun ks => nestDraws ks + 1
  room := fun A => A.units + 8 < cLine
  inj := fun hx hy => hx.inj hy
  keeps := fun x ho hd hs => x.keeps ho hd hs
  pyHash := fun hu hk h => pyHash_nest hu hk h
  eqBool := fun hu hx hy h => eqBool_nest hu hx hy h
  quiet := fun hk h => quiet_nest hk h
end PySem
set_option Elab.async false
set_option linter.all false
set_option maxRecDepth 100000
namespace PySem
open Sem (wp)
def DRaw (h : Heap) (d : Addr) (es : Array DictEntry) (ep : Nat) : Prop := ∃ o, h.get? d = some o ∧ o.cls = .type "dict" ∧ o.data = .dict es ep
theorem DRaw.typeIs {s : Shared} {d : Addr} {es : Array DictEntry} {ep : Nat} (x : DRaw s.heap d es ep) : s.TypeIs (.ref d) "dict" := by obtain ⟨o, h1, h2, _⟩ := x; exact ⟨o, h1, h2⟩
section
variable {prog : Program} {w : World} {A : Around} {E : Value → Shared → Prop} {s : Shared} {it d : Addr} {i ep : Nat} {es : Array DictEntry}
theorem iter_raw {Q : Value → Shared → Prop} (hd : (d == sysModules) = false) (hm : DRaw s.heap d es ep)
    (hQ : Q (.ref s.heap.objs.size) { s with heap := s.heap.push { cls := .type "dict_keyiterator", data := .fields #[.ref d, .int 0 0, .int es.size 0, .int ep 0] } }) : wpAny (model prog w) A (pyIter (.ref d)) Q E s := by
  have hT := hm.typeIs
  obtain ⟨o, ho, hc, hdat⟩ := hm
  refine wpAny_pyIter_slot hT F.slot_dict_iter (wpAny_call_entry F.slot_dict_iter hT F.entry_dict_iter ?_ (F.args_dict_iter_1 _))
  unfold Builtin.«dict.__iter__»; refine wpAny_bind ?_
  unfold Builtin.Dict.dictSlotNone; refine wpAny_bind (wpAny_notOrdered_dict hT ?_)
  show wpAny _ _ (pure (Value.ref d)) _ _ s; refine wpAny_pure ?_
  show wpAny _ _ (Builtin.Dict.showsAll d >>= _) _ _ s; unfold Builtin.Dict.showsAll
  rw [if_neg (fun z => by rw [hd] at z; cases z)]
  refine wpAny_bind (wpAny_pure (wpAny_bind (wpAny_dictEntries ho hdat (wpAny_bind (wpAny_dictEpoch ho hdat ?_)))))
  refine wpAny_bind (wpAny_newObj_type (wpAny_pure ⟨_, rfl, "dict_keyiterator", _, ⟨_, Heap.get?_push_size _ rfl, rfl⟩, F.slot_dict_keyiterator_next.lookup, ?_⟩))
  simpa [rawInt] using hQ
theorem next_raw {Q : Option Value → Shared → Prop} (hit : s.heap.IsKeyIter it d i es.size ep) (hm : DRaw s.heap d es ep) (hi : i < es.size)
    (hQ : ∀ h', h'.IsKeyIter it d (i + 1) es.size ep → Heap.SameBut it s.heap h' → Q (some es[i].key) { s with heap := h' }) : wpAny (model prog w) A (pyNext (.ref it)) Q E s := by
  obtain ⟨o, ho, hc, hd⟩ := id hit
  obtain ⟨od, hod, hcd, hdd⟩ := hm
  have hT := hit.typeIs
  unfold pyNext
  refine wpAny_bind (wpAny_attempt (wpAny_callSpecial?_slot (name := Str.ofString "__next__") hT F.slot_dict_keyiterator_next (wpAny_call_entry F.slot_dict_keyiterator_next hT F.entry_dict_keyiterator_next ?_ (F.args_dict_keyiterator_next_1 _))))
  refine wpAny_bind (wpAny_pure (wpAny_bind (wpAny_bind ?_)))
  first | refine wpAny_bind (wpAny_typeNameOfWhole_keyiter hT (wpAny_pure ?_)) | refine wpAny_bind (wpAny_typeNameOf_keyiter hT (wpAny_pure ?_))
  refine wpAny_bind (wpAny_fieldsOf ho hd ?_)
  simp only [show Builtin.Dict_items.ownsTuple "dict_keyiterator" = false by decide, Bool.false_eq_true, if_false]
  show wpAny _ _ (if (Value.ref d == Value.none) = true then _ else _) _ _ s
  rw [if_neg (show ¬ ((Value.ref d == Value.none) = true) from fun z => Bool.false_ne_true z)]
  refine wpAny_bind (wpAny_pure (wpAny_bind (wpAny_dictEntries hod hdd ?_)))
  rw [if_neg (by simp)]
  refine wpAny_bind (wpAny_pure (wpAny_bind (wpAny_dictEpoch hod hdd ?_)))
  rw [if_neg (by simp)]
  refine wpAny_pure ?_
  simp only [show ¬ ((i : Int) < 0) from by omega, if_false, Int.toNat_natCast, Array.getElem?_eq_getElem hi]
  refine wpAny_bind ?_
  first | refine wpAny_bind (wpAny_typeNameOfWhole_keyiter hT (wpAny_pure ?_)) | refine wpAny_bind (wpAny_typeNameOf_keyiter hT (wpAny_pure ?_))
  refine wpAny_bind (wpAny_isOneOf_keyiter hT ?_); show wpAny _ _ (setField (.ref it) 1 (rawInt ((i : Int) + 1)) >>= _) _ _ s
  refine wpAny_bind (wpAny_setField ho hd (by simp) ?_)
  have hit1 : (s.heap.update it (Obj.mapFields (·.setIfInBounds 1 (rawInt ((i : Int) + 1))))).IsKeyIter it d (i + 1) es.size ep :=
    ⟨_, Heap.get?_update_self _ ho (Obj.isFreed_of_fields (Obj.data_mapFields hd _)), (Obj.cls_mapFields ..).trans hc, by rw [Obj.data_mapFields hd]; simp [rawInt]⟩
  refine wpAny_bind (wpAny_holding (wpAny_bind (wpAny_isOneOf_keyiter (s := { s with heap := s.heap.update it (Obj.mapFields (·.setIfInBounds 1 (rawInt ((i : Int) + 1)))) }) hit1.typeIs ?_)))
  show wpAny _ _ (pure es[i].key) _ _ _
  exact wpAny_pure (wpAny_pure ⟨_, rfl, wpAny_pure (hQ _ hit1 (Heap.SameBut.update ..))⟩)
theorem end_raw {Q : Option Value → Shared → Prop} (hh : A.handled = none) (hit : s.heap.IsKeyIter it d i es.size ep) (hm : DRaw s.heap d es ep) (hi : es.size ≤ i)
    (hQ : ∀ h', Heap.ExtBut it s.heap h' → Q none { s with heap := h' }) : wpAny (model prog w) A (pyNext (.ref it)) Q E s := by
  obtain ⟨o, ho, hc, hd⟩ := id hit
  obtain ⟨od, hod, hcd, hdd⟩ := hm
  have hT := hit.typeIs
  unfold pyNext
  refine wpAny_bind (wpAny_attempt (wpAny_callSpecial?_slot (name := Str.ofString "__next__") hT F.slot_dict_keyiterator_next (wpAny_call_entry F.slot_dict_keyiterator_next hT F.entry_dict_keyiterator_next ?_ (F.args_dict_keyiterator_next_1 _))))
  refine wpAny_bind (wpAny_pure (wpAny_bind (wpAny_bind ?_)))
  first | refine wpAny_bind (wpAny_typeNameOfWhole_keyiter hT (wpAny_pure ?_)) | refine wpAny_bind (wpAny_typeNameOf_keyiter hT (wpAny_pure ?_))
  refine wpAny_bind (wpAny_fieldsOf ho hd ?_)
  simp only [show Builtin.Dict_items.ownsTuple "dict_keyiterator" = false by decide, Bool.false_eq_true, if_false]
  show wpAny _ _ (if (Value.ref d == Value.none) = true then _ else _) _ _ s
  rw [if_neg (show ¬ ((Value.ref d == Value.none) = true) from fun z => Bool.false_ne_true z)]
  refine wpAny_bind (wpAny_pure (wpAny_bind (wpAny_dictEntries hod hdd ?_)))
  rw [if_neg (by simp)]
  refine wpAny_bind (wpAny_pure (wpAny_bind (wpAny_dictEpoch hod hdd ?_)))
  rw [if_neg (by simp)]
  refine wpAny_pure ?_
  simp only [show ¬ ((i : Int) < 0) from by omega, if_false, Int.toNat_natCast, Array.getElem?_eq_none hi]
  refine wpAny_bind ?_
  first | refine wpAny_bind (wpAny_typeNameOfWhole_keyiter hT (wpAny_pure ?_)) | refine wpAny_bind (wpAny_typeNameOf_keyiter hT (wpAny_pure ?_))
  show wpAny _ _ (setField (.ref it) 0 .none >>= _) _ _ s; refine wpAny_bind (wpAny_setField ho hd (by simp) ?_)
  show wpAny _ _ (newExc (.type "StopIteration") [] >>= _) _ _ _; refine wpAny_bind ?_
  simp only [newExc, newTuple]; refine wpAny_bind (wpAny_newObj_type ?_ (by size_fits))
  refine wpAny_bind (m := firstArgMember _ _) (wpAny_of_eq (a := Value.none) (by first | rfl | (simp only [firstArgMember]; rfl)) (wpAny_newObj_type ?_ (by size_fits)))
  simp only [raiseNew]; refine wpAny_bind (wpAny_handled ?_)
  rw [show A.in1.handled = none from hh]; refine wpAny_bind (wpAny_pure (wpAny_throw ?_))
  refine wpAny_bind (wpAny_isInstance (T := "StopIteration") (b := true) ⟨_, Heap.get?_push_size _ rfl, rfl⟩ isSubtype_stop ?_)
  exact wpAny_pure (hQ _ (((Heap.SameBut.update ..).extBut.push _).push _))
end
end PySem
set_option Elab.async false
set_option linter.all false
set_option maxRecDepth 100000
namespace L3
open PySem PySem.Spec PyProof.Rows L2
abbrev St3 := (Int × Int) × (Int × Int) × (Int × Int)
abbrev Ent := St3 × Addr × Value
def dSt (s : St3) : D := .tup [dP s.1, dP s.2.1, dP s.2.2]
def kS (s : St3) : List (List Key) := [k2 s.1.1 s.1.2, k2 s.2.1.1 s.2.1.2, k2 s.2.2.1 s.2.2.2]
theorem kS_inj {s t : St3} : kS s = kS t ↔ s = t := by
  obtain ⟨⟨a, b⟩, ⟨c, d⟩, ⟨e, f⟩⟩ := s
  obtain ⟨⟨a', b'⟩, ⟨c', d'⟩, ⟨e', f'⟩⟩ := t
  unfold kS
  simp only [List.cons.injEq, k2, Sum.inl.injEq, Prod.mk.injEq, and_true]
section
variable {K : PySem.W.Frag} {H H' : Hp} {a l : Addr} {t : St3} {v : V}
theorem dSt_inv (h : Is K H (dSt t) v) : ∃ a b1 b2 b3, v = .ref a ∧ SqT K H a [.ref b1, .ref b2, .ref b3] ∧ SqT K H b1 [.int t.1.1, .int t.1.2] ∧ SqT K H b2 [.int t.2.1.1, .int t.2.1.2] ∧ SqT K H b3 [.int t.2.2.1, .int t.2.2.2] := by
  cases h with
  | @tup a xs _ hq q =>
    obtain ⟨v1, v2, v3, rfl, h1, h2, h3⟩ := isL3 q
    obtain ⟨b1, rfl, q1⟩ := dP_inv h1
    obtain ⟨b2, rfl, q2⟩ := dP_inv h2
    obtain ⟨b3, rfl, q3⟩ := dP_inv h3
    exact ⟨a, b1, b2, b3, rfl, hq, q1, q2, q3⟩
theorem sqT_updE {φ : Heap → Prop} {p : Addr} {ys : List V} {o : HO} (hl : H l = some (.ext φ)) (h : SqT K H p ys) : SqT K (upd H l o) p ys := by
  rcases h with (h | ⟨b, h⟩) | h
  · exact .inl (.inl (by rw [upd_ne (ne_of h hl (by intro z; cases z))]; exact h))
  · exact .inl (.inr ⟨b, by rw [upd_ne (ne_of h hl (by intro z; cases z))]; exact h⟩)
  · exact .inr h
theorem sqL_updE {φ : Heap → Prop} {p : Addr} {ys : List V} {o : HO} (hl : H l = some (.ext φ)) (h : SqL K H p ys) : SqL K (upd H l o) p ys := by
  rcases h with (h | ⟨b, h⟩) | h
  · exact .inl (.inl (by rw [upd_ne (ne_of h hl (by intro z; cases z))]; exact h))
  · exact .inl (.inr ⟨b, by rw [upd_ne (ne_of h hl (by intro z; cases z))]; exact h⟩)
  · exact .inr h
mutual
def plainT : D → Bool
  | .tup ds => plainTs ds
  | .lst ds => plainTs ds
  | .non => true
  | .bl _ => true
  | .int _ => true
  | .str _ => true
  | _ => false
def plainTs : List D → Bool
  | [] => true
  | d :: ds => plainT d && plainTs ds
end
mutual
theorem Is.updE {φ : Heap → Prop} {o : HO} (hl : H l = some (.ext φ)) : ∀ {d : D} {v : V}, Is K H d v → plainT d = true → Is K (upd H l o) d v
  | _, _, .non, _ => .non
  | _, _, .bl b, _ => .bl b
  | _, _, .int i, _ => .int i
  | _, _, .str x, _ => .str x
  | _, _, .tup h q, n => .tup (sqT_updE hl h) (IsL.updE hl q n)
  | _, _, .ty _, n => absurd n (by simp [plainT])
  | _, _, .adr _, n => absurd n (by simp [plainT])
  | _, _, .lst h q, n => .lst (sqL_updE hl h) (IsL.updE hl q n)
  | _, _, .obj _, n => absurd n (by simp [plainT])
  | _, _, .exc _, n => absurd n (by simp [plainT])
  | _, _, .ob _ _ _ _, n => absurd n (by simp [plainT])
theorem IsL.updE {φ : Heap → Prop} {o : HO} (hl : H l = some (.ext φ)) : ∀ {ds : List D} {vs : List V}, IsL K H ds vs → plainTs ds = true → IsL K (upd H l o) ds vs
  | _, _, .nil, _ => .nil
  | _, _, .cons h q, n => by
    simp only [plainTs, Bool.and_eq_true] at n
    exact .cons (Is.updE hl h n.1) (IsL.updE hl q n.2)
end
end
section
variable {X : Cx} {pins : List (Addr × Obj)} {σ : L2.St} {H : Hp} {s : Shared} {b : Addr} {t : St3}
theorem tkey_of {ks : List Key} {p : Addr} (I : Inv X pins σ H s) (h : SqT X.K H p (ks.map kV)) : IsTupleKey (mixKind X.prog X.w) s.heap ks p := by
  obtain ⟨its, rv, ⟨ob, h1, h2, n, h3⟩, _⟩ := I.tuple h
  exact ⟨ob, its.toArray, n, h1, h2, h3, by simpa using items_are (ks := ks) rv⟩
theorem nest_of (I : Inv X pins σ H s) (h : Is X.K H (dSt t) (.ref b)) : IsNest (mixKind X.prog X.w) s.heap (kS t) b := by
  obtain ⟨a, b1, b2, b3, e, hq, q1, q2, q3⟩ := dSt_inv h
  cases e
  obtain ⟨its, rv, ⟨ob, h1, h2, n, h3⟩, _⟩ := I.tuple hq
  refine ⟨ob, its.toArray, n, h1, h2, h3, ?_⟩
  cases rv with
  | cons r1 rv =>
    cases rv with
    | cons r2 rv =>
      cases rv with
      | cons r3 rv =>
        cases rv
        cases r1; cases r2; cases r3
        exact .cons (tkey_of (ks := k2 t.1.1 t.1.2) I q1) (.cons (tkey_of (ks := k2 t.2.1.1 t.2.1.2) I q2) (.cons (tkey_of (ks := k2 t.2.2.1 t.2.2.2) I q3) .nil))
end
def entS (P : Program) (w : World) (x : Ent) : DictEntry := ⟨nestHash (mixKind P w) (kS x.1), .ref x.2.1, x.2.2⟩
def isAt (a : Addr) (ob : Obj) (h : Heap) : Prop := h.get? a = some ob
structure DOb (P : Program) (w : World) (a : Addr) (ob : Obj) (xs : List Ent) : Prop where
  sm : (a == sysModules) = false
  nd : (xs.map (·.1)).Nodup
  ex : ob.ExactDict
  es : ∃ es ep, ob.data = .dict es ep ∧ es.toList = xs.map (entS P w)
def look {α : Type} (l : List (St3 × α)) (t : St3) : Option α := (l.find? fun x => decide (x.1 = t)).map (·.2)
def putL {α : Type} (l : List (St3 × α)) (t : St3) (y : α) : List (St3 × α) := if (look l t).isSome = true then l.map (fun x => if x.1 = t then (x.1, y) else x) else l ++ [(t, y)]
theorem look_pos {α : Type} {p : St3 × α} {l : List (St3 × α)} {t : St3} (e : p.1 = t) : look (p :: l) t = some p.2 := by unfold look; rw [List.find?_cons, decide_eq_true e]; rfl
theorem look_neg {α : Type} {p : St3 × α} {l : List (St3 × α)} {t : St3} (e : ¬ p.1 = t) : look (p :: l) t = look l t := by unfold look; rw [List.find?_cons, decide_eq_false e]
def EntIs (K : PySem.W.Frag) (H : Hp) (p : St3 × D) (q : Ent) : Prop := p.1 = q.1 ∧ Is K H (dSt p.1) (.ref q.2.1) ∧ plainT p.2 = true ∧ ∃ v, RelV v q.2.2 ∧ Is K H p.2 v
abbrev KD (K : PySem.W.Frag) (H : Hp) : List (St3 × D) → List Ent → Prop := Paired (EntIs K H)
def HasO (P : Program) (w : World) (K : PySem.W.Frag) (H : Hp) (a : Addr) (ob : Obj) (kds : List (St3 × D)) : Prop := ∃ xs, H a = some (.ext (isAt a ob)) ∧ DOb P w a ob xs ∧ KD K H kds xs
def HasS (P : Program) (w : World) (K : PySem.W.Frag) (H : Hp) (a : Addr) (kds : List (St3 × D)) : Prop := ∃ ob, HasO P w K H a ob kds
theorem is_ok {P : Program} {w : World} {H : Hp} {h : Heap} {a : Addr} {ob : Obj} (x : h.get? a = some ob) : ObjOk P w H h a (.ext (isAt a ob)) := ⟨x, ⟨ob, x⟩, fun h1 h2 y k => k _ y⟩
theorem EntIs.mono {K : PySem.W.Frag} {H H' : Hp} {p : St3 × D} {q : Ent} (e : Same H H') (h : EntIs K H p q) : EntIs K H' p q := by
  obtain ⟨h1, h2, h3, v, h4, h5⟩ := h
  exact ⟨h1, h2.mono e, h3, v, h4, h5.mono e⟩
theorem EntIs.updE {K : PySem.W.Frag} {H : Hp} {l : Addr} {φ : Heap → Prop} {o : HO} {p : St3 × D} {q : Ent} (hl : H l = some (.ext φ)) (h : EntIs K H p q) : EntIs K (upd H l o) p q := by
  obtain ⟨h1, h2, h3, v, h4, h5⟩ := h
  exact ⟨h1, Is.updE hl h2 rfl, h3, v, h4, Is.updE hl h5 h3⟩
theorem HasO.mono {P : Program} {w : World} {K : PySem.W.Frag} {H H' : Hp} {a : Addr} {ob : Obj} {kds : List (St3 × D)} (e : Same H H') (h : HasO P w K H a ob kds) : HasO P w K H' a ob kds := by
  obtain ⟨xs, h1, h2, h3⟩ := h
  exact ⟨xs, e _ _ h1, h2, L2.Paired.imp' (fun _ _ z => z.mono e) h3⟩
theorem HasS.mono {P : Program} {w : World} {K : PySem.W.Frag} {H H' : Hp} {a : Addr} {kds : List (St3 × D)} (e : Same H H') (h : HasS P w K H a kds) : HasS P w K H' a kds := by
  obtain ⟨ob, h⟩ := h; exact ⟨ob, h.mono e⟩
theorem HasO.updS {P : Program} {w : World} {K : PySem.W.Frag} {H : Hp} {a l : Addr} {ob : Obj} {kds : List (St3 × D)} {φ : Heap → Prop} {o : HO} (hl : H l = some (.ext φ)) (hne : a ≠ l) (h : HasO P w K H a ob kds) : HasO P w K (upd H l o) a ob kds := by
  obtain ⟨xs, h1, h2, h3⟩ := h
  exact ⟨xs, by rw [upd_ne hne]; exact h1, h2, L2.Paired.imp' (fun _ _ z => z.updE hl) h3⟩
theorem HasS.updS {P : Program} {w : World} {K : PySem.W.Frag} {H : Hp} {a l : Addr} {kds : List (St3 × D)} {φ : Heap → Prop} {o : HO} (hl : H l = some (.ext φ)) (hne : a ≠ l) (h : HasS P w K H a kds) : HasS P w K (upd H l o) a kds := by
  obtain ⟨ob, h⟩ := h; exact ⟨ob, h.updS hl hne⟩
theorem HasS.there {P : Program} {w : World} {K : PySem.W.Frag} {H : Hp} {a : Addr} {kds : List (St3 × D)} (h : HasS P w K H a kds) : ∃ φ, H a = some (.ext φ) := by
  obtain ⟨ob, xs, h1, _⟩ := h; exact ⟨_, h1⟩
def toN (x : Ent) : List (List Key) × Addr × Value := (kS x.1, x.2)
theorem atKey_toN (t : St3) : ∀ xs : List Ent, atKey (xs.map toN) (kS t) = atKey xs t
  | [] => rfl
  | x :: xs => by
    have ih := atKey_toN t xs
    unfold atKey at ih ⊢
    rw [List.map_cons, List.find?_cons, List.find?_cons]
    by_cases e : x.1 = t
    · rw [decide_eq_true e, decide_eq_true (show (toN x).1 = kS t from kS_inj.mpr e)]; rfl
    · rw [decide_eq_false e, decide_eq_false (show ¬ (toN x).1 = kS t from fun z => e (kS_inj.mp z))]; exact ih
theorem stored_toN (xs : List Ent) (t : St3) (b : Addr) (u : Value) : storedH (xs.map toN) (kS t) b u = (storedH xs t b u).map toN := by
  unfold storedH
  rw [atKey_toN]
  split
  · rw [List.map_map, List.map_map]
    refine List.map_congr_left fun x _ => ?_
    show putAt (kS t) u (toN x) = toN (putAt t u x)
    unfold putAt
    by_cases e : x.1 = t
    · rw [if_pos e, if_pos (show (toN x).1 = kS t from kS_inj.mpr e)]; rfl
    · rw [if_neg e, if_neg (show ¬ (toN x).1 = kS t from fun z => e (kS_inj.mp z))]
  · rw [List.map_append]; rfl
theorem KD.none {K : PySem.W.Frag} {H : Hp} {kds : List (St3 × D)} {xs : List Ent} (r : KD K H kds xs) (k : St3) (h : look kds k = none) : atKey xs k = none := by
  induction r with
  | nil => rfl
  | @cons p q ps qs hq t ih =>
    by_cases e : p.1 = k
    · rw [look_pos e] at h; cases h
    · rw [look_neg e] at h
      have e' : ¬ q.1 = k := fun z => e (hq.1.trans z)
      have b : atKey (q :: qs) k = atKey qs k := by simp [atKey, List.find?_cons, e']
      rw [b]; exact ih h
theorem KD.some {K : PySem.W.Frag} {H : Hp} {kds : List (St3 × D)} {xs : List Ent} (r : KD K H kds xs) (k : St3) {d : D} (h : look kds k = some d) : ∃ p, atKey xs k = some p ∧ plainT d = true ∧ ∃ v, RelV v p.2 ∧ Is K H d v := by
  induction r with
  | nil => cases h
  | @cons p q ps qs hq t ih =>
    by_cases e : p.1 = k
    · rw [look_pos e] at h
      cases h
      exact ⟨q.2, by simp [atKey, List.find?_cons, hq.1.symm.trans e], hq.2.2⟩
    · rw [look_neg e] at h
      have e' : ¬ q.1 = k := fun z => e (hq.1.trans z)
      have b : atKey (q :: qs) k = atKey qs k := by simp [atKey, List.find?_cons, e']
      rw [b]; exact ih h
theorem KD.put {K : PySem.W.Frag} {H : Hp} {kds : List (St3 × D)} {xs : List Ent} (r : KD K H kds xs) (k : St3) {b : Addr} {d : D} {v : V} {u : Value} (hb : Is K H (dSt k) (.ref b)) (hp : plainT d = true) (ry : RelV v u) (hd : Is K H d v) : KD K H (putL kds k d) (storedH xs k b u) := by
  have e : (look kds k).isSome = (atKey xs k).isSome := by
    cases hl : look kds k with
    | none => rw [r.none k hl]; rfl
    | some d => obtain ⟨p, hp, _⟩ := r.some k hl; rw [hp]; rfl
  have rep : ∀ {kds : List (St3 × D)} {xs : List Ent}, KD K H kds xs → KD K H (kds.map fun x => if x.1 = k then (x.1, d) else x) (xs.map (putAt k u)) := fun {kds xs} r => by
    induction r with
    | nil => exact .nil
    | @cons p q ps qs h t ih =>
      obtain ⟨h1, h2, h3⟩ := h
      rw [List.map_cons, List.map_cons]
      refine .cons ?_ ih
      unfold putAt
      by_cases e : p.1 = k
      · rw [if_pos e, if_pos (h1.symm.trans e)]; exact ⟨h1, h2, hp, v, ry, hd⟩
      · rw [if_neg e, if_neg (fun z => e (h1.trans z))]; exact ⟨h1, h2, h3⟩
  unfold putL storedH
  rw [e]
  by_cases q : (atKey xs k).isSome = true
  · rw [if_pos q, if_pos q]; exact rep r
  · rw [if_neg q, if_neg q]; exact Paired.snoc r ⟨rfl, hb, hp, v, ry, hd⟩
theorem nodup_map_inj {α β : Type} {f : α → β} (hf : ∀ a b, f a = f b → a = b) : ∀ {l : List α}, l.Nodup → (l.map f).Nodup
  | [], _ => .nil
  | a :: l, h => by
    rw [List.map_cons, List.nodup_cons]
    rw [List.nodup_cons] at h
    refine ⟨fun hm => ?_, nodup_map_inj hf h.2⟩
    obtain ⟨b, hb, e⟩ := List.mem_map.mp hm
    exact h.1 (hf _ _ e ▸ hb)
theorem nodup_of_map {α β : Type} {f : α → β} : ∀ {l : List α}, (l.map f).Nodup → l.Nodup
  | [], _ => .nil
  | a :: l, h => by
    rw [List.map_cons, List.nodup_cons] at h
    rw [List.nodup_cons]
    exact ⟨fun hm => h.1 (List.mem_map.mpr ⟨a, hm, rfl⟩), nodup_of_map h.2⟩
section
variable {X : Cx} {pins : List (Addr × Obj)} {σ : L2.St} {H : Hp} {s : Shared} {a b : Addr} {t : St3} {kds : List (St3 × D)} {xs : List Ent}
theorem KD.keys {K : PySem.W.Frag} : ∀ {l : List (St3 × D)} {m : List Ent}, KD K H l m → ∀ y ∈ m, Is K H (dSt y.1) (.ref y.2.1) := by
  intro l m q
  induction q with
  | nil => intro y hy; exact nomatch hy
  | @cons p q ps qs hq t ih =>
    intro y hy
    rcases List.mem_cons.mp hy with e | hy
    · subst e; rw [← hq.1]; exact hq.2.1
    · exact ih y hy
theorem ds_of {ob : Obj} (I : Inv X pins σ H s) (h : H a = some (.ext (isAt a ob))) (x : DOb X.prog X.w a ob xs) (r : KD X.K H kds xs) : s.heap.DictOfH (nestKind (mixKind X.prog X.w)) a (xs.map toN) := by
  obtain ⟨h3, _⟩ := (show ObjOk X.prog X.w H s.heap a (.ext (isAt a ob)) from I.hok a _ h)
  obtain ⟨es, ep, h5, h6⟩ := x.es
  refine ⟨ob, es, ep, h3, x.ex, h5, ?_, fun y0 hy0 => ?_, ?_⟩
  · rw [h6, List.map_map]; rfl
  · obtain ⟨y, hy, rfl⟩ := List.mem_map.mp hy0
    exact nest_of I (r.keys y hy)
  · have : ((xs.map toN).map (·.1)) = (xs.map (·.1)).map kS := by rw [List.map_map, List.map_map]; rfl
    rw [this]
    exact nodup_map_inj (fun _ _ e => kS_inj.mp e) x.nd
end
theorem room_nest {A : Around} (hu : A.units + 64 < cLine) : A.in1.units + 8 < cLine := by show A.units + 1 + 8 < cLine; omega
section
variable {X : Cx} {o i e f : Expr} {σ : L2.St} {H : Hp} {d d0 : D} {pos pos' apos : Pos} {Pre Nx : L2.St → Hp → Prop} {l : Addr} {kds : List (St3 × D)} {t : St3}
theorem pd_sget (hu : X.A.units + 64 < cLine) (ho : PD X o σ H (.adr l)) (hl : HasS X.prog X.w X.K H l kds) (hi : PD X i σ H (dSt t)) (hv : look kds t = some d) (hs : NoSl i := by intro _ _; rfl) : PD X (.Subscript o i pos) σ H d := by
  intro pins s σ' H1 Q I ⟨hss, e1, z⟩
  subst hss
  refine subD_of PySem.F.slot_dict_getitem.lookup hs (thn (ho pins s σ' H1 (fun x H2 => Same H1 H2 ∧ x = .ref l) I ⟨rfl, e1, fun x H2 e2 hx => by cases hx; exact ⟨e2, rfl⟩⟩) fun u s1 ⟨x, H2, I2, rx, e2, ex⟩ => ?_)
  subst ex
  obtain rfl : u = Value.ref l := rx
  refine thn (hi pins s1 σ' H2 (fun y H3 => Same H2 H3 ∧ ∃ b, y = .ref b ∧ Is X.K H3 (dSt t) (.ref b)) I2 ⟨rfl, e1.trans e2, fun y H3 e3 hy => ⟨e3, by obtain ⟨b, _, _, _, rfl, _⟩ := dSt_inv hy; exact ⟨b, rfl, hy⟩⟩⟩) fun iv s2 ⟨y, H3, I3, ry, e3, b, ey, hb⟩ => ?_
  subst ey
  cases (show iv = Value.ref b from ry)
  obtain ⟨ob, xs, hx, xo, r⟩ := hl.mono ((e1.trans e2).trans e3)
  have dd := ds_of I3 hx xo r
  obtain ⟨p, hp, _, v, rv, hv3⟩ := r.some t hv
  exact ⟨dd.typeIs, wpAny_getItem_heap (room_nest hu) (nest_of I3 hb) dd (by rw [atKey_toN]; exact hp) ⟨v, H3, I3.tok _, rv, z _ _ (e2.trans e3) hv3⟩⟩
theorem pq1_sput (hu : X.A.units + 64 < cLine) (h : ∀ σ H, Pre σ H → ∃ l kds t d, PD X o σ H (.adr l) ∧ HasS X.prog X.w X.K H l kds ∧ kds.length < sizeLine ∧ PD X i σ H (dSt t) ∧ PD X e σ H d ∧ plainT d = true ∧
      ∀ v H' φ ho, Same H H' → Is X.K H' d v → H' l = some (.ext φ) → HasS X.prog X.w X.K (upd H' l ho) l (putL kds t d) → Nx σ (upd H' l ho))
    (hs : swapsWith e (some (.Subscript o i pos')) pos.line X.env = pure false := by rfl) : PQ1 X (.Assign [.Subscript o i pos'] e pos) Pre Nx := fun pins s σ H D I ⟨p, q⟩ => by
  obtain ⟨l, kds, t, d, ho, hl, hz, hi, he, hpl, f⟩ := h σ H p
  refine wpAny_Assign_Subscript (thn (he pins s σ H (fun y H1 => Same H H1 ∧ Is X.K H1 d y) I ⟨rfl, Same.refl _, fun y H1 e1 hy => ⟨e1, hy⟩⟩) fun r s1 ⟨v, H1, I1, rv, e1, hv⟩ => thn (ho pins s1 σ H1 (fun x H2 => Same H1 H2 ∧ x = .ref l) I1 ⟨rfl, e1, fun x H2 e2 hx => by cases hx; exact ⟨e2, rfl⟩⟩) fun u s2 ⟨x, H2, I2, rx, e2, ex⟩ => ?_) hs
  subst ex
  obtain rfl : u = Value.ref l := rx
  refine thn (hi pins s2 σ H2 (fun y H3 => Same H2 H3 ∧ ∃ b, y = .ref b ∧ Is X.K H3 (dSt t) (.ref b)) I2 ⟨rfl, e1.trans e2, fun y H3 e3 hy => ⟨e3, by obtain ⟨b, _, _, _, rfl, _⟩ := dSt_inv hy; exact ⟨b, rfl, hy⟩⟩⟩) fun iv s3 ⟨y, H3, I3, ry, e3, b, ey, hb⟩ => ?_
  subst ey
  cases (show iv = Value.ref b from ry)
  have e13 := e2.trans e3
  obtain ⟨ob, xs, hx, xo, kd⟩ := hl.mono (e1.trans e13)
  have dd := ds_of I3 hx xo kd
  have hlen : (xs.map toN).length ≤ sizeLine := by rw [List.length_map, ← Paired.length kd]; omega
  refine wpAny_setItem_heap (hsz := hlen) (room_nest hu) (nest_of I3 hb) dd fun h' dd' hsb => ?_
  rw [stored_toN] at dd'
  obtain ⟨qo, es, ep, hq, h2, h3, h4, _, h5⟩ := dd'
  have new : DOb X.prog X.w l qo (storedH xs t b r) := by
    refine ⟨xo.sm, ?_, h2, es, ep, h3, ?_⟩
    · have e5 : ((storedH xs t b r).map toN).map (·.1) = ((storedH xs t b r).map (·.1)).map kS := by rw [List.map_map, List.map_map]; rfl
      rw [e5] at h5
      exact nodup_of_map h5
    · rw [h4, List.map_map]; rfl
  have I4 := d_write (t' := s3.toks) (ob := .ext (isAt l qo)) I3 (by rw [hx]; exact True.intro) hsb ⟨qo, hq⟩ (is_ok hq)
  exact ⟨σ, _, I4.tok _, q _ _ (f v H3 _ _ (e1.trans e13) (hv.mono e13) hx ⟨qo, _, upd_same, new, L2.Paired.imp' (fun _ _ z => z.updE hx) (kd.put t hb hpl rv (hv.mono e13))⟩)⟩
def emptyD : Obj := { cls := .type "dict", data := .dict #[] }
theorem pe_snew {dpos : Pos} : PE X (.Dict [] [] dpos) (fun _ H Q => ∀ p, H p = none → DOb X.prog X.w p emptyD [] → Q (.ref p) (upd H p (.ext (isAt p emptyD)))) := by
  intro pins s σ H Q I h
  have hb := I.big
  have hn := I.hok.fresh (Nat.le_refl s.heap.objs.size)
  have new : DOb X.prog X.w s.heap.objs.size emptyD [] := ⟨by rw [beq_eq_false_iff_ne]; exact Nat.ne_of_gt hb, .nil, ⟨rfl, rfl, rfl⟩, #[], _, rfl, rfl⟩
  exact wpAny_Dict_empty ⟨.ref s.heap.objs.size, _, I.laid (t' := s.toks) (fun _ _ q => Heap.get?_push_of_some _ q) (Nat.le_refl _) (is_ok (Heap.get?_push_size _ rfl)), rfl, h _ hn new⟩
theorem pq1_snew (n : Nat) {x : Str} {px dpos : Pos} (hN : X.N.Nodup) (h : ∀ σ H, Pre σ H → ∀ l H', Same H H' → H l = none → HasS X.prog X.w X.K H' l [] → Nx (σ.set n (some (.ref l))) H') (hi : X.N[n]? = some x := by rfl)
    (hx : Loc X.env.scope x := by first | exact Or.inl rfl | exact Or.inr rfl) (hs : swapsWith (.Dict [] [] dpos) (some (.Name x px)) pos.line X.env = pure false := by rfl)
    (hf : X.fn x = true ∨ X.env.scope.names.lookup x = some .local := by first | exact .inl rfl | exact .inr rfl | assumption) : PQ1 X (.Assign [.Name x px] (.Dict [] [] dpos) pos) Pre Nx := fun pins s σ H D I ⟨p, q⟩ =>
  ps_set hN hi hx pe_snew hs hf pins s σ H D I fun l hl x => q _ _ (h σ H p l _ (same_upd hl) hl ⟨emptyD, [], upd_same, x, .nil⟩)
end
def ItD (d : Addr) (ob : Obj) (es : Array DictEntry) : It := ⟨fun i H => i < es.size ∧ H d = some (.ext (isAt d ob)) ∧ ∀ h : i < es.size, ∃ b, es[i].key = .ref b, fun i H v H' => H' = H ∧ ∃ h : i < es.size, RelV v es[i].key, fun i H => es.size ≤ i ∧ H d = some (.ext (isAt d ob))⟩
theorem turn_ds {P : Program} {w : World} {K : PySem.W.Frag} {tg : Expr} (it d : Addr) (ob : Obj) (es : Array DictEntry) (ep : Nat) (hx : ob.ExactDict) (hd : ob.data = .dict es ep) : Turn P w K tg (ItD d ob es) [it] it (fun i h => h.IsKeyIter it d i es.size ep) where
  mem := List.mem_singleton.mpr rfl
  obj := fun i h st b hb => by
    obtain rfl := List.mem_singleton.mp hb
    obtain ⟨o, e, c, dd⟩ := st
    exact ⟨o, e, fun v z => by rw [dd] at z; cases z⟩
  keep := fun i h h' st k => st.at fun o e => k it (List.mem_singleton.mpr rfl) o e
  item := by
    intro X hP hw hK hc i pins s σ H E I hf st hg
    subst hP hw hK
    obtain ⟨f0, f1, f2, f3, f4, f5⟩ := hf it (List.mem_singleton.mpr rfl)
    obtain ⟨hi, hH, hb⟩ := hg
    obtain ⟨b, hb⟩ := hb hi
    obtain ⟨hget, _⟩ := (show ObjOk X.prog X.w H s.heap d (.ext (isAt d ob)) from I.hok d _ hH)
    refine next_raw st ⟨ob, hget, hx.1, hd⟩ hi fun h' st' sb => ?_
    have I1 : Inv X pins σ H { s with heap := h' } := I.turned (t' := s.toks) (fun b o hb e => (sb.2 b hb).trans e) f0 f1 f3 f4 f5
    obtain ⟨o, e, c, dd⟩ := id st'
    exact ⟨es[i].key, rfl, go_of (s := { s with heap := h' }) e c dd (by decide) ⟨.ref b, H, I1, by rw [hb]; exact rfl, ⟨rfl, hi, by rw [hb]; exact rfl⟩, st', fun b hb => (hf b hb).1⟩⟩
  done := by
    intro X hP hw hK hc i pins s σ H E I hf st hg
    subst hP hw hK
    obtain ⟨f0, f1, f2, f3, f4, f5⟩ := hf it (List.mem_singleton.mpr rfl)
    obtain ⟨hi, hH⟩ := hg
    obtain ⟨hget, _⟩ := (show ObjOk X.prog X.w H s.heap d (.ext (isAt d ob)) from I.hok d _ hH)
    exact end_raw (I.ok.hd hc) st ⟨ob, hget, hx.1, hd⟩ hi fun h' eb => ⟨rfl, I.turned (t' := s.toks) (fun b o hb e => eb b o hb e) f0 f1 f3 f4 f5⟩
  self := fun _ _ _ _ _ st h => wpAny_pyIter_keyiter st h
section
variable {X : Cx} {tg : Expr}
def iDs (P : Program) (w : World) (tl : TE) : TI := fun σ H R => tl σ H fun x H1 => ∃ a ob xs es ep, x = .ref a ∧ H1 a = some (.ext (isAt a ob)) ∧ DOb P w a ob xs ∧ ob.data = .dict es ep ∧ R (ItD a ob es) H1
theorem pi_ds {l : Expr} {tl : TE} (hl : PE X l tl) : PI X tg l (iDs X.prog X.w tl) := by
  intro pins s σ H R I h
  refine thn (hl pins s σ H _ I h) fun v s1 ⟨x, H1, I1, r1, q1⟩ => ?_
  obtain ⟨a, ob, xs, es, ep, e, hH, xo, hd, q⟩ := q1
  subst e
  cases (show v = Value.ref a from r1)
  obtain ⟨hget, _⟩ := (show ObjOk X.prog X.w H1 s1.heap a (.ext (isAt a ob)) from I1.hok a _ hH)
  refine iter_raw xo.sm ⟨ob, hget, xo.ex.1, hd⟩ ⟨s1.heap.objs.size, [s1.heap.objs.size], _, _, H1, rfl, I1.kept (t' := s1.toks) fun b o e => Heap.get?_push_of_some _ e, turn_ds _ a ob es ep xo.ex hd, ⟨_, Heap.get?_push_size _ rfl, rfl, rfl⟩, fun b hb => ?_, q⟩
  obtain rfl := List.mem_singleton.mp hb
  exact I1.fpOk (Nat.le_refl _) (I1.hok.fresh (Nat.le_refl _))
end
section
variable {X : Cx} {pos : Pos} {body : List Stmt} {iter : Expr} {Pre Nx : L2.St → Hp → Prop} {l : Addr} {ob : Obj} {kds : List (St3 × D)}
theorem paired_get {α β : Type} {R : α → β → Prop} : ∀ {l : List α} {m : List β} {i : Nat} {b : β}, Paired R l m → m[i]? = some b → ∃ a, l[i]? = some a ∧ R a b
  | _, _, 0, _, .cons h t, e => by cases e; exact ⟨_, rfl, h⟩
  | _, _, i + 1, _, .cons h t, e => by
    obtain ⟨a, ha, hr⟩ := paired_get (i := i) t (by simpa using e)
    exact ⟨a, by simpa using ha, hr⟩
end
end L3
set_option Elab.async false
set_option linter.all false
set_option maxRecDepth 100000
namespace L3
open PySem PySem.Spec PyProof.Rows L2
section
variable {P : Program} {w : World} {K : PySem.W.Frag} {mg : Str → Option Value} {base : Heap}
end
section
variable {X : Cx} {e : Expr} {es : List Expr} {σ : L2.St} {H : Hp} {d : D} {ds : List D} {p pos : Pos} {Post : L2.St → Hp → Prop}
end
theorem KD.fst {K : PySem.W.Frag} {H : Hp} {kds : List (St3 × D)} {xs : List Ent} (r : KD K H kds xs) : kds.map (·.1) = xs.map (·.1) := by
  induction r with
  | nil => rfl
  | @cons p q ps qs hq t ih => rw [List.map_cons, List.map_cons, ih, hq.1]
theorem HasS.nodup {P : Program} {w : World} {K : PySem.W.Frag} {H : Hp} {a : Addr} {kds : List (St3 × D)} (h : HasS P w K H a kds) : (kds.map (·.1)).Nodup := by
  obtain ⟨ob, xs, _, x, r⟩ := h
  rw [r.fst]; exact x.nd
theorem look_map {α β : Type} (f : α → β) (t : St3) : ∀ l : List (St3 × α), look (l.map fun x => (x.1, f x.2)) t = (look l t).map f
  | [] => rfl
  | p :: l => by
    rw [List.map_cons]
    by_cases e : p.1 = t
    · rw [look_pos e, look_pos (p := (p.1, f p.2)) e]; rfl
    · rw [look_neg e, look_neg (p := (p.1, f p.2)) e]; exact look_map f t l
end L3
set_option Elab.async false
set_option linter.all false
set_option maxRecDepth 100000
namespace M
open L3
abbrev Ws := List (St3 × Rat)
def addW (t : St3) (x : Rat) : Ws → Ws
  | [] => [(t, x)]
  | q :: r => if q.1 = t then (q.1, q.2 + x) :: r else q :: addW t x r
def L (f : St3 → Rat) : Ws → Rat
  | [] => 0
  | q :: r => q.2 * f q.1 + L f r
def one (_ : St3) : Rat := 1
structure Fine (N : Int) (x : Rat) : Prop where
  nn : 0 ≤ x
  le : x ≤ 1
  iv : IntV N x
end M
set_option Elab.async false
set_option linter.all false
set_option maxRecDepth 100000
namespace M
open L3
section
variable (g1 g2 g3 : Int) (p : Rat)
def onl (f : St3 → Rat) (t : St3) : Rat := if over g3 t = true then 0 else f t
def stepOne (acc : Ws) (q : St3 × Rat) : Ws := if over g3 q.1 = true then acc else addW (aft g1 g2 q.1 1) (q.2 * (1 - p)) (addW (aft g1 g2 q.1 0) (q.2 * p) acc)
def stepN (ws : Ws) (i : Nat) : Ws := (ws.take i).foldl (stepOne g1 g2 g3 p) []
structure OkW (N : Int) (ws : Ws) : Prop where
  each : ∀ q ∈ ws, 0 ≤ q.2 ∧ IntV N q.2 ∧ reached g1 g2 g3 q.1 = true
  all : L one ws ≤ 1
end
variable {g1 g2 g3 : Int} {p : Rat} {N : Int} {ws : Ws} {t : St3} {x : Rat}
variable {b : Int}
structure Mid (g1 g2 g3 : Int) (p : Rat) (N b : Int) (ws : Ws) (i : Nat) (q : St3 × Rat) : Prop where
  a : OkW g1 g2 g3 (N * b) (stepN g1 g2 g3 p ws i)
  m : over g3 q.1 = false → OkW g1 g2 g3 (N * b) (addW (aft g1 g2 q.1 0) (q.2 * p) (stepN g1 g2 g3 p ws i))
  z : OkW g1 g2 g3 (N * b) (stepN g1 g2 g3 p ws (i + 1))
abbrev wW (g1 g2 g3 : Int) (p : Rat) : St3 → Rat := worth g1 g2 g3 p 0 1 0
abbrev wT (g1 g2 g3 : Int) (p : Rat) : St3 → Rat := worth g1 g2 g3 p 1 0 0
structure Kept (g1 g2 g3 : Int) (p : Rat) (b : Int) (s : St3) (k : Nat) (ws : Ws) (won points : Rat) : Prop where
  ok : OkW g1 g2 g3 (b ^ k) ws
  len : ws.length ≤ 2 ^ k
  ch : won + L (onl g3 (wW g1 g2 g3 p)) ws = wW g1 g2 g3 p s
  pt : points + L (onl g3 (wT g1 g2 g3 p)) ws = wT g1 g2 g3 p s
  w0 : 0 ≤ won
  wi : IntV (b ^ k) won
  p0 : 0 ≤ points
  pk : points ≤ (k : Int)
  pi : IntV (b ^ k) points
variable {s : St3} {k : Nat} {won points : Rat}
end M
set_option Elab.async false
set_option linter.all false
set_option maxRecDepth 100000
namespace M
open L3
section
variable {α : Type} (nx : α → Int → α) (ov : α → Bool)
def cnt : Nat → α → Nat
  | 0, s => if ov s = true then 1 else 0
  | n + 1, s => if ov s = true then 0 else cnt n (nx s 0) + cnt n (nx s 1)
def ends : List Int → α → Bool
  | [], s => ov s
  | w :: r, s => !ov s && (decide (w = 0) || decide (w = 1)) && ends r (nx s w)
def rank : List Int → α → Nat
  | [], _ => 0
  | w :: r, s => (if w = 1 then cnt nx ov r.length (nx s 0) else 0) + rank r (nx s w)
def unrank : Nat → α → Nat → List Int
  | 0, _, _ => []
  | n + 1, s, k => if k < cnt nx ov n (nx s 0) then 0 :: unrank n (nx s 0) k else 1 :: unrank n (nx s 1) (k - cnt nx ov n (nx s 0))
end
section
variable {α : Type} {nx : α → Int → α} {ov : α → Bool}
theorem ends_cons {w : Int} {r : List Int} {s : α} : ends nx ov (w :: r) s = true ↔ ov s = false ∧ (w = 0 ∨ w = 1) ∧ ends nx ov r (nx s w) = true := by
  simp only [ends, Bool.and_eq_true, Bool.or_eq_true, decide_eq_true_eq, Bool.not_eq_true', and_assoc]
theorem cnt_s {n : Nat} {s : α} (h : ov s = false) : cnt nx ov (n + 1) s = cnt nx ov n (nx s 0) + cnt nx ov n (nx s 1) := by
  simp only [cnt]
  rw [if_neg (by rw [h]; exact Bool.false_ne_true)]
theorem rank_0 {r : List Int} {s : α} : rank nx ov (0 :: r) s = rank nx ov r (nx s 0) := by
  rw [rank, if_neg (by decide), Nat.zero_add]
theorem rank_1 {r : List Int} {s : α} : rank nx ov (1 :: r) s = cnt nx ov r.length (nx s 0) + rank nx ov r (nx s 1) := by
  rw [rank, if_pos rfl]
theorem unrank_lo {n k : Nat} {s : α} (h : k < cnt nx ov n (nx s 0)) : unrank nx ov (n + 1) s k = 0 :: unrank nx ov n (nx s 0) k := by
  rw [unrank, if_pos h]
theorem unrank_hi {n k : Nat} {s : α} (h : ¬ k < cnt nx ov n (nx s 0)) : unrank nx ov (n + 1) s k = 1 :: unrank nx ov n (nx s 1) (k - cnt nx ov n (nx s 0)) := by
  rw [unrank, if_neg h]
theorem rank_lt : ∀ {r : List Int} {s : α}, ends nx ov r s = true → rank nx ov r s < cnt nx ov r.length s ∧ unrank nx ov r.length s (rank nx ov r s) = r
  | [], s, h => by
    have h' : ov s = true := h
    refine ⟨?_, rfl⟩
    show 0 < (if ov s = true then 1 else 0)
    rw [if_pos h']; decide
  | w :: r, s, h => by
    obtain ⟨h1, h2, h3⟩ := ends_cons.mp h
    obtain ⟨i1, i2⟩ := rank_lt h3
    rw [List.length_cons, cnt_s h1]
    rcases h2 with rfl | rfl
    · rw [rank_0, unrank_lo i1, i2]
      exact ⟨by omega, rfl⟩
    · rw [rank_1, unrank_hi (by omega), Nat.add_sub_cancel_left, i2]
      exact ⟨by omega, rfl⟩
theorem unrank_ok : ∀ {n : Nat} {s : α} {k : Nat}, k < cnt nx ov n s → ends nx ov (unrank nx ov n s k) s = true ∧ (unrank nx ov n s k).length = n ∧ rank nx ov (unrank nx ov n s k) s = k
  | 0, s, k, h => by
    have h' : k < (if ov s = true then 1 else 0) := h
    by_cases ho : ov s = true
    · rw [if_pos ho] at h'
      exact ⟨ho, rfl, by show 0 = k; omega⟩
    · rw [if_neg ho] at h'; omega
  | n + 1, s, k, h => by
    by_cases ho : ov s = true
    · rw [cnt, if_pos ho] at h; omega
    · have ho' : ov s = false := by simpa using ho
      rw [cnt_s ho'] at h
      by_cases hk : k < cnt nx ov n (nx s 0)
      · rw [unrank_lo hk]
        obtain ⟨a, b, c⟩ := unrank_ok hk
        exact ⟨ends_cons.mpr ⟨ho', .inl rfl, a⟩, by rw [List.length_cons, b], by rw [rank_0, c]⟩
      · rw [unrank_hi hk]
        obtain ⟨a, b, c⟩ := unrank_ok (n := n) (s := nx s 1) (k := k - cnt nx ov n (nx s 0)) (by omega)
        exact ⟨ends_cons.mpr ⟨ho', .inr rfl, a⟩, by rw [List.length_cons, b], by rw [rank_1, b, c]; omega⟩
theorem ends_sim {β : Type} {ny : β → Int → β} {ow : β → Bool} (S : α → β → Prop) (h1 : ∀ s t, S s t → ov s = ow t) (h2 : ∀ s t w, S s t → ov s = false → (w = 0 ∨ w = 1) → S (nx s w) (ny t w)) : ∀ (r : List Int) (s : α) (t : β), S s t → ends nx ov r s = ends ny ow r t
  | [], s, t, h => h1 s t h
  | w :: r, s, t, h => by
    have e := h1 s t h
    by_cases ho : ov s = false
    · by_cases hw : w = 0 ∨ w = 1
      · simp only [ends]
        rw [e, ends_sim S h1 h2 r _ _ (h2 s t w h ho hw)]
      · simp only [ends]
        rw [show (decide (w = 0) || decide (w = 1)) = false by simpa using hw]
        simp
    · have : ov s = true := by simpa using ho
      simp only [ends]
      rw [← e, this]; simp
end
def lowP (q : Pr) (g : Int) : Pr := (q.1 - mxP (mnP q - g + 1, 0), q.2 - mxP (mnP q - g + 1, 0))
def beh (g1 g2 : Int) (s : Stg) (v : Int) : Stg := ((aft g1 g2 s v).1, lowP (aft g1 g2 s v).2.1 g2, lowP (aft g1 g2 s v).2.2 g1)
def SimP (g : Int) (q r : Pr) : Prop := q = r ∨ (g - 1 ≤ mnP q ∧ g - 1 ≤ mnP r ∧ q.1 - q.2 = r.1 - r.2)
theorem SimP.wonE {g : Int} {q r : Pr} (h : SimP g q r) : won q g = won r g := by
  rcases h with rfl | ⟨h1, h2, h3⟩
  · rfl
  · obtain ⟨a, b⟩ := q
    obtain ⟨c, d⟩ := r
    have m1 := mn_spec a b
    have m2 := mn_spec c d
    have n1 := mx_spec a b
    have n2 := mx_spec c d
    have t1 := abs_spec (a - b)
    have t2 := abs_spec (c - d)
    simp only at h3
    have : won (a, b) g = won (c, d) g ↔ ((g ≤ mxP (a, b) ∧ 2 ≤ absI (a - b)) ↔ (g ≤ mxP (c, d) ∧ 2 ≤ absI (c - d))) := by
      rw [won_eq, won_eq, ← wonL_iff (q := (a, b)), ← wonL_iff (q := (c, d)), Bool.eq_iff_iff]
    rw [this, h3]
    constructor
    · intro ⟨x, y⟩; exact ⟨by omega, y⟩
    · intro ⟨x, y⟩; exact ⟨by omega, y⟩
theorem SimP.more {g : Int} {q r : Pr} (h : SimP g q r) {w : Int} (hw : w = 0 ∨ w = 1) : SimP g (more q w) (more r w) := by
  rcases h with rfl | ⟨h1, h2, h3⟩
  · exact .inl rfl
  · obtain ⟨a, b⟩ := q
    obtain ⟨c, d⟩ := r
    have m1 := mn_spec a b
    have m2 := mn_spec c d
    simp only at h3
    rcases hw with rfl | rfl
    · rw [more0, more0]
      have k1 := mn_spec (a + 1) b
      have k2 := mn_spec (c + 1) d
      exact .inr ⟨by simp only; omega, by simp only; omega, by simp only; omega⟩
    · rw [more1, more1]
      have k1 := mn_spec a (b + 1)
      have k2 := mn_spec c (d + 1)
      exact .inr ⟨by simp only; omega, by simp only; omega, by simp only; omega⟩
theorem SimP.low {g : Int} (q : Pr) : SimP g q (lowP q g) := by
  obtain ⟨a, b⟩ := q
  unfold lowP
  have m1 := mn_spec a b
  have n1 := mx_spec (mnP (a, b) - g + 1) 0
  simp only
  by_cases h : mxP (mnP (a, b) - g + 1, 0) = 0
  · rw [h]; left; simp
  · have m2 := mn_spec (a - mxP (mnP (a, b) - g + 1, 0)) (b - mxP (mnP (a, b) - g + 1, 0))
    right
    refine ⟨by omega, by omega, by simp only; omega⟩
theorem SimP.trans {g : Int} {q r t : Pr} (h : SimP g q r) (k : SimP g r t) : SimP g q t := by
  rcases h with rfl | ⟨h1, h2, h3⟩
  · exact k
  · rcases k with rfl | ⟨k1, k2, k3⟩
    · exact .inr ⟨h1, h2, h3⟩
    · exact .inr ⟨h1, k2, h3.trans k3⟩
def Sim (g1 g2 : Int) (s t : Stg) : Prop := s.1 = t.1 ∧ SimP g2 s.2.1 t.2.1 ∧ SimP g1 s.2.2 t.2.2
theorem Sim.refl {g1 g2 : Int} (s : Stg) : Sim g1 g2 s s := ⟨rfl, .inl rfl, .inl rfl⟩
theorem aft_eq (g1 g2 : Int) (s : Stg) (w : Int) : aft g1 g2 s w = if won (more s.2.2 w) g1 = true then (if won (more s.2.1 w) g2 = true then (more s.1 w, (0, 0), (0, 0)) else (s.1, more s.2.1 w, (0, 0))) else (s.1, s.2.1, more s.2.2 w) := rfl
theorem Sim.aft {g1 g2 : Int} {s t : Stg} (h : Sim g1 g2 s t) {w : Int} (hw : w = 0 ∨ w = 1) : Sim g1 g2 (M.aft g1 g2 s w) (M.aft g1 g2 t w) := by
  obtain ⟨h1, h2, h3⟩ := h
  have a := h3.more hw
  have b := h2.more hw
  rw [aft_eq, aft_eq, a.wonE, b.wonE, h1]
  by_cases c1 : won (M.more t.2.2 w) g1 = true
  · rw [if_pos c1, if_pos c1]
    by_cases c2 : won (M.more t.2.1 w) g2 = true
    · rw [if_pos c2, if_pos c2]; exact Sim.refl _
    · rw [if_neg c2, if_neg c2]; exact ⟨rfl, b, .inl rfl⟩
  · rw [if_neg c1, if_neg c1]; exact ⟨rfl, h2, a⟩
theorem Sim.beh {g1 g2 : Int} {s t : Stg} (h : Sim g1 g2 s t) {w : Int} (hw : w = 0 ∨ w = 1) : Sim g1 g2 (M.aft g1 g2 s w) (M.beh g1 g2 t w) := by
  obtain ⟨a, b, c⟩ := h.aft hw
  exact ⟨a, b.trans (SimP.low _), c.trans (SimP.low _)⟩
theorem ends_beh (g1 g2 g3 : Int) (r : List Int) : ends (aft g1 g2) (over g3) r st0 = ends (beh g1 g2) (over g3) r st0 :=
  ends_sim (nx := aft g1 g2) (ov := over g3) (ny := beh g1 g2) (ow := over g3) (Sim g1 g2) (fun s t h => by show decide (mxP s.1 = g3) = decide (mxP t.1 = g3); rw [h.1]) (fun s t w h _ hw => Sim.beh h hw) r st0 st0 (Sim.refl st0)
theorem on_low {q : Pr} {g : Int} (hg : 1 ≤ g) (ho : onB q g = true) : onB (lowP q g) g = true ∧ 0 ≤ (lowP q g).1 ∧ 0 ≤ (lowP q g).2 ∧ (lowP q g).1 ≤ g ∧ (lowP q g).2 ≤ g := by
  rw [onB_iff] at ho
  have hw : won (lowP q g) g = false := by rw [← (SimP.low (g := g) q).wonE]; exact ho.2
  have hw' := ho.2
  rw [won_eq, wonL_not] at hw'
  obtain ⟨a, b⟩ := q
  have m1 := mn_spec a b
  have x1 := mx_spec a b
  have n1 := mx_spec (mnP (a, b) - g + 1) 0
  have t1 := abs_spec (a - b)
  have h0 := ho.1
  simp only at hw'
  unfold lowP at hw ⊢
  simp only at hw ⊢
  have m2 := mn_spec (a - mxP (mnP (a, b) - g + 1, 0)) (b - mxP (mnP (a, b) - g + 1, 0))
  generalize mxP (mnP (a, b) - g + 1, 0) = B at *
  generalize hm : mnP (a, b) = mm at *
  generalize hx : mxP (a, b) = xx at *
  generalize absI (a - b) = tt at *
  clear hm hx ho
  have c1 : 0 ≤ a - B ∧ 0 ≤ b - B := by omega
  have c2 : a - B ≤ g ∧ b - B ≤ g := by
    by_cases hgx : g ≤ xx
    · have : tt < 2 := by omega
      omega
    · omega
  exact ⟨onB_iff.mpr ⟨by omega, hw⟩, c1.1, c1.2, c2.1, c2.2⟩
end M
set_option Elab.async false
set_option linter.all false
set_option maxRecDepth 100000
namespace M
open L3
theorem look_put {α : Type} (l : List (St3 × α)) (t : St3) (y : α) (u : St3) : look (putL l t y) u = if u = t then some y else look l u := by
  have rep : ∀ l : List (St3 × α), look (l.map fun x => if x.1 = t then (x.1, y) else x) u = if u = t then (look l t).map (fun _ => y) else look l u := fun l => by
    induction l with
    | nil => split <;> rfl
    | cons p l ih =>
      rw [List.map_cons]
      by_cases e : p.1 = t
      · rw [if_pos e]
        by_cases eu : u = t
        · rw [if_pos eu, look_pos (p := (p.1, y)) (by rw [eu]; exact e), look_pos e]; rfl
        · rw [if_neg eu, look_neg (p := (p.1, y)) (fun z => eu (z.symm.trans e)), look_neg (p := p) (fun z => eu (z.symm.trans e)), ih, if_neg eu]
      · rw [if_neg e]
        by_cases eu : u = t
        · subst eu
          rw [if_pos rfl, look_neg e, look_neg e, ih, if_pos rfl]
        · rw [if_neg eu]
          by_cases ep : p.1 = u
          · rw [look_pos ep, look_pos ep]
          · rw [look_neg ep, look_neg ep, ih, if_neg eu]
  have app : ∀ l : List (St3 × α), look (l ++ [(t, y)]) u = if (look l u).isSome = true then look l u else if u = t then some y else none := fun l => by
    induction l with
    | nil =>
      rw [List.nil_append, if_neg (by show ¬ (none : Option α).isSome = true; simp)]
      by_cases e : u = t
      · rw [if_pos e, look_pos (p := (t, y)) e.symm]
      · rw [if_neg e, look_neg (p := (t, y)) (fun z => e z.symm)]; rfl
    | cons p l ih =>
      rw [List.cons_append]
      by_cases e : p.1 = u
      · rw [look_pos e, look_pos e]; rfl
      · rw [look_neg e, look_neg e]; exact ih
  unfold putL
  cases h : look l t with
  | none =>
    rw [if_neg (by simp), app]
    by_cases e : u = t
    · subst e
      rw [h, if_neg (by simp)]
    · rw [if_neg e]
      cases look l u <;> simp [e]
  | some z =>
    rw [if_pos (by rfl), rep]
    by_cases e : u = t
    · rw [if_pos e, if_pos e, h]; rfl
    · rw [if_neg e, if_neg e]
theorem look_mem_iff {α : Type} {t : St3} : ∀ {l : List (St3 × α)}, (look l t).isSome = true ↔ t ∈ l.map (·.1)
  | [] => by simp [look]
  | p :: l => by
    by_cases e : p.1 = t
    · rw [look_pos e]; simp [e]
    · rw [look_neg e, look_mem_iff, List.map_cons, List.mem_cons]
      exact ⟨.inr, fun h => h.resolve_left fun z => e z.symm⟩
theorem nodup_le : ∀ (N : Nat) (l : List Nat), l.Nodup → (∀ x ∈ l, x < N) → l.length ≤ N
  | 0, [], _, _ => Nat.le_refl _
  | 0, x :: l, _, h => absurd (h x List.mem_cons_self) (by omega)
  | N + 1, l, hn, h => by
    by_cases hm : N ∈ l
    · have a := nodup_le N (l.erase N) (hn.erase N) fun x hx => by
        have h1 := (List.Nodup.mem_erase_iff hn).mp hx
        have h2 := h x h1.2
        have h3 := h1.1
        omega
      rw [List.length_erase_of_mem hm] at a
      omega
    · have a := nodup_le N l hn fun x hx => by
        have h2 := h x hx
        have h3 : x ≠ N := fun e => hm (e ▸ hx)
        omega
      omega
def Box (s : St3) : Prop := (0 ≤ s.1.1 ∧ s.1.1 < 8) ∧ (0 ≤ s.1.2 ∧ s.1.2 < 8) ∧ (0 ≤ s.2.1.1 ∧ s.2.1.1 < 8) ∧ (0 ≤ s.2.1.2 ∧ s.2.1.2 < 8) ∧ (0 ≤ s.2.2.1 ∧ s.2.2.1 < 8) ∧ (0 ≤ s.2.2.2 ∧ s.2.2.2 < 8)
def code (s : St3) : Nat := (s.1.1 + 8 * (s.1.2 + 8 * (s.2.1.1 + 8 * (s.2.1.2 + 8 * (s.2.2.1 + 8 * s.2.2.2))))).toNat
theorem code_lt {s : St3} (h : Box s) : code s < 262144 := by
  obtain ⟨a, b, c, d, e, f⟩ := h
  unfold code
  omega
theorem code_inj {s t : St3} (h : Box s) (k : Box t) (e : code s = code t) : s = t := by
  obtain ⟨⟨a, b⟩, ⟨c, d⟩, ⟨x, y⟩⟩ := s
  obtain ⟨⟨a', b'⟩, ⟨c', d'⟩, ⟨x', y'⟩⟩ := t
  obtain ⟨h1, h2, h3, h4, h5, h6⟩ := h
  obtain ⟨k1, k2, k3, k4, k5, k6⟩ := k
  simp only [code] at *
  have e1 : a = a' := by omega
  have e2 : b = b' := by omega
  have e3 : c = c' := by omega
  have e4 : d = d' := by omega
  have e5 : x = x' := by omega
  have e6 : y = y' := by omega
  rw [e1, e2, e3, e4, e5, e6]
theorem nodup_codes : ∀ {l : List St3}, l.Nodup → (∀ s ∈ l, Box s) → (l.map code).Nodup
  | [], _, _ => .nil
  | a :: l, hn, h => by
    rw [List.nodup_cons] at hn
    rw [List.map_cons, List.nodup_cons]
    refine ⟨fun hm => ?_, nodup_codes hn.2 fun s hs => h s (List.mem_cons_of_mem _ hs)⟩
    obtain ⟨b, hb, e⟩ := List.mem_map.mp hm
    exact hn.1 (code_inj (h b (List.mem_cons_of_mem _ hb)) (h a List.mem_cons_self) e ▸ hb)
theorem few {l : List St3} (hn : l.Nodup) (h : ∀ s ∈ l, Box s) : l.length ≤ 262144 := by
  have := nodup_le 262144 (l.map code) (nodup_codes hn h) fun x hx => by
    obtain ⟨s, hs, rfl⟩ := List.mem_map.mp hx
    exact code_lt (h s hs)
  rwa [List.length_map] at this
section
variable (g1 g2 g3 : Int)
def Fit (s : St3) : Prop := reached g1 g2 g3 s = true ∧ Box s
def succ (s : St3) : List St3 := if over g3 s = true then [] else [beh g1 g2 s 0, beh g1 g2 s 1]
def Rch : Nat → St3 → Prop
  | 0, s => s = st0
  | j + 1, s => ∃ t, Rch j t ∧ s ∈ succ g1 g2 g3 t
end
variable {g1 g2 g3 : Int}
theorem low00 {g : Int} (h : 1 ≤ g) : lowP (0, 0) g = (0, 0) := by
  have n1 := mx_spec (mnP (0, 0) - g + 1) 0
  have m1 := mn_spec 0 0
  unfold lowP
  have : mxP (mnP (0, 0) - g + 1, 0) = 0 := by omega
  rw [this]; rfl
theorem fit_beh (hg : Good g1 g2 g3) {s : St3} (hs : Fit g1 g2 g3 s) (ho : over g3 s = false) {w : Int} (hw : w = 0 ∨ w = 1) : Fit g1 g2 g3 (beh g1 g2 s w) := by
  have hr : reached g1 g2 g3 (aft g1 g2 s w) = true := reached_aft (w := w) hg hs.1 ho
  unfold beh
  generalize aft g1 g2 s w = a at hr
  obtain ⟨h1, h2, h3, h4, h5, h6⟩ := hg
  obtain ⟨S, G, Q⟩ := a
  obtain ⟨S1, S2⟩ := S
  have hr' := hr
  unfold reached at hr
  simp only at hr
  have m1 := mn_spec S1 S2
  have x1 := mx_spec S1 S2
  by_cases hb : outB g3 (S1, S2) = true
  · rw [if_pos hb] at hr; cases hr
  · rw [if_neg hb] at hr
    have hbox : 0 ≤ S1 ∧ S1 < 8 ∧ 0 ≤ S2 ∧ S2 < 8 := by
      have hb' := hb
      unfold outB at hb'
      simp only [Bool.or_eq_true, decide_eq_true_eq] at hb'
      omega
    by_cases hm : mxP (S1, S2) = g3
    · rw [if_pos hm] at hr
      simp only [Bool.and_eq_true, decide_eq_true_eq] at hr
      obtain ⟨e1, e2⟩ := hr
      subst e1; subst e2
      simp only
      rw [low00 h3, low00 h1]
      have zz : (0 : Int) ≤ 0 ∧ (0 : Int) < 8 := by decide
      exact ⟨hr', ⟨⟨hbox.1, hbox.2.1⟩, ⟨hbox.2.2.1, hbox.2.2.2⟩, zz, zz, zz, zz⟩⟩
    · rw [if_neg hm, Bool.and_eq_true] at hr
      obtain ⟨a1, a2, a3, a4, a5⟩ := on_low h3 hr.1
      obtain ⟨b1, b2, b3, b4, b5⟩ := on_low h1 hr.2
      refine ⟨?_, ⟨hbox.1, hbox.2.1⟩, ⟨hbox.2.2.1, hbox.2.2.2⟩, ⟨a2, by simp only; omega⟩, ⟨a3, by simp only; omega⟩, ⟨b2, by simp only; omega⟩, ⟨b3, by simp only; omega⟩⟩
      unfold reached
      simp only
      rw [if_neg hb, if_neg hm, a1, b1]; rfl
theorem fit_st0 (hg : Good g1 g2 g3) : Fit g1 g2 g3 st0 := ⟨reached_st0 hg, by unfold Box st0; decide⟩
theorem fit_succ (hg : Good g1 g2 g3) {s t : St3} (hs : Fit g1 g2 g3 s) (h : t ∈ succ g1 g2 g3 s) : Fit g1 g2 g3 t := by
  unfold succ at h
  by_cases ho : over g3 s = true
  · rw [if_pos ho] at h; cases h
  · rw [if_neg ho] at h
    have ho' : over g3 s = false := by simpa using ho
    simp only [List.mem_cons, List.not_mem_nil, or_false] at h
    rcases h with rfl | rfl
    · exact fit_beh hg hs ho' (.inl rfl)
    · exact fit_beh hg hs ho' (.inr rfl)
theorem fit_rch (hg : Good g1 g2 g3) : ∀ {j : Nat} {s : St3}, Rch g1 g2 g3 j s → Fit g1 g2 g3 s
  | 0, s, h => by rw [show s = st0 from h]; exact fit_st0 hg
  | j + 1, s, ⟨t, h1, h2⟩ => fit_succ hg (fit_rch hg h1) h2
abbrev Steps := List (St3 × List St3)
structure Bfs (g1 g2 g3 : Int) (k : Nat) (steps : Steps) (newest : List St3) : Prop where
  fitS : ∀ s l, look steps s = some l → Fit g1 g2 g3 s
  fitN : ∀ s ∈ newest, Fit g1 g2 g3 s
  val : ∀ s l, look steps s = some l → l = succ g1 g2 g3 s
  cl : ∀ s l, look steps s = some l → ∀ t ∈ l, t ∈ newest ∨ (look steps t).isSome = true
  new : ∀ s ∈ newest, look steps s = none
  rch : ∀ j s, j < k → Rch g1 g2 g3 j s → (look steps s).isSome = true
  rchN : ∀ s, Rch g1 g2 g3 k s → s ∈ newest ∨ (look steps s).isSome = true
theorem Bfs.first (hg : Good g1 g2 g3) : Bfs g1 g2 g3 0 [] [st0] where
  fitS := fun s l h => by cases h
  fitN := fun s h => by rw [List.mem_singleton.mp h]; exact fit_st0 hg
  val := fun s l h => by cases h
  cl := fun s l h => by cases h
  new := fun s _ => rfl
  rch := fun j s h => by omega
  rchN := fun s h => .inl (List.mem_singleton.mpr h)
structure MidB (g1 g2 g3 : Int) (steps : Steps) (newest : List St3) (i : Nat) (more : List St3) (steps' : Steps) (found : List (St3 × Bool)) : Prop where
  lookS : ∀ t, look steps' t = if t ∈ newest.take i then some (succ g1 g2 g3 t) else look steps t
  lookF : ∀ t, (look found t).isSome = true ↔ (∃ s ∈ newest.take i, t ∈ succ g1 g2 g3 s) ∨ t ∈ more
  tru : ∀ q ∈ found, q.2 = true
variable {steps steps' : Steps} {newest more : List St3} {found : List (St3 × Bool)} {k i : Nat}
theorem MidB.first : MidB g1 g2 g3 steps newest 0 [] steps [] where
  lookS := fun t => by rw [List.take_zero, if_neg (by simp)]
  lookF := fun t => by
    rw [List.take_zero]
    constructor
    · intro h; cases h
    · intro h
      rcases h with ⟨s, hs, _⟩ | h
      · cases hs
      · cases h
  tru := fun q h => by cases h
theorem mem_take_s {s t : St3} (h : newest[i]? = some s) : t ∈ newest.take (i + 1) ↔ t ∈ newest.take i ∨ t = s := by
  rw [List.take_add_one, h, List.mem_append]
  simp
theorem MidB.step {s : St3} (h : newest[i]? = some s) (m : MidB g1 g2 g3 steps newest i (succ g1 g2 g3 s) steps' found) : MidB g1 g2 g3 steps newest (i + 1) [] (putL steps' s (succ g1 g2 g3 s)) found where
  lookS := fun t => by
    rw [look_put, m.lookS]
    by_cases e : t = s
    · rw [if_pos e, if_pos ((mem_take_s h).mpr (.inr e)), e]
    · rw [if_neg e]
      by_cases h2 : t ∈ newest.take i
      · rw [if_pos h2, if_pos ((mem_take_s h).mpr (.inl h2))]
      · rw [if_neg h2, if_neg fun z => ((mem_take_s h).mp z).elim h2 e]
  lookF := fun t => by
    rw [m.lookF]
    constructor
    · intro z
      rcases z with ⟨u, hu, ht⟩ | ht
      · exact .inl ⟨u, (mem_take_s h).mpr (.inl hu), ht⟩
      · exact .inl ⟨s, (mem_take_s h).mpr (.inr rfl), ht⟩
    · intro z
      rcases z with ⟨u, hu, ht⟩ | ht
      · rcases (mem_take_s h).mp hu with hu | hu
        · exact .inl ⟨u, hu, ht⟩
        · exact .inr (hu ▸ ht)
      · cases ht
  tru := m.tru
theorem MidB.find {t : St3} (m : MidB g1 g2 g3 steps newest i more steps' found) : MidB g1 g2 g3 steps newest i (more ++ [t]) steps' (putL found t true) where
  lookS := m.lookS
  lookF := fun u => by
    rw [look_put]
    by_cases e : u = t
    · rw [if_pos e]
      exact ⟨fun _ => .inr (List.mem_append_right _ (List.mem_singleton.mpr e)), fun _ => rfl⟩
    · rw [if_neg e, m.lookF]
      constructor
      · intro z
        rcases z with z | z
        · exact .inl z
        · exact .inr (List.mem_append_left _ z)
      · intro z
        rcases z with z | z
        · exact .inl z
        · rcases List.mem_append.mp z with z | z
          · exact .inr z
          · exact absurd (List.mem_singleton.mp z) e
  tru := fun q hq => by
    unfold putL at hq
    split at hq
    · obtain ⟨x, hx, e⟩ := List.mem_map.mp hq
      split at e
      · rw [← e]
      · rw [← e]; exact m.tru x hx
    · rcases List.mem_append.mp hq with hq | hq
      · exact m.tru q hq
      · rw [List.mem_singleton.mp hq]
theorem Bfs.next (hg : Good g1 g2 g3) (b : Bfs g1 g2 g3 k steps newest) (m : MidB g1 g2 g3 steps newest newest.length [] steps' found) {newest' : List St3} (hn : ∀ t, t ∈ newest' ↔ (look found t).isSome = true ∧ look steps' t = none) : Bfs g1 g2 g3 (k + 1) steps' newest' := by
  have lS : ∀ t, look steps' t = if t ∈ newest then some (succ g1 g2 g3 t) else look steps t := fun t => by have := m.lookS t; rwa [List.take_length] at this
  have lF : ∀ t, (look found t).isSome = true ↔ ∃ s ∈ newest, t ∈ succ g1 g2 g3 s := fun t => by
    have := m.lookF t
    rw [List.take_length] at this
    rw [this]; simp
  have fS : ∀ s l, look steps' s = some l → Fit g1 g2 g3 s := fun s l h => by
    rw [lS] at h
    split at h
    · exact b.fitN s (by assumption)
    · exact b.fitS s l h
  have old : ∀ t, t ∈ newest ∨ (look steps t).isSome = true → (look steps' t).isSome = true := fun t h => by
    rw [lS]
    split
    · rfl
    · exact h.resolve_left (by assumption)
  have vv : ∀ s l, look steps' s = some l → l = succ g1 g2 g3 s := fun s l h => by
    rw [lS] at h
    split at h
    · exact (Option.some.inj h).symm
    · exact b.val s l h
  have clo : ∀ s l, look steps' s = some l → ∀ t ∈ l, t ∈ newest' ∨ (look steps' t).isSome = true := fun s l h t ht => by
    by_cases hs : (look steps' t).isSome = true
    · exact .inr hs
    · refine .inl ((hn t).mpr ⟨?_, by simpa using hs⟩)
      have h' := h
      rw [lS] at h'
      split at h'
      · rw [lF]
        exact ⟨s, by assumption, by rw [vv s l h] at ht; exact ht⟩
      · exact absurd (old t (b.cl s l h' t ht)) hs
  refine ⟨fS, fun s hs => ?_, vv, clo, fun s hs => ((hn s).mp hs).2, fun j s hj hr => ?_, fun s hr => ?_⟩
  · obtain ⟨u, hu, ht⟩ := (lF s).mp ((hn s).mp hs).1
    exact fit_succ hg (b.fitN u hu) ht
  · by_cases hjk : j < k
    · exact old s (.inr (b.rch j s hjk hr))
    · obtain rfl : j = k := by omega
      exact old s (b.rchN s hr)
  · obtain ⟨t, ht, hs⟩ := hr
    have ht' := old t (b.rchN t ht)
    cases hl : look steps' t with
    | none => rw [hl] at ht'; cases ht'
    | some l => exact clo t l hl s (by rw [vv t l hl]; exact hs)
structure Tbl (g1 g2 g3 : Int) (many : Nat) (steps : Steps) : Prop where
  fit : ∀ s l, look steps s = some l → Fit g1 g2 g3 s
  cl : ∀ s l, look steps s = some l → ∀ t ∈ l, (look steps t).isSome = true
  good : ∀ j s, j < many → Rch g1 g2 g3 j s → look steps s = some (succ g1 g2 g3 s)
  all : ∀ j s, j ≤ many → Rch g1 g2 g3 j s → (look steps s).isSome = true
  small : ∀ s l, look steps s = some l → l.length ≤ 2
theorem succ_len (s : St3) : (succ g1 g2 g3 s).length ≤ 2 := by
  unfold succ
  split
  · exact Nat.zero_le _
  · exact Nat.le_refl _
theorem Bfs.last {many : Nat} (b : Bfs g1 g2 g3 many steps newest) (h : ∀ t, look steps' t = if t ∈ newest then some [] else look steps t) : Tbl g1 g2 g3 many steps' := by
  have up : ∀ t, t ∈ newest ∨ (look steps t).isSome = true → (look steps' t).isSome = true := fun t z => by
    rw [h]
    split
    · rfl
    · exact z.resolve_left (by assumption)
  refine ⟨fun s l z => ?_, fun s l z t ht => ?_, fun j s hj hr => ?_, fun j s hj hr => ?_, fun s l z => ?_⟩
  · rw [h] at z
    split at z
    · exact b.fitN s (by assumption)
    · exact b.fitS s l z
  · rw [h] at z
    split at z
    · cases z; cases ht
    · exact up t (b.cl s l z t ht)
  · have hs := b.rch j s hj hr
    rw [h, if_neg (fun z => by rw [b.new s z] at hs; cases hs)]
    cases hl : look steps s with
    | none => rw [hl] at hs; cases hs
    | some l => rw [b.val s l hl]
  · by_cases hj2 : j < many
    · exact up s (.inr (b.rch j s hj2 hr))
    · obtain rfl : j = many := by omega
      exact up s (b.rchN s hr)
  · rw [h] at z
    split at z
    · cases z; exact Nat.zero_le _
    · rw [b.val s l z]; exact succ_len s
section
variable (g3 : Int) (steps : Steps)
def Wt : Nat → St3 → Int
  | 0, s => if over g3 s = true then 1 else 0
  | n + 1, s => (((look steps s).getD []).map (Wt n)).sum
end
theorem Wt_cnt {many : Nat} (h : Tbl g1 g2 g3 many steps) : ∀ (n j : Nat) (s : St3), Rch g1 g2 g3 j s → j + n ≤ many → Wt g3 steps n s = (cnt (beh g1 g2) (over g3) n s : Int)
  | 0, j, s, hr, hj => by
    show (if over g3 s = true then (1 : Int) else 0) = ((if over g3 s = true then 1 else 0 : Nat) : Int)
    split <;> rfl
  | n + 1, j, s, hr, hj => by
    show (((look steps s).getD []).map (Wt g3 steps n)).sum = _
    rw [h.good j s (by omega) hr, Option.getD_some]
    have hs : ∀ t ∈ succ g1 g2 g3 s, Wt g3 steps n t = (cnt (beh g1 g2) (over g3) n t : Int) := fun t ht => Wt_cnt h n (j + 1) t ⟨s, hr, ht⟩ (by omega)
    unfold succ at hs ⊢
    by_cases ho : over g3 s = true
    · rw [if_pos ho, cnt, if_pos ho]; rfl
    · rw [if_neg ho] at hs ⊢
      rw [cnt_s (by simpa using ho)]
      simp only [List.map_cons, List.map_nil, List.sum_cons, List.sum_nil]
      rw [hs _ List.mem_cons_self, hs _ (List.mem_cons_of_mem _ List.mem_cons_self)]
      omega
theorem Rch.step {j : Nat} {s : St3} (h : Rch g1 g2 g3 j s) (ho : over g3 s = false) {w : Int} (hw : w = 0 ∨ w = 1) : Rch g1 g2 g3 (j + 1) (beh g1 g2 s w) := by
  refine ⟨s, h, ?_⟩
  unfold succ
  rw [if_neg (by rw [ho]; exact Bool.false_ne_true)]
  rcases hw with rfl | rfl
  · exact List.mem_cons_self
  · exact List.mem_cons_of_mem _ List.mem_cons_self
end M
set_option Elab.async false
set_option linter.all false
set_option maxRecDepth 100000
namespace M
open L3
theorem ends_run {g1 g2 g3 : Int} : ∀ {row : List Int} {s : Stg}, ends (aft g1 g2) (over g3) row s = true → Legal g1 g2 g3 s row ∧ over g3 (run g1 g2 s row) = true ∧ ∀ w ∈ row, w = 0 ∨ w = 1
  | [], s, h => ⟨trivial, h, fun _ hw => nomatch hw⟩
  | w :: r, s, h => by
    obtain ⟨h1, h2, h3⟩ := ends_cons.mp h
    obtain ⟨a, b, c⟩ := ends_run h3
    refine ⟨⟨h1, a⟩, b, fun u hu => ?_⟩
    rcases List.mem_cons.mp hu with e | hu
    · rw [e]; exact h2
    · exact c u hu
structure NumAt (g1 g2 g3 : Int) (row : List Int) (i : Nat) (s : St3) (n : Nat) : Prop where
  rch : Rch g1 g2 g3 i s
  ends : M.ends (beh g1 g2) (over g3) (row.drop i) s = true
  num : rank (beh g1 g2) (over g3) row st0 = n + rank (beh g1 g2) (over g3) (row.drop i) s
theorem NumAt.first {g1 g2 g3 : Int} {row : List Int} (h : M.ends (beh g1 g2) (over g3) row st0 = true) : NumAt g1 g2 g3 row 0 st0 0 := ⟨rfl, h, by rw [List.drop_zero]; omega⟩
theorem NumAt.next {g1 g2 g3 : Int} {row : List Int} {i : Nat} {s : St3} {n : Nat} {w : Int} (h : NumAt g1 g2 g3 row i s n) (hw : row[i]? = some w) : over g3 s = false ∧ (w = 0 ∨ w = 1) ∧ NumAt g1 g2 g3 row (i + 1) (beh g1 g2 s w) (n + if w = 1 then cnt (beh g1 g2) (over g3) (row.length - i - 1) (beh g1 g2 s 0) else 0) := by
  have hi : i < row.length := (List.getElem?_eq_some_iff.mp hw).1
  have hd : row.drop i = w :: row.drop (i + 1) := by
    rw [List.drop_eq_getElem_cons hi]
    rw [List.getElem?_eq_getElem hi] at hw
    rw [Option.some.inj hw]
  have he := h.ends
  have hn := h.num
  rw [hd] at he hn
  obtain ⟨h1, h2, h3⟩ := ends_cons.mp he
  refine ⟨h1, h2, h.rch.step h1 h2, h3, ?_⟩
  rw [hn]
  show n + ((if w = 1 then cnt (beh g1 g2) (over g3) (row.drop (i + 1)).length (beh g1 g2 s 0) else 0) + rank (beh g1 g2) (over g3) (row.drop (i + 1)) (beh g1 g2 s w)) = _
  rw [List.length_drop, show row.length - (i + 1) = row.length - i - 1 by omega]
  omega
structure RowAt (g1 g2 g3 : Int) (many : Nat) (k : Nat) (i : Nat) (s : St3) (n : Nat) (r : List Int) : Prop where
  rch : Rch g1 g2 g3 i s
  lt : n < cnt (beh g1 g2) (over g3) (many - i) s
  row : unrank (beh g1 g2) (over g3) many st0 k = r ++ unrank (beh g1 g2) (over g3) (many - i) s n
  len : r.length = i
theorem RowAt.first {g1 g2 g3 : Int} {many k : Nat} (h : k < cnt (beh g1 g2) (over g3) many st0) : RowAt g1 g2 g3 many k 0 st0 k [] := ⟨rfl, h, rfl, rfl⟩
theorem RowAt.next {g1 g2 g3 : Int} {many k i n : Nat} {s : St3} {r : List Int} (h : RowAt g1 g2 g3 many k i s n r) (hi : i < many) : over g3 s = false ∧
    (¬ cnt (beh g1 g2) (over g3) (many - 1 - i) (beh g1 g2 s 0) ≤ n → RowAt g1 g2 g3 many k (i + 1) (beh g1 g2 s 0) n (r ++ [0])) ∧
    (cnt (beh g1 g2) (over g3) (many - 1 - i) (beh g1 g2 s 0) ≤ n → RowAt g1 g2 g3 many k (i + 1) (beh g1 g2 s 1) (n - cnt (beh g1 g2) (over g3) (many - 1 - i) (beh g1 g2 s 0)) (r ++ [1])) := by
  have e : many - i = (many - 1 - i) + 1 := by omega
  have hl := h.lt
  have hr := h.row
  rw [e] at hl hr
  have ho : over g3 s = false := by
    cases hs : over g3 s with
    | false => rfl
    | true => rw [cnt, if_pos hs] at hl; omega
  rw [cnt_s ho] at hl
  have e2 : many - (i + 1) = many - 1 - i := by omega
  refine ⟨ho, fun hk => ?_, fun hk => ?_⟩
  · refine ⟨h.rch.step ho (.inl rfl), by rw [e2]; omega, ?_, by rw [List.length_append, h.len]; rfl⟩
    rw [hr, unrank_lo (by omega), e2, List.append_assoc]; rfl
  · refine ⟨h.rch.step ho (.inr rfl), by rw [e2]; omega, ?_, by rw [List.length_append, h.len]; rfl⟩
    rw [hr, unrank_hi (by omega), e2, List.append_assoc]; rfl
theorem RowAt.last {g1 g2 g3 : Int} {many k n : Nat} {s : St3} {r : List Int} (h : RowAt g1 g2 g3 many k many s n r) : unrank (beh g1 g2) (over g3) many st0 k = r := by
  have := h.row
  rw [Nat.sub_self] at this
  rw [this]
  show r ++ [] = r
  rw [List.append_nil]
end M
set_option Elab.async false
set_option linter.all false
set_option maxRecDepth 100000
namespace M
open L3
section
variable {α : Type} (nx : α → Int → α) (ov : α → Bool)
def rowsF : Nat → α → List (List Int)
  | 0, s => if ov s = true then [[]] else []
  | n + 1, s => if ov s = true then [] else (rowsF n (nx s 0)).map (0 :: ·) ++ (rowsF n (nx s 1)).map (1 :: ·)
def expand (q : List Int × α) : List (List Int × α) := if ov q.2 = true then [] else [(q.1 ++ [0], nx q.2 0), (q.1 ++ [1], nx q.2 1)]
def spr (s : α) : Nat → List (List Int × α)
  | 0 => [([], s)]
  | k + 1 => (spr s k).flatMap (expand nx ov)
def ended (xs : List (List Int × α)) : List (List Int) := (xs.filter fun q => ov q.2).map (·.1)
end
section
variable {α : Type} {nx : α → Int → α} {ov : α → Bool}
def bfs (nx : α → Int → α) (ov : α → Bool) : Nat → List (List Int × α) → List (List Int × α)
  | 0, xs => xs
  | n + 1, xs => bfs nx ov n (xs.flatMap (expand nx ov))
theorem bfs_s : ∀ (n : Nat) (xs : List (List Int × α)), bfs nx ov (n + 1) xs = (bfs nx ov n xs).flatMap (expand nx ov)
  | 0, xs => rfl
  | n + 1, xs => by
    show bfs nx ov (n + 1) (xs.flatMap (expand nx ov)) = _
    rw [bfs_s n (xs.flatMap (expand nx ov))]; rfl
theorem spr_bfs (s : α) : ∀ n, spr nx ov s n = bfs nx ov n [([], s)]
  | 0 => rfl
  | n + 1 => by rw [spr, spr_bfs s n, bfs_s]
theorem bfs_ended : ∀ (n : Nat) (xs : List (List Int × α)), ended ov (bfs nx ov n xs) = xs.flatMap fun q => (rowsF nx ov n q.2).map (q.1 ++ ·)
  | 0, xs => by
    show ended ov xs = _
    unfold ended
    induction xs with
    | nil => rfl
    | cons q xs ih =>
      rw [List.flatMap_cons, ← ih, List.filter_cons]
      simp only [rowsF]
      by_cases h : ov q.2 = true
      · rw [if_pos h, if_pos h, List.map_cons]; simp
      · rw [if_neg h, if_neg h]; rfl
  | n + 1, xs => by
    show ended ov (bfs nx ov n (xs.flatMap (expand nx ov))) = _
    rw [bfs_ended n]
    induction xs with
    | nil => rfl
    | cons q xs ih =>
      rw [List.flatMap_cons, List.flatMap_append, ih, List.flatMap_cons]
      congr 1
      unfold expand
      simp only [rowsF]
      by_cases h : ov q.2 = true
      · rw [if_pos h, if_pos h]; rfl
      · rw [if_neg h, if_neg h, List.flatMap_cons, List.flatMap_cons, List.flatMap_nil, List.append_nil, List.map_append, List.map_map, List.map_map]
        congr 1 <;> (refine List.map_congr_left fun r _ => ?_; simp)
theorem spr_ended (s : α) (n : Nat) : ended ov (spr nx ov s n) = rowsF nx ov n s := by
  rw [spr_bfs, bfs_ended, List.flatMap_cons, List.flatMap_nil, List.append_nil]
  simp
theorem spr_len (s : α) : ∀ n, (spr nx ov s n).length ≤ 2 ^ n
  | 0 => Nat.le_refl _
  | n + 1 => by
    have ih := spr_len s n
    rw [spr, Nat.pow_succ]
    have : ∀ xs : List (List Int × α), (xs.flatMap (expand nx ov)).length ≤ xs.length * 2 := fun xs => by
      induction xs with
      | nil => exact Nat.le_refl _
      | cons q xs ih =>
        rw [List.flatMap_cons, List.length_append, List.length_cons]
        have : (expand nx ov q).length ≤ 2 := by unfold expand; split <;> simp
        omega
    have := this (spr nx ov s n)
    omega
theorem spr_row {s : α} : ∀ {n : Nat} {q : List Int × α}, q ∈ spr nx ov s n → q.1.length = n
  | 0, q, h => by rw [List.mem_singleton.mp h]; rfl
  | n + 1, q, h => by
    rw [spr, List.mem_flatMap] at h
    obtain ⟨p, hp, hq⟩ := h
    have := spr_row hp
    unfold expand at hq
    split at hq
    · cases hq
    · simp only [List.mem_cons, List.not_mem_nil, or_false] at hq
      rcases hq with rfl | rfl <;> simp [this]
theorem range_add (a b : Nat) : List.range (a + b) = List.range a ++ (List.range b).map (a + ·) := by
  rw [List.range_add]
theorem rows_range : ∀ (n : Nat) (s : α), rowsF nx ov n s = (List.range (cnt nx ov n s)).map (unrank nx ov n s)
  | 0, s => by
    simp only [rowsF, cnt]
    by_cases h : ov s = true
    · rw [if_pos h, if_pos h]; rfl
    · rw [if_neg h, if_neg h]; rfl
  | n + 1, s => by
    by_cases h : ov s = true
    · simp only [rowsF, cnt]
      rw [if_pos h, if_pos h]; rfl
    · rw [cnt_s (by simpa using h), range_add, List.map_append]
      simp only [rowsF]
      rw [if_neg h, rows_range n (nx s 0), rows_range n (nx s 1), List.map_map, List.map_map, List.map_map]
      congr 1
      · refine List.map_congr_left fun k hk => ?_
        rw [List.mem_range] at hk
        rw [unrank_lo hk]; rfl
      · refine List.map_congr_left fun k hk => ?_
        show 1 :: unrank nx ov n (nx s 1) k = unrank nx ov (n + 1) s (cnt nx ov n (nx s 0) + k)
        rw [unrank_hi (by omega), Nat.add_sub_cancel_left]
theorem rows_len (n : Nat) (s : α) : (rowsF nx ov n s).length = cnt nx ov n s := by rw [rows_range, List.length_map, List.length_range]
theorem rows_mem {n : Nat} {s : α} {r : List Int} : r ∈ rowsF nx ov n s ↔ ends nx ov r s = true ∧ r.length = n := by
  rw [rows_range, List.mem_map]
  constructor
  · rintro ⟨k, hk, rfl⟩
    rw [List.mem_range] at hk
    obtain ⟨a, b, _⟩ := unrank_ok hk
    exact ⟨a, b⟩
  · rintro ⟨h, rfl⟩
    obtain ⟨a, b⟩ := rank_lt h
    exact ⟨_, List.mem_range.mpr a, b⟩
theorem rows_at {n : Nat} {s : α} {k : Nat} (h : k < cnt nx ov n s) : (rowsF nx ov n s)[k]? = some (unrank nx ov n s k) := by
  rw [rows_range, List.getElem?_map, List.getElem?_range h]; rfl
theorem rows_sim {β : Type} {ny : β → Int → β} {ow : β → Bool} (S : α → β → Prop) (h1 : ∀ s t, S s t → ov s = ow t) (h2 : ∀ s t w, S s t → ov s = false → (w = 0 ∨ w = 1) → S (nx s w) (ny t w)) : ∀ (n : Nat) (s : α) (t : β), S s t → rowsF nx ov n s = rowsF ny ow n t
  | 0, s, t, h => by simp only [rowsF]; rw [h1 s t h]
  | n + 1, s, t, h => by
    have e := h1 s t h
    simp only [rowsF]
    by_cases ho : ov s = true
    · rw [if_pos ho, if_pos (by rw [← e]; exact ho)]
    · have ho' : ov s = false := by simpa using ho
      rw [if_neg ho, if_neg (by rw [← e]; exact ho), rows_sim S h1 h2 n _ _ (h2 s t 0 h ho' (.inl rfl)), rows_sim S h1 h2 n _ _ (h2 s t 1 h ho' (.inr rfl))]
end
theorem rows_beh (g1 g2 g3 : Int) (n : Nat) : rowsF (aft g1 g2) (over g3) n st0 = rowsF (beh g1 g2) (over g3) n st0 :=
  rows_sim (nx := aft g1 g2) (ov := over g3) (ny := beh g1 g2) (ow := over g3) (Sim g1 g2) (fun s t h => by show decide (mxP s.1 = g3) = decide (mxP t.1 = g3); rw [h.1]) (fun s t w h _ hw => Sim.beh h hw) n st0 st0 (Sim.refl st0)
theorem not_ends {g1 g2 g3 : Int} : ∀ {row : List Int} {s : Stg}, (∀ w ∈ row, w = 0 ∨ w = 1) → ends (aft g1 g2) (over g3) row s = false →
    (∃ m : Nat, m < row.length ∧ Legal g1 g2 g3 s (row.take m) ∧ over g3 (run g1 g2 s (row.take m)) = true) ∨ (Legal g1 g2 g3 s row ∧ over g3 (run g1 g2 s row) = false)
  | [], s, _, h => .inr ⟨trivial, h⟩
  | w :: r, s, hw, h => by
    by_cases ho : over g3 s = true
    · exact .inl ⟨0, by simp, trivial, ho⟩
    · have ho' : over g3 s = false := by simpa using ho
      have he : ends (aft g1 g2) (over g3) r (aft g1 g2 s w) = false := by
        cases hh : ends (aft g1 g2) (over g3) r (aft g1 g2 s w) with
        | false => rfl
        | true =>
          have := ends_cons.mpr (⟨ho', hw w List.mem_cons_self, hh⟩ : _ ∧ _ ∧ _)
          rw [this] at h; cases h
      rcases not_ends (fun u hu => hw u (List.mem_cons_of_mem _ hu)) he with ⟨m, hm, hl, hv⟩ | ⟨hl, hv⟩
      · exact .inl ⟨m + 1, by rw [List.length_cons]; omega, ⟨ho', hl⟩, hv⟩
      · exact .inr ⟨⟨ho', hl⟩, hv⟩
end M
set_option Elab.async false
set_option linter.all false
set_option maxRecDepth 100000
namespace L3
open PySem PySem.Spec PyProof.Rows L2
def PF2 (X : Cx) (e : Expr) (σ : L2.St) (H : Hp) (Φ : Hp → Hp → V → Prop) : Prop := PE X e (fun σ' H1 Q => σ' = σ ∧ Same H H1 ∧ ∀ v H2, Same H1 H2 → Φ H1 H2 v → Q v H2)
theorem PD.f2 {X : Cx} {e : Expr} {σ : L2.St} {H : Hp} {d : D} (h : PD X e σ H d) : PF2 X e σ H (fun _ H2 v => Is X.K H2 d v) := h
theorem PL.f2 {X : Cx} {e : Expr} {σ : L2.St} {H : Hp} {ds : List D} (h : PL X e σ H ds) : PF2 X e σ H (fun H1 H2 v => ∃ l vs, v = .ref l ∧ H1 l = none ∧ H2 l = some (.lst vs) ∧ IsL X.K H2 ds vs) :=
  PE.imp h fun σ' H1 Q ⟨hs, e1, q⟩ => ⟨hs, e1, fun l vs H2 e2 hn hl hv => q _ _ e2 ⟨l, vs, rfl, hn, hl, hv⟩⟩
section
variable {prog : Program} {w : World} {A : Around} {R : Result → Shared → Prop} {s : Shared}
theorem compLoop_tests {elt target iter : Expr} {ifs : List Expr} {scope : Scope} {pos : Pos} {it acc : Value} {env : Env} (I : Nat → Shared → Prop)
    (turn : ∀ n s, I n s → wpAny (model prog w) A (pyNext it) (fun r s₁ => match r with
      | none => R (.ok .next) s₁
      | some v => wpAny (model prog w) A (letOwnedTupleGo target it v) (fun _ s₁ => wpAny (model prog w) A (assign target env v) (fun _ s₂ =>
          wpAny (model prog w) A (forIn ifs true fun c r => if r = true then do let ok ← isTrue c env (eval c env); pure (ForInStep.yield ok) else pure (ForInStep.yield r)) (fun ok s₃ =>
            if ok = true then wpAny (model prog w) A (eval elt env) (fun x s₄ =>
              wpAny (model prog w) A (call (.builtin "list.append") [acc, x]) (fun _ s₅ => ∃ m, m < n ∧ I m s₅) (notedBy (model prog w) A env fun e s' => R (.error e) s') s₄) (notedBy (model prog w) A env fun e s' => R (.error e) s') s₃
            else ∃ m, m < n ∧ I m s₃) (notedBy (model prog w) A env fun e s' => R (.error e) s') s₂) (notedBy (model prog w) A env fun e s' => R (.error e) s') s₁) (notedBy (model prog w) A env fun e s' => R (.error e) s') s₁)
      (notedBy (model prog w) A env fun e s' => R (.error e) s') s)
    (n : Nat) (h : I n s) : codeAny (model prog w) A (.compLoop (.ListComp elt [⟨target, iter, ifs, 0⟩] scope pos) 0 it acc env) R s := by
  refine codeAny_loop rfl I (fun n s hI => ?_) n h
  show wpAny _ A ((compTurn (.ListComp elt [⟨target, iter, ifs, 0⟩] scope pos) 0 it acc env).onRaise (fun x => do noteFrame x env; theTreesLotGoes x)) _ _ s
  refine wpAny_noted ?_
  rw [compTurn_list]
  refine wpAny_bind (wpAny_standAt (wpAny_bind (wpAny_mono (turn n s hI) (fun r s₁ h₁ => ?_) fun _ _ h' => h')))
  cases r with
  | none => exact wpAny_pure h₁
  | some v =>
    refine wpAny_bind (wpAny_mono h₁ (fun _ s₂ h₂ => ?_) fun _ _ h' => h')
    refine wpAny_bind (wpAny_mono h₂ (fun _ s₃ h₃ => wpAny_bind (wpAny_mono h₃ (fun ok s₄ h₄ => ?_) fun _ _ h' => h')) fun _ _ h' => h')
    cases ok with
    | true => exact wpAny_bind (wpAny_bind (wpAny_mono h₄ (fun x s₅ h₅ => wpAny_bind (wpAny_mono h₅ (fun _ s₆ h₆ => wpAny_pure (wpAny_pure ⟨rfl, h₆⟩)) fun _ _ h' => h')) fun _ _ h' => h'))
    | false => exact wpAny_bind (wpAny_pure (wpAny_pure ⟨rfl, h₄⟩))
end
def CTests (X : Cx) (ifs : List Expr) (σ : L2.St) (H : Hp) (k : Bool) : Prop := (ifs = [] ∧ k = true) ∨ ∃ c, ifs = [c] ∧ PDT X c σ H k
structure Stays (Ψ : Nat → Addr → Hp → V → Prop) : Prop where
  same : ∀ i L H H' v, Same H H' → Ψ i L H v → Ψ i L H' v
  upd : ∀ i L H v xs ys, H L = some (.lst xs) → Ψ i L H v → Ψ i L (upd H L (.lst ys)) v
section
variable {X : Cx} {pins : List (Addr × Obj)} {σ σc : L2.St} {H2 : Hp} {s2 : Shared} {scope : Scope} {cl : List (Str × Addr)} {N : List Str} {x : Str} {px pos : Pos} {elt iter : Expr} {ifs : List Expr} {J : It} {fp : List Addr} {it : Addr} {tn : Nat → Heap → Prop} {n : Nat} {din : Nat → D} {ks : Nat → Bool} {Φ : Nat → Hp → Hp → V → Prop} {Ψ : Nat → Addr → Hp → V → Prop}
theorem filt_s (ks : Nat → Bool) (i : Nat) : (List.range (i + 1)).filter ks = (List.range i).filter ks ++ (if ks i = true then [i] else []) := by
  rw [List.range_succ, List.filter_append]
  congr 1
  rw [List.filter_cons]
  cases ks i <;> rfl
theorem paired_len {α β : Type} {R : α → β → Prop} {l : List α} {m : List β} (h : Paired R l m) : m.length = l.length := (Paired.length h).symm
theorem comp_blockG (I : Inv X pins σ H2 s2) (hc : X.calm = true) (t : Takes X σ scope cl N σc x) (T : Turn X.prog X.w X.K (.Name x px) J fp it tn) (st : tn 0 s2.heap) (fo : ∀ b ∈ fp, FpOk X pins H2 b) (fd : Feeds X.K J H2 n din) (hn : n < sizeLine)
    (hS : Stays Ψ) (hΦ : ∀ i L H H' v vs, H L = some (.lst vs) → Same H H' → Φ i H H' v → Ψ i L H' v)
    (htest : ∀ (C : Addr) (i : Nat) (v : V) (H3 : Hp), i < n → Same H2 H3 → Is X.K H3 (din i) v → CTests (cxComp X scope cl N C s2 H2 fp) ifs (σc.set 0 (some v)) H3 (ks i))
    (helt : ∀ (C : Addr) (i : Nat) (v : V) (H3 : Hp), i < n → ks i = true → Same H2 H3 → Is X.K H3 (din i) v → PF2 (cxComp X scope cl N C s2 H2 fp) elt (σc.set 0 (some v)) H3 (Φ i))
    {RR : Value → Addr → Result → Shared → Prop} {E : Value → Shared → Prop}
    (hRR : ∀ (L C : Addr) (s' : Shared) (He : Hp) (vs : List V) (m : Str → Option Value), s2.heap.objs.size ≤ C → s'.os = s2.os → AllBare s'.gens → Un (frs X.stack) fp H2 He s2.heap s'.heap → HOk X.prog X.w He s'.heap → s'.heap.Ns C m → He C = none →
      Same H2 He → H2 L = none → He L = some (.lst vs) → Paired (fun i v => Ψ i L He v) ((List.range n).filter ks) vs → RR (.ref L) C (.ok .next) s') :
    wpAny (model X.prog X.w) X.A (newList []) (fun acc s₃ => wpAny (model X.prog X.w) X.A (newFunctionEnv scope X.env.globals cl [] X.env.qual none .none (some X.env)) (fun cenv s₄ =>
      codeAny (model X.prog X.w) X.A (.compStart (.ListComp elt [⟨.Name x px, iter, ifs, 0⟩] scope pos) 0 (.ref it) acc { cenv with scope := relabel scope X.env }) (RR acc cenv.locals) s₄) E s₃) E s2 := by
  have fl : ∀ b ∈ fp, b < s2.heap.objs.size := fun b hb => by obtain ⟨o, e, _⟩ := T.obj 0 _ st b hb; exact Heap.lt_size e
  refine wpAny_newObj_type (wpAny_newFunctionEnv t.cell (by intro y hy; simp at hy) (fun h₁ hns₁ hsb₁ => ?_) t.kind)
  dsimp only at hns₁ hsb₁ ⊢
  generalize hG2 : s2.heap.push { cls := .type "list", dict := none, data := .seq ([] : List Value).toArray } = G2 at hns₁ hsb₁ ⊢
  have hC : G2.objs.size = s2.heap.objs.size + 1 := by rw [← hG2, Heap.size_push]
  have hDC : s2.heap.objs.size ≠ G2.objs.size := by rw [hC]; exact Nat.ne_of_lt (Nat.lt_succ_self _)
  have hCle : s2.heap.objs.size ≤ G2.objs.size := by rw [hC]; exact Nat.le_succ _
  have old : ∀ b o, s2.heap.get? b = some o → h₁.get? b = some o := fun b o e => hsb₁.extBut b o (by rw [hC]; exact Nat.ne_of_lt (Nat.lt_succ_of_lt (Heap.lt_size e))) (Heap.get?_push_of_some _ (hG2 ▸ Heap.get?_push_of_some _ e))
  have hL : h₁.get? s2.heap.objs.size = some { cls := .type "list", dict := none, data := .seq ([] : List Value).toArray } := hsb₁.extBut _ _ hDC (Heap.get?_push_of_some _ (hG2 ▸ Heap.get?_push_size _ rfl))
  have fr0 : H2 s2.heap.objs.size = none := I.hok.fresh (Nat.le_refl _)
  have frC : H2 G2.objs.size = none := I.hok.fresh hCle
  have ok := comp_ok I t fo fl hCle
  have I0 : ∀ s₃ : Shared, s₃ = { s2 with heap := h₁, toks := s2.toks + ([] : List (Str × Value)).length } →
      Inv (cxComp X scope cl N G2.objs.size s2 H2 fp) [] σc (upd H2 s2.heap.objs.size (.lst [])) s₃ := by
    rintro s₃ rfl
    refine ⟨ok, rfl, I.bare, Un.laid old (Nat.le_refl _) fr0, ⟨_, hns₁, fun i y v e1 e2 e3 => ?_⟩, fun y c h => ?_, ?_, fun y c h => ?_, fun p hp => absurd (show p ∈ ([] : List (Addr × Obj)) from hp) (by simp), ?_, t.len⟩
    · obtain ⟨j, j1, j2, j3, ⟨c, j4⟩, j5⟩ := t.cap i y v e1 e2
      obtain ⟨m, _, hl⟩ := I.loc
      obtain ⟨u, ru, lk⟩ := hl j y v j1 j2 (.inr (.inl j3))
      refine ⟨u, ru, .inr ⟨j5, c, j4, ?_⟩⟩
      rcases lk with ⟨k1, _⟩ | ⟨_, c', k2, o, ho, hd⟩
      · rw [j3] at k1; cases k1
      · rw [t.sub _ _ j4] at k2; cases k2
        exact ⟨o, old _ _ ho, hd⟩
    · obtain ⟨v, o, ho, hd⟩ := I.cell y c (t.sub _ _ h)
      exact ⟨v, o, old _ _ ho, hd⟩
    · show upd H2 s2.heap.objs.size (.lst []) G2.objs.size = none
      rw [upd_ne (Ne.symm hDC)]; exact frC
    · obtain ⟨v, o, ho, hd⟩ := I.cell y c (t.sub _ _ h)
      rw [upd_ne (Nat.ne_of_lt (Heap.lt_size ho))]; exact I.freeC y c (t.sub _ _ h)
    · exact I.hok.laid old (Nat.le_refl _) ⟨Nat.zero_le _, [], 0, .nil, hL⟩
  have loop : ∀ s₃ : Shared, s₃ = { s2 with heap := h₁, toks := s2.toks + ([] : List (Str × Value)).length } →
      codeAny (model X.prog X.w) X.A (.compLoop (.ListComp elt [⟨.Name x px, iter, ifs, 0⟩] scope pos) 0 (.ref it) (.ref s2.heap.objs.size) (compEnvC scope cl G2.objs.size X.env))
        (RR (.ref s2.heap.objs.size) G2.objs.size) s₃ := by
    intro s₃ hs₃
    refine compLoop_tests (fun k s' => ∃ i a He vs, k = n - i ∧ i ≤ n ∧ Inv (cxComp X scope cl N G2.objs.size s2 H2 fp) [] (σc.set 0 a) He s' ∧ tn i s'.heap ∧ (∀ b ∈ fp, He b = none) ∧ Same H2 He ∧
      He s2.heap.objs.size = some (.lst vs) ∧ Paired (fun j v => Ψ j s2.heap.objs.size He v) ((List.range i).filter ks) vs) ?_ n ?_
    · rintro k s' ⟨i, a, He, vs, rfl, hi, I3, st3, f3, e3, hl3, hv3⟩
      have fpk : ∀ b ∈ fp, FpOk (cxComp X scope cl N G2.objs.size s2 H2 fp) [] He b := fun b hb =>
        ⟨f3 b hb, (ok.exf b hb).1, ok.exfs b hb, .inl hb, (ok.exf b hb).2, fun p hp => absurd (show p ∈ ([] : List (Addr × Obj)) from hp) (by simp)⟩
      by_cases hlt : i < n
      · obtain ⟨go, yl⟩ := (fd He e3).1 i hlt
        refine thn (T.item (cxComp X scope cl N G2.objs.size s2 H2 fp) rfl rfl rfl hc i [] s' _ He _ I3 fpk st3 go) fun r s4 ⟨u, hr, h4⟩ => ?_
        subst hr
        refine thn h4 fun _ s5 ⟨v, H5, I5, r5, y5, st5, f5⟩ => ?_
        obtain ⟨rfl, hv⟩ := yl v H5 y5
        have I5' := I5.pinned (fun b hb => ⟨f5 b hb, (fpk b hb).2⟩) (T.obj _ _ st5)
        refine wpAny_mono (pg_name (X := cxComp X scope cl N G2.objs.size s2 H2 fp) (i := 0) t.nd t.first (.inl (lookup_relabel_local t.loc)) (.inr (lookup_relabel_local t.loc)) _ s5 _ H5 v u (fun σ' H' => σ' = σc.set 0 (some v) ∧ H' = H5) I5' r5 ⟨by rw [List.set_set], rfl⟩)
          (fun _ s6 ⟨σ6, H6, I6, e6, e6'⟩ => ?_) fun _ _ z => z.elim
        subst e6; subst e6'
        have tst : wpAny (model X.prog X.w) X.A (forIn ifs true fun c r => if r = true then do let ok ← isTrue c (compEnvC scope cl G2.objs.size X.env) (eval c (compEnvC scope cl G2.objs.size X.env)); pure (ForInStep.yield ok) else pure (ForInStep.yield r))
            (fun ok s7 => ok = ks i ∧ ∃ H7, Same H6 H7 ∧ Inv (cxComp X scope cl N G2.objs.size s2 H2 fp) ([] ++ pinsAt fp s5.heap) (σc.set 0 (some v)) H7 s7) (fun _ _ => False) s6 := by
          rcases htest G2.objs.size i v H6 hlt e3 hv with ⟨e, ek⟩ | ⟨c, e, hp⟩
          · subst e
            exact wpAny_tests_nil ⟨ek.symm, H6, Same.refl _, I6⟩
          · subst e
            refine wpAny_tests_one (wpAny_mono (hp _ s6 _ H6 (fun b H7 => b = ks i ∧ Same H6 H7) I6 ⟨rfl, Same.refl _, fun H7 e7 => ⟨rfl, e7⟩⟩) (fun b s7 ⟨H7, I7, eb, e7⟩ => ⟨eb, H7, e7, I7⟩) fun _ _ z => z.elim)
        refine wpAny_mono tst (fun okb s7 ⟨ek, H7, e7, I7⟩ => ?_) fun _ _ z => z.elim
        subst ek
        have hl7 := e7 _ _ hl3
        have hv7 : Paired (fun j v => Ψ j s2.heap.objs.size H7 v) ((List.range i).filter ks) vs := L2.Paired.imp' (fun _ _ z => hS.same _ _ _ _ _ e7 z) hv3
        have tk : ∀ {s8 : Shared} {H8 : Hp}, Inv (cxComp X scope cl N G2.objs.size s2 H2 fp) ([] ++ pinsAt fp s5.heap) (σc.set 0 (some v)) H8 s8 → tn (i + 1) s8.heap ∧ ∀ b ∈ fp, H8 b = none := fun {s8 H8} I8 => by
          refine ⟨T.keep _ _ _ st5 fun b hb o e => (I8.pin (b, o) (List.mem_append_right _ (List.mem_append_right _ (mem_pinsAt hb e)))).1, fun b hb => ?_⟩
          obtain ⟨o, e, d⟩ := T.obj _ _ st5 b hb
          exact (I8.pin (b, o) (List.mem_append_right _ (List.mem_append_right _ (mem_pinsAt hb e)))).2.1
        by_cases hk : ks i = true
        · rw [if_pos hk]
          refine wpAny_mono (helt G2.objs.size i v H7 hlt hk (e3.trans e7) (hv.mono e7) _ s7 _ H7 (fun y H8 => Same H7 H8 ∧ Φ i H7 H8 y) I7 ⟨rfl, Same.refl _, fun y H8 e8 hy => ⟨e8, hy⟩⟩) (fun y s8 ⟨z, H8, I8, r8, e8, hz⟩ => ?_) fun _ _ z => z.elim
          have hl8 := e8 _ _ hl7
          have hlen : vs.length < sizeLine := by
            have a1 := paired_len hv3
            have a2 := List.length_filter_le ks (List.range i)
            rw [List.length_range] at a2
            omega
          refine wpAny_mono (mt_append (X := cxComp X scope cl N G2.objs.size s2 H2 fp) _ s8 _ H8 (.ref s2.heap.objs.size) [z] (.ref s2.heap.objs.size) [y] (fun _ H9 => H9 = upd H8 s2.heap.objs.size (.lst (vs ++ [z]))) I8 rfl (.cons r8 .nil)
            ⟨_, vs, z, rfl, rfl, hl8, hlen, rfl⟩) (fun _ s9 ⟨_, H9, I9, _, e9⟩ => ?_) fun _ _ z => z.elim
          subst e9
          obtain ⟨k1, k2⟩ := tk I9
          refine ⟨n - (i + 1), by omega, i + 1, some v, _, vs ++ [z], rfl, hlt, I9.unpinned, k1, k2, ?_, upd_same, ?_⟩
          · intro b o e
            rw [upd_ne (ne_of_none e fr0)]; exact e8 _ _ (e7 _ _ (e3 _ _ e))
          · rw [filt_s, if_pos hk]
            exact Paired.snoc (L2.Paired.imp' (fun _ _ z => hS.upd _ _ _ _ _ _ hl8 (hS.same _ _ _ _ _ e8 z)) hv7) (hS.upd _ _ _ _ _ _ hl8 (hΦ _ _ _ _ _ _ hl7 e8 hz))
        · rw [if_neg hk]
          obtain ⟨k1, k2⟩ := tk I7
          refine ⟨n - (i + 1), by omega, i + 1, some v, _, vs, rfl, hlt, I7.unpinned, k1, k2, e3.trans e7, hl7, ?_⟩
          rw [filt_s, if_neg hk, List.append_nil]; exact hv7
      · obtain rfl : i = n := by omega
        refine wpAny_mono (T.done (cxComp X scope cl N G2.objs.size s2 H2 fp) rfl rfl rfl hc i [] s' _ He (fun _ _ => False) I3 fpk st3 (fd He e3).2) (fun r s4 ⟨hr, I4⟩ => ?_) fun _ _ z => z.elim
        subst hr
        obtain ⟨m, hm, _⟩ := I4.loc
        exact hRR _ _ s4 He vs m hCle I4.os I4.bare I4.base I4.hok hm I4.free e3 fr0 hl3 hv3
    · refine ⟨0, σc[0]?.getD none, _, [], by omega, Nat.zero_le _, ?_, ?_, fun b hb => ?_, same_upd fr0, upd_same, .nil⟩
      · have e : σc.set 0 (σc[0]?.getD none) = σc := by
          cases σc with
          | nil => rfl
          | cons a l => rfl
        rw [e]; exact I0 s₃ hs₃
      · rw [hs₃]; exact T.keep _ _ _ st fun b hb o e => old b o e
      · rw [upd_ne (Nat.ne_of_lt (fl b hb))]; exact (fo b hb).1
  exact codeAny_compStart_list (loop _ rfl) (T.self _ 0 _ _ _ (T.keep _ _ _ st fun b hb o e => old b o e) (loop _ rfl))
end
end L3
set_option Elab.async false
set_option linter.all false
set_option maxRecDepth 100000
namespace PySem
open Sem (wp)
theorem list_no_keys : typeLookup (.type "list") "keys" = pure none := am_miss_of_fast (by decide +kernel)
theorem askAttr_miss_list {prog : Program} {w : World} {A : Around} {E : Value → Shared → Prop} {s : Shared} {a : Addr} {o : Obj} {xs : Array Value} {k : Nat} {Q : Option Value → Shared → Prop}
    (hx : s.heap.get? a = some o) (hc : o.cls = .type "list") (hdat : o.data = .seq xs k) (hd : o.dict = none) (hA : A.handled = none)
    (h : ∀ h' tk, (∀ b ob, s.heap.get? b = some ob → h'.get? b = some ob) → Q none { s with heap := h', toks := tk }) :
    wpAny (model prog w) A (getAttr? (.ref a) "keys") Q E s := by
  obtain ⟨c, dct, dat, sl⟩ := o
  simp only at hc hdat hd
  subst hc hdat hd
  obtain ⟨hp, g, d, tk, os⟩ := s
  have hT : ∀ tk', (⟨hp, g, d, tk', os⟩ : Shared).TypeIs (.ref a) "list" := fun _ => ⟨_, hx, rfl⟩
  have f1 := sub_AttributeError
  have f3 := F.slot_list_getattribute.lookup
  have f4 := F.slot_list_getattribute.bind (.ref a)
  have f5 := am_list_getattr_none
  unfold getAttr? getAttrBy? getAttrBy
  repeat (any_goals (first | assumption | exact hT _ | ((with_reducible show wpAny _ _ (call (Value.builtin "list.__getattribute__") _ _) _ _ _); refine call_meets F.slot_list_getattribute (hT _) am_entry_list_getattribute (F.args_list_getattribute_2 _ _) (meets_getattribute_miss_list a xs k sl "keys" _ list_no_keys (by decide) (by decide +kernel)) ⟨hx, hA, fun h' tk' e hx' => ?_⟩) | wp_step))
  obtain ⟨t', u', he⟩ := hx'.there
  show wpAny _ _ (getattributeRaised _ _ _ _ _ _ _) _ _ _
  unfold getattributeRaised
  repeat (any_goals (first | assumption | wp_step))
  exact h _ _ hx'.keeps
end PySem
namespace PySem.F
theorem entry_dict_pairs : entryFor table "dict.update.loop" = some Builtin.«dict.update.loop» := entryFor_of_fast (by kernel_rfl)
theorem plain_dict_pairs : plainId "dict.update.loop" = true := by decide +kernel
end PySem.F
namespace L3
open PySem PySem.Spec PyProof.Rows L2
def dPair (x : St3 × D) : D := .tup [dSt x.1, x.2]
theorem putL_new {α : Type} {t : St3} {y : α} {l : List (St3 × α)} (h : ¬ t ∈ l.map (·.1)) : putL l t y = l ++ [(t, y)] := by
  have look0 : ∀ {l : List (St3 × α)}, ¬ t ∈ l.map (·.1) → look l t = none := fun {l} h => by
    induction l with
    | nil => rfl
    | cons p l ih =>
      rw [List.map_cons, List.mem_cons] at h
      rw [look_neg (fun e => h (.inl e.symm))]
      exact ih fun z => h (.inr z)
  unfold putL
  rw [look0 h]; rfl
theorem take_new {α : Type} {l : List (St3 × α)} {i : Nat} {t : St3} {y : α} (hn : (l.map (·.1)).Nodup) (h : l[i]? = some (t, y)) : putL (l.take i) t y = l.take (i + 1) := by
  have hi : i < l.length := (List.getElem?_eq_some_iff.mp h).1
  have hm : ¬ t ∈ (l.take i).map (·.1) := fun hm => by
    rw [List.map_take] at hm
    obtain ⟨j, hj, e⟩ := List.mem_take_iff_getElem.mp hm
    have e2 : (l.map (·.1))[i]'(by rw [List.length_map]; exact hi) = t := by
      rw [List.getElem_map]
      have := List.getElem?_eq_getElem hi
      rw [this] at h
      rw [Option.some.inj h]
    have hj' : j < (l.map (·.1)).length := by omega
    have := (List.getElem_inj (h₀ := hj') (h₁ := by rw [List.length_map]; exact hi) hn).mp (e.trans e2.symm)
    omega
  rw [putL_new hm, List.take_add_one, h]; rfl
section
variable {X : Cx} {pins : List (Addr × Obj)} {σ : L2.St} {A : Around}
theorem pairs_loop {p it d : Addr} {vs : List V} {kvs : List (St3 × D)} {H0 : Hp} {R : Result → Shared → Prop} (hA : A.handled = none) (hu : A.in1.units + 8 < cLine) (hn : (kvs.map (·.1)).Nodup) (hp : ∀ x ∈ kvs, plainT x.2 = true) (hz : kvs.length ≤ sizeLine) (hd0 : H0 d = none) (hdi : it ≠ d)
    (hq0 : SqL X.K H0 p vs) (hv0 : IsL X.K H0 (kvs.map dPair) vs) (hR : ∀ s' H', Inv X pins σ H' s' → Same H0 H' → HasS X.prog X.w X.K H' d kvs → R (.ok (.ret .none)) s') :
    ∀ (k i : Nat) (s : Shared) (H : Hp), kvs.length - i = k → i ≤ kvs.length → Inv X pins σ H s → Same H0 H → HasS X.prog X.w X.K H d (kvs.take i) → s.heap.IsListIter it p i → FpOk X pins H it →
      codeAny (model X.prog X.w) A (.builtin "dict.update.loop" ⟨[.ref d, .ref it, rawInt i, .none], []⟩) R s := by
  intro k
  induction k with
  | zero =>
    intro i s H hk hi I e0 hS st fo
    obtain rfl : i = kvs.length := by omega
    obtain ⟨f0, f1, f2, f3, f4, f5⟩ := fo
    obtain ⟨its, rv, pl, hzl⟩ := I.list (e0.seq hq0)
    have hl : its.length = kvs.length := by rw [← rv.length, ← hv0.length, List.length_map]
    refine codeAny_builtin F.entry_dict_pairs ?_
    rw [Around.under_plainId F.plain_dict_pairs _]
    show wpAny _ A.in1 (pyNext (.ref it) >>= _) _ _ s
    refine wpAny_bind (wpAny_pyNext_list_end (show A.in1.handled = none from hA) st pl.isList (by simp [hl]) fun h' eb => ?_)
    have I1 : Inv X pins σ H { s with heap := h' } := I.turned (t' := s.toks) (fun b o hb e => eb b o hb e) f0 f1 f3 f4 f5
    show wpAny _ A.in1 (Builtin.Dict.addKeywords d [] >>= _) _ _ _
    refine wpAny_bind (wpAny_pure (wpAny_pure ?_))
    exact hR _ H I1 e0 (by rw [List.take_length] at hS; exact hS)
  | succ k ih =>
    intro i s H hk hi I e0 hS st fo
    have hlt : i < kvs.length := by omega
    obtain ⟨f0, f1, f2, f3, f4, f5⟩ := fo
    obtain ⟨its, rv, pl, hzl⟩ := I.list (e0.seq hq0)
    have hvl : vs.length = kvs.length := by rw [← hv0.length, List.length_map]
    have hx : vs[i]? = some (vs[i]'(by omega)) := List.getElem?_eq_getElem (by omega)
    generalize vs[i]'(by omega) = v at hx
    obtain ⟨u, hu1, ru⟩ := rv.get hx
    obtain ⟨d1, hd1, hd2⟩ := hv0.get' hx
    have hkv : kvs[i]? = some kvs[i] := List.getElem?_eq_getElem hlt
    rw [List.getElem?_map, hkv] at hd1
    obtain rfl : dPair kvs[i] = d1 := Option.some.inj hd1
    generalize hkk : kvs[i] = kv at *
    obtain ⟨t, dv⟩ := kv
    refine codeAny_builtin F.entry_dict_pairs ?_
    rw [Around.under_plainId F.plain_dict_pairs _]
    show wpAny _ A.in1 (pyNext (.ref it) >>= _) _ _ s
    refine wpAny_bind (wpAny_pyNext_list_item st pl.isList (x := u) (by simpa using hu1) fun h' st' sb => ?_)
    have I1 : Inv X pins σ H { s with heap := h' } := I.turned (t' := s.toks) (fun b o hb e => (sb.2 b hb).trans e) f0 f1 f3 f4 f5
    cases (hd2.mono e0) with
    | @tup q xs _ hq l =>
      obtain ⟨v1, v2, rfl, k1, k2⟩ := isL2 l
      obtain ⟨b, _, _, _, rfl, _⟩ := dSt_inv k1
      obtain rfl : u = Value.ref q := ru
      obtain ⟨its2, rv2, ⟨ob, o1, o2, n2, o3⟩, _⟩ := I1.tuple hq
      cases rv2 with
      | @cons _ w1 _ _ r1 rv2 =>
        cases rv2 with
        | @cons _ w2 _ _ r2 rv2 =>
          cases rv2
          cases (show w1 = Value.ref b from r1)
          have pz : plainT dv = true := hp (t, dv) (by rw [← hkk]; exact List.getElem_mem hlt)
          obtain ⟨obd, xsd, hxd, xod, kd⟩ := hS
          have dd := ds_of I1 hxd xod kd
          refine wpAny_bind (wpAny_holding (wpAny_bind (wpAny_tryCatch ?_)))
          unfold Builtin.Dict.pairItems
          refine wpAny_bind (wpAny_typeOf (T := "tuple") ⟨ob, o1, o2⟩ ?_)
          rw [if_pos (by decide)]
          refine wpAny_bind (wpAny_seqItems o1 o3 (wpAny_pure ?_))
          show wpAny _ A.in1 (holding [Value.ref b, w2] (dictSet d (.ref b) w2)) _ _ _
          have hlen : (xsd.map toN).length ≤ sizeLine := by rw [List.length_map, ← Paired.length kd, List.length_take]; omega
          refine wpAny_holding (wpAny_dictSet_heap (hsz := hlen) hu (nest_of I1 k1) dd fun h2 dd' hsb => ?_)
          rw [stored_toN] at dd'
          obtain ⟨qo, es, ep, hqo, g2, g3, g4, _, g5⟩ := dd'
          have new : DOb X.prog X.w d qo (storedH xsd t b w2) := by
            refine ⟨xod.sm, ?_, g2, es, ep, g3, ?_⟩
            · have e5 : ((storedH xsd t b w2).map toN).map (·.1) = ((storedH xsd t b w2).map (·.1)).map kS := by rw [List.map_map, List.map_map]; rfl
              rw [e5] at g5
              exact nodup_of_map g5
            · rw [g4, List.map_map]; rfl
          have I4 := d_write (t' := s.toks + (nestKind (mixKind X.prog X.w)).draws (kS t)) (ob := .ext (isAt d qo)) I1 (by rw [hxd]; exact True.intro) hsb ⟨qo, hqo⟩ (is_ok hqo)
          refine wpAny_pure ⟨plainId_quiet F.plain_dict_pairs _, ?_⟩
          have hS' : HasS X.prog X.w X.K (upd H d (.ext (isAt d qo))) d (kvs.take (i + 1)) := by
            rw [← take_new hn hkv]
            exact ⟨qo, _, upd_same, new, L2.Paired.imp' (fun _ _ z => z.updE hxd) (kd.put t k1 pz r2 k2)⟩
          refine ih (i + 1) _ _ (by omega) hlt I4 (fun c o ec => by rw [upd_ne (ne_of_none ec hd0)]; exact e0 _ _ ec) hS' ?_ ?_
          · exact st'.at fun o e => (hsb.2 it hdi).trans e
          · exact ⟨by rw [upd_ne hdi]; exact f0, f1, f2, f3, f4, f5⟩
theorem call_dictL (hc : X.calm = true) (hu : X.A.units + 64 < cLine) : CallR X (.type "dict") (fun xs H Q => ∃ (p : Addr) (vs : List V) (kvs : List (St3 × D)), xs = [.ref p] ∧ SqL X.K H p vs ∧ IsL X.K H (kvs.map dPair) vs ∧ (kvs.map (·.1)).Nodup ∧ (∀ x ∈ kvs, plainT x.2 = true) ∧ kvs.length ≤ sizeLine ∧
    ∀ l H', Same H H' → H l = none → HasS X.prog X.w X.K H' l kvs → Q (.ref l) H') := by
  intro pins s σ H xs us Q I r h
  obtain ⟨p, vs, kvs, rfl, hq, hv, hn, hp, hz, q⟩ := h
  obtain ⟨u, rfl, rx⟩ := vals1 r
  cases rx
  have hb := I.big
  have hfr := I.hok.fresh (Nat.le_refl s.heap.objs.size)
  refine callType_codes (Q₁ := fun obj s₁ => obj = .ref s.heap.objs.size ∧ s₁ = { s with heap := s.heap.push { cls := .type "dict", data := .dict #[] } }) F.kt_called_dict (F.kt_typeCall_dict_1 _) F.entry_dict_init (kt_code_dict_new _ ⟨rfl, rfl⟩) ?_
  rintro obj s₁ ⟨rfl, rfl⟩
  have new : DOb X.prog X.w s.heap.objs.size emptyD [] := ⟨by rw [beq_eq_false_iff_ne]; exact Nat.ne_of_gt hb, .nil, ⟨rfl, rfl, rfl⟩, #[], _, rfl, rfl⟩
  have I1 := I.laid (a := s.heap.objs.size) (o := .ext (isAt s.heap.objs.size emptyD)) (h' := s.heap.push emptyD) (t' := s.toks) (fun _ _ q => Heap.get?_push_of_some _ q) (Nat.le_refl _) (is_ok (Heap.get?_push_size _ rfl))
  have hS0 : HasS X.prog X.w X.K (upd H s.heap.objs.size (.ext (isAt s.heap.objs.size emptyD))) s.heap.objs.size [] := ⟨emptyD, [], upd_same, new, .nil⟩
  have dd := ds_of (kds := []) I1 upd_same new .nil
  refine ⟨dd.typeIs, F.args_dict_init_2 _ _, ?_⟩
  unfold Builtin.«dict.__init__»
  refine wpAny_bind ?_
  unfold Builtin.Dict.selfAndRest
  refine wpAny_bind (wpAny_notOrdered_dict dd.typeIs ?_)
  show wpAny _ _ (pure (s.heap.objs.size, [Value.ref p])) _ _ _
  refine wpAny_pure ?_
  show wpAny _ _ (Builtin.Dict.updateFrom "dict.__init__" s.heap.objs.size (.ref p) [] .none) _ _ _
  unfold Builtin.Dict.updateFrom
  have e1 : Same H (upd H s.heap.objs.size (.ext (isAt s.heap.objs.size emptyD))) := same_upd hfr
  obtain ⟨its, rv, pl, hzl⟩ := I1.list (e1.seq hq)
  obtain ⟨ol, nl, ol1, ol2, ol3, ol4⟩ := id pl
  refine wpAny_bind (wpAny_typeOf (T := "list") pl.isList.typeIs ?_)
  rw [if_pos (by decide)]
  refine wpAny_bind (askAttr_miss_list ol1 ol2 ol4 ol3 (show X.A.in1.in1.handled = none from I.ok.hd hc) fun h' tk hk => ?_)
  rw [if_pos (show (none : Option Value).isNone = true from rfl)]
  have I2 : Inv X pins σ (upd H s.heap.objs.size (.ext (isAt s.heap.objs.size emptyD))) { s with heap := h', toks := tk } := I1.kept (t' := tk) fun b o e => hk b o e
  obtain ⟨its2, rv2, pl2, hzl2⟩ := I2.list (e1.seq hq)
  refine wpAny_bind (wpAny_rule (wpAny_bind (wpAny_pyIter_list pl2.isList ?_)))
  have hsz : s.heap.objs.size < h'.objs.size := Heap.lt_size (hk s.heap.objs.size emptyD (Heap.get?_push_size _ rfl))
  have hfr2 := I2.hok.fresh (Nat.le_refl h'.objs.size)
  refine wpAny_pure ⟨plainId_quiet F.plain_dict_pairs _, ?_⟩
  refine pairs_loop (X := X) (pins := pins) (σ := σ) (H0 := H) (vs := vs) (kvs := kvs) (show X.A.in1.handled = none from I.ok.hd hc) (show X.A.units + 1 + 1 + 8 < cLine by omega) hn hp hz hfr (Nat.ne_of_gt hsz) hq hv
    (fun s' H' I' e' hS' => ⟨rfl, ⟨.ref s.heap.objs.size, H', I', rfl, q _ _ e' hfr hS'⟩⟩) kvs.length 0 _ _ (by omega) (Nat.zero_le _) (I2.kept (t' := tk) fun b o e => Heap.get?_push_of_some _ e) e1 (by rw [List.take_zero]; exact hS0) ⟨_, Heap.get?_push_size _ rfl, rfl, rfl⟩ (I2.fpOk (Nat.le_refl _) hfr2)
end
end L3
set_option Elab.async false
set_option linter.all false
set_option maxRecDepth 100000
namespace L3
open PySem PySem.Spec PyProof.Rows L2
def tLG (σ : L2.St) (H : Hp) (Ψ : Nat → Addr → Hp → V → Prop) (is : List Nat) : TE := fun σ' H1 Q => σ' = σ ∧ Same H H1 ∧ ∀ l vs H2, Same H1 H2 → H1 l = none → H2 l = some (.lst vs) → Paired (fun i v => Ψ i l H2 v) is vs → Q (.ref l) H2
section
variable {X : Cx} {σ σc : L2.St} {H : Hp} {scope : Scope} {cl : List (Str × Addr)} {N : List Str} {x : Str} {px pos : Pos} {elt iter : Expr} {ifs : List Expr} {n : Nat} {din dout : Nat → D} {ks : Nat → Bool} {Φ : Nat → Hp → Hp → V → Prop} {Ψ : Nat → Addr → Hp → V → Prop} {Post : L2.St → Hp → Prop}
theorem plg_comp (hc : X.calm = true) (t : Takes X σ scope cl N σc x) (hG : Gives X (.Name x px) iter σ H n din) (hn : n < sizeLine) (hS : Stays Ψ) (hΦ : ∀ i L H H' v vs, H L = some (.lst vs) → Same H H' → Φ i H H' v → Ψ i L H' v)
    (htest : ∀ (C : Addr) (s2 : Shared) (H2 : Hp) (fp : List Addr) (i : Nat) (v : V) (H3 : Hp), i < n → Same H H3 → Is X.K H3 (din i) v → CTests (cxComp X scope cl N C s2 H2 fp) ifs (σc.set 0 (some v)) H3 (ks i))
    (helt : ∀ (C : Addr) (s2 : Shared) (H2 : Hp) (fp : List Addr) (i : Nat) (v : V) (H3 : Hp), i < n → ks i = true → Same H H3 → Is X.K H3 (din i) v → PF2 (cxComp X scope cl N C s2 H2 fp) elt (σc.set 0 (some v)) H3 (Φ i))
    (hfs : ∀ x, foldedSetIterable iter X.env x = pure x := by intro _; rfl) : PE X (.ListComp elt [⟨.Name x px, iter, ifs, 0⟩] scope pos) (tLG σ H Ψ ((List.range n).filter ks)) := by
  intro pins s σ' H1 Q I ⟨hs, e1, q⟩
  subst hs
  obtain ⟨wi, hPI, hwi⟩ := hG
  rw [eval_ListComp]
  refine wpAny_comprehension_free (use := none) rfl hfs t.clos t.kind t.names (thn (hPI pins s σ' H1 (fun J H2 => Same H1 H2 ∧ Feeds X.K J H2 n din) I (hwi H1 _ e1 fun J H2 e2 fd => ⟨e2, fd⟩)) fun v s1 h1 => thn h1 fun itv s2 h2 => ?_)
  obtain ⟨it, fp, tn, J, H2, rfl, I2, T, st, fo, e2, fd⟩ := h2
  refine comp_blockG I2 hc t T st fo fd hn hS hΦ (fun C i v H3 hi e3 hv => htest C s2 H2 fp i v H3 hi ((e1.trans e2).trans e3) hv) (fun C i v H3 hi hk e3 hv => helt C s2 H2 fp i v H3 hi hk ((e1.trans e2).trans e3) hv) (RR := fun acc C => compPost (model X.prog X.w) X.A X.xe none (EP X pins σ' Q) acc C) ?_
  intro L C s' He vs m hC os bare un hok hm hCn e3 hLn hl hv
  refine ⟨m, hm, fun h' hs' => ?_⟩
  have I3 := comp_after I2 fo os bare un hok
  have I4 := comp_gone I3 (Nat.le_trans I2.sz hC) (Nat.ne_of_gt (Nat.lt_of_lt_of_le I2.lt hC)) (fun y c e z => by obtain ⟨w', o, ho, _⟩ := I2.cell y c e; exact absurd (Nat.lt_of_lt_of_le (Heap.lt_size ho) (z ▸ hC)) (Nat.lt_irrefl _))
    (fun p hp z => absurd (Nat.lt_of_lt_of_le (Heap.lt_size (I2.pin p hp).1) (z ▸ hC)) (Nat.lt_irrefl _)) hCn hs'
  exact ⟨.ref L, He, I4, rfl, q L vs He (e2.trans e3) (e2.free hLn) hl hv⟩
theorem pn1_compG (i : Nat) {y : Str} {py spos : Pos} (hN : X.N.Nodup) (hsw : swapsWith (.ListComp elt [⟨.Name x px, iter, ifs, 0⟩] scope pos) (some (.Name y py)) spos.line X.env = pure true)
    (hc : X.calm = true) (t : Takes X σ scope cl N σc x) (hG : Gives X (.Name x px) iter σ H n din) (hn : n < sizeLine) (hS : Stays Ψ) (hΦ : ∀ i L H H' v vs, H L = some (.lst vs) → Same H H' → Φ i H H' v → Ψ i L H' v)
    (htest : ∀ (C : Addr) (s2 : Shared) (H2 : Hp) (fp : List Addr) (i : Nat) (v : V) (H3 : Hp), i < n → Same H H3 → Is X.K H3 (din i) v → CTests (cxComp X scope cl N C s2 H2 fp) ifs (σc.set 0 (some v)) H3 (ks i))
    (helt : ∀ (C : Addr) (s2 : Shared) (H2 : Hp) (fp : List Addr) (i : Nat) (v : V) (H3 : Hp), i < n → ks i = true → Same H H3 → Is X.K H3 (din i) v → PF2 (cxComp X scope cl N C s2 H2 fp) elt (σc.set 0 (some v)) H3 (Φ i))
    (hP : ∀ l vs H', Same H H' → H l = none → H' l = some (.lst vs) → Paired (fun i v => Ψ i l H' v) ((List.range n).filter ks) vs → Post (σ.set i (some (.ref l))) H')
    (hi : X.N[i]? = some y := by rfl) (hy : Loc X.env.scope y := by first | exact Or.inl rfl | exact Or.inr rfl) (hf : X.fn y = true ∨ X.env.scope.names.lookup y = some .local := by first | exact .inl rfl | exact .inr rfl | assumption)
    (hfs : ∀ x, foldedSetIterable iter X.env x = pure x := by intro _; rfl) : PN1 X (.Assign [.Name y py] (.ListComp elt [⟨.Name x px, iter, ifs, 0⟩] scope pos) spos) σ H Post := by
  intro pins s σ' H1 D I ⟨hs, e1, q⟩
  subst hs
  obtain ⟨wi, hPI, hwi⟩ := hG
  rw [exec_Assign_Name_used _ _ _ _ hsw]
  refine wpAny_bind (wpAny_standAt (wpAny_bind ?_))
  show wpAny _ X.A (do let _ ← comprehension (.ListComp elt [⟨.Name x px, iter, ifs, 0⟩] scope pos) scope X.env _ (newList []) false (eval iter X.env) (some (assign (.Name y py) X.env))) _ _ s
  refine wpAny_bind (wpAny_mono (wpAny_comprehension_free (use := some (assign (.Name y py) X.env)) (Q := fun _ s' => SP X pins D .next s') rfl hfs t.clos t.kind t.names
    (thn (hPI pins s σ' H1 (fun J H2 => Same H1 H2 ∧ Feeds X.K J H2 n din) I (hwi H1 _ e1 fun J H2 e2 fd => ⟨e2, fd⟩)) fun v s1 h1 => thn h1 fun itv s2 h2 => ?_)) (fun _ s' hq => wpAny_pure (wpAny_pure hq)) fun _ _ e => e)
  obtain ⟨it, fp, tn, J, H2, rfl, I2, T, st, fo, e2, fd⟩ := h2
  refine comp_blockG I2 hc t T st fo fd hn hS hΦ (fun C i v H3 hi e3 hv => htest C s2 H2 fp i v H3 hi ((e1.trans e2).trans e3) hv) (fun C i v H3 hi hk e3 hv => helt C s2 H2 fp i v H3 hi hk ((e1.trans e2).trans e3) hv) (RR := fun acc C => compPost (model X.prog X.w) X.A X.xe (some (assign (.Name y py) X.env)) (fun _ s' => SP X pins D .next s') acc C) ?_
  intro L C s' He vs m hC os bare un hok hm hCn e3 hLn hl hv
  have hCL : C ≠ X.env.locals := Nat.ne_of_gt (Nat.lt_of_lt_of_le I2.lt hC)
  have hCc : ∀ x c, X.env.cells.lookup x = some c → c ≠ C := fun y c e z => by obtain ⟨w', o, ho, _⟩ := I2.cell y c e; exact absurd (Nat.lt_of_lt_of_le (Heap.lt_size ho) (z ▸ hC)) (Nat.lt_irrefl _)
  have I3 := comp_after I2 fo os bare un hok
  show wpAny _ X.A (assign (.Name y py) X.env (.ref L)) _ _ s'
  refine wpAny_assign_Name (store_ok2 (v := .ref L) I3 hN hi hy rfl (fun s5 I5 ⟨a, sb, ha⟩ => ?_) hf)
  have haC : C ≠ a := by
    rcases ha with rfl | ha
    · exact hCL
    · exact fun z => hCc _ _ ha z.symm
  refine ⟨m, hm.sameBut sb haC, fun h' hs' => ?_⟩
  have I6 := comp_gone I5 (Nat.le_trans I2.sz hC) hCL hCc (fun p hp z => absurd (Nat.lt_of_lt_of_le (Heap.lt_size (I2.pin p hp).1) (z ▸ hC)) (Nat.lt_irrefl _)) hCn hs'
  exact ⟨_, He, I6, q _ _ (e2.trans e3) (hP L vs He ((e1.trans e2).trans e3) ((e1.trans e2).free hLn) hl hv)⟩
theorem stays_tree {K : PySem.W.Frag} {dout : Nat → D} (hno : ∀ i, noL (dout i) = true) : Stays (fun i _ H v => Is K H (dout i) v) := ⟨fun i _ _ _ _ e h => h.mono e, fun i L H v xs ys hl h => h.updL hl (hno i)⟩
theorem paired_isL {K : PySem.W.Frag} {H : Hp} {dout : Nat → D} {is : List Nat} {vs : List V} (h : Paired (fun i v => Is K H (dout i) v) is vs) : IsL K H (is.map dout) vs := by
  induction h with
  | nil => exact .nil
  | cons h t ih => exact .cons h ih
theorem filt_all (n : Nat) : (List.range n).filter (fun _ => true) = List.range n := List.filter_eq_self.mpr fun _ _ => rfl
theorem pl_compN (hc : X.calm = true) (t : Takes X σ scope cl N σc x) (hG : Gives X (.Name x px) iter σ H n din) (hn : n < sizeLine) (hno : ∀ i, noL (dout i) = true)
    (helt : ∀ (C : Addr) (s2 : Shared) (H2 : Hp) (fp : List Addr) (i : Nat) (v : V) (H3 : Hp), i < n → Same H H3 → Is X.K H3 (din i) v → PD (cxComp X scope cl N C s2 H2 fp) elt (σc.set 0 (some v)) H3 (dout i))
    (hfs : ∀ x, foldedSetIterable iter X.env x = pure x := by intro _; rfl) : PL X (.ListComp elt [⟨.Name x px, iter, [], 0⟩] scope pos) σ H ((List.range n).map dout) :=
  PE.imp (plg_comp (ks := fun _ => true) (Φ := fun i _ H2 v => Is X.K H2 (dout i) v) (Ψ := fun i _ H2 v => Is X.K H2 (dout i) v) hc t hG hn (stays_tree hno) (fun _ _ _ _ _ _ _ _ h => h) (fun _ _ _ _ _ _ _ _ _ _ => .inl ⟨rfl, rfl⟩) (fun C s2 H2 fp i v H3 hi _ e hv => helt C s2 H2 fp i v H3 hi e hv) hfs)
    fun σ' H1 Q ⟨hs, e1, q⟩ => ⟨hs, e1, fun l vs H2 e2 hn hl hv => q l vs H2 e2 hn hl (by rw [filt_all] at hv; exact paired_isL hv)⟩
end
def keyAt {α : Type} (l : List (St3 × α)) (i : Nat) : St3 := ((l.map (·.1))[i]?).getD ((0, 0), (0, 0), (0, 0))
section
variable {X : Cx} {σ : L2.St} {H : Hp} {iter : Expr} {tg : Expr} {a : Addr} {kds : List (St3 × D)}
theorem gives_ds (he : PD X iter σ H (.adr a)) (hS : HasS X.prog X.w X.K H a kds) : Gives X tg iter σ H kds.length (fun i => dSt (keyAt kds i)) := by
  refine ⟨_, pi_ds he, fun H1 R e1 q => ⟨rfl, e1, fun v H2 e2 hv => ?_⟩⟩
  cases hv
  obtain ⟨ob, hO⟩ := hS
  obtain ⟨xs, hH, xo, kd⟩ := hO.mono (e1.trans e2)
  obtain ⟨es, ep, hes, hel⟩ := xo.es
  have hsz : es.size = kds.length := by rw [Paired.length kd, ← List.length_map (f := entS X.prog X.w), ← hel, Array.length_toList]
  refine ⟨a, ob, xs, es, ep, rfl, hH, xo, hes, q _ _ e2 fun H3 e3 => ⟨fun i hi => ?_, ⟨Nat.le_of_eq hsz, e3 _ _ hH⟩⟩⟩
  have hi3 : i < es.size := by omega
  have hl3 : i < xs.length := by rw [← Paired.length kd]; exact hi
  have hkey : es[i] = entS X.prog X.w xs[i] := by
    have e1 : es.toList[i]? = some es[i] := by rw [Array.getElem?_toList, Array.getElem?_eq_getElem hi3]
    rw [hel, List.getElem?_map, List.getElem?_eq_getElem hl3] at e1
    exact (Option.some.inj e1).symm
  refine ⟨⟨hi3, e3 _ _ hH, fun _ => ⟨xs[i].2.1, by rw [hkey]; rfl⟩⟩, fun y H' ⟨ee, h', ry⟩ => ⟨ee, ?_⟩⟩
  rw [hkey] at ry
  have ey : y = .ref xs[i].2.1 := by
    cases y with
    | ref p => exact congrArg V.ref (Value.ref.inj (show Value.ref xs[i].2.1 = Value.ref p from ry)).symm
    | _ => first | (obtain ⟨_, z⟩ := ry; cases z) | cases ry
  subst ey
  obtain ⟨⟨t, d⟩, hk1, hk2⟩ := paired_get kd (List.getElem?_eq_getElem hl3)
  have ek : keyAt kds i = t := by unfold keyAt; rw [List.getElem?_map, hk1]; rfl
  show Is X.K H3 (dSt (keyAt kds i)) _
  rw [ek]
  exact hk2.2.1.mono e3
end
section
variable {X : Cx} {σ : L2.St} {H : Hp} {e a b o : Expr} {p pos : Pos} {kvs kds : List (St3 × D)} {t : St3} {l : Addr}
theorem pf_dict (hc : X.calm = true) (hu : X.A.units + 64 < cLine) (hm : X.mg "dict" = none) (ha : PL X a σ H (kvs.map dPair)) (hn : (kvs.map (·.1)).Nodup) (hp : ∀ x ∈ kvs, plainT x.2 = true) (hz : kvs.length ≤ sizeLine) (hg : Gl X "dict" := by rfl) (he : starEach [a] X.env = (false, eval a X.env) :: starEach [] X.env := by rfl) :
    PF2 X (.Call (.Name "dict" p) [a] [] pos) σ H (fun H1 H2 v => ∃ l, v = .ref l ∧ H1 l = none ∧ HasS X.prog X.w X.K H2 l kvs) :=
  PE.imp (pe_callTy (call_dictL hc hu) hg hm (by decide +kernel) (pda_cons ha.pd pda_nil he) (by decide) (by decide) he rfl) fun σ' H1 Q ⟨hs, e1, q⟩ => ⟨hs, e1, fun vs H2 e2 hvs => by
    obtain ⟨v0, rfl, h0⟩ := isL1 hvs
    cases h0 with
    | lst hq l => exact ⟨_, _, kvs, rfl, hq, l, hn, hp, hz, fun l' H3 e3 hn3 hS => q _ _ (e2.trans e3) ⟨l', rfl, e2.free hn3, hS⟩⟩⟩
theorem op_notinS (hu : X.A.units + 64 < cLine) : OpR X (compareOp .NotIn) (fun x y H Q => ∃ a b kds t, y = .ref a ∧ x = .ref b ∧ HasS X.prog X.w X.K H a kds ∧ Is X.K H (dSt t) (.ref b) ∧ Q (.bl (!(look kds t).isSome)) H) := by
  intro pins s σ H x y v u Q I rx ry h
  obtain ⟨a, b, kds, t, rfl, rfl, ⟨ob, xs, hx, xo, kd⟩, hb, q⟩ := h
  cases (show v = Value.ref b from rx)
  cases (show u = Value.ref a from ry)
  have dd := ds_of I hx xo kd
  refine wpAny_notIn_heap (room_nest hu) (nest_of I hb) xo.sm dd ?_
  refine ⟨.bl _, H, I.tok _, ?_, q⟩
  show Value.bool _ = Value.bool _
  rw [atKey_toN]
  cases hk : look kds t with
  | none => rw [kd.none t hk]; rfl
  | some d => obtain ⟨p, hp, _⟩ := kd.some t hk; rw [hp]; rfl
theorem pdt_notinS (hu : X.A.units + 64 < cLine) (ha : PD X a σ H (dSt t)) (hb : PD X b σ H (.adr l)) (hS : HasS X.prog X.w X.K H l kds) (hm : behindInMarks .NotIn b = false := by with_unfolding_all rfl) : PDT X (.Compare a [.NotIn] [b] pos) σ H (!(look kds t).isSome) :=
  pdt_cmp2 (op_notinS hu) ha hb hm fun x' y' H1 Q e1 hx hy q => by
    obtain ⟨b', _, _, _, rfl, _⟩ := dSt_inv hx
    cases hy
    exact ⟨l, b', kds, t, rfl, rfl, hS.mono e1, hx, q _ _ (Same.refl _) (.bl _)⟩
end
end L3
set_option Elab.async false
set_option linter.all false
set_option maxRecDepth 100000
namespace L3
open PySem PySem.Spec PyProof.Rows L2
theorem preSum_list : ∀ (is : List Int) (n : Nat), preSum (fun i => (is[i]?).getD 0) n = (is.take n).sum
  | is, 0 => by simp [preSum]
  | is, n + 1 => by
    rw [preSum, preSum_list is n, List.take_add_one, List.sum_append]
    cases is[n]? <;> simp
section
variable {X : Cx} {σ : L2.St} {H : Hp} {a : Expr} {p pos : Pos}
theorem call_sum : CallR X (.builtin "sum") (fun xs H Q => ∃ (p : Addr) (is : List Int), xs = [.ref p] ∧ X.calm = true ∧ SqL X.K H p (is.map V.int) ∧ Q (.int is.sum) H) := by
  intro pins s σ H xs us Q I r h
  obtain ⟨p, is, rfl, hc, hq, q⟩ := h
  obtain ⟨u, rfl, rx⟩ := vals1 r
  cases rx
  obtain ⟨its, rv, pl, hz⟩ := I.list hq
  have hI := pl.isList
  have hlt : p < s.heap.objs.size := by obtain ⟨_, e, _⟩ := hI; exact Heap.lt_size e
  have hlen : its.length = is.length := by rw [← rv.length, List.length_map]
  refine call_sum_walkG (wpAny_pyIter_list hI ⟨s.heap.objs.size, [s.heap.objs.size, p], [s.heap.objs.size], _, _, _, fun i => (is[i]?).getD 0, rfl, Walks.list (A := X.A.in1) (I.ok.hd hc) _ p (Nat.ne_of_lt hlt) _, ⟨⟨_, Heap.get?_push_size _ rfl, rfl, rfl⟩, hI.push _⟩, ?_, fun i v hP => ?_, fun h' tk t' hk => ?_⟩)
  · intro b hb
    have hz : (s.heap.push { cls := .type "list_iterator", data := .fields #[.ref p, .int 0 0] }).objs.size = s.heap.objs.size + 1 := Heap.size_push ..
    show b < (s.heap.push { cls := .type "list_iterator", data := .fields #[.ref p, .int 0 0] }).objs.size
    rw [hz]
    simp only [List.mem_cons, List.not_mem_nil, or_false] at hb
    rcases hb with e | e
    · rw [e]; exact Nat.lt_succ_self _
    · rw [e]; exact Nat.lt_succ_of_lt hlt
  · have hP' : its[i]? = some v := by simpa using hP
    have hi : i < is.length := by rw [← hlen]; exact (List.getElem?_eq_some_iff.mp hP').1
    have e1 : (is.map V.int)[i]? = some (.int is[i]) := by rw [List.getElem?_map, List.getElem?_eq_getElem hi]; rfl
    obtain ⟨u, hu, ru⟩ := rv.get e1
    rw [hP'] at hu
    cases hu
    obtain ⟨t, rfl⟩ := ru
    exact ⟨t, by simp [hi]⟩
  · have e : preSum (fun i => (is[i]?).getD 0) its.toArray.size = is.sum := by rw [preSum_list, List.size_toArray, hlen, List.take_length]
    rw [e]
    exact ⟨.int _, H, I.kept (t' := tk) fun b o eo => hk b o (fun hm => Nat.lt_irrefl _ (List.mem_singleton.mp hm ▸ Heap.lt_size eo)) (Heap.get?_push_of_some _ eo), ⟨t', rfl⟩, q⟩
theorem isL_ints {K : PySem.W.Frag} {H : Hp} : ∀ {is : List Int} {vs : List V}, IsL K H (is.map D.int) vs → vs = is.map V.int
  | [], _, h => by cases h; rfl
  | i :: is, _, h => by
    cases h with
    | cons h1 l => cases h1; rw [isL_ints l]; rfl
theorem ints_isL {K : PySem.W.Frag} {H : Hp} : ∀ is : List Int, IsL K H (is.map D.int) (is.map V.int)
  | [] => .nil
  | i :: is => .cons (.int i) (ints_isL is)
theorem pd_sum {is : List Int} (hc : X.calm = true) (hm : X.mg "sum" = none) (ha : PD X a σ H (.lst (is.map D.int))) (hg : Gl X "sum" := by rfl) (he : starEach [a] X.env = (false, eval a X.env) :: starEach [] X.env := by rfl) : PD X (.Call (.Name "sum" p) [a] [] pos) σ H (.int is.sum) :=
  pd_B call_sum hm (by decide +kernel) (pda_cons ha pda_nil he) (fun vs H1 Q e1 hvs q => by
    obtain ⟨v0, rfl, h0⟩ := isL1 hvs
    cases h0 with
    | lst hq l =>
      obtain rfl := isL_ints l
      exact ⟨_, is, rfl, hc, hq, q _ _ (Same.refl _) (.int _)⟩) hg (by decide) (by decide) he rfl
end
section
variable {X : Cx} {pos : Pos} {body : List Stmt} {iter : Expr} {ds : List D} {Pre Nx : L2.St → Hp → Prop}
def tTurnLv (K : PySem.W.Frag) (n : Nat) (ds : List D) (P : Addr → List V → Nat → L2.St → Hp → Prop) : TS := fun E σ' H1 => ∃ l vs i d v σ1, ds[i]? = some d ∧ Is K H1 d v ∧ P l vs i σ1 H1 ∧ σ' = List.set σ1 n (some v) ∧ ∀ σ2 H2, P l vs (i + 1) σ2 H2 → E.nx σ2 H2
theorem pq1_forLv (n : Nat) {x : Str} {px : Pos} (P : Addr → List V → Nat → L2.St → Hp → Prop) (hp : PassesOwn (model X.prog X.w) X.A X.env X.xe) (hc : X.calm = true) (hN : X.N.Nodup) (he : ∀ σ H, Pre σ H → PD X iter σ H (.lst ds))
    (h0 : ∀ σ H l vs H', Pre σ H → Same H H' → SqL X.K H' l vs → IsL X.K H' ds vs → P l vs 0 σ H') (hk : ∀ l vs i σ H, P l vs i σ H → SqL X.K H l vs ∧ IsL X.K H ds vs)
    (hs : ∀ l vs i d, ds[i]? = some d → PQ X body (fun σ' H' => ∃ σ1 v, σ' = List.set σ1 n (some v) ∧ Is X.K H' d v ∧ P l vs i σ1 H') (P l vs (i + 1))) (hd : ∀ l vs σ H, P l vs ds.length σ H → Nx σ H)
    (hi : X.N[n]? = some x := by rfl) (hx : Loc X.env.scope x := by first | exact Or.inl rfl | exact Or.inr rfl)
    (hf : X.fn x = true ∨ X.env.scope.names.lookup x = some .local := by first | exact .inl rfl | exact .inr rfl | assumption) (hfs : ∀ x, foldedSetIterable iter X.env x = pure x := by intro _; rfl) :
    PQ1 X (.For (.Name x px) iter body [] pos) Pre Nx := fun pins s σ H D I ⟨pre, q⟩ => by
  have hb : PSs X body (tTurnLv X.K n ds P) := fun pins s σ' H1 D I ⟨l, vs, i, d, v, σ1, hk, hv, p, hs', q1⟩ => hs l vs i d hk pins s σ' H1 D I ⟨⟨σ1, v, hs', hv, p⟩, q1⟩
  refine ps_for hp hc (pi_list (he σ H pre)) (pg_name hN hi hx hf) hb hfs pins s σ H D I ⟨rfl, Same.refl _, fun v H2 e2 hv => ?_⟩
  cases hv with
  | @lst l vs _ hq hl =>
    refine ⟨l, rfl, ⟨_, hq⟩, for_list (K := X.K) (xs := vs) (fun i σ1 H3 => P l vs i σ1 H3) (h0 σ H l vs H2 pre e2 hq hl) (fun i σ1 H3 _ p => (hk l vs i σ1 H3 p).1) (fun i y σ1 H3 hy p => ?_) (fun σ1 H3 p => ?_)⟩
    · obtain ⟨d, hd1, hd2⟩ := (hk l vs i σ1 H3 p).2.get' hy
      exact ⟨l, vs, i, d, y, σ1, hd1, hd2, p, rfl, fun σ2 H4 p4 => p4⟩
    · rw [← hl.length] at p
      exact q σ1 H3 (hd l vs σ1 H3 p)
end
def Itd (lo : Int) (n : Nat) : It := ⟨fun i _ => i < n, fun i H x H' => H' = H ∧ x = .int (lo - i), fun i _ => n ≤ i⟩
theorem turn_rangeD {P : Program} {w : World} {K : PySem.W.Frag} {tg : Expr} (it : Addr) (lo : Int) (n : Nat) : Turn P w K tg (Itd lo n) [it] it (fun i h => IsRangeIter h it (lo + (i : Nat) * (-1)) ((n : Int) - (i : Nat)) (-1)) where
  mem := List.mem_singleton.mpr rfl
  obj := fun i h st b hb => by
    obtain rfl := List.mem_singleton.mp hb
    exact ⟨_, st, fun v z => by
      have z' : Data.fields _ = Data.cell v := z
      cases z'⟩
  keep := fun i h h' st k => k it (List.mem_singleton.mpr rfl) _ st
  item := by
    intro X hP hw hK hc i pins s σ H E I hf st hg
    subst hP hw hK
    obtain ⟨f0, f1, f2, f3, f4, f5⟩ := hf it (List.mem_singleton.mpr rfl)
    have W := Walks.range (prog := X.prog) (w := X.w) (I.ok.hd hc) it lo (-1) n
    refine W.item i s _ _ hg st fun v h' tk hv st' kk => ?_
    obtain ⟨t, rfl⟩ := hv
    have I1 : Inv X pins σ H { s with heap := h', toks := tk } := I.turned (fun b o hb e => kk b o (fun z => hb (List.mem_singleton.mp z)) e) f0 f1 f3 f4 f5
    refine ⟨_, rfl, go_of (s := { s with heap := h', toks := tk }) (n := "range_iterator") st' rfl rfl (by decide) ⟨.int (lo - i), H, I1, ⟨t, ?_⟩, ⟨rfl, rfl⟩, st', fun b hb => (hf b hb).1⟩⟩
    rw [show lo + (i : Int) * -1 = lo - i by omega]
  done := by
    intro X hP hw hK hc i pins s σ H E I hf st hg
    subst hP hw hK
    obtain ⟨f0, f1, f2, f3, f4, f5⟩ := hf it (List.mem_singleton.mpr rfl)
    exact wpAny_pyNext_range_end (I.ok.hd hc) st (by have : n ≤ i := hg; omega) fun h' eb => ⟨rfl, I.turned (t' := s.toks) (fun b o hb e => eb b o hb e) f0 f1 f3 f4 f5⟩
  self := fun _ _ _ _ _ st h => wpAny_pyIter_rangeiter st h
theorem rangeSize_down (a b : Int) : Builtin.Range.rangeSize a b (-1) = if a > b then a - b else 0 := by
  unfold Builtin.Range.rangeSize
  simp only [show ¬ ((-1 : Int) > 0) by decide, if_false, Int.neg_neg, Int.ediv_one]
  split <;> omega
theorem small_down {a b : Int} (ha : -(2 ^ 62) ≤ a) (ha' : a < 2 ^ 62) (hb : -(2 ^ 62) ≤ b) (hb' : b < 2 ^ 62) : Builtin.Range.small a b (-1) = true := by
  unfold Builtin.Range.small
  rw [rangeSize_down]
  simp only [Builtin.Range.rangeFitsLong, Bool.and_eq_true, Bool.or_eq_true, decide_eq_true_eq, beq_iff_eq, show ¬ ((-1 : Int) > 0) by decide, if_false]
  split <;> omega
section
variable {X : Cx} {tg : Expr}
def iRng3 (ta : TA) : TI := fun σ H R => ta σ H fun vs H1 => ∃ i j : Int, vs = [.int i, .int j, .int (-1)] ∧ (-(2 ^ 62) ≤ i ∧ i < 2 ^ 62 ∧ -(2 ^ 62) ≤ j ∧ j < 2 ^ 62) ∧ R (Itd i (i - j).toNat) H1
theorem pi_range3 {a b c : Expr} {ta : TA} {p pos : Pos} (hg : Gl X "range") (hm : X.mg "range" = none) (ha : PA X [a, b, c] ta) (hs : starEach [a, b, c] X.env = [(false, eval a X.env), (false, eval b X.env), (false, eval c X.env)] := by rfl)
    (hs2 : starEach [b, c] X.env = [(false, eval b X.env), (false, eval c X.env)] := by rfl) :
    PI X tg (.Call (.Name "range" p) [a, b, c] [] pos) (iRng3 ta) := by
  intro pins s σ H R I h
  refine Call_ (ld_blt I hg hm boot_range (PyProof.Rows.callWith_type1 (thn (ha pos pins s σ H _ I h) fun us s1 ⟨vs, H1, I1, r1, q1⟩ => ?_) (by rw [hs, hs2]) (by rw [hs2]; rfl)))
  obtain ⟨i, j, e, ⟨q1, q2, q3, q4⟩, q⟩ := q1
  subst e
  cases r1 with
  | cons r rr =>
    cases rr with
    | cons r' rr =>
      cases rr with
      | cons r'' rr =>
        cases rr
        obtain ⟨t, rfl⟩ := r
        obtain ⟨t', rfl⟩ := r'
        obtain ⟨t'', rfl⟩ := r''
        refine call_range_3 (by decide) ?_ (.inl (PyProof.noPylong_small (by omega)))
        refine wpAny_pyIter_range (IsRange.new ..) (small_down q1 q2 q3 q4) ?_
        generalize hob : ({ cls := .type "range", data := .fields #[.int i t, .int j t', .int (-1) t''] } : Obj) = ob
        have I2 : Inv X pins σ H1 { s1 with heap := s1.heap.push ob, toks := s1.toks } := I1.kept fun b o e => Heap.get?_push_of_some _ e
        refine ⟨(s1.heap.push ob).objs.size, [(s1.heap.push ob).objs.size], _, _, H1, rfl, I2.kept (t' := s1.toks) fun b o e => Heap.get?_push_of_some _ e, turn_rangeD _ i (i - j).toNat, ?_, fun b hb => ?_, q⟩
        · have e1 : i + ((0 : Nat) : Int) * (-1) = i := by simp
          have e2 : (((i - j).toNat : Nat) : Int) - ((0 : Nat) : Int) = Builtin.Range.rangeSize i j (-1) := by rw [rangeSize_down]; split <;> omega
          show IsRangeIter _ _ (i + ((0 : Nat) : Int) * (-1)) ((((i - j).toNat : Nat) : Int) - ((0 : Nat) : Int)) (-1)
          rw [e1, e2]
          exact Heap.get?_push_size _ rfl
        · obtain rfl := List.mem_singleton.mp hb
          exact I2.fpOk (Nat.le_refl _) (I2.hok.fresh (Nat.le_refl _))
end
end L3
set_option Elab.async false
set_option linter.all false
set_option maxRecDepth 100000
namespace L2
open PySem PySem.Spec PyProof.Rows
section
variable {X : Cx} {pins : List (Addr × Obj)} {σ : St} {H : Hp} {s : Shared} {h' : Heap}
theorem Inv.turned2 {t' : Nat} {fp : List Addr} (I : Inv X pins σ H s) (k : ∀ b o, b ∉ fp → s.heap.get? b = some o → h'.get? b = some o) (hf : ∀ b ∈ fp, FpOk X pins H b) : Inv X pins σ H { s with heap := h', toks := t' } := by
  have nit : ∀ b u, H b = some u → b ∉ fp := fun b u e z => by rw [(hf b z).1] at e; cases e
  refine I.step (g' := s.gens) (d' := s.drawn) (ch := fp) (fun b hb => ?_) (fun b o _ _ hc e _ => k b o hc e) (fun b o _ _ hc e _ => ⟨o.slots, k b o hc e⟩) (fun _ _ _ _ n => n)
    (fun b o hc e => ⟨o, k b o hc e⟩) (fun _ _ e => e) (fun _ _ _ e => e) (fun b ps e => ⟨#[], by rw [e]; simp⟩) (fun m hm => ?_) (fun b u e => ?_) I.bare
  · obtain ⟨f0, f1, f2, f3, f4, f5⟩ := hf b hb
    exact ⟨f3, f1, f4, f5⟩
  · obtain ⟨o, es, ep, ho, r⟩ := hm
    exact ⟨o, es, ep, k _ o (fun z => (hf _ z).2.1 rfl) ho, r⟩
  · refine (I.hok b u e).stay (fun c v hc q => k c v ?_ q) (fun _ q => q) fun _ _ q => q
    rcases hc with z | z
    · rw [z]; exact nit b u e
    · exact nit c _ z
end
end L2
namespace L3
open PySem PySem.Spec PyProof.Rows L2
def Ite (a : Addr) (vs : List V) : It := ⟨fun i H => i < vs.length ∧ H a = some (.lst vs), fun i H v H' => ∃ p x, H p = none ∧ vs[i]? = some x ∧ v = .ref p ∧ H' = upd H p (.tup [.int i, x]), fun i H => vs.length ≤ i ∧ H a = some (.lst vs)⟩
theorem turn_enum {P : Program} {w : World} {K : PySem.W.Frag} {elts : List Expr} {x1 : Nat} {tp : Pos} (a e it : Addr) (vs : List V) (hne : e ≠ it) : Turn P w K (.Tuple elts x1 tp) (Ite a vs) [e, it] e (fun i h => (∃ old, IsEnum h e it i old) ∧ h.IsListIter it a i) where
  mem := List.mem_cons_self
  obj := fun i h st b hb => by
    obtain ⟨⟨old, he⟩, o, e1, c, d⟩ := st
    simp only [List.mem_cons, List.not_mem_nil, or_false] at hb
    rcases hb with rfl | rfl
    · exact ⟨_, he, fun v z => by
        have z' : Data.fields _ = Data.cell v := z
        cases z'⟩
    · exact ⟨o, e1, fun v z => by rw [d] at z; cases z⟩
  keep := fun i h h' st k => by
    obtain ⟨⟨old, he⟩, hi⟩ := st
    exact ⟨⟨old, k e List.mem_cons_self _ he⟩, hi.at fun o e => k it (List.mem_cons_of_mem _ List.mem_cons_self) o e⟩
  item := by
    intro X hP hw hK hc i pins s σ H E I hf st hg
    subst hP hw hK
    obtain ⟨hlt, hH⟩ := hg
    obtain ⟨⟨old, he⟩, hit⟩ := st
    obtain ⟨z, its, n, r, ea⟩ := (show ObjOk X.prog X.w H s.heap a (.lst vs) from I.hok a _ hH)
    have hx : vs[i]? = some vs[i] := List.getElem?_eq_getElem hlt
    obtain ⟨u, hu, ru⟩ := r.get hx
    have hl : s.heap.IsList a its.toArray := ⟨_, ea, rfl, n, rfl⟩
    refine wpAny_pyNext_enum_item he hit hl (x := u) (by simpa using hu) hne fun h₁ heo hit₁ ht₁ hz₁ hk₁ => ?_
    refine ⟨_, rfl, wpAny_letOwnedTupleGo_enum heo fun h₂ he₂ hs₂ => ?_⟩
    replace hs₂ : Heap.SameBut e h₁ h₂ := hs₂
    obtain ⟨oi, hoi, _⟩ := id hit
    have heH : e < s.heap.objs.size := Heap.lt_size he
    have hiH : it < s.heap.objs.size := Heap.lt_size hoi
    have ht₂ : h₂.get? s.heap.objs.size = some { cls := .type "tuple", data := .seq #[.int i s.toks, u] } := (hs₂.2 _ (Nat.ne_of_gt heH)).trans ht₁
    have hfr := I.hok.fresh (Nat.le_refl s.heap.objs.size)
    have I1 := I.laid (a := s.heap.objs.size) (o := .tup [.int i, vs[i]]) (h' := s.heap.push { cls := .type "tuple", data := .seq #[.int i s.toks, u] }) (t' := s.toks + 1) (fun _ _ q => Heap.get?_push_of_some _ q) (Nat.le_refl _)
      ⟨(by show 2 ≤ sizeLine; decide), [.int i s.toks, u], .cons ⟨_, rfl⟩ (.cons ru .nil), TupO.new _ _⟩
    have hfp : ∀ b ∈ [e, it], b < s.heap.objs.size := fun b hb => by
      simp only [List.mem_cons, List.not_mem_nil, or_false] at hb
      rcases hb with e1 | e1
      · rw [e1]; exact heH
      · rw [e1]; exact hiH
    have hf1 : ∀ b ∈ [e, it], FpOk X pins (upd H s.heap.objs.size (.tup [.int i, vs[i]])) b := fun b hb => ⟨by rw [upd_ne (Nat.ne_of_lt (hfp b hb))]; exact (hf b hb).1, (hf b hb).2⟩
    have I2 : Inv X pins σ (upd H s.heap.objs.size (.tup [.int i, vs[i]])) { s with heap := h₂, toks := s.toks + 1 } := Inv.turned2 (s := { s with heap := s.heap.push { cls := .type "tuple", data := .seq #[.int i s.toks, u] }, toks := s.toks + 1 }) (t' := s.toks + 1) (h' := h₂) I1 (fun b o hb eo => by
      have hbe : b ≠ e := fun z => hb (by rw [z]; exact List.mem_cons_self)
      have hbi : b ≠ it := fun z => hb (by rw [z]; exact List.mem_cons_of_mem _ List.mem_cons_self)
      rcases Heap.get?_push_cases (show (s.heap.push { cls := .type "tuple", data := .seq #[.int i s.toks, u] }).get? b = some o from eo) with ⟨e1, e2⟩ | e1
      · subst e1; subst e2; exact ht₂
      · exact (hs₂.2 b hbe).trans (hk₁ b o hbe hbi e1)) hf1
    refine ⟨.ref s.heap.objs.size, _, I2, rfl, ⟨s.heap.objs.size, vs[i], hfr, hx, rfl, rfl⟩, ⟨⟨u, ?_⟩, ?_⟩, fun b hb => (hf1 b hb).1⟩
    · have : ((i + 1 : Nat) : Int) = (i : Int) + 1 := by omega
      rw [this]; exact he₂
    · exact hit₁.at fun o q => (hs₂.2 it (Ne.symm hne)).trans q
  done := by
    intro X hP hw hK hc i pins s σ H E I hf st hg
    subst hP hw hK
    obtain ⟨hle, hH⟩ := hg
    obtain ⟨⟨old, he⟩, hit⟩ := st
    obtain ⟨z, its, n, r, ea⟩ := (show ObjOk X.prog X.w H s.heap a (.lst vs) from I.hok a _ hH)
    have hl : s.heap.IsList a its.toArray := ⟨_, ea, rfl, n, rfl⟩
    obtain ⟨f0, f1, f2, f3, f4, f5⟩ := hf it (List.mem_cons_of_mem _ List.mem_cons_self)
    have hlen := r.length
    exact wpAny_pyNext_enum_end (I.ok.hd hc) he hit hl (by simp; omega) fun h' eb => ⟨rfl, I.turned (t' := s.toks) (fun b o hb e => eb b o hb e) f0 f1 f3 f4 f5⟩
  self := fun _ _ _ _ _ st h => by
    obtain ⟨⟨old, he⟩, _⟩ := st
    exact wpAny_pyIter_enum he h
section
variable {X : Cx} {elts : List Expr} {x1 : Nat} {tp : Pos}
def iEnum (ta : TA) : TI := fun σ H R => ta σ H fun vs H1 => ∃ a xs, vs = [.ref a] ∧ H1 a = some (.lst xs) ∧ R (Ite a xs) H1
theorem pi_enum {a : Expr} {ta : TA} {p pos : Pos} (hg : Gl X "enumerate") (hm : X.mg "enumerate" = none) (ha : PA X [a] ta) (hs : starEach [a] X.env = [(false, eval a X.env)] := by rfl) : PI X (.Tuple elts x1 tp) (.Call (.Name "enumerate" p) [a] [] pos) (iEnum ta) := by
  intro pins s σ H R I h
  refine Call_ (ld_blt I hg hm (by decide +kernel) (PyProof.Rows.callWith_type1 (T := "enumerate") (thn (ha pos pins s σ H _ I h) fun us s1 ⟨vs, H1, I1, r1, q1⟩ => ?_) hs rfl))
  obtain ⟨a, xs, e, hH, q⟩ := q1
  subst e
  cases r1 with
  | cons r rr =>
    cases rr
    cases r
    obtain ⟨z, its, n, rv, ea⟩ := (show ObjOk X.prog X.w H1 s1.heap a (.lst xs) from I1.hok a _ hH)
    refine call_enumerate_1 ea fun h' he hit hz hk => ?_
    have I2 : Inv X pins σ H1 { s1 with heap := h' } := I1.kept (t' := s1.toks) fun b o e => hk b o e
    refine wpAny_pyIter_enum he ?_
    refine ⟨s1.heap.objs.size + 1, [s1.heap.objs.size + 1, s1.heap.objs.size], _, _, H1, rfl, I2, turn_enum a _ _ xs (Nat.succ_ne_self _), ⟨⟨.none, he⟩, hit⟩, fun b hb => ?_, q⟩
    simp only [List.mem_cons, List.not_mem_nil, or_false] at hb
    have hb' : s1.heap.objs.size ≤ b := by
      rcases hb with e1 | e1
      · rw [e1]; exact Nat.le_succ _
      · rw [e1]; exact Nat.le_refl _
    exact I1.fpOk hb' (I1.hok.fresh hb')
end
end L3
set_option Elab.async false
set_option linter.all false
set_option maxRecDepth 100000
namespace L3
open PySem PySem.Spec PyProof.Rows L2
def PAF (X : Cx) (es : List Expr) (σ : L2.St) (H : Hp) (Ξ : Hp → Hp → List V → Prop) : Prop := PA X es (fun σ' H1 Q => σ' = σ ∧ Same H H1 ∧ ∀ vs H2, Same H1 H2 → Ξ H1 H2 vs → Q vs H2)
def spG (R : Hp → List V → (Hp → Hp → V → Prop) → Prop) : Sp := fun vs H Q _ => ∃ Φ, R H vs Φ ∧ ∀ v H', Same H H' → Φ H H' v → Q v H'
def DoesG (P : Program) (w : World) (K : PySem.W.Frag) (mg : Str → Option Value) (base : Heap) (n : Nat) (x : Str) (ps : List Str) (R : Hp → List V → (Hp → Hp → V → Prop) → Prop) : Prop :=
  ∃ f fd, FnOk P w K mg base CX0 n f fd ps (spG R) ∧ mg x = some (.ref f) ∧ PySem.W.keepIn K (.ref f) = true ∧ Binds K fd ps []
section
variable {P : Program} {w : World} {K : PySem.W.Frag} {mg : Str → Option Value} {base : Heap}
theorem Has.doesG {x : Str} {st : Stmt} {N ps : List Str} {n : Nat} {R : Hp → List V → (Hp → Hp → V → Prop) → Prop} (h : Has K mg x st ps) (S : FnScope N ps (defScope st)) (len : ∀ H vs Φ, R H vs Φ → vs.length = ps.length)
    (hb : ∀ (f : Addr) (cdv : Value) (A : Around) (outer : List Env) (s : Shared) (H : Hp) (E : XK) (vs : List V) (Φ : Hp → Hp → V → Prop), Room n (cx0 P w K mg base N x st f cdv A outer s H E).A → R H vs Φ →
      PQR (cx0 P w K mg base N x st f cdv A outer s H E) (defBody st) (fun σ' H' => σ' = start N vs ∧ H' = H) (fun v H2 => Same H H2 ∧ Φ H H2 v)) : DoesG P w K mg base (n + 1) x ps R := by
  obtain ⟨f, fd, F, hm, hbd⟩ := h
  refine ⟨f, fd, ?_, hm, F.kp, hbd⟩
  exact F.ok S (fun vs H Q E ⟨Φ, hR, _⟩ => len H vs Φ hR) fun cdv A outer s H vs Q E hr ⟨Φ, hR, q⟩ => ⟨_, hb f cdv A outer s H E vs Φ hr hR, ⟨rfl, rfl⟩, fun v H2 ⟨e2, hv⟩ => q v H2 e2 hv⟩
end
section
variable {X : Cx} {e a b o i' : Expr} {es : List Expr} {σ : L2.St} {H : Hp} {d : D} {ds : List D} {p pos apos cpos : Pos} {Φ Φ' : Hp → Hp → V → Prop} {Ξ : Hp → Hp → List V → Prop} {Post : L2.St → Hp → Prop} {Pre Nx : L2.St → Hp → Prop}
theorem PF2.imp (h : PF2 X e σ H Φ) (f : ∀ H1 H2 v, Same H H1 → Same H1 H2 → Φ H1 H2 v → Φ' H1 H2 v) : PF2 X e σ H Φ' :=
  PE.imp h fun σ' H1 Q ⟨hs, e1, q⟩ => ⟨hs, e1, fun v H2 e2 hv => q v H2 e2 (f H1 H2 v e1 e2 hv)⟩
theorem PDA.f (h : PDA X es σ H ds) : PAF X es σ H (fun _ H2 vs => IsL X.K H2 ds vs) := h
theorem paf_cons (he : PF2 X e σ H Φ) (hr : PAF X es σ H Ξ) (hs : starEach (e :: es) X.env = (false, eval e X.env) :: starEach es X.env := by rfl) :
    PAF X (e :: es) σ H (fun H1 H2 vs => ∃ v r Hm, vs = v :: r ∧ Same H1 Hm ∧ Same Hm H2 ∧ Φ H1 Hm v ∧ Ξ Hm H2 r) :=
  PA.imp (pa_cons he hr hs) fun σ' H1 Q ⟨hs, e1, q⟩ => ⟨hs, e1, fun v Hm em hv => ⟨hs, e1.trans em, fun r H2 e2 hr => q _ _ (em.trans e2) ⟨v, r, Hm, rfl, em, e2, hv, hr⟩⟩⟩
theorem paf_one (he : PF2 X e σ H Φ) (hs : starEach [e] X.env = (false, eval e X.env) :: starEach [] X.env := by rfl) : PAF X [e] σ H (fun H1 H2 vs => ∃ v, vs = [v] ∧ Φ H1 H2 v) :=
  PA.imp (pa_cons he pa_nil hs) fun σ' H1 Q ⟨hs, e1, q⟩ => ⟨hs, e1, fun v H2 e2 hv => q _ _ e2 ⟨v, rfl, hv⟩⟩
theorem pf_doesG {n : Nat} {x : Str} {ps : List Str} {R : Hp → List V → (Hp → Hp → V → Prop) → Prop} (h : DoesG X.prog X.w X.K X.mg X.base n x ps R) (hr : Room n X.A) (ha : PAF X (e :: es) σ H Ξ)
    (hR : ∀ H1 H' vs, Same H H1 → Same H1 H' → Ξ H1 H' vs → ∃ Φ, R H' vs Φ ∧ ∀ H2 v, Same H' H2 → Φ H' H2 v → Φ' H1 H2 v) (hg : Gl X x := by rfl) (hdb : (x == ("__debug__" : Str)) = false := by decide)
    (he : starEach (e :: es) X.env = (false, eval e X.env) :: starEach es X.env := by rfl) (hpl : (backTo pos (starEach es X.env)).any (·.1) = false := by rfl) : PF2 X (.Call (.Name x p) (e :: es) [] pos) σ H Φ' := by
  obtain ⟨f, fd, F, hm, hk, hb⟩ := h
  refine PE.imp (pe_call (dvs := []) F hr hg hm hk hb .nil pass0 ha hdb he hpl) fun σ' H1 Q ⟨hs, e1, q⟩ => ⟨hs, e1, fun vs H2 e2 hvs => ?_⟩
  obtain ⟨Φ, hΦ, k⟩ := hR H1 H2 vs e1 e2 hvs
  exact ⟨Φ, by rw [List.append_nil]; exact hΦ, fun v H3 e3 hv => q v H3 (e2.trans e3) (k H3 v e3 hv)⟩
theorem pn1_setF (i : Nat) {x : Str} {pos' : Pos} (hN : X.N.Nodup) (he : PF2 X e σ H Φ) (h : ∀ v H1 H', Same H H1 → Same H1 H' → Φ H1 H' v → Post (σ.set i (some v)) H') (hi : X.N[i]? = some x := by rfl)
    (hx : Loc X.env.scope x := by first | exact Or.inl rfl | exact Or.inr rfl) (hs : swapsWith e (some (.Name x pos')) pos.line X.env = pure false := by rfl)
    (hf : X.fn x = true ∨ X.env.scope.names.lookup x = some .local := by first | exact .inl rfl | exact .inr rfl | assumption) : PN1 X (.Assign [.Name x pos'] e pos) σ H Post :=
  PS.imp (ps_set hN hi hx he hs hf) fun D σ' H1 ⟨hs, e1, q⟩ => by
    subst hs
    exact ⟨rfl, e1, fun v H2 e2 hv => q _ _ e2 (h v H1 H2 e1 e2 hv)⟩
theorem pq1_setF (i : Nat) {x : Str} {pos' : Pos} (hN : X.N.Nodup) (h : ∀ σ H, Pre σ H → ∃ Φ, PF2 X e σ H Φ ∧ ∀ v H', Same H H' → Φ H H' v → Nx (σ.set i (some v)) H') (hi : X.N[i]? = some x := by rfl)
    (hx : Loc X.env.scope x := by first | exact Or.inl rfl | exact Or.inr rfl) (hs : swapsWith e (some (.Name x pos')) pos.line X.env = pure false := by rfl)
    (hf : X.fn x = true ∨ X.env.scope.names.lookup x = some .local := by first | exact .inl rfl | exact .inr rfl | assumption) : PQ1 X (.Assign [.Name x pos'] e pos) Pre Nx := fun pins s σ H D I ⟨p, q⟩ => by
  obtain ⟨Φ, h1, h2⟩ := h σ H p
  exact ps_set hN hi hx h1 hs hf pins s σ H D I ⟨rfl, Same.refl _, fun v H2 e2 hv => q _ _ (h2 v H2 e2 hv)⟩
theorem pf_ixL {i : Int} (ha : PF2 X a σ H Φ) (hb : PD X b σ H (.int i)) (h : ∀ H1 H2 v, Same H H1 → Same H1 H2 → Φ H1 H2 v → ∃ l xs u, v = .ref l ∧ SqL X.K H2 l xs ∧ atI xs i = some u ∧ ∀ H3, Same H2 H3 → Φ' H1 H3 u) (hs : PlainIx b := by intro _ _; rfl) : PF2 X (.Subscript a b pos) σ H Φ' :=
  PE.imp (pe_ix ix_list ha hb hs) fun σ' H1 Q ⟨hs, e1, q⟩ => ⟨hs, e1, fun x H2 e2 hx => ⟨hs, e1.trans e2, fun y H3 e3 hy => by
    cases hy
    obtain ⟨l, xs, u, rfl, hq, hu, k⟩ := h H1 H2 x e1 e2 hx
    exact ⟨l, xs, i, u, rfl, rfl, e3.seq hq, hu, q _ _ (e2.trans e3) (k H3 e3)⟩⟩⟩
theorem pd_sgetF {t : St3} (hu : X.A.units + 64 < cLine) (ho : PF2 X o σ H Φ) (hl : ∀ H1 H2 v, Same H H1 → Same H1 H2 → Φ H1 H2 v → ∃ l kds, v = .ref l ∧ HasS X.prog X.w X.K H2 l kds ∧ look kds t = some d) (hi : PD X i' σ H (dSt t)) (hs : NoSl i' := by intro _ _; rfl) : PD X (.Subscript o i' pos) σ H d := by
  intro pins s σ' H1 Q I ⟨hss, e1, z⟩
  subst hss
  refine subD_of PySem.F.slot_dict_getitem.lookup hs (thn (ho pins s σ' H1 (fun x H2 => Same H1 H2 ∧ Φ H1 H2 x) I ⟨rfl, e1, fun x H2 e2 hx => ⟨e2, hx⟩⟩) fun u s1 ⟨x, H2, I2, rx, e2, ex⟩ => ?_)
  obtain ⟨l, kds, rfl, hS, hv⟩ := hl H1 H2 x e1 e2 ex
  obtain rfl : u = Value.ref l := rx
  refine thn (hi pins s1 σ' H2 (fun y H3 => Same H2 H3 ∧ ∃ b, y = .ref b ∧ Is X.K H3 (dSt t) (.ref b)) I2 ⟨rfl, e1.trans e2, fun y H3 e3 hy => ⟨e3, by obtain ⟨b, _, _, _, rfl, _⟩ := dSt_inv hy; exact ⟨b, rfl, hy⟩⟩⟩) fun iv s2 ⟨y, H3, I3, ry, e3, b, ey, hb⟩ => ?_
  subst ey
  cases (show iv = Value.ref b from ry)
  obtain ⟨ob, xs, hx, xo, r⟩ := hS.mono e3
  have dd := ds_of I3 hx xo r
  obtain ⟨p, hp, _, v, rv, hv3⟩ := r.some t hv
  exact ⟨dd.typeIs, wpAny_getItem_heap (room_nest hu) (nest_of I3 hb) dd (by rw [atKey_toN]; exact hp) ⟨v, H3, I3.tok _, rv, z _ _ (e2.trans e3) hv3⟩⟩
theorem pf_lst (ha : PAF X es σ H Ξ) (hl : ∀ H1 H2 vs, Ξ H1 H2 vs → vs.length ≤ 1000) : PF2 X (.List es pos) σ H (fun H1 H2 v => ∃ l vs Hm, v = .ref l ∧ Same H1 Hm ∧ Hm l = none ∧ H2 = upd Hm l (.lst vs) ∧ Ξ H1 Hm vs) :=
  PE.imp (pe_lst ha) fun σ' H1 Q ⟨hs, e1, q⟩ => ⟨hs, e1, fun vs H2 e2 hvs => ⟨Nat.le_of_lt (small1000 (hl _ _ _ hvs)), fun p hp => q _ _ (e2.trans (same_upd hp)) ⟨p, vs, H2, rfl, e2, hp, rfl, hvs⟩⟩⟩
theorem pq1_appendF (h : ∀ σ H, Pre σ H → ∃ l xs Φ, PD X o σ H (.adr l) ∧ H l = some (.lst xs) ∧ xs.length < sizeLine ∧ PF2 X a σ H Φ ∧ ∀ v H1 H', Same H H1 → Same H1 H' → Φ H1 H' v → Nx σ (upd H' l (.lst (xs ++ [v]))))
    (hbase : attributeBase o "append" X.env (eval o X.env) = eval o X.env := by rfl)
    (hfew : ((backTo cpos (starEach [a] X.env)).all (fun x => !x.1) && (backToKw cpos (keywordEach [] X.env)).all (fun x => x.1.isSome)
      && decide ([a].length + ([] : List Keyword).length + (if ([] : List Keyword).isEmpty then 0 else 1) < 30)) = true := by rfl)
    (hline : (apos.endLine == cpos.line) = true := by rfl) (hs : starEach [a] X.env = (false, eval a X.env) :: starEach [] X.env := by rfl) (hplain : (backTo cpos (starEach [] X.env)).any (·.1) = false := by rfl)
    (hsw : swapsWith (.Call (.Attribute o "append" apos) [a] [] cpos) none pos.line X.env = pure false := by rfl) :
    PQ1 X (.Expr (.Call (.Attribute o "append" apos) [a] [] cpos) pos) Pre Nx := fun pins s σ H D I ⟨p, q⟩ => by
  obtain ⟨l, xs, Φ, ho, hl, hz, ha, f⟩ := h σ H p
  refine ps_expr (pe_bm PySem.F.plainAttrs_list PySem.F.slot_list_append PySem.F.type_list_append mt_append ho (paf_one ha hs) hbase hfew hline hs hplain) hsw pins s σ H D I ⟨rfl, Same.refl _, fun v H2 e2 hv => ?_⟩
  cases hv
  refine ⟨.inl ⟨rfl, xs, SqL.of (e2 _ _ hl)⟩, rfl, e2, fun vs H3 e3 hvs => ?_⟩
  obtain ⟨v, rfl, hv⟩ := hvs
  exact ⟨l, xs, v, rfl, rfl, (e2.trans e3) _ _ hl, hz, q _ _ (f v H2 H3 e2 e3 hv)⟩
end
section
variable {X : Cx} {a b c : Expr} {σ : L2.St} {H : Hp} {pos p pos1 tp : Pos} {body : List Stmt} {Pre Nx : L2.St → Hp → Prop}
def tTurnD (n m : Nat) (lo : Int) (P : Nat → L2.St → Hp → Prop) : TS := fun E σ' H' => ∃ i : Nat, i < m ∧ (∃ σ1, σ' = List.set σ1 n (some (V.int (lo - i))) ∧ P i σ1 H') ∧ ∀ σ2 H2, P (i + 1) σ2 H2 → E.nx σ2 H2
theorem pq1_forRd {lo hi : Int} (n : Nat) {x : Str} {px : Pos} (P : Nat → L2.St → Hp → Prop) (hp : PassesOwn (model X.prog X.w) X.A X.env X.xe) (hc : X.calm = true) (hN : X.N.Nodup) (hm : X.mg "range" = none)
    (he : ∀ σ H, Pre σ H → PD X a σ H (.int lo) ∧ PD X b σ H (.int hi) ∧ PD X c σ H (.int (-1))) (hj : -(2 ^ 62) ≤ lo ∧ lo < 2 ^ 62 ∧ -(2 ^ 62) ≤ hi ∧ hi < 2 ^ 62)
    (h0 : ∀ σ H H', Pre σ H → Same H H' → P 0 σ H') (hs : ∀ (i : Nat), i < (lo - hi).toNat → PQ X body (fun σ' H' => ∃ σ1, σ' = List.set σ1 n (some (.int (lo - i))) ∧ P i σ1 H') (P (i + 1)))
    (hd : ∀ σ1 H1, P (lo - hi).toNat σ1 H1 → Nx σ1 H1) (hi' : X.N[n]? = some x := by rfl) (hx : Loc X.env.scope x := by first | exact Or.inl rfl | exact Or.inr rfl)
    (hf : X.fn x = true ∨ X.env.scope.names.lookup x = some .local := by first | exact .inl rfl | exact .inr rfl | assumption) (hg : Gl X "range" := by rfl)
    (hst : starEach [a, b, c] X.env = [(false, eval a X.env), (false, eval b X.env), (false, eval c X.env)] := by rfl) (hst2 : starEach [b, c] X.env = [(false, eval b X.env), (false, eval c X.env)] := by rfl) (hst3 : starEach [c] X.env = [(false, eval c X.env)] := by rfl)
    (hfs : ∀ x, foldedSetIterable (.Call (.Name "range" p) [a, b, c] [] pos1) X.env x = pure x := by intro _; rfl) :
    PQ1 X (.For (.Name x px) (.Call (.Name "range" p) [a, b, c] [] pos1) body [] pos) Pre Nx := fun pins s σ H D I ⟨pre, q⟩ => by
  have hb : PSs X body (tTurnD n (lo - hi).toNat lo P) := fun pins s σ' H' D I ⟨i, hlt, p, q⟩ => hs i hlt pins s σ' H' D I ⟨p, q⟩
  refine ps_for hp hc (pi_range3 hg hm (pda_cons (he σ H pre).1 (pda_cons (he σ H pre).2.1 (pda_cons (he σ H pre).2.2 pda_nil (by rw [hst3]; rfl)) (by rw [hst2, hst3])) (by rw [hst, hst2])) hst hst2) (pg_name hN hi' hx hf) hb hfs pins s σ H D I ⟨rfl, Same.refl _, fun vs H2 e2 hvs => ?_⟩
  obtain ⟨v0, v1, v2, rfl, h1, h2, h3⟩ := isL3 hvs
  cases h1; cases h2; cases h3
  refine ⟨lo, hi, rfl, hj, fun i m σ H => m = (lo - hi).toNat - i ∧ i ≤ (lo - hi).toNat ∧ P i σ H, ⟨(lo - hi).toNat, by omega, Nat.zero_le _, h0 σ H H2 pre e2⟩, ?_⟩
  rintro i m σ3 H3 ⟨rfl, hle, p3⟩
  by_cases hlt : i < (lo - hi).toNat
  · refine .inr ⟨hlt, P (i + 1), fun σ' H' p' => ⟨(lo - hi).toNat - (i + 1), by omega, rfl, hlt, p'⟩, fun y H' hy => ?_⟩
    obtain ⟨ee, ey⟩ := hy
    subst ee; subst ey
    exact ⟨i, hlt, ⟨σ3, rfl, p3⟩, fun σ2 H4 p4 => p4⟩
  · obtain rfl : i = (lo - hi).toNat := by omega
    exact .inl ⟨Nat.le_refl _, q _ _ (hd σ3 H3 p3)⟩
def tTurnE (n1 n2 : Nat) (vs : List V) (P : Nat → L2.St → Hp → Prop) : TS := fun E σ' H' => ∃ (i : Nat) (x : V) (σ1 : L2.St), vs[i]? = some x ∧ σ' = List.set (List.set σ1 n1 (some (V.int i))) n2 (some x) ∧ P i σ1 H' ∧ ∀ σ2 H2, P (i + 1) σ2 H2 → E.nx σ2 H2
theorem pq1_forE (n1 n2 : Nat) {l : Addr} {vs : List V} {x y : Str} {px py : Pos} {x1 : Nat} (P : Nat → L2.St → Hp → Prop) (hp : PassesOwn (model X.prog X.w) X.A X.env X.xe) (hc : X.calm = true) (hN : X.N.Nodup) (hm : X.mg "enumerate" = none)
    (he : ∀ σ H, Pre σ H → PD X a σ H (.adr l)) (h0 : ∀ σ H H', Pre σ H → Same H H' → P 0 σ H') (hl : ∀ i σ H, P i σ H → H l = some (.lst vs)) (hS : ∀ i σ H H', P i σ H → Same H H' → P i σ H')
    (hs : ∀ (i : Nat) x, vs[i]? = some x → PQ X body (fun σ' H' => ∃ σ1, σ' = List.set (List.set σ1 n1 (some (V.int i))) n2 (some x) ∧ P i σ1 H') (P (i + 1)))
    (hd : ∀ σ1 H1, P vs.length σ1 H1 → Nx σ1 H1) (hi1 : X.N[n1]? = some x := by rfl) (hi2 : X.N[n2]? = some y := by rfl) (hx : Loc X.env.scope x := by first | exact Or.inl rfl | exact Or.inr rfl) (hy : Loc X.env.scope y := by first | exact Or.inl rfl | exact Or.inr rfl)
    (hf1 : X.fn x = true ∨ X.env.scope.names.lookup x = some .local := by first | exact .inl rfl | exact .inr rfl | assumption) (hf2 : X.fn y = true ∨ X.env.scope.names.lookup y = some .local := by first | exact .inl rfl | exact .inr rfl | assumption) (hg : Gl X "enumerate" := by rfl)
    (hst : starEach [a] X.env = [(false, eval a X.env)] := by rfl) (hfs : ∀ x, foldedSetIterable (.Call (.Name "enumerate" p) [a] [] pos1) X.env x = pure x := by intro _; rfl)
    (ha1 : (assignEach [.Name x px, .Name y py] X.env).map (·.2) = assign (.Name x px) X.env :: (assignEach [.Name y py] X.env).map (·.2) := by rfl) (ha2 : (assignEach [.Name y py] X.env).map (·.2) = assign (.Name y py) X.env :: (assignEach [] X.env).map (·.2) := by rfl)
    (hn : (assignEach [.Name x px, .Name y py] X.env).length = 2 := by rfl) (hst2 : (assignEach [.Name x px, .Name y py] X.env).findIdx? (·.1) = none := by rfl) :
    PQ1 X (.For (.Tuple [.Name x px, .Name y py] x1 tp) (.Call (.Name "enumerate" p) [a] [] pos1) body [] pos) Pre Nx := fun pins s σ H D I ⟨pre, q⟩ => by
  have hb : PSs X body (tTurnE n1 n2 vs P) := fun pins s σ' H' D I ⟨i, x, σ1, hx, hs', p, q⟩ => hs i x hx pins s σ' H' D I ⟨⟨σ1, hs', p⟩, q⟩
  refine ps_for hp hc (pi_enum hg hm (pda_cons (he σ H pre) pda_nil hst) hst) (pg_tup hc (pgs_cons (pg_name hN hi1 hx hf1) (pgs_cons (pg_name hN hi2 hy hf2) pgs_nil ha2) ha1) hn hst2) hb hfs pins s σ H D I ⟨rfl, Same.refl _, fun us H2 e2 hvs => ?_⟩
  obtain ⟨v0, rfl, h1⟩ := isL1 hvs
  cases h1
  have p0 := h0 σ H H2 pre e2
  refine ⟨l, vs, rfl, hl 0 σ H2 p0, fun i m σ H => m = vs.length - i ∧ i ≤ vs.length ∧ P i σ H, ⟨vs.length, by omega, Nat.zero_le _, p0⟩, ?_⟩
  rintro i m σ3 H3 ⟨rfl, hle, p3⟩
  by_cases hlt : i < vs.length
  · refine .inr ⟨⟨hlt, hl i σ3 H3 p3⟩, P (i + 1), fun σ' H' p' => ⟨vs.length - (i + 1), by omega, rfl, hlt, p'⟩, fun z H' hz => ?_⟩
    obtain ⟨q1, u, hq1, hu, rfl, rfl⟩ := hz
    refine ⟨q1, [.int i, u], rfl, SqT.of upd_same, rfl, .int i, [u], rfl, u, [], rfl, rfl, ?_⟩
    exact ⟨i, u, σ3, hu, rfl, hS i σ3 H3 _ p3 (same_upd hq1), fun σ2 H4 p4 => p4⟩
  · obtain rfl : i = vs.length := by omega
    exact .inl ⟨⟨Nat.le_refl _, hl _ σ3 H3 p3⟩, q _ _ (hd σ3 H3 p3)⟩
end
theorem HasS.updL {P : Program} {w : World} {K : PySem.W.Frag} {H : Hp} {a l : Addr} {kds : List (St3 × D)} {xs : List V} {o : HO} (hl : H l = some (.lst xs)) (hn : ∀ x ∈ kds, noL x.2 = true) (h : HasS P w K H a kds) : HasS P w K (upd H l o) a kds := by
  obtain ⟨ob, ys, h1, h2, h3⟩ := h
  refine ⟨ob, ys, by rw [upd_ne (ne_of h1 hl (by intro z; cases z))]; exact h1, h2, ?_⟩
  clear h2
  induction h3 with
  | nil => exact .nil
  | @cons p q ps qs hq t ih =>
    obtain ⟨k1, k2, k3, v, k4, k5⟩ := hq
    exact .cons ⟨k1, k2.updL hl rfl, k3, v, k4, k5.updL hl (hn p List.mem_cons_self)⟩ (ih fun x hx => hn x (List.mem_cons_of_mem _ hx))
end L3
set_option Elab.async false
set_option linter.all false
set_option maxRecDepth 100000
namespace PySem.MeetsSeq3
open AutoSeq1 (wpAny_loadPart')
open MeetsSeq
end PySem.MeetsSeq3
namespace L3
open PySem PySem.Spec PyProof.Rows L2
section
variable {X : Cx} {σ : L2.St} {H : Hp} {a b : Expr} {p pos : Pos}
end
end L3
set_option Elab.async false
set_option linter.all false
set_option maxRecDepth 100000
namespace L3
open PySem
def ExcNewS (h : Heap) (a C : Addr) : Prop := ∃ vs, h.get? a = some { cls := .ref C, data := .fields vs } ∧ vs[1]? = some .none ∧ vs[2]? = some .none
def ExcFlyS (h : Heap) (a T C : Addr) : Prop :=
  ∃ vs oT ts, h.get? a = some { cls := .ref C, data := .fields vs } ∧ vs[1]? = some (.ref T) ∧ T ≠ a ∧ h.get? T = some oT ∧ oT.data = .fields ts ∧ ts[3]? = some .none ∧ vs[2]? = some .none
section
variable {M : Model} {A : Around} {E E' : Value → Shared → Prop} {s : Shared} {base : Heap} {env : Env} {outer : List Env} {L a C : Addr}
theorem flying_stepS {Z : Shared → Prop} {vs : Array Value} {head : Value} {hn : Bool} (hfr : A.frames = some (env :: outer)) (hl : s.heap.FunFrames base (env :: outer)) (hf : env.frame = some L)
    (he : s.heap.get? a = some { cls := .ref C, data := .fields vs }) (h1 : 1 < vs.size) (h2 : vs[2]? = some .none)
    (k : ∀ h' T, s.heap.get? T = none → Past ((env :: outer).filterMap (·.frame)) a none s.heap h' → ExcFlyS h' a T C → Z { s with heap := h' }) :
    wpAny M A (do setField (.ref a) 1 (← EntryCells.newEntry head (← frameOf env) .none (rawInt L) .none (← entryPlaceOf L hn))) (fun _ s2 => wpAny M A (setFlight (.ref a) none) (fun _ s3 => Z s3) E s2) E' s := by
  have nfr : a ∉ (env :: outer).filterMap (·.frame) := fun z => by
    obtain ⟨_, o, e1, e2⟩ := hl.mem z
    rw [he] at e1
    cases e1
    exact e2 _ rfl
  refine wpAny_bind (wpAny_frameOf_fun hfr hl hf fun g1 sl => ?_)
  refine wpAny_bind (wpAny_entryPlaceOf fun pl hp => ?_)
  refine wpAny_bind (wpAny_newObj_type ?_ (hp.sizeOk5 _ _ _ _ _))
  generalize hob : ({ cls := .type "traceback", dict := none, data := .fields ([head, .ref L, .none, rawInt L, .none] ++ (if pl.isEmpty then List.replicate 6 Value.none else pl)).toArray } : Obj) = ob
  obtain ⟨ts, hts, ht3⟩ : ∃ ts, ob.data = .fields ts ∧ 3 < ts.size := ⟨_, by rw [← hob], by simp only [List.size_toArray, List.length_append, List.length_cons]; omega⟩
  have e1 : g1.get? a = some { cls := .ref C, data := .fields vs } := by rw [sl.2.1 a nfr]; exact he
  have lt := Heap.lt_size e1
  have ne : g1.objs.size ≠ a := Nat.ne_of_gt lt
  have e2 := Heap.get?_push_of_some (h := g1) ob e1
  have t2 : (g1.push ob).get? g1.objs.size = some ob := Heap.get?_push_size g1 (by cases ob; subst hts; rfl)
  refine wpAny_setField (o := { cls := .ref C, data := .fields vs }) e2 rfl h1 ?_
  have e3 := Heap.get?_update_self (Obj.mapFields (·.setIfInBounds 1 (Value.ref g1.objs.size))) e2 rfl
  have t3 : ((g1.push ob).update a (Obj.mapFields (·.setIfInBounds 1 (Value.ref g1.objs.size)))).get? g1.objs.size = some ob := by
    rw [Heap.get?_update_other _ _ (Ne.symm ne)]; exact t2
  unfold setFlight
  refine wpAny_bind (wpAny_field (x := .ref g1.objs.size) e3 rfl (by simp [h1]) ?_)
  rw [if_pos (by simp)]
  refine wpAny_setField t3 hts ht3 (k _ g1.objs.size (Heap.get?_none_of_le (by rw [sl.1]; exact Nat.le_refl _)) ?_ ?_)
  · have oth : ∀ b o, b ≠ a → g1.get? b = some o → (((g1.push ob).update a (Obj.mapFields (·.setIfInBounds 1 (Value.ref g1.objs.size)))).update g1.objs.size (Obj.mapFields (·.setIfInBounds 3 ((none : Option Addr).elim Value.none fun f => rawInt f)))).get? b = some o := fun b o hb q => by
      rw [Heap.get?_update_other _ _ (Nat.ne_of_gt (Heap.lt_size q)), Heap.get?_update_other _ _ (Ne.symm hb)]
      exact Heap.get?_push_of_some _ q
    refine ⟨fun b o q hb _ hnf => oth b o hb (by rw [sl.2.1 b hnf]; exact q), fun b o q hbf => ?_, fun b o q => ?_⟩
    · obtain ⟨z, hz⟩ := sl.2.2 b o q
      exact ⟨z, oth b _ (fun w => nfr (w ▸ hbf)) hz⟩
    · by_cases hb : b = a
      · subst hb
        exact ⟨_, by rw [Heap.get?_update_other _ _ ne]; exact e3⟩
      · obtain ⟨z, hz⟩ := sl.2.2 b o q
        exact ⟨_, oth b _ hb hz⟩
  · refine ⟨_, _, _, by rw [Heap.get?_update_other _ _ ne]; exact e3, by simp [h1], ne, Heap.get?_update_self _ t3 (Obj.isFreed_of_fields (Obj.data_mapFields hts _)), Obj.data_mapFields hts _, by simp [ht3], ?_⟩
    rw [Array.getElem?_setIfInBounds_ne (by decide)]; exact h2
theorem lands_newS {Z : Shared → Prop} (hfr : A.frames = some (env :: outer)) (hl : s.heap.FunFrames base (env :: outer)) (hf : env.frame = some L) (x : ExcNewS s.heap a C)
    (k : ∀ h' T, s.heap.get? T = none → Past ((env :: outer).filterMap (·.frame)) a none s.heap h' → ExcFlyS h' a T C → Z { s with heap := h' }) :
    wpAny M A (noteFrame (.ref a) env) (fun _ s2 => wpAny M A (setFlight (.ref a) none) (fun _ s3 => Z s3) E s2) E' s := by
  obtain ⟨vs, he, h1, h2⟩ := x
  unfold noteFrame
  simp only [hf]
  refine wpAny_bind (wpAny_field he rfl h1 ?_)
  rw [if_neg (by decide)]
  exact flying_stepS hfr hl hf he (Array.getElem?_eq_some_iff.mp h1).1 h2 k
theorem lands_flyS {Z : Shared → Prop} {T : Addr} (hfr : A.frames = some (env :: outer)) (hl : s.heap.FunFrames base (env :: outer)) (hf : env.frame = some L) (x : ExcFlyS s.heap a T C)
    (k : ∀ h' T', s.heap.get? T' = none → Past ((env :: outer).filterMap (·.frame)) a (some T) s.heap h' → ExcFlyS h' a T' C → Z { s with heap := h' }) :
    wpAny M A (noteFrame (.ref a) env) (fun _ s2 => wpAny M A (setFlight (.ref a) none) (fun _ s3 => Z s3) E s2) E' s := by
  obtain ⟨vs, oT, ts, he, h1, ne, hT, hts, h3, h2⟩ := x
  unfold noteFrame
  simp only [hf]
  refine wpAny_bind (wpAny_field he rfl h1 ?_)
  rw [if_pos (by simp)]
  refine wpAny_bind (wpAny_field hT hts h3 ?_)
  rw [if_neg (by simp [rawInt])]
  refine wpAny_bind (wpAny_setField hT hts (Array.getElem?_eq_some_iff.mp h3).1 ?_)
  have oth : ∀ b, b ≠ T → (s.heap.update T (Obj.mapFields (·.setIfInBounds 3 Value.none))).get? b = s.heap.get? b := fun b hb => Heap.get?_update_other _ _ (Ne.symm hb)
  have own := Heap.get?_update_self (Obj.mapFields (·.setIfInBounds 3 Value.none)) hT (Obj.isFreed_of_fields (Obj.data_mapFields hts _))
  have nT : T ∉ (env :: outer).filterMap (·.frame) := fun z => by
    obtain ⟨_, o, e1, e2⟩ := hl.mem z
    rw [hT] at e1
    cases e1
    exact e2 _ hts
  have all : ∀ b o, s.heap.get? b = some o → ∃ o', (s.heap.update T (Obj.mapFields (·.setIfInBounds 3 Value.none))).get? b = some o' := fun b o q => by
    by_cases hb : b = T
    · subst hb; exact ⟨_, own⟩
    · exact ⟨o, by rw [oth b hb]; exact q⟩
  refine flying_stepS (s := { s with heap := s.heap.update T (Obj.mapFields (·.setIfInBounds 3 Value.none)) }) hfr (hl.of_keeps fun b o q nf => ⟨o, by rw [oth b (fun z => nf ts (by rw [z, hT] at q; cases q; exact hts))]; exact q, rfl⟩) hf
    (by show Heap.get? _ a = _; rw [oth a (Ne.symm ne)]; exact he) (Array.getElem?_eq_some_iff.mp h1).1 h2 fun h' T' n P fl => k h' T' ?_ ?_ fl
  · cases q : s.heap.get? T' with
    | none => rfl
    | some o =>
      obtain ⟨o', z⟩ := all T' o q
      have n' : (s.heap.update T (Obj.mapFields (·.setIfInBounds 3 Value.none))).get? T' = none := n
      rw [z] at n'; cases n'
  · refine ⟨fun b o q ha hT' hnf => P.keep b o ?_ ha (by simp) hnf, fun b o q hb => P.slot b o ?_ hb, fun b o q => ?_⟩
    · show Heap.get? _ b = _
      rw [oth b (fun z => hT' (by rw [z]))]; exact q
    · show Heap.get? _ b = _
      rw [oth b (fun z => nT (z ▸ hb))]; exact q
    · obtain ⟨o', z⟩ := all b o q
      exact P.there b o' z
end
end L3
namespace L3
open PySem PySem.Spec PyProof.Rows L2
structure AloftS (X : Cx) (pins : List (Addr × Obj)) (H : Hp) (h : Heap) (a C : Addr) : Prop where
  na : H a = none
  s0 : X.s₀.heap.get? a = none
  pa : ∀ p ∈ X.pn ++ pins, p.1 ≠ a
  st : ExcNewS h a C ∨ ∃ T, H T = none ∧ X.s₀.heap.get? T = none ∧ (∀ p ∈ X.pn ++ pins, p.1 ≠ T) ∧ ExcFlyS h a T C
def CX1S (P : Program) (w : World) : CXT := fun outer H s E e s' => ∃ a T C H', e = .ref a ∧ s'.os = s.os ∧ AllBare s'.gens ∧ Un (frs outer) [] H H' s.heap s'.heap ∧ HOk P w H' s'.heap ∧ H' a = none ∧ H' T = none ∧
  s.heap.get? a = none ∧ s.heap.get? T = none ∧ ExcFlyS s'.heap a T C ∧ E (.ref C) none H'
section
variable {X : Cx} {pins : List (Addr × Obj)} {σ : L2.St} {H : Hp} {s s' : Shared} {a C : Addr} {E : XK} {e : Value}
theorem aloft_callS (I : Inv X pins σ H s) (hx : X.ex = []) (h : CX1S X.prog X.w X.stack H s E e s') : ∃ a C H', e = .ref a ∧ Inv X pins σ H' s' ∧ AloftS X pins H' s'.heap a C ∧ E (.ref C) none H' := by
  obtain ⟨a, T, C, H', rfl, os, bare, un, hok, na, nT, a0, T0, fl, q⟩ := h
  exact ⟨a, C, H', rfl, I.call' os un hok bare (fun b z => absurd z (by simp)), ⟨na, s0_none I hx a0, pin_ne I a0, .inr ⟨T, nT, s0_none I hx T0, pin_ne I T0, fl⟩⟩, q⟩
theorem inv_landsS {M : Model} {A : Around} {E1 E2 : Value → Shared → Prop} {Z : Shared → Prop} (I : Inv X pins σ H s) (hx : X.ex = []) (hst : X.stack = X.env :: X.outer) (hfr : X.env.frame = some X.env.locals) (hA : A.frames = some X.stack) (al : AloftS X pins H s.heap a C)
    (k : ∀ h' T, Inv X pins σ H { s with heap := h' } → H T = none → X.s₀.heap.get? T = none → (∀ p ∈ X.pn ++ pins, p.1 ≠ T) → ExcFlyS h' a T C → Z { s with heap := h' }) :
    wpAny M A (noteFrame (.ref a) X.env) (fun _ s2 => wpAny M A (setFlight (.ref a) none) (fun _ s3 => Z s3) E1 s2) E2 s := by
  have hA' : A.frames = some (X.env :: X.outer) := by rw [hA, hst]
  have hl : s.heap.FunFrames X.base (X.env :: X.outer) := hst ▸ I.stack
  have efr : (X.env :: X.outer).filterMap (·.frame) = frs X.stack := by rw [hst]; rfl
  rcases al.st with nw | ⟨T, nT, T0, pT, fl⟩
  · obtain ⟨vs, e1, _⟩ := id nw
    refine lands_newS hA' hl hfr nw fun h' T hT P fl => ?_
    rw [efr] at P
    exact k h' T (inv_past I hst hfr P ⟨_, vs, e1, rfl⟩ al.na al.s0 al.pa fun _ z => nomatch z) (free_of_none I.hok hT) (s0_none I hx hT) (pin_ne I hT) fl
  · obtain ⟨vs, oT, ts, e1, _, _, e2, e3, _, _⟩ := id fl
    refine lands_flyS hA' hl hfr fl fun h' T' hT P fl' => ?_
    rw [efr] at P
    exact k h' T' (inv_past I hst hfr P ⟨_, vs, e1, rfl⟩ al.na al.s0 al.pa fun T2 z => by cases z; exact ⟨nT, T0, pT, _, ts, e2, e3⟩) (free_of_none I.hok hT) (s0_none I hx hT) (pin_ne I hT) fl'
end
def LandsS (X : Cx) (C : Addr) (P : L2.St → Hp → Prop) : Prop := ∀ pins s σ H a, Inv X pins σ H s → P σ H → AloftS X pins H s.heap a C → X.xe (.ref a) s
theorem lands_fnS {P : Program} {w : World} {K : PySem.W.Frag} {mg : Str → Option Value} {base : Heap} {N : List Str} {qual : Str} {scope : Scope} {f : Addr} {cd : Value} {A : Around} {outer : List Env} {s : Shared} {H : Hp} {E : XK} {C : Addr} (h : ∀ H', Same H H' → E (.ref C) none H') :
    LandsS (cxOf (CX1S P w) P w K mg base N qual scope f cd A outer s H E) C (fun _ H' => Same H H') := fun pins s' σ' H' a I hP al => by
  show wpAny _ _ (leaving _ _) _ _ _
  unfold leaving
  refine wpAny_bind (inv_landsS I rfl rfl rfl I.ok.frames al fun h' T I2 nT T0 _ fl => ?_)
  exact ⟨a, T, C, H', rfl, I2.os, I2.bare, I2.base, I2.hok, al.na, nT, al.s0, T0, fl, h H' hP⟩
section
variable {X : Cx} {e c : Expr} {es : List Expr} {σ : L2.St} {H : Hp} {d : D} {ds : List D} {k : Bool} {p pos : Pos} {st : Stmt} {sts rest els : List Stmt} {C : Addr} {Pw : L2.St → Hp → Prop} {Post : L2.St → Hp → Prop}
theorem pxe_callS {n : Nat} {f : Addr} {fd : FuncData} {ps : List Str} {RX : List D → Addr → Prop} {x : Str} (F : FnOk X.prog X.w X.K X.mg X.base (CX1S X.prog X.w) n f fd ps (spX X.K RX)) (hr : Room n X.A) (hx : X.ex = []) (hm : X.mg x = some (.ref f))
    (hk : PySem.W.keepIn X.K (.ref f) = true) (hb : Binds X.K fd ps []) (ha : PDA X (e :: es) σ H ds) (hR : RX ds C) (hL : ∀ C, RX ds C → LandsS X C Pw) (hP : ∀ H', Same H H' → Pw σ H') (hg : Gl X x := by rfl) (hdb : (x == ("__debug__" : Str)) = false := by decide)
    (he : starEach (e :: es) X.env = (false, eval e X.env) :: starEach es X.env := by rfl) (hpl : (backTo pos (starEach es X.env)).any (·.1) = false := by rfl) : PXE X (.Call (.Name x p) (e :: es) [] pos) σ H := by
  intro pins s σ' H1 Q I ⟨hs, e1⟩
  subst hs
  refine wpAny_Call_Name_kw (ld_glob I hg hm ?_ hdb)
  refine PySem.W.callWith_K (h₀ := X.base) I.ok.mod.kin hk (thn (ha pos pins s σ' H1 (fun vs H2 => Same H1 H2 ∧ IsL X.K H2 ds vs) I ⟨rfl, e1, fun vs H2 e2 hvs => ⟨e2, hvs⟩⟩) fun us s1 ⟨vs, H2, I2, r, e2, hvs⟩ => ⟨I2.kIn, ?_⟩) he hpl
  have sp : spX X.K RX vs H2 (fun _ _ => False) (fun cv _ H' => ∃ C, cv = .ref C ∧ RX ds C ∧ Same H2 H') := ⟨ds, C, hvs, hR, fun H' e3 => ⟨C, rfl, hR, e3⟩⟩
  have hl : (us ++ ([] : List Value)).length = ps.length := by rw [List.append_nil, ← r.length]; exact F.len _ _ _ _ sp
  refine wpAny_call (codeAny_mono (F.run X.A X.stack s1 H2 ⟨us, []⟩ us vs (fun _ _ => False) _ hr I2.env0 (by have := hb s1 us I2.kIn hl; rw [List.append_nil] at this; exact this) r sp) fun rs s' hq => ?_)
  cases rs with
  | error ev =>
    obtain ⟨a, C', H3, rfl, I3, al, C'', ec, hR2, e3⟩ := aloft_callS (e := ev) (s' := s') (E := fun cv _ H' => ∃ C, cv = .ref C ∧ RX ds C ∧ Same H2 H') I2 hx hq
    cases ec
    exact hL _ hR2 pins s' σ' H3 a I3 (hP H3 ((e1.trans e2).trans e3)) al
  | ok fl =>
    cases fl with
    | ret u => obtain ⟨_, _, _, _, _, _, _, z⟩ := hq; exact z.elim
    | next => exact False.elim hq
    | brk => exact False.elim hq
    | cont => exact False.elim hq
end
section
variable {P : Program} {w : World} {K : PySem.W.Frag} {mg : Str → Option Value} {base : Heap}
abbrev cx1S (P : Program) (w : World) (K : PySem.W.Frag) (mg : Str → Option Value) (base : Heap) (N : List Str) (qual : Str) (st : Stmt) (f : Addr) (cdv : Value) (A : Around) (outer : List Env) (s : Shared) (H : Hp) (E : XK) : Cx :=
  cxOf (CX1S P w) P w K mg base N qual (defScope st) f cdv A outer s H E
def RaisesS (P : Program) (w : World) (K : PySem.W.Frag) (mg : Str → Option Value) (base : Heap) (n : Nat) (x : Str) (ps : List Str) (RX : List D → Addr → Prop) : Prop :=
  ∃ f fd, FnOk P w K mg base (CX1S P w) n f fd ps (spX K RX) ∧ mg x = some (.ref f) ∧ PySem.W.keepIn K (.ref f) = true ∧ Binds K fd ps []
theorem Has.raisesS {x : Str} {st : Stmt} {N ps : List Str} {n : Nat} {RX : List D → Addr → Prop} (h : Has K mg x st ps) (S : FnScope N ps (defScope st)) (len : ∀ ds C, RX ds C → ds.length = ps.length)
    (hb : ∀ (f : Addr) (cdv : Value) (A : Around) (outer : List Env) (s : Shared) (H : Hp) (E : XK) (vs : List V) (ds : List D) (C : Addr), Room n (cx1S P w K mg base N x st f cdv A outer s H E).A → IsL K H ds vs → RX ds C →
      LandsS (cx1S P w K mg base N x st f cdv A outer s H E) C (fun _ H' => Same H H') → PX (cx1S P w K mg base N x st f cdv A outer s H E) (defBody st) (start N vs) H) : RaisesS P w K mg base (n + 1) x ps RX := by
  obtain ⟨f, fd, F, hm, hbd⟩ := h
  refine ⟨f, fd, ?_, hm, F.kp, hbd⟩
  obtain ⟨oc, od, kV, doc, pm, an, cdv, ct, osl, rfl, lk, hcd⟩ := F.ex
  refine fn_of lk hcd S (fun vs H Q E ⟨ds, C, hl, hR, _⟩ => by rw [← hl.length]; exact len ds C hR) fun A outer s H vs Q E hr ⟨ds, C, hl, hR, q⟩ => ?_
  exact ⟨_, hb f cdv A outer s H E vs ds C hr hl hR (lands_fnS q), rfl, Same.refl _⟩
end
section
variable {X : Cx} {e : Expr} {es : List Expr} {σ : L2.St} {H : Hp} {ds : List D} {p pos : Pos} {C : Addr} {Pw : L2.St → Hp → Prop}
theorem pxe_raisesS {n : Nat} {x : Str} {ps : List Str} {RX : List D → Addr → Prop} (h : RaisesS X.prog X.w X.K X.mg X.base n x ps RX) (hr : Room n X.A) (ha : PDA X (e :: es) σ H ds) (hR : RX ds C) (hL : LandsS X C Pw) (hP : ∀ H', Same H H' → Pw σ H') (one : ∀ C', RX ds C' → C' = C) (hx : X.ex = [] := by rfl)
    (hg : Gl X x := by rfl) (hdb : (x == ("__debug__" : Str)) = false := by decide)
    (he : starEach (e :: es) X.env = (false, eval e X.env) :: starEach es X.env := by rfl) (hpl : (backTo pos (starEach es X.env)).any (·.1) = false := by rfl) : PXE X (.Call (.Name x p) (e :: es) [] pos) σ H := by
  obtain ⟨f, fd, F, hm, hk, hb⟩ := h
  exact pxe_callS F hr hx hm hk hb ha hR (fun C' z => by rw [one C' z]; exact hL) hP hg hdb he hpl
end
section
variable {X : Cx} {e : Expr} {σ : L2.St} {H : Hp} {d : D} {np cpos pos : Pos} {rest : List Stmt} {C : Addr} {Pw : L2.St → Hp → Prop} {x : Str}
theorem px_raiseS (ec : ErrCls X.K C) (hc : X.calm = true) (hm : X.mg x = some (.ref C)) (he : PD X e σ H d) (hL : LandsS X C Pw) (hP : ∀ H', Same H H' → Pw σ H') (hx : X.ex = [] := by rfl) (hg : Gl X x := by rfl) (hdb : (x == ("__debug__" : Str)) = false := by decide)
    (hs : starEach [e] X.env = (false, eval e X.env) :: starEach [] X.env := by rfl) : PX X (.Raise (some (.Call (.Name x np) [e] [] cpos)) none pos :: rest) σ H := by
  refine PSs.imp (pss_cons (t := fun _ σ' H1 => σ' = σ ∧ Same H H1) ?_ pss_never) fun _ _ _ h => h
  intro pins s σ' H1 D I ⟨hss, e1⟩
  subst hss
  obtain ⟨nm, q, N, bs, bm, hdct, sn, sub, ab, col, dd, k0, k1, k2, k3, k5, Bn, newId, inN, B, nid, initId, bmN, bmB, mN, Fn, hBn, F, hbase, hni, hC, hN, T⟩ := ec.raises X.base I.ok.mod.kin
  refine wpAny_Raise_call_subU (C := C) (nm := nm) (q := q) (N := N) (bs := bs) (bm := bm) (hdct := hdct) (sn := sn) (sub := sub) (ab := ab) (col := col) (dd := dd) (k0 := k0) (k1 := k1) (k2 := k2) (k3 := k3) (k5 := k5) Fn hBn F (mN := mN) hbase (I.ok.hd hc)
    (by rw [hs]; rfl) hni (ld_glob I hg hm ⟨rfl, ?_⟩ hdb)
  have pa := pda_cons he pda_nil hs
  have w := pa cpos pins s σ' H1 (fun vs H2 => Same H1 H2 ∧ IsL X.K H2 [d] vs) I ⟨rfl, e1, fun vs H2 e2 hvs => ⟨e2, hvs⟩⟩
  rw [hs] at w ⊢
  refine Calls.evalArgs_plain (thn w fun us s2 ⟨vs, H2, I2, r, e2, hvs⟩ => ⟨rfl, ?_, I2.bk _ _ hC, hN.keeps I2.bk, T.keeps I2.bk, fun h' a hm' => ?_⟩)
  · show us.length ≤ sizeLine
    rw [← r.length, ← hvs.length]
    exact Nat.le_of_lt (small1000 (by simp))
  · obtain ⟨t, ht, _, _⟩ := hm'.there
    exact hL pins { s2 with heap := h' } σ' H2 a (I2.kept (t' := s2.toks) hm'.keeps) (hP H2 (e1.trans e2)) ⟨free_of_none I2.hok hm'.new, s0_none I2 hx hm'.new, pin_ne I2 hm'.new, .inl ⟨_, ht, rfl, rfl⟩⟩
end
end L3
set_option Elab.async false
set_option linter.all false
set_option maxRecDepth 100000
namespace L3
open PySem
def ExcHere (h : Heap) (a T C L : Addr) : Prop :=
  ∃ vs oT ts, h.get? a = some { cls := .ref C, data := .fields vs } ∧ vs[1]? = some (.ref T) ∧ T ≠ a ∧ h.get? T = some oT ∧ oT.data = .fields ts ∧ ts[3]? = some (rawInt L)
section
variable {M : Model} {A : Around} {E E' : Value → Shared → Prop} {s : Shared} {base : Heap} {env : Env} {outer : List Env} {L a C T : Addr}
theorem note_new {Z : Shared → Prop} (hfr : A.frames = some (env :: outer)) (hl : s.heap.FunFrames base (env :: outer)) (hf : env.frame = some L) (x : ExcNew s.heap a C)
    (k : ∀ h' T, s.heap.get? T = none → Past ((env :: outer).filterMap (·.frame)) a none s.heap h' → ExcHere h' a T C L → Z { s with heap := h' }) :
    wpAny M A (noteFrame (.ref a) env) (fun _ s2 => Z s2) E' s := by
  obtain ⟨vs, he, h1⟩ := x
  have h1' := (Array.getElem?_eq_some_iff.mp h1).1
  unfold noteFrame
  simp only [hf]
  refine wpAny_bind (wpAny_field he rfl h1 ?_)
  rw [if_neg (by decide)]
  have nfr : a ∉ (env :: outer).filterMap (·.frame) := fun z => by
    obtain ⟨_, o, e1, e2⟩ := hl.mem z
    rw [he] at e1
    cases e1
    exact e2 _ rfl
  refine wpAny_bind (wpAny_frameOf_fun hfr hl hf fun g1 sl => ?_)
  refine wpAny_bind (wpAny_entryPlaceOf fun pl hp => ?_)
  refine wpAny_bind (wpAny_newObj_type ?_ (hp.sizeOk5 _ _ _ _ _))
  generalize hob : ({ cls := .type "traceback", dict := none, data := .fields ([Value.none, .ref L, .none, rawInt L, .none] ++ (if pl.isEmpty then List.replicate 6 Value.none else pl)).toArray } : Obj) = ob
  obtain ⟨ts, hts, ht3⟩ : ∃ ts, ob.data = .fields ts ∧ ts[3]? = some (rawInt L) := ⟨_, by rw [← hob], by simp⟩
  have e1 : g1.get? a = some { cls := .ref C, data := .fields vs } := by rw [sl.2.1 a nfr]; exact he
  have lt := Heap.lt_size e1
  have ne : g1.objs.size ≠ a := Nat.ne_of_gt lt
  have e2 := Heap.get?_push_of_some (h := g1) ob e1
  have t2 : (g1.push ob).get? g1.objs.size = some ob := Heap.get?_push_size g1 (by cases ob; subst hts; rfl)
  refine wpAny_setField (o := { cls := .ref C, data := .fields vs }) e2 rfl h1' ?_
  have e3 := Heap.get?_update_self (Obj.mapFields (·.setIfInBounds 1 (Value.ref g1.objs.size))) e2 rfl
  have t3 : ((g1.push ob).update a (Obj.mapFields (·.setIfInBounds 1 (Value.ref g1.objs.size)))).get? g1.objs.size = some ob := by
    rw [Heap.get?_update_other _ _ (Ne.symm ne)]; exact t2
  refine k _ g1.objs.size (Heap.get?_none_of_le (by rw [sl.1]; exact Nat.le_refl _)) ?_ ⟨_, ob, ts, e3, by simp [h1'], ne, t3, hts, ht3⟩
  have oth : ∀ b o, b ≠ a → g1.get? b = some o → ((g1.push ob).update a (Obj.mapFields (·.setIfInBounds 1 (Value.ref g1.objs.size)))).get? b = some o := fun b o hb q => by
    rw [Heap.get?_update_other _ _ (Ne.symm hb)]
    exact Heap.get?_push_of_some _ q
  refine ⟨fun b o q hb _ hnf => oth b o hb (by rw [sl.2.1 b hnf]; exact q), fun b o q hbf => ?_, fun b o q => ?_⟩
  · obtain ⟨z, hz⟩ := sl.2.2 b o q
    exact ⟨z, oth b _ (fun w => nfr (w ▸ hbf)) hz⟩
  · by_cases hb : b = a
    · subst hb
      exact ⟨_, e3⟩
    · obtain ⟨z, hz⟩ := sl.2.2 b o q
      exact ⟨_, oth b _ hb hz⟩
theorem back_here {Z : Shared → Prop} (hf : env.frame = some L) (x : ExcHere s.heap a T C L) (k : Z s) : wpAny M A (do
    if (← field (.ref a) 1) == .none then unsupported "frame.own-activation:exception-without-traceback"
    setFlight (.ref a) env.frame) (fun _ s2 => Z s2) E' s := by
  obtain ⟨vs, oT, ts, he, h1, ne, hT, hts, h3⟩ := x
  refine wpAny_bind (wpAny_field he rfl h1 ?_)
  rw [if_neg (by simp)]
  unfold setFlight
  refine wpAny_bind (wpAny_field he rfl h1 ?_)
  rw [if_pos (by simp)]
  refine wpAny_setField hT hts (Array.getElem?_eq_some_iff.mp h3).1 ?_
  have z := Heap.update_setField_same s.heap T oT ts 3 (rawInt L) hT hts h3
  rw [hf]
  show Z { s with heap := s.heap.update T (Obj.mapFields (·.setIfInBounds 3 (rawInt L))) }
  rw [z]
  exact k
theorem leave_here {Z : Shared → Prop} (hl : s.heap.FunFrames base (env :: outer)) (hf : env.frame = some L) (x : ExcHere s.heap a T C L)
    (k : ∀ h', Past ((env :: outer).filterMap (·.frame)) a (some T) s.heap h' → ExcFly h' a T C → Z { s with heap := h' }) :
    wpAny M A (noteFrame (.ref a) env) (fun _ s2 => wpAny M A (setFlight (.ref a) none) (fun _ s3 => Z s3) E s2) E' s := by
  obtain ⟨vs, oT, ts, he, h1, ne, hT, hts, h3⟩ := x
  unfold noteFrame
  simp only [hf]
  refine wpAny_bind (wpAny_field he rfl h1 ?_)
  rw [if_pos (by simp)]
  refine wpAny_bind (wpAny_field hT hts h3 ?_)
  rw [if_pos (by simp)]
  refine wpAny_pure ?_
  unfold setFlight
  refine wpAny_bind (wpAny_field he rfl h1 ?_)
  rw [if_pos (by simp)]
  have lt3 := (Array.getElem?_eq_some_iff.mp h3).1
  refine wpAny_setField hT hts lt3 ?_
  have oth : ∀ b, b ≠ T → (s.heap.update T (Obj.mapFields (·.setIfInBounds 3 Value.none))).get? b = s.heap.get? b := fun b hb => Heap.get?_update_other _ _ (Ne.symm hb)
  have own := Heap.get?_update_self (Obj.mapFields (·.setIfInBounds 3 Value.none)) hT (Obj.isFreed_of_fields (Obj.data_mapFields hts _))
  have nT : T ∉ (env :: outer).filterMap (·.frame) := fun z => by
    obtain ⟨_, o, e1, e2⟩ := hl.mem z
    rw [hT] at e1
    cases e1
    exact e2 _ hts
  refine k _ ⟨fun b o q _ hb _ => ?_, fun b o q hb => ⟨o.slots, ?_⟩, fun b o q => ?_⟩ ⟨vs, _, _, ?_, h1, ne, own, Obj.data_mapFields hts _, by simp [lt3]⟩
  · exact (oth b (fun z => hb (by rw [z]))).trans q
  · exact (oth b (fun z => nT (z ▸ hb))).trans q
  · by_cases hb : b = T
    · subst hb; exact ⟨_, own⟩
    · exact ⟨o, (oth b hb).trans q⟩
  · exact (oth a (Ne.symm ne)).trans he
end
end L3
namespace L3
open PySem PySem.Spec PyProof.Rows L2
structure AloftH (X : Cx) (pins : List (Addr × Obj)) (H : Hp) (h : Heap) (a C : Addr) : Prop where
  na : H a = none
  s0 : X.s₀.heap.get? a = none
  pa : ∀ p ∈ X.pn ++ pins, p.1 ≠ a
  st : ∃ T, H T = none ∧ X.s₀.heap.get? T = none ∧ (∀ p ∈ X.pn ++ pins, p.1 ≠ T) ∧ ExcHere h a T C X.env.locals
def LandsH (X : Cx) (C : Addr) (P : L2.St → Hp → Prop) : Prop := ∀ pins s σ H a, Inv X pins σ H s → P σ H → AloftH X pins H s.heap a C → X.xe (.ref a) s
theorem landsH_fn {P : Program} {w : World} {K : PySem.W.Frag} {mg : Str → Option Value} {base : Heap} {N : List Str} {qual : Str} {scope : Scope} {f : Addr} {cd : Value} {A : Around} {outer : List Env} {s : Shared} {H : Hp} {E : XK} {C : Addr} (h : ∀ H', Same H H' → E (.ref C) none H') :
    LandsH (cxOf (CX1 P w) P w K mg base N qual scope f cd A outer s H E) C (fun _ H' => Same H H') := fun pins s' σ' H' a I hP al => by
  show wpAny _ _ (leaving _ _) _ _ _
  unfold leaving
  obtain ⟨T, nT, T0, pT, hx⟩ := al.st
  obtain ⟨vs, oT, ts, e1, _, _, e2, e3, _⟩ := id hx
  refine wpAny_bind (leave_here (outer := outer) I.stack rfl hx fun h' Pa fl => ?_)
  have I2 := inv_past (T? := some T) I rfl rfl Pa ⟨_, vs, e1, rfl⟩ al.na al.s0 al.pa fun T2 z => by cases z; exact ⟨nT, T0, pT, _, ts, e2, e3⟩
  exact ⟨a, T, C, H', rfl, I2.os, I2.bare, I2.base, I2.hok, al.na, nT, al.s0, T0, fl, h H' hP⟩
section
variable {P : Program} {w : World} {K : PySem.W.Frag} {mg : Str → Option Value} {base : Heap}
theorem Has.raisesH {x : Str} {st : Stmt} {N ps : List Str} {n : Nat} {RX : List D → Addr → Prop} (h : Has K mg x st ps) (S : FnScope N ps (defScope st)) (len : ∀ ds C, RX ds C → ds.length = ps.length)
    (hb : ∀ (f : Addr) (cdv : Value) (A : Around) (outer : List Env) (s : Shared) (H : Hp) (E : XK) (vs : List V) (ds : List D) (C : Addr), Room n (cx1 P w K mg base N x st f cdv A outer s H E).A → IsL K H ds vs → RX ds C →
      Lands (cx1 P w K mg base N x st f cdv A outer s H E) C (fun _ H' => Same H H') → LandsH (cx1 P w K mg base N x st f cdv A outer s H E) C (fun _ H' => Same H H') → PX (cx1 P w K mg base N x st f cdv A outer s H E) (defBody st) (start N vs) H) : Raises P w K mg base (n + 1) x ps RX := by
  obtain ⟨f, fd, F, hm, hbd⟩ := h
  refine ⟨f, fd, ?_, hm, F.kp, hbd⟩
  obtain ⟨oc, od, kV, doc, pm, an, cdv, ct, osl, rfl, lk, hcd⟩ := F.ex
  refine fn_of lk hcd S (fun vs H Q E ⟨ds, C, hl, hR, _⟩ => by rw [← hl.length]; exact len ds C hR) fun A outer s H vs Q E hr ⟨ds, C, hl, hR, q⟩ => ?_
  exact ⟨_, hb f cdv A outer s H E vs ds C hr hl hR (lands_fn q) (landsH_fn q), rfl, Same.refl _⟩
end
end L3
set_option Elab.async false
set_option linter.all false
set_option maxRecDepth 100000
namespace PySem.F
theorem entry_unchain : entryFor table "proto.unchain" = some Builtin.«proto.unchain» := entryFor_of_fast (by kernel_rfl)
end PySem.F
namespace PySem
section
variable {prog : Program} {w : World} {A : Around} {E : Value → Shared → Prop} {env : Env}
variable {nm q : Str} {C N : Addr} {bs bm : List Value} {hdct : Bool} {sn : List Str} {sub : List Value} {ab : Bool} {col : Option Bool} {dd : Option Addr} {k0 k1 k2 k3 k5 : Option Value} {newId : String}
theorem raiseStmt_from {s : Shared} {a : Addr} {x c : Sem Value} {Q : Flow → Shared → Prop} (hbase : bm.contains (.type "BaseException") = true) (hh : A.handled = some (.ref a)) (hc : ∀ (s : Shared) (Q : Value → Shared → Prop), Q .none s → wpAny (model prog w) A c Q E s)
    (h : wpAny (model prog w) A x (fun v s₁ => ∃ e t vs oc, v = .ref e ∧ e ≠ a ∧ s₁.heap.get? C = some (excClassObj nm q C N bs bm hdct sn sub ab col dd k0 k1 k2 k3 k5 newId) ∧
      s₁.heap.get? e = some { cls := .ref C, data := .fields #[.ref t, .none, .none, .none, .bool false, .none] } ∧ s₁.heap.get? a = some oc ∧ oc.data = .fields vs ∧ vs[2]? = some .none ∧
      ∀ h', (∀ b, b ≠ e → h'.get? b = s₁.heap.get? b) → h'.get? e = some { cls := .ref C, data := .fields #[.ref t, .none, .ref a, .none, .bool true, .none] } → E (.ref e) { s₁ with heap := h' }) E s) :
    wpAny (model prog w) A (raiseStmt env (some x) (some c)) Q E s := by
  have hcB : (Value.ref C :: bm).contains (.type "BaseException") = true := by rw [List.contains_cons, hbase, Bool.or_true]
  unfold raiseStmt
  refine wpAny_bind (wpAny_mono h (fun v s₁ h₁ => ?_) fun _ _ x => x)
  obtain ⟨e, t, vs, oc, rfl, hne, hC, he, ha, hd, h2, hE⟩ := h₁
  refine wpAny_bind (wpAny_holding (hc _ _ (wpAny_bind (wpAny_pure ?_))))
  obtain ⟨hp, g, d, tk, os⟩ := s₁
  repeat (first | with_reducible refine wpAny_loadPart_at he ?_ | with_reducible refine wpAny_loadPart_at hC ?_ | (with_reducible refine wpAny_isSubtype_exc hC ?_; rw [hcB]) | wp_step)
  have hCe : C ≠ e := fun z => by
    have hC' : hp.get? C = some (excClassObj nm q C N bs bm hdct sn sub ab col dd k0 k1 k2 k3 k5 newId) := hC
    rw [z] at hC'
    have he' : hp.get? e = _ := he
    rw [he'] at hC'
    cases hC'
  have e1 := Heap.get?_update_self (Obj.mapFields fun x => x.setIfInBounds 3 Value.none) (show hp.get? e = _ from he) rfl
  have e2 := Heap.get?_update_self (Obj.mapFields fun x => x.setIfInBounds 4 (Value.bool true)) e1 rfl
  have oth : ∀ b, b ≠ e → ((hp.update e (Obj.mapFields fun x => x.setIfInBounds 3 Value.none)).update e (Obj.mapFields fun x => x.setIfInBounds 4 (Value.bool true))).get? b = hp.get? b := fun b hb => by
    rw [Heap.get?_update_other _ _ (Ne.symm hb), Heap.get?_update_other _ _ (Ne.symm hb)]
  have hC2 : ((hp.update e (Obj.mapFields fun x => x.setIfInBounds 3 Value.none)).update e (Obj.mapFields fun x => x.setIfInBounds 4 (Value.bool true))).get? C = _ := (oth C hCe).trans hC
  have ha2 : ((hp.update e (Obj.mapFields fun x => x.setIfInBounds 3 Value.none)).update e (Obj.mapFields fun x => x.setIfInBounds 4 (Value.bool true))).get? a = _ := (oth a (Ne.symm hne)).trans ha
  generalize hG : (hp.update e (Obj.mapFields fun x => x.setIfInBounds 3 Value.none)).update e (Obj.mapFields fun x => x.setIfInBounds 4 (Value.bool true)) = G at e2 oth hC2 ha2 ⊢
  refine wpAny_loadPart_at hC2 ?_
  refine wpAny_pure ?_
  rw [if_pos (by rfl)]
  refine wpAny_pure ?_
  unfold setFlight
  refine wpAny_bind (wpAny_bind (wpAny_field (x := Value.none) e2 rfl (by rfl) ?_))
  rw [if_neg (by decide)]
  refine wpAny_pure ?_
  unfold raiseNew
  refine wpAny_bind (wpAny_handled ?_)
  rw [hh]
  simp only
  rw [if_pos (by simp; exact fun z => hne z.symm)]
  refine wpAny_bind (wpAny_holding (PyProof.Rows.runValue_entry F.entry_unchain ?_))
  show wpAny _ _ (field (.ref a) 2 >>= _) _ _ _
  refine wpAny_bind (wpAny_field ha2 hd h2 ?_)
  rw [if_pos (show (Value.none == Value.none) = true from rfl)]
  refine wpAny_pure ⟨_, rfl, ?_⟩
  show wpAny _ _ (setField (.ref e) 2 (.ref a) >>= _) _ _ _
  refine wpAny_bind (wpAny_setField e2 rfl (by simp) (wpAny_throw ?_))
  exact hE _ (fun b hb => by rw [Heap.get?_update_other _ _ (Ne.symm hb)]; exact oth b hb) (Heap.get?_update_self (Obj.mapFields fun x => x.setIfInBounds 2 (Value.ref a)) e2 rfl)
end
section
variable {prog : Program} {w : World} {A : Around} {E : Value → Shared → Prop} {s : Shared} {env : Env}
variable {nm q : Str} {C N : Addr} {bs bm bmN bmB : List Value} {hdct : Bool} {sn : List Str} {sub : List Value} {ab : Bool} {col : Option Bool} {dd : Option Addr} {k0 k1 k2 k3 k5 : Option Value} {Bn newId inN B nid initId : String}
theorem raise_call_from (Fn : ExcBaseFacts Bn newId inN bmN) (hBn : bmB.contains (.type Bn) = true) (F : ExcBaseFacts B nid initId bmB) {mN : Str → Option Value} {x : Str} {np cpos pos p' : Pos} {n : Nat} {args : List Expr} {Q : Flow → Shared → Prop} {ax : Addr}
    (hbase : bm.contains (.type "BaseException") = true) (hh : A.handled = some (.ref ax)) (hplain : (backTo cpos (starEach args env)).any (·.1) = false) (hni : mN "__init__" = none)
    (h : wpAny (model prog w) A (eval (.Name x np) env) (fun f s₁ => f = .ref C ∧ wpAny (model prog w) A (evalArgs (.ref C) true (backTo cpos (starEach args env)) [])
      (fun a s₂ => a.kw = [] ∧ a.pos.length ≤ sizeLine ∧ s₂.heap.get? C = some (excClassObj nm q C N bs bm hdct sn sub ab col dd k0 k1 k2 k3 k5 newId) ∧ s₂.heap.Ns N mN ∧ OwnTail s₂.heap bmB bm ∧
        ∀ h' e, Heap.MadeExcOf s₂.heap h' e (.ref C) a.pos → ∃ vs oc, e ≠ ax ∧ h'.get? ax = some oc ∧ oc.data = .fields vs ∧ vs[2]? = some .none ∧
          ∀ h'', (∀ b, b ≠ e → h''.get? b = h'.get? b) → (∃ us, h''.get? e = some { cls := .ref C, data := .fields us } ∧ us[1]? = some .none) → E (.ref e) { s₂ with heap := h'' }) E s₁) E s) :
    wpAny (model prog w) A (exec (.Raise (some (.Call (.Name x np) args [] cpos)) (some (.Constant .none n p')) pos) env) Q E s := by
  rw [arm_exec_Raise]
  refine wpAny_bind (wpAny_standAt (raiseStmt_from (C := C) (nm := nm) (q := q) (N := N) (bs := bs) (bm := bm) (hdct := hdct) (sn := sn) (sub := sub) (ab := ab) (col := col) (dd := dd) (k0 := k0) (k1 := k1) (k2 := k2) (k3 := k3) (k5 := k5) (newId := newId) hbase hh
    (fun s' Q' hq => wpAny_bind (wpAny_Constant_none (wpAny_bind (wpAny_standAt (wpAny_pure hq))))) (wpAny_bind (wpAny_mono (wpAny_Call_ofName (wpAny_mono h (fun f s₁ h₁ => ?_) fun _ _ x => x)) (fun v s₃ h₃ => wpAny_bind (wpAny_standAt (wpAny_pure h₃))) fun _ _ x => x))))
  obtain ⟨rfl, h₁⟩ := h₁
  unfold callWith
  refine wpAny_bind (wpAny_holding (wpAny_mono h₁ (fun a s₂ h₂ => wpAny_bind (wpAny_standAt ?_)) fun _ _ x => x))
  obtain ⟨apos, akw⟩ := a
  obtain ⟨hkw, hlen, hC, hn, T, h₂⟩ := h₂
  obtain rfl : akw = [] := hkw
  obtain ⟨hp, g, d, tk, os⟩ := s₂
  simp only [hplain]
  refine wpAny_bind (wpAny_keeperOf_exc hC ?_)
  refine wpAny_bind (wpAny_call_exc_subU (hrest := hlen) Fn hBn F T hC hn hni fun h' e hm => wpAny_bind (wpAny_holding (wpAny_point (wpAny_pure ?_))))
  obtain ⟨t, ht, _, _⟩ := hm.there
  obtain ⟨vs, oc, hne, ho, hd, h2, k⟩ := h₂ h' e hm
  exact ⟨e, t, vs, oc, rfl, hne, hm.keeps _ _ hC, ht, ho, hd, h2, fun h'' ho' he' => k h'' ho' ⟨_, he', rfl⟩⟩
end
end PySem
set_option Elab.async false
set_option linter.all false
set_option maxRecDepth 100000
namespace L3
open PySem PySem.Spec PyProof.Rows L2
theorem ExcFlyS.weak {h : Heap} {a T C : Addr} (x : ExcFlyS h a T C) : ExcFly h a T C := by
  obtain ⟨vs, oT, ts, h1, h2, h3, h4, h5, h6, _⟩ := x
  exact ⟨vs, oT, ts, h1, h2, h3, h4, h5, h6⟩
section
variable {X : Cx} {pins : List (Addr × Obj)} {σ : L2.St} {H : Hp} {E : Value → Shared → Prop} {a C : Addr}
theorem aloftS_out {h : Heap} {pins2 : List (Addr × Obj)} (al : AloftS (cxAt X (X.pn ++ pins) E) pins2 H h a C) : AloftS X pins H h a C :=
  ⟨al.na, al.s0, fun p hp => al.pa p (List.mem_append_left _ hp), al.st.imp id fun ⟨T, h1, h2, h3, h4⟩ => ⟨T, h1, h2, fun p hp => h3 p (List.mem_append_left _ hp), h4⟩⟩
end
section
variable {X : Cx} {pins pn : List (Addr × Obj)} {σ : L2.St} {H : Hp} {s : Shared} {E : Value → Shared → Prop} {a C T : Addr}
theorem inv_trackI {vs : Array Value} (I : Inv X pins σ H s) (na : H a = none) (a0 : X.s₀.heap.get? a = none) (pa : ∀ p ∈ X.pn ++ pins, p.1 ≠ a) (hv : s.heap.get? a = some { cls := .ref C, data := .fields vs }) : Inv X pins σ (upd H a (.ext (isAt a { cls := .ref C, data := .fields vs }))) s := by
  have nw : ∀ b u, H b = some u → upd H a (.ext (isAt a { cls := .ref C, data := .fields vs })) b = some u := fun b u e => by rw [upd_ne (ne_of_none e na)]; exact e
  have nn : ∀ b, b ≠ a → H b = none → upd H a (.ext (isAt a { cls := .ref C, data := .fields vs })) b = none := fun b hb e => by rw [upd_ne hb]; exact e
  refine ⟨I.ok, I.os, I.bare, ⟨I.base.keep, I.base.slot, fun b o e n hx => nn b (fun z => by rw [z, a0] at e; cases e) (I.base.free b o e n hx), I.base.there, fun b xs e => nw _ _ (I.base.tups b xs e), fun b o u e => nw _ _ (I.base.frzs b o u e), fun b ps e => ?_⟩,
    I.loc, I.cell, nn _ (fun z => ?_) I.free, fun x c e => nn _ (fun z => ?_) (I.freeC x c e), fun p hp => ?_, fun b u e => ?_, I.len⟩
  · obtain ⟨more, q⟩ := I.base.tbls b ps e
    exact ⟨more, nw _ _ q⟩
  · obtain ⟨m, ⟨o, es, ep, ho, hd, _⟩, _⟩ := I.loc
    rw [z, hv] at ho; cases ho; cases hd
  · obtain ⟨v, o, ho, hd⟩ := I.cell x c e
    rw [z, hv] at ho; cases ho; cases hd
  · obtain ⟨e, n, r⟩ := I.pin p hp
    exact ⟨e, nn _ (pa p hp) n, r⟩
  · by_cases hb : b = a
    · subst hb
      rw [upd_same] at e
      cases e
      exact ⟨hv, ⟨_, hv⟩, fun h1 h2 q kp => kp _ q⟩
    · rw [upd_ne hb] at e
      exact (I.hok b u e).stay (fun c v _ q => q) (fun c q => nw _ _ q) fun c xs q => nw _ _ q
end
section
variable {X : Cx} {σ : L2.St} {H : Hp} {pos hpos np np2 cpos rpos p' : Pos} {body rest : List Stmt} {C CE C2 : Addr} {Post Pw : L2.St → Hp → Prop} {hs : List ExceptHandler} {h0 : ExceptHandler} {x y : Str} {e : Expr} {d : D} {n : Nat}
theorem pn1_tryOkX (h : ∀ pn, PN (cxAt X pn (fun _ _ => False)) body σ H Post) : PN1 X (.Try body (h0 :: hs) [] [] pos) σ H Post := by
  intro pins s σ' H1 D I hq
  refine wpAny_Try_except (wpAny_mono (h (X.pn ++ pins) [] s σ' H1 D (inv_at I) hq) (fun f s1 h1 => ?_) fun e s1 z => z.elim)
  cases f with
  | next =>
    obtain ⟨σ2, H2, I2, q⟩ := h1
    exact wpAny_execs_nil ⟨σ2, H2, inv_out I2, q⟩
  | ret v =>
    obtain ⟨σ2, z, H2, I2, q⟩ := h1
    exact ⟨σ2, z, H2, inv_out I2, q⟩
  | brk =>
    obtain ⟨σ2, H2, I2, q⟩ := h1
    exact ⟨σ2, H2, inv_out I2, q⟩
  | cont =>
    obtain ⟨σ2, H2, I2, q⟩ := h1
    exact ⟨σ2, H2, inv_out I2, q⟩
theorem px_tryRaise (hc : X.calm = true) (hx : X.ex = []) (hst : X.stack = X.env :: X.outer) (hfr : X.env.frame = some X.env.locals) (c : Caught X.K C CE) (hm : X.mg x = some (.ref CE)) (ec : ErrCls X.K C2) (hm2 : X.mg y = some (.ref C2))
    (he : ∀ a pn E H', Same H H' → PD (cxAt (cxMark X a) pn E) e σ H' d) (hL : LandsH X C2 Pw) (hP : ∀ H', Same H H' → Pw σ H')
    (hb : ∀ pn E H1, Same H H1 → LandsS (cxAt X pn E) C (fun σ' H' => σ' = σ ∧ Same H1 H') → PX (cxAt X pn E) body σ H1)
    (hg : Gl X x := by rfl) (hdb : (x == ("__debug__" : Str)) = false := by decide) (hg2 : Gl X y := by rfl) (hdb2 : (y == ("__debug__" : Str)) = false := by decide) (hs1 : starEach [e] X.env = (false, eval e X.env) :: starEach [] X.env := by rfl) :
    PX X (.Try body (.ExceptHandler (some (.Name x np)) none [.Raise (some (.Call (.Name y np2) [e] [] cpos)) (some (.Constant .none n p')) rpos] hpos :: hs) [] [] pos :: rest) σ H := by
  refine PSs.imp (pss_cons (t := fun _ σ' H1 => σ' = σ ∧ Same H H1) ?_ pss_never) fun _ _ _ h => h
  intro pins s σ0 H1 D I ⟨hs0, e1⟩
  subst hs0
  refine wpAny_Try_except ?_
  have handled := I.ok.hd
  have land : ∀ s2 σ2 H2 a, Inv X pins σ2 H2 s2 → (σ2 = σ0 ∧ Same H1 H2) → AloftS X pins H2 s2.heap a C →
      wpAny (model X.prog X.w) X.A (noteFrame (.ref a) X.env) (fun _ s3 => wpAny (model X.prog X.w) X.A (setFlight (.ref a) none) (fun _ s4 =>
        wpAny (model X.prog X.w) X.A (handleBy (.ref a) X.env (.ExceptHandler (some (.Name x np)) none [.Raise (some (.Call (.Name y np2) [e] [] cpos)) (some (.Constant .none n p')) rpos] hpos :: hs)) (SP X pins D) X.xe s4) X.xe s3) X.xe s2 := by
    intro s2 σ2 H2 a I2 ⟨hs2, e12⟩ al
    subst hs2
    refine inv_landsS I2 hx hst hfr I2.ok.frames al fun h' T I3 nT T0 pT fl => ?_
    obtain ⟨vs, oT, ts, hv, _, _, _, _, _, hv2⟩ := id fl
    have hex : excAt a C h' := ⟨vs, hv⟩
    refine wpAny_handleBy_cons (codeAny_handlers_test (ld_glob (X := cxMark X a) (inv_mark I3) hg hm (excMatches_own c I3.kIn hex ?_) hdb)) (by intro z; cases z)
    show codeAny _ _ _ _ _
    refine codeAny_handlers_suite (flight_again (s := { s2 with heap := h' }) fl.weak ?_)
    have I4 := inv_mark (a := a) (inv_trackI I3 al.na al.s0 al.pa hv)
    have e3 : Same H (upd H2 a (.ext (isAt a { cls := .ref C, data := .fields vs }))) := (e1.trans e12).trans (same_upd al.na)
    obtain ⟨nm, q, N, bs, bm, hdct, sn, sub, ab, col, dd, k0, k1, k2, k3, k5, Bn, newId, inN, B, nid, initId, bmN, bmB, mN, Fn, hBn, F, hbase, hni, hC, hN, OT⟩ := ec.raises X.base I.ok.mod.kin
    refine wpAny_execs_cons (wpAny_mono (raise_call_from (Q := fun _ _ => False) (ax := a) (C := C2) (nm := nm) (q := q) (N := N) (bs := bs) (bm := bm) (hdct := hdct) (sn := sn) (sub := sub) (ab := ab) (col := col) (dd := dd) (k0 := k0) (k1 := k1) (k2 := k2) (k3 := k3) (k5 := k5) Fn hBn F (mN := mN) hbase rfl
      (by rw [hs1]; rfl) hni (ld_glob (X := cxMark X a) I4 hg2 hm2 ⟨rfl, ?_⟩ hdb2)) (fun _ _ z => z.elim) fun _ _ z => z)
    have EX : ∀ EE : Value → Shared → Prop, wpAny (model X.prog X.w) (X.A.mark (some (.ref a))) (spliced (backTo cpos ((false, eval e X.env) :: starEach [] X.env))) (fun us s3 => ∃ vs3 H3, Inv (cxMark X a) pins σ2 H3 s3 ∧ Vals vs3 us ∧ Same (upd H2 a (.ext (isAt a { cls := .ref C, data := .fields vs }))) H3 ∧ IsL X.K H3 [d] vs3) EE { s2 with heap := h' } := fun EE => by
      have pa := pda_cons (X := cxAt (cxMark X a) ((cxMark X a).pn ++ pins) EE) (he a _ _ _ e3) pda_nil hs1
      have w := pa cpos [] _ σ2 _ (fun us H3 => Same (upd H2 a (.ext (isAt a { cls := .ref C, data := .fields vs }))) H3 ∧ IsL X.K H3 [d] us) (inv_at I4) ⟨rfl, Same.refl _, fun us H3 e4 hvs => ⟨e4, hvs⟩⟩
      rw [show starEach [e] (cxAt (cxMark X a) ((cxMark X a).pn ++ pins) EE).env = _ from hs1] at w
      exact wpAny_mono w (fun us s3 ⟨vs3, H3, I5, r, e4, hvs⟩ => ⟨vs3, H3, inv_out I5, r, e4, hvs⟩) fun _ _ z => z
    rw [hs1]
    refine Calls.evalArgs_plain (thn (EX _) fun us s3 ⟨vs3, H3, I5, r, e4, hvs⟩ => ⟨rfl, ?_, I5.bk _ _ hC, hN.keeps I5.bk, OT.keeps I5.bk, fun h5 e' hm' => ?_⟩)
    · show us.length ≤ sizeLine
      rw [← r.length, ← hvs.length]
      exact Nat.le_of_lt (small1000 (by simp))
    have hHa := e4 _ _ upd_same
    obtain ⟨hga, _⟩ := (show ObjOk X.prog X.w H3 s3.heap a (.ext (isAt a { cls := .ref C, data := .fields vs })) from I5.hok a _ hHa)
    have hga' : s3.heap.get? a = some { cls := .ref C, data := .fields vs } := hga
    have hne : e' ≠ a := fun z => by rw [← z, hm'.new] at hga'; cases hga'
    refine ⟨vs, _, hne, hm'.keeps _ _ hga', rfl, hv2, fun h6 ho6 ⟨us6, he6, hu6⟩ => ?_⟩
    have I6 : Inv X pins σ2 H3 { s3 with heap := h6 } := (inv_unmark handled I5).kept (t' := s3.toks) fun b o eb => by
      rw [ho6 b (fun z => by rw [z, hm'.new] at eb; cases eb)]; exact hm'.keeps b o eb
    have na : H3 e' = none := free_of_none I5.hok hm'.new
    have a0 : X.s₀.heap.get? e' = none := s0_none (X := X) (inv_unmark handled I5) hx hm'.new
    have pa' : ∀ p ∈ X.pn ++ pins, p.1 ≠ e' := pin_ne (X := X) (inv_unmark handled I5) hm'.new
    have efr : (X.env :: X.outer).filterMap (·.frame) = frs X.stack := by rw [hst]; rfl
    refine note_new (s := { s3 with heap := h6 }) (outer := X.outer) (by show X.A.frames = _; rw [I.ok.frames, hst]) (hst ▸ I6.stack) hfr ⟨us6, he6, hu6⟩ fun h7 T7 hT7 P7 x7 => ?_
    rw [efr] at P7
    have I7 := inv_past (T? := none) I6 hst hfr P7 ⟨_, us6, he6, rfl⟩ na a0 pa' fun _ z => nomatch z
    refine back_here (s := { s3 with heap := h7 }) hfr x7 ?_
    exact hL pins _ σ2 H3 e' I7 (hP H3 (e3.trans e4)) ⟨na, a0, pa', T7, free_of_none I6.hok hT7, s0_none I6 hx hT7, pin_ne I6 hT7, x7⟩
  refine wpAny_mono (hb (X.pn ++ pins) _ H1 e1 (fun pins2 s2 σ2 H2 a I2 p2 al => land s2 σ2 H2 a (inv_out I2) p2 (aloftS_out al)) [] s σ0 H1 { nx := fun _ _ => False, rt := fun _ _ => False } (inv_at I) ⟨rfl, Same.refl _⟩) (fun f s1 h1 => ?_) fun e s1 z => z
  cases f with
  | next => obtain ⟨_, _, _, z⟩ := h1; exact z.elim
  | ret v => obtain ⟨_, _, _, _, _, z⟩ := h1; exact z.elim
  | brk => obtain ⟨_, _, _, z⟩ := h1; exact z.elim
  | cont => obtain ⟨_, _, _, z⟩ := h1; exact z.elim
end
end L3
set_option Elab.async false
set_option linter.all false
set_option maxRecDepth 100000
namespace L3
open PySem PySem.Spec PyProof.Rows L2
section
variable {X : Cx} {e : Expr} {es : List Expr} {σ : L2.St} {H : Hp} {pos : Pos} {Ξ : Hp → Hp → List V → Prop}
theorem pf_tup {x1 : Nat} (ha : PAF X es σ H Ξ) (hl : ∀ H1 H2 vs, Ξ H1 H2 vs → vs.length ≤ 1000) : PF2 X (.Tuple es x1 pos) σ H (fun H1 H2 v => ∃ p vs Hm, v = .ref p ∧ Same H1 Hm ∧ Hm p = none ∧ H2 = upd Hm p (.tup vs) ∧ Ξ H1 Hm vs) :=
  PE.imp (pe_tup ha) fun σ' H1 Q ⟨hs, e1, q⟩ => ⟨hs, e1, fun vs H2 e2 hvs => ⟨Nat.le_of_lt (small1000 (hl _ _ _ hvs)), fun p hp => q _ _ (e2.trans (same_upd hp)) ⟨p, vs, H2, rfl, e2, hp, rfl, hvs⟩⟩⟩
end
section
variable {X : Cx} {pos tp : Pos} {body : List Stmt} {iter : Expr} {Pre Nx : L2.St → Hp → Prop}
def tTurnP (K : PySem.W.Frag) (n1 n2 : Nat) (vs : List V) (P : Nat → L2.St → Hp → Prop) : TS := fun E σ' H' => ∃ (i : Nat) (p : Addr) (u1 u2 : V) (σ1 : L2.St), vs[i]? = some (.ref p) ∧ SqT K H' p [u1, u2] ∧ σ' = List.set (List.set σ1 n1 (some u1)) n2 (some u2) ∧ P i σ1 H' ∧ ∀ σ2 H2, P (i + 1) σ2 H2 → E.nx σ2 H2
theorem pq1_forLt (n1 n2 : Nat) {l : Addr} {vs : List V} {x y : Str} {px py : Pos} {x1 : Nat} (P : Nat → L2.St → Hp → Prop) (hp : PassesOwn (model X.prog X.w) X.A X.env X.xe) (hc : X.calm = true) (hN : X.N.Nodup)
    (he : ∀ σ H, Pre σ H → PD X iter σ H (.adr l)) (h0 : ∀ σ H H', Pre σ H → Same H H' → P 0 σ H') (hk : ∀ i σ H, P i σ H → SqL X.K H l vs) (ht : ∀ i σ H v, P i σ H → vs[i]? = some v → ∃ p u1 u2, v = .ref p ∧ SqT X.K H p [u1, u2])
    (hs : ∀ (i : Nat) p u1 u2, vs[i]? = some (.ref p) → PQ X body (fun σ' H' => ∃ σ1, σ' = List.set (List.set σ1 n1 (some u1)) n2 (some u2) ∧ SqT X.K H' p [u1, u2] ∧ P i σ1 H') (P (i + 1)))
    (hd : ∀ σ1 H1, P vs.length σ1 H1 → Nx σ1 H1) (hi1 : X.N[n1]? = some x := by rfl) (hi2 : X.N[n2]? = some y := by rfl) (hx : Loc X.env.scope x := by first | exact Or.inl rfl | exact Or.inr rfl) (hy : Loc X.env.scope y := by first | exact Or.inl rfl | exact Or.inr rfl)
    (hf1 : X.fn x = true ∨ X.env.scope.names.lookup x = some .local := by first | exact .inl rfl | exact .inr rfl | assumption) (hf2 : X.fn y = true ∨ X.env.scope.names.lookup y = some .local := by first | exact .inl rfl | exact .inr rfl | assumption)
    (hfs : ∀ x, foldedSetIterable iter X.env x = pure x := by intro _; rfl)
    (ha1 : (assignEach [.Name x px, .Name y py] X.env).map (·.2) = assign (.Name x px) X.env :: (assignEach [.Name y py] X.env).map (·.2) := by rfl) (ha2 : (assignEach [.Name y py] X.env).map (·.2) = assign (.Name y py) X.env :: (assignEach [] X.env).map (·.2) := by rfl)
    (hn : (assignEach [.Name x px, .Name y py] X.env).length = 2 := by rfl) (hst2 : (assignEach [.Name x px, .Name y py] X.env).findIdx? (·.1) = none := by rfl) :
    PQ1 X (.For (.Tuple [.Name x px, .Name y py] x1 tp) iter body [] pos) Pre Nx := fun pins s σ H D I ⟨pre, q⟩ => by
  have hb : PSs X body (tTurnP X.K n1 n2 vs P) := fun pins s σ' H' D I ⟨i, p, u1, u2, σ1, hv, hq, hs', pp, q⟩ => hs i p u1 u2 hv pins s σ' H' D I ⟨⟨σ1, hs', hq, pp⟩, q⟩
  refine ps_for hp hc (pi_list (he σ H pre)) (pg_tup hc (pgs_cons (pg_name hN hi1 hx hf1) (pgs_cons (pg_name hN hi2 hy hf2) pgs_nil ha2) ha1) hn hst2) hb hfs pins s σ H D I ⟨rfl, Same.refl _, fun v H2 e2 hv => ?_⟩
  cases hv
  have p0 := h0 σ H H2 pre e2
  refine ⟨l, rfl, ⟨_, hk 0 σ H2 p0⟩, for_list (K := X.K) (xs := vs) P p0 (fun i σ1 H3 _ p => hk i σ1 H3 p) (fun i z σ1 H3 hz p => ?_) (fun σ1 H3 p => q σ1 H3 (hd σ1 H3 p))⟩
  obtain ⟨pa, u1, u2, rfl, hq⟩ := ht i σ1 H3 z p hz
  refine ⟨pa, [u1, u2], rfl, hq, rfl, u1, [u2], rfl, u2, [], rfl, rfl, ?_⟩
  exact ⟨i, pa, u1, u2, σ1, hz, hq, rfl, p, fun σ2 H4 p4 => p4⟩
end
open Classical in
theorem op_inLL {X : Cx} (hu : X.A.units + 64 < cLine) : OpR X (compareOp .In) (fun x y H Q => ∃ (a p : Addr) (row : List Int) (rows : List (List Int)) (us : List V), x = .ref a ∧ y = .ref p ∧ SqL X.K H a (row.map V.int) ∧ SqL X.K H p us ∧ IsL X.K H (rows.map fun r => .lst (r.map D.int)) us ∧ Q (.bl (decide (row ∈ rows))) H) := by
  intro pins s σ H x y v u Q I rx ry h
  obtain ⟨a, p, row, rows, us, rfl, rfl, hq, hp, hl, q⟩ := h
  cases (show v = Value.ref a from rx)
  cases (show u = Value.ref p from ry)
  obtain ⟨its, rv, pl, hz⟩ := I.list hp
  have depth : ∀ is : List Int, pyOk (.lst (is.map D.int)) = true ∧ (toPy (.lst (is.map D.int))).depth ≤ 1 := fun is => by
    have a : pyOks (is.map D.int) = true ∧ PyData.depthAll (toPys (is.map D.int)) = 0 := by
      induction is with
      | nil => exact ⟨rfl, rfl⟩
      | cons i is ih =>
        refine ⟨?_, ?_⟩
        · show (pyOk (.int i) && pyOks (is.map D.int)) = true
          rw [ih.1]; rfl
        · show max (PyData.depth (toPy (.int i))) (PyData.depthAll (toPys (is.map D.int))) = 0
          rw [ih.2]; rfl
    exact ⟨a.1, by show PyData.depthAll (toPys (is.map D.int)) + 1 ≤ 1; rw [a.2]; decide⟩
  have hrow : Is X.K H (.lst (row.map D.int)) (.ref a) := .lst hq (ints_isL row)
  obtain ⟨as, ra⟩ := reads_of I hrow (show RelV (V.ref a) (Value.ref a) from rfl) (depth row).1
  let f : Value → Bool := fun w => decide (∃ l, w = .ref l ∧ SqL X.K H l (row.map V.int))
  have inj : ∀ is js : List Int, is.map V.int = js.map V.int → is = js := fun is => by
    induction is with
    | nil => intro js e; cases js with | nil => rfl | cons j js => cases e
    | cons i is ih =>
      intro js e
      cases js with
      | nil => cases e
      | cons j js =>
        simp only [List.map_cons, List.cons.injEq, V.int.injEq] at e
        rw [e.1, ih js e.2]
  have eqInts : ∀ r : List Int, eqD (.lst (r.map D.int)) (.lst (row.map D.int)) = decide (r = row) := fun r => by
    by_cases e : r = row
    · rw [e, eqD_refl _ (depth row).1, decide_eq_true rfl]
    · rw [decide_eq_false e]
      have g : ∀ is js : List Int, PyData.eqvAll (toPys (is.map D.int)) (toPys (js.map D.int)) = decide (is = js) := fun is => by
        induction is with
        | nil => intro js; cases js <;> rfl
        | cons i is ih =>
          intro js
          cases js with
          | nil => rfl
          | cons j js =>
            show (decide (i = j) && PyData.eqvAll (toPys (is.map D.int)) (toPys (js.map D.int))) = _
            rw [ih js, ← Bool.decide_and]
            exact decide_eq_decide.mpr (by rw [List.cons.injEq])
      show PyData.eqvAll (toPys (r.map D.int)) (toPys (row.map D.int)) = false
      rw [g, decide_eq_false e]
  have each : ∀ (rows : List (List Int)) (us : List V) (its : List Value), IsL X.K H (rows.map fun r => .lst (r.map D.int)) us → Vals us its → (∀ y ∈ its, SeqAt.EqAt X.A.in1 s y (.ref a) (f y)) ∧ its.any f = decide (row ∈ rows) := fun rows => by
    induction rows with
    | nil =>
      intro us its hl rv
      cases hl; cases rv
      exact ⟨(fun y hy => by cases hy), rfl⟩
    | cons r rows ih =>
      intro us its hl rv
      cases hl with
      | cons h1 hl =>
        cases rv with
        | @cons _ w1 _ _ r1 rv =>
          obtain ⟨b1, b2⟩ := ih _ _ hl rv
          cases h1 with
          | @lst l xs _ hql hxl =>
            obtain rfl := isL_ints hxl
            cases (show w1 = Value.ref l from r1)
            have hr : Is X.K H (.lst (r.map D.int)) (.ref l) := .lst hql (ints_isL r)
            obtain ⟨bs, rb⟩ := reads_of I hr (show RelV (V.ref l) (Value.ref l) from rfl) (depth r).1
            have ea : SeqAt.EqAt X.A.in1 s (.ref l) (.ref a) (eqD (.lst (r.map D.int)) (.lst (row.map D.int))) := SeqAt.eqAt_reads _ _ X.A.in1 s _ _ _ _ rb ra (canLay_of _ (depth r).1) (canLay_of _ (depth row).1) (by
              have := (depth r).2
              show X.A.units + 1 + min _ _ < cLine
              omega)
            have fe : f (.ref l) = decide (r = row) := decide_eq_decide.mpr ⟨fun ⟨l', e, hq'⟩ => by cases e; exact (inj _ _ (I.list_inj hq' hql)).symm, fun e => ⟨l, rfl, by rw [← e]; exact hql⟩⟩
            rw [eqInts, ← fe] at ea
            refine ⟨fun y hy => ?_, ?_⟩
            · rcases List.mem_cons.mp hy with rfl | hy
              · exact ea
              · exact b1 y hy
            · rw [List.any_cons, b2, fe, ← Bool.decide_or]
              exact decide_eq_decide.mpr (by rw [List.mem_cons, eq_comm])
  obtain ⟨b1, b2⟩ := each rows us its hl rv
  refine SeqAt.in_listAt f pl.isList (fun y hy => b1 y (by simpa using hy)) ⟨.bl _, H, I, rfl, ?_⟩
  rw [show its.toArray.any f = its.any f by simp, b2]
  exact q
section
variable {X : Cx} {σ : L2.St} {H : Hp} {a b e : Expr} {pos p2 : Pos} {ds : List D}
theorem pd_inLL {row : List Int} {rows : List (List Int)} (hu : X.A.units + 64 < cLine) (ha : PD X a σ H (.lst (row.map D.int))) (hb : PD X b σ H (.lst (rows.map fun r => .lst (r.map D.int)))) (hm : behindInMarks .In b = false := by with_unfolding_all rfl) : PD X (.Compare a [.In] [b] pos) σ H (.bl (decide (row ∈ rows))) :=
  pd_cmp2 (op_inLL hu) ha hb hm fun x y H1 Q e1 hx hy q => by
    cases hx with
    | lst hq l =>
      cases hy with
      | lst hq2 l2 =>
        obtain rfl := isL_ints l
        exact ⟨_, _, row, rows, _, rfl, rfl, hq, hq2, l2, q _ _ (Same.refl _) (.bl _)⟩
theorem cutTo (xs : List V) (n : Nat) : cutV xs none (some (n : Int)) = xs.take n := by
  unfold cutV
  rw [HT.sIx_none, HT.sIx_nat, List.drop_zero, Nat.sub_zero]
  by_cases h : n ≤ xs.length
  · rw [Nat.min_eq_left h]
  · rw [Nat.min_eq_right (by omega), List.take_length, List.take_of_length_le (by omega)]
theorem IsL.take {K : PySem.W.Frag} {H : Hp} : ∀ {ds : List D} {vs : List V} (n : Nat), IsL K H ds vs → IsL K H (ds.take n) (vs.take n)
  | _, _, 0, _ => .nil
  | _, _, _ + 1, .nil => .nil
  | _, _, n + 1, .cons h t => .cons h (IsL.take n t)
theorem pd_sliceN {n : Nat} (he : PD X e σ H (.lst ds)) (hb : PD X b σ H (.int n)) : PD X (.Subscript e (.Slice none (some b) none p2) pos) σ H (.lst (ds.take n)) :=
  PD.of (pe_slice sl_list he po_none (po_some hb)) fun H1 Q e1 q => ⟨rfl, e1, fun x H2 e2 hx => by
    cases hx with
    | lst hq l =>
      refine ⟨rfl, e1.trans e2, fun y H3 e3 hy => ?_⟩
      cases hy
      refine ⟨n, rfl, _, _, rfl, e3.seq hq, fun p hp => ?_⟩
      rw [cutTo]
      exact q _ _ ((e2.trans e3).trans (same_upd hp)) (.lst (SqL.of upd_same) (((l.mono e3).mono (same_upd hp)).take n))⟩
end
end L3
set_option Elab.async false
set_option linter.all false
set_option maxRecDepth 100000
set_option maxHeartbeats 4000000
namespace L3
open PySem PySem.Spec PyProof.Rows L2
structure BQ1 (X : Cx) (st : Stmt) (Pre Nx : L2.St → Hp → Prop) : Prop where
  go : PQ1 X st Pre Nx
structure BF (X : Cx) (e : Expr) (σ : L2.St) (H : Hp) (Φ : Hp → Hp → V → Prop) : Prop where
  go : PF2 X e σ H Φ
structure BD (X : Cx) (e : Expr) (σ : L2.St) (H : Hp) (d : D) : Prop where
  go : PD X e σ H d
structure BR (X : Cx) (sts : List Stmt) (σ : L2.St) (H : Hp) (r : D) : Prop where
  go : PR X sts σ H r
section
variable {X : Cx} {st : Stmt} {sts els rest body : List Stmt} {e a b o c iter : Expr} {σ : L2.St} {H : Hp} {Pre Nx Mid : L2.St → Hp → Prop} {pos apos cpos tp : Pos} {d r : D} {ds : List D} {k : Bool} {Φ : Hp → Hp → V → Prop}
theorem bq1_set (i : Nat) {x : Str} {pos' : Pos} (hN : X.N.Nodup) (h : ∀ σ H, Pre σ H → ∃ d, PD X e σ H d ∧ ∀ v H', Same H H' → Is X.K H' d v → Nx (σ.set i (some v)) H') (hi : X.N[i]? = some x := by rfl)
    (hx : Loc X.env.scope x := by first | exact Or.inl rfl | exact Or.inr rfl) (hs : swapsWith e (some (.Name x pos')) pos.line X.env = pure false := by rfl)
    (hf : X.fn x = true ∨ X.env.scope.names.lookup x = some .local := by first | exact .inl rfl | exact .inr rfl | assumption) : BQ1 X (.Assign [.Name x pos'] e pos) Pre Nx := ⟨pq1_set i hN h hi hx hs hf⟩
theorem bq1_new (i : Nat) {x : Str} {pos' : Pos} (hN : X.N.Nodup) (h : ∀ σ H, Pre σ H → ∃ ds, PL X e σ H ds ∧ ∀ l vs H', Same H H' → H l = none → H' l = some (.lst vs) → IsL X.K H' ds vs → Nx (σ.set i (some (.ref l))) H') (hi : X.N[i]? = some x := by rfl)
    (hx : Loc X.env.scope x := by first | exact Or.inl rfl | exact Or.inr rfl) (hs : swapsWith e (some (.Name x pos')) pos.line X.env = pure false := by rfl)
    (hf : X.fn x = true ∨ X.env.scope.names.lookup x = some .local := by first | exact .inl rfl | exact .inr rfl | assumption) : BQ1 X (.Assign [.Name x pos'] e pos) Pre Nx := ⟨pq1_new i hN h hi hx hs hf⟩
theorem bq1_setF (i : Nat) {x : Str} {pos' : Pos} (hN : X.N.Nodup) (h : ∀ σ H, Pre σ H → ∃ Φ, BF X e σ H Φ ∧ ∀ v H', Same H H' → Φ H H' v → Nx (σ.set i (some v)) H') (hi : X.N[i]? = some x := by rfl)
    (hx : Loc X.env.scope x := by first | exact Or.inl rfl | exact Or.inr rfl) (hs : swapsWith e (some (.Name x pos')) pos.line X.env = pure false := by rfl)
    (hf : X.fn x = true ∨ X.env.scope.names.lookup x = some .local := by first | exact .inl rfl | exact .inr rfl | assumption) : BQ1 X (.Assign [.Name x pos'] e pos) Pre Nx := ⟨pq1_setF i hN (fun σ H p => (h σ H p).elim fun Φ z => ⟨Φ, z.1.go, z.2⟩) hi hx hs hf⟩
theorem bq1_forR {j : Int} {a : Expr} {p pos1 : Pos} (n : Nat) {x : Str} {px : Pos} (P : Nat → L2.St → Hp → Prop) (hp : PassesOwn (model X.prog X.w) X.A X.env X.xe) (hc : X.calm = true) (hN : X.N.Nodup) (hm : X.mg "range" = none)
    (he : ∀ σ H, Pre σ H → PD X a σ H (.int j)) (hj : -(2 ^ 62) ≤ j ∧ j < 2 ^ 62)
    (h0 : ∀ σ H H', Pre σ H → Same H H' → P 0 σ H') (hs : ∀ (i : Nat), i < j.toNat → PQ X body (fun σ' H' => ∃ σ1, σ' = σ1.set n (some (.int i)) ∧ P i σ1 H') (P (i + 1)))
    (hd : ∀ σ1 H1, P j.toNat σ1 H1 → Nx σ1 H1) (hi : X.N[n]? = some x := by rfl) (hx : Loc X.env.scope x := by first | exact Or.inl rfl | exact Or.inr rfl)
    (hf : X.fn x = true ∨ X.env.scope.names.lookup x = some .local := by first | exact .inl rfl | exact .inr rfl | assumption) (hg : Gl X "range" := by rfl)
    (hst : starEach [a] X.env = [(false, eval a X.env)] := by rfl) (hfs : ∀ x, foldedSetIterable (.Call (.Name "range" p) [a] [] pos1) X.env x = pure x := by intro _; rfl) :
    BQ1 X (.For (.Name x px) (.Call (.Name "range" p) [a] [] pos1) body [] pos) Pre Nx := ⟨pq1_forR n P hp hc hN hm he hj h0 hs hd hi hx hf hg hst hfs⟩
theorem bq1_forLt (n1 n2 : Nat) {l : Addr} {vs : List V} {x y : Str} {px py : Pos} {x1 : Nat} (P : Nat → L2.St → Hp → Prop) (hp : PassesOwn (model X.prog X.w) X.A X.env X.xe) (hc : X.calm = true) (hN : X.N.Nodup)
    (he : ∀ σ H, Pre σ H → PD X iter σ H (.adr l)) (h0 : ∀ σ H H', Pre σ H → Same H H' → P 0 σ H') (hk : ∀ i σ H, P i σ H → SqL X.K H l vs) (ht : ∀ i σ H v, P i σ H → vs[i]? = some v → ∃ p u1 u2, v = .ref p ∧ SqT X.K H p [u1, u2])
    (hs : ∀ (i : Nat) p u1 u2, vs[i]? = some (.ref p) → PQ X body (fun σ' H' => ∃ σ1, σ' = List.set (List.set σ1 n1 (some u1)) n2 (some u2) ∧ SqT X.K H' p [u1, u2] ∧ P i σ1 H') (P (i + 1)))
    (hd : ∀ σ1 H1, P vs.length σ1 H1 → Nx σ1 H1) (hi1 : X.N[n1]? = some x := by rfl) (hi2 : X.N[n2]? = some y := by rfl) (hx : Loc X.env.scope x := by first | exact Or.inl rfl | exact Or.inr rfl) (hy : Loc X.env.scope y := by first | exact Or.inl rfl | exact Or.inr rfl)
    (hf1 : X.fn x = true ∨ X.env.scope.names.lookup x = some .local := by first | exact .inl rfl | exact .inr rfl | assumption) (hf2 : X.fn y = true ∨ X.env.scope.names.lookup y = some .local := by first | exact .inl rfl | exact .inr rfl | assumption)
    (hfs : ∀ x, foldedSetIterable iter X.env x = pure x := by intro _; rfl)
    (ha1 : (assignEach [.Name x px, .Name y py] X.env).map (·.2) = assign (.Name x px) X.env :: (assignEach [.Name y py] X.env).map (·.2) := by rfl) (ha2 : (assignEach [.Name y py] X.env).map (·.2) = assign (.Name y py) X.env :: (assignEach [] X.env).map (·.2) := by rfl)
    (hn : (assignEach [.Name x px, .Name y py] X.env).length = 2 := by rfl) (hst2 : (assignEach [.Name x px, .Name y py] X.env).findIdx? (·.1) = none := by rfl) :
    BQ1 X (.For (.Tuple [.Name x px, .Name y py] x1 tp) iter body [] pos) Pre Nx := ⟨pq1_forLt n1 n2 P hp hc hN he h0 hk ht hs hd hi1 hi2 hx hy hf1 hf2 hfs ha1 ha2 hn hst2⟩
theorem bq1_appendF (h : ∀ σ H, Pre σ H → ∃ l xs Φ, PD X o σ H (.adr l) ∧ H l = some (.lst xs) ∧ xs.length < sizeLine ∧ BF X a σ H Φ ∧ ∀ v H1 H', Same H H1 → Same H1 H' → Φ H1 H' v → Nx σ (upd H' l (.lst (xs ++ [v]))))
    (hbase : attributeBase o "append" X.env (eval o X.env) = eval o X.env := by rfl)
    (hfew : ((backTo cpos (starEach [a] X.env)).all (fun x => !x.1) && (backToKw cpos (keywordEach [] X.env)).all (fun x => x.1.isSome)
      && decide ([a].length + ([] : List Keyword).length + (if ([] : List Keyword).isEmpty then 0 else 1) < 30)) = true := by rfl)
    (hline : (apos.endLine == cpos.line) = true := by rfl) (hs : starEach [a] X.env = (false, eval a X.env) :: starEach [] X.env := by rfl) (hplain : (backTo cpos (starEach [] X.env)).any (·.1) = false := by rfl)
    (hsw : swapsWith (.Call (.Attribute o "append" apos) [a] [] cpos) none pos.line X.env = pure false := by rfl) :
    BQ1 X (.Expr (.Call (.Attribute o "append" apos) [a] [] cpos) pos) Pre Nx := ⟨pq1_appendF (fun σ H p => (h σ H p).elim fun l z => z.elim fun xs z => z.elim fun Φ z => ⟨l, xs, Φ, z.1, z.2.1, z.2.2.1, z.2.2.2.1.go, z.2.2.2.2⟩) hbase hfew hline hs hplain hsw⟩
theorem br_set (i : Nat) {x : Str} {pos' : Pos} (hN : X.N.Nodup) (he : BD X e σ H d) (h : ∀ v H', Same H H' → Is X.K H' d v → PR X rest (σ.set i (some v)) H' r) (hi : X.N[i]? = some x := by rfl)
    (hx : Loc X.env.scope x := by first | exact Or.inl rfl | exact Or.inr rfl) (hs : swapsWith e (some (.Name x pos')) pos.line X.env = pure false := by rfl)
    (hf : X.fn x = true ∨ X.env.scope.names.lookup x = some .local := by first | exact .inl rfl | exact .inr rfl | assumption) : BR X (.Assign [.Name x pos'] e pos :: rest) σ H r := ⟨pr_set i hN he.go h hi hx hs hf⟩
theorem bf_lp {x1 : Nat} {p1 : Pos} (ha : PL X a σ H ds) (hb : PD X b σ H d) (hs : starEach [a, b] X.env = (false, eval a X.env) :: starEach [b] X.env := by rfl) (hs2 : starEach [b] X.env = (false, eval b X.env) :: starEach [] X.env := by rfl) (hs3 : starEach [.Tuple [a, b] x1 p1] X.env = (false, eval (.Tuple [a, b] x1 p1) X.env) :: starEach [] X.env := by rfl) :
    BF X (.List [.Tuple [a, b] x1 p1] pos) σ H (fun H1 H2 v => ∃ l p l0 xs y Hm Hq, v = .ref l ∧ Same H1 Hq ∧ H1 l0 = none ∧ Hq l0 = some (.lst xs) ∧ IsL X.K Hq ds xs ∧ Is X.K Hq d y ∧ Hq p = none ∧ Same Hq Hm ∧ Hm p = some (.tup [.ref l0, y]) ∧ Hm l = none ∧ H2 = upd Hm l (.lst [.ref p])) := by
  refine ⟨PF2.imp (pf_lst (paf_one (pf_tup (paf_cons (PL.f2 ha) (paf_one (PD.f2 hb) hs2) hs) ?_) hs3) ?_) ?_⟩
  · intro _ _ us hz
    obtain ⟨v, r, Hm, e, _, _, _, u, er, _⟩ := hz
    rw [e, er]; show 2 ≤ 1000; decide
  · intro _ _ us hz
    obtain ⟨v, e, _⟩ := hz
    rw [e]; show 1 ≤ 1000; decide
  · intro H1 H2 v e1 e2 hz
    obtain ⟨l, us, Hm, ev, em, hn, eH, u, eu, p, ws, Hq, eu2, ep, hpn, eHm, x, r, Hr, ews, eq1, eq2, ⟨l0, xs0, ex, hn0, hl0, hx0⟩, y, er, hy⟩ := hz
    subst ev; subst eH; subst eu; subst eu2; subst eHm; subst ews; subst er; subst ex
    exact ⟨l, p, l0, xs0, y, _, Hq, rfl, ep, hn0, eq2 _ _ hl0, hx0.mono eq2, hy, hpn, same_upd hpn, upd_same, hn, rfl⟩
theorem bf_tp {x1 : Nat} (ha : PL X a σ H ds) (hb : PD X b σ H d) (hs : starEach [a, b] X.env = (false, eval a X.env) :: starEach [b] X.env := by rfl) (hs2 : starEach [b] X.env = (false, eval b X.env) :: starEach [] X.env := by rfl) :
    BF X (.Tuple [a, b] x1 pos) σ H (fun H1 H2 v => ∃ p l0 xs y Hq, v = .ref p ∧ Same H1 Hq ∧ H1 l0 = none ∧ Hq l0 = some (.lst xs) ∧ IsL X.K Hq ds xs ∧ Is X.K Hq d y ∧ Hq p = none ∧ H2 = upd Hq p (.tup [.ref l0, y])) := by
  refine ⟨PF2.imp (pf_tup (paf_cons (PL.f2 ha) (paf_one (PD.f2 hb) hs2) hs) ?_) ?_⟩
  · intro _ _ us hz
    obtain ⟨v, r, Hm, e, _, _, _, u, er, _⟩ := hz
    rw [e, er]; show 2 ≤ 1000; decide
  · intro H1 H2 v e1 e2 hz
    obtain ⟨p, ws, Hq, eu2, ep, hpn, eHm, x, r, Hr, ews, eq1, eq2, ⟨l0, xs0, ex, hn0, hl0, hx0⟩, y, er, hy⟩ := hz
    subst eu2; subst eHm; subst ews; subst er; subst ex
    exact ⟨p, l0, xs0, y, Hq, rfl, ep, hn0, eq2 _ _ hl0, hx0.mono eq2, hy, hpn, rfl⟩
theorem bd_three {i1 i2 i3 : Int} {n1 n2 n3 : Nat} {p1 p2 p3 : Pos} : BD X (.List [.Constant (.int i1) n1 p1, .Constant (.int i2) n2 p2, .Constant (.int i3) n3 p3] pos) σ H (.lst [.int i1, .int i2, .int i3]) := ⟨pd_lst (pda_cons pd_int (pda_cons pd_int (pda_cons pd_int pda_nil)))⟩
theorem bd_six {e1 e2 e3 e4 e5 e6 : Expr} {d1 d2 d3 d4 d5 d6 : D} {i : Int} {p1 : Pos} (h1 : BD X e1 σ H d1) (h2 : BD X e2 σ H d2) (h3 : BD X e3 σ H d3) (h4 : BD X e4 σ H d4) (h5 : BD X e5 σ H d5) (h6 : BD X e6 σ H d6) (hb : PD X b σ H (.int i)) (hi : atI [d1, d2, d3, d4, d5, d6] i = some d)
    (s1 : starEach [e1, e2, e3, e4, e5, e6] X.env = (false, eval e1 X.env) :: starEach [e2, e3, e4, e5, e6] X.env := by rfl) (s2 : starEach [e2, e3, e4, e5, e6] X.env = (false, eval e2 X.env) :: starEach [e3, e4, e5, e6] X.env := by rfl) (s3 : starEach [e3, e4, e5, e6] X.env = (false, eval e3 X.env) :: starEach [e4, e5, e6] X.env := by rfl)
    (s4 : starEach [e4, e5, e6] X.env = (false, eval e4 X.env) :: starEach [e5, e6] X.env := by rfl) (s5 : starEach [e5, e6] X.env = (false, eval e5 X.env) :: starEach [e6] X.env := by rfl) (s6 : starEach [e6] X.env = (false, eval e6 X.env) :: starEach [] X.env := by rfl) (hs : PlainIx b := by intro _ _; rfl) :
    BD X (.Subscript (.List [e1, e2, e3, e4, e5, e6] p1) b pos) σ H d := ⟨pd_ixL (pd_lst (pda_cons h1.go (pda_cons h2.go (pda_cons h3.go (pda_cons h4.go (pda_cons h5.go (pda_cons h6.go pda_nil s6) s5) s4) s3) s2) s1)) hb hi hs⟩
end
end L3
set_option Elab.async false
set_option linter.all false
set_option maxRecDepth 100000
set_option maxHeartbeats 4000000
namespace Q
open PySem PySem.Spec PyProof.Rows L2 L3
def top (i : Nat) : Stmt := PySem.Challenge.pw_courtscore_k08_whole_rows_counted_in_ord.main.body.getD i (.Pass ⟨0, 0, 0, 0⟩)
abbrev st_Rules___init__ : Stmt := inClass (top 14) 0
theorem sc_Rules___init__ : FnScope ["self", "points", "games", "sets"] ["self", "points", "games", "sets"] (defScope st_Rules___init__) := ⟨rfl, rfl, rfl, by decide +kernel, rfl, by decide +kernel, by decide +kernel⟩
abbrev st_Rules_points : Stmt := inClass (top 14) 1
theorem sc_Rules_points : FnScope ["self"] ["self"] (defScope st_Rules_points) := ⟨rfl, rfl, rfl, by decide +kernel, rfl, by decide +kernel, by decide +kernel⟩
abbrev st_Rules_games : Stmt := inClass (top 14) 2
theorem sc_Rules_games : FnScope ["self"] ["self"] (defScope st_Rules_games) := ⟨rfl, rfl, rfl, by decide +kernel, rfl, by decide +kernel, by decide +kernel⟩
abbrev st_Rules_sets : Stmt := inClass (top 14) 3
theorem sc_Rules_sets : FnScope ["self"] ["self"] (defScope st_Rules_sets) := ⟨rfl, rfl, rfl, by decide +kernel, rfl, by decide +kernel, by decide +kernel⟩
abbrev st_begin : Stmt := top 15
theorem sc_begin : FnScope [] [] (defScope st_begin) := ⟨rfl, rfl, rfl, by decide +kernel, rfl, by decide +kernel, by decide +kernel⟩
abbrev st_winner : Stmt := top 16
theorem sc_winner : FnScope ["rules", "standing"] ["rules", "standing"] (defScope st_winner) := ⟨rfl, rfl, rfl, by decide +kernel, rfl, by decide +kernel, by decide +kernel⟩
abbrev st_after : Stmt := top 17
theorem sc_after : FnScope ["rules", "standing", "who", "points", "games"] ["rules", "standing", "who"] (defScope st_after) := ⟨rfl, rfl, rfl, by decide +kernel, rfl, by decide +kernel, by decide +kernel⟩
abbrev st_played : Stmt := top 18
theorem sc_played : FnScope ["rules", "row", "standing", "who"] ["rules", "row"] (defScope st_played) := ⟨rfl, rfl, rfl, by decide +kernel, rfl, by decide +kernel, by decide +kernel⟩
abbrev st_one_more : Stmt := top 19
theorem sc_one_more : FnScope ["pair", "who"] ["pair", "who"] (defScope st_one_more) := ⟨rfl, rfl, rfl, by decide +kernel, rfl, by decide +kernel, by decide +kernel⟩
abbrev st_is_won : Stmt := top 20
theorem sc_is_won : FnScope ["pair", "goal", "lead"] ["pair", "goal", "lead"] (defScope st_is_won) := ⟨rfl, rfl, rfl, by decide +kernel, rfl, by decide +kernel, by decide +kernel⟩
abbrev st_goes_on : Stmt := top 21
theorem sc_goes_on : FnScope ["pair", "goal"] ["pair", "goal"] (defScope st_goes_on) := ⟨rfl, rfl, rfl, by decide +kernel, rfl, by decide +kernel, by decide +kernel⟩
abbrev st_is_reached : Stmt := top 22
theorem sc_is_reached : FnScope ["rules", "standing", "sets"] ["rules", "standing"] (defScope st_is_reached) := ⟨rfl, rfl, rfl, by decide +kernel, rfl, by decide +kernel, by decide +kernel⟩
abbrev st_refuse_unreached : Stmt := top 23
theorem sc_refuse_unreached : FnScope ["rules", "standing"] ["rules", "standing"] (defScope st_refuse_unreached) := ⟨rfl, rfl, rfl, by decide +kernel, rfl, by decide +kernel, by decide +kernel⟩
abbrev st_refuse_beyond : Stmt := top 24
theorem sc_refuse_beyond : FnScope ["what", "number", "most"] ["what", "number", "most"] (defScope st_refuse_beyond) := ⟨rfl, rfl, rfl, by decide +kernel, rfl, by decide +kernel, by decide +kernel⟩
abbrev st_many_rows : Stmt := top 26
theorem sc_many_rows : FnScope ["rules", "many"] ["rules", "many"] (defScope st_many_rows) := ⟨rfl, rfl, rfl, by decide +kernel, rfl, by decide +kernel, by decide +kernel⟩
abbrev st_row_at : Stmt := top 27
theorem sc_row_at : FnScope ["rules", "many", "number", "ways", "standing", "row", "left", "ahead", "who"] ["rules", "many", "number"] (defScope st_row_at) := ⟨rfl, rfl, rfl, by decide +kernel, rfl, by decide +kernel, by decide +kernel⟩
abbrev st_number_of : Stmt := top 28
theorem sc_number_of : FnScope ["rules", "row", "ways", "standing", "number", "place", "who"] ["rules", "row"] (defScope st_number_of) := ⟨rfl, rfl, rfl, by decide +kernel, rfl, by decide +kernel, by decide +kernel⟩
abbrev st_refuse_no_end : Stmt := top 29
theorem sc_refuse_no_end : FnScope ["rules", "row", "standing"] ["rules", "row"] (defScope st_refuse_no_end) := ⟨rfl, rfl, rfl, by decide +kernel, rfl, by decide +kernel, by decide +kernel⟩
abbrev st_ways_to_end : Stmt := top 30
theorem sc_ways_to_end : FnScope ["rules", "many", "steps", "ways", "left", "shorter"] ["rules", "many"] (defScope st_ways_to_end) := ⟨rfl, rfl, rfl, by decide +kernel, rfl, by decide +kernel, by decide +kernel⟩
abbrev st_steps_from_begin : Stmt := top 31
theorem sc_steps_from_begin : FnScope ["rules", "many", "steps", "newest", "gone", "found", "standing", "later"] ["rules", "many"] (defScope st_steps_from_begin) := ⟨rfl, rfl, rfl, by decide +kernel, rfl, by decide +kernel, by decide +kernel⟩
abbrev st_standings_behind : Stmt := top 32
theorem sc_standings_behind : FnScope ["rules", "standing"] ["rules", "standing"] (defScope st_standings_behind) := ⟨rfl, rfl, rfl, by decide +kernel, rfl, by decide +kernel, by decide +kernel⟩
abbrev st_behind : Stmt := top 33
theorem sc_behind : FnScope ["rules", "standing", "who", "later"] ["rules", "standing", "who"] (defScope st_behind) := ⟨rfl, rfl, rfl, by decide +kernel, rfl, by decide +kernel, by decide +kernel⟩
abbrev st_lowered : Stmt := top 34
theorem sc_lowered : FnScope ["pair", "goal", "beyond"] ["pair", "goal"] (defScope st_lowered) := ⟨rfl, rfl, rfl, by decide +kernel, rfl, by decide +kernel, by decide +kernel⟩
abbrev st__law_cell_at : Stmt := top 36
theorem sc__law_cell_at : FnScope ["script", "k"] ["script", "k"] (defScope st__law_cell_at) := ⟨rfl, rfl, rfl, by decide +kernel, rfl, by decide +kernel, by decide +kernel⟩
abbrev st__law_draw : Stmt := top 37
theorem sc__law_draw : FnScope ["script", "k", "cell", "turn", "stir"] ["script", "k"] (defScope st__law_draw) := ⟨rfl, rfl, rfl, by decide +kernel, rfl, by decide +kernel, by decide +kernel⟩
abbrev st__law_whole : Stmt := top 38
theorem sc__law_whole : FnScope ["found"] ["found"] (defScope st__law_whole) := ⟨rfl, rfl, rfl, by decide +kernel, rfl, by decide +kernel, by decide +kernel⟩
abbrev st__law_made : Stmt := top 40
theorem sc__law_made : FnScope ["wanted"] ["wanted"] (defScope st__law_made) := ⟨rfl, rfl, rfl, by decide +kernel, rfl, by decide +kernel, by decide +kernel⟩
abbrev st__law_ahead : Stmt := top 41
theorem sc__law_ahead : FnScope ["pair", "wanted"] ["pair", "wanted"] (defScope st__law_ahead) := ⟨rfl, rfl, rfl, by decide +kernel, rfl, by decide +kernel, by decide +kernel⟩
abbrev st__law_more : Stmt := top 42
theorem sc__law_more : FnScope ["pair", "who", "row"] ["pair", "who"] (defScope st__law_more) := ⟨rfl, rfl, rfl, by decide +kernel, rfl, by decide +kernel, by decide +kernel⟩
abbrev st__law_over : Stmt := top 43
theorem sc__law_over : FnScope ["wanted", "standing"] ["wanted", "standing"] (defScope st__law_over) := ⟨rfl, rfl, rfl, by decide +kernel, rfl, by decide +kernel, by decide +kernel⟩
abbrev st__law_after : Stmt := top 44
theorem sc__law_after : FnScope ["wanted", "standing", "who", "points", "games"] ["wanted", "standing", "who"] (defScope st__law_after) := ⟨rfl, rfl, rfl, by decide +kernel, rfl, by decide +kernel, by decide +kernel⟩
abbrev st__law_all_rows : Stmt := top 46
theorem sc__law_all_rows : FnScope ["wanted", "many", "found", "spread", "k", "further", "row", "standing", "who"] ["wanted", "many"] (defScope st__law_all_rows) := ⟨rfl, rfl, rfl, by decide +kernel, rfl, by decide +kernel, by decide +kernel⟩
abbrev st__law_alone : Stmt := top 47
theorem sc__law_alone : FnScope ["e", "found"] ["e"] (defScope st__law_alone) := ⟨rfl, rfl, rfl, by decide +kernel, rfl, by decide +kernel, by decide +kernel⟩
abbrev st__law_refused : Stmt := top 48
theorem sc__law_refused : FnScope ["call", "rules", "many", "what", "found", "e"] ["call", "rules", "many", "what"] (defScope st__law_refused) := ⟨rfl, rfl, rfl, by decide +kernel, rfl, by decide +kernel, by decide +kernel⟩
abbrev st_law : Stmt := top 49
theorem sc_law : FnScope ["script", "wanted", "rules", "many", "due", "found", "numbers", "number", "told", "handed", "again", "row"] ["script"] (defScope st_law) := ⟨rfl, rfl, rfl, by decide +kernel, rfl, by decide +kernel, by decide +kernel⟩
def dS (s : M.Stg) : D := .tup [dP s.1, dP s.2.1, dP s.2.2]
def fsR (g1 g2 g3 : Int) : List (Str × V) := putF "set_goal" (.int g3) (putF "game_goal" (.int g2) (putF "point_goal" (.int g1) []))
theorem fsR_1 (g1 g2 g3 : Int) : (fsR g1 g2 g3).lookup ("point_goal" : Str) = some (.int g1) := by
  unfold fsR
  rw [lookup_putF, if_neg (by decide +kernel), lookup_putF, if_neg (by decide +kernel), lookup_putF, if_pos rfl]
theorem fsR_2 (g1 g2 g3 : Int) : (fsR g1 g2 g3).lookup ("game_goal" : Str) = some (.int g2) := by
  unfold fsR
  rw [lookup_putF, if_neg (by decide +kernel), lookup_putF, if_pos rfl]
theorem fsR_3 (g1 g2 g3 : Int) : (fsR g1 g2 g3).lookup ("set_goal" : Str) = some (.int g3) := by
  unfold fsR
  rw [lookup_putF, if_pos rfl]
theorem fsR_no (g1 g2 g3 : Int) {m : Str} (h1 : ¬ m = "set_goal") (h2 : ¬ m = "game_goal") (h3 : ¬ m = "point_goal") : (fsR g1 g2 g3).lookup m = none := by
  unfold fsR
  rw [lookup_putF, if_neg h1, lookup_putF, if_neg h2, lookup_putF, if_neg h3]
  all_goals rfl
structure Tx (K : PySem.W.Frag) (mg : Str → Option Value) (C : Addr) : Prop where
  cl : Cls K C
  n1 : NoAttr K C "point_goal"
  n2 : NoAttr K C "game_goal"
  n3 : NoAttr K C "set_goal"
  mgC : mg "Rules" = some (.ref C)
  max : mg "max" = none
  min : mg "min" = none
  abs : mg "abs" = none
  len : mg "len" = none
  range : mg "range" = none
  int : mg "int" = none
  bool : mg "bool" = none
  list : mg "list" = none
  tuple : mg "tuple" = none
  isi : mg "isinstance" = none
  lead : ∃ t, mg "LEAD" = some (.int 2 t)
  mp : ∃ t, mg "MOST_POINTS" = some (.int 5 t)
  mgm : ∃ t, mg "MOST_GAMES" = some (.int 6 t)
  ms : ∃ t, mg "MOST_SETS" = some (.int 3 t)
  nought : ∃ a, mg "NOUGHT" = some (.ref a) ∧ ∀ H, Is K H (dP (0, 0)) (.ref a)
section
variable {P : Program} {w : World} {K : PySem.W.Frag} {mg : Str → Option Value} {base : Heap} {C : Addr}
theorem hu64 {n : Nat} {A : Around} (h : Room n A) : A.units + 64 < cLine := h.units
def R_one_more (ds : List D) (r : D) : Prop := ∃ q v, ds = [dP q, .int v] ∧ r = dP (M.more q v)
theorem ok_one_more (h : Has K mg "one_more" st_one_more ["pair", "who"]) : Does P w K mg base 1 "one_more" ["pair", "who"] R_one_more := by
  refine h.does sc_one_more (fun ds r ⟨q, v, e, _⟩ => by rw [e]; rfl) fun f cdv A outer s H E vs ds r hr hl hR => ?_
  obtain ⟨q, v, rfl, rfl⟩ := hR
  obtain ⟨v0, v1, rfl, hp, h2⟩ := isL2 hl
  cases h2
  exact
    pr_if (pdt_eqI (pd_var 1 rfl (.int _)) pd_int)
      (fun z => (pr_ret (pd_tup (pda_cons (pd_add (pd_ixT (pd_var 0 rfl hp) pd_int) pd_int) (pda_cons (pd_ixT (pd_var 0 rfl hp) pd_int) pda_nil)))).cast (by
        have z' := of_decide_eq_true z
        unfold M.more; rw [if_pos z']; rfl))
      (fun z => (pr_ret (pd_tup (pda_cons (pd_ixT (pd_var 0 rfl hp) pd_int) (pda_cons (pd_add (pd_ixT (pd_var 0 rfl hp) pd_int) pd_int) pda_nil)))).cast (by
        have z' := of_decide_eq_false z
        unfold M.more; rw [if_neg z']; rfl))
def R_is_won (ds : List D) (r : D) : Prop := ∃ q g l, ds = [dP q, .int g, .int l] ∧ r = .bl (M.wonL q g l)
theorem ok_is_won (T : Tx K mg C) (h : Has K mg "is_won" st_is_won ["pair", "goal", "lead"]) : Does P w K mg base 1 "is_won" ["pair", "goal", "lead"] R_is_won := by
  refine h.does sc_is_won (fun ds r ⟨q, v, l, e, _⟩ => by rw [e]; rfl) fun f cdv A outer s H E vs ds r hr hl hR => ?_
  obtain ⟨q, g, l, rfl, rfl⟩ := hR
  obtain ⟨v0, v1, v2, rfl, hp, h2, h3⟩ := isL3 hl
  cases h2; cases h3
  exact
    pr_ret (pd_and (pd_ge (pd_max rfl T.max (pd_var 0 rfl hp)) (pd_var 1 rfl (.int _)))
      fun _ => pd_one (pd_ge (pd_abs T.abs (pd_sub (pd_ixT (pd_var 0 rfl hp) pd_int) (pd_ixT (pd_var 0 rfl hp) pd_int))) (pd_var 2 rfl (.int _))))
def R_goes_on (ds : List D) (r : D) : Prop := ∃ q g, ds = [dP q, .int g] ∧ r = .bl (M.onB q g)
theorem ok_goes_on (T : Tx K mg C) (d1 : Does P w K mg base 1 "is_won" ["pair", "goal", "lead"] R_is_won) (h : Has K mg "goes_on" st_goes_on ["pair", "goal"]) : Does P w K mg base 2 "goes_on" ["pair", "goal"] R_goes_on := by
  refine h.does sc_goes_on (fun ds r ⟨q, v, e, _⟩ => by rw [e]; rfl) fun f cdv A outer s H E vs ds r hr hl hR => ?_
  obtain ⟨q, g, rfl, rfl⟩ := hR
  obtain ⟨t, hlead⟩ := T.lead
  obtain ⟨v0, v1, rfl, hp, h2⟩ := isL2 hl
  cases h2
  exact
    pr_ret (pd_and (pd_ge (pd_min rfl T.min (pd_var 0 rfl hp)) pd_int)
      fun _ => pd_one (pd_not (pd_does d1 hr (pda_cons (pd_var 0 rfl hp) (pda_cons (pd_var 1 rfl (.int _)) (pda_cons (pd_globI hlead) pda_nil))) ⟨q, g, 2, rfl, rfl⟩)))
def R_points (C : Addr) (ds : List D) (r : D) : Prop := ∃ g1 g2 g3, ds = [.obj C (fsR g1 g2 g3)] ∧ r = .int g1
def R_games (C : Addr) (ds : List D) (r : D) : Prop := ∃ g1 g2 g3, ds = [.obj C (fsR g1 g2 g3)] ∧ r = .int g2
def R_sets (C : Addr) (ds : List D) (r : D) : Prop := ∃ g1 g2 g3, ds = [.obj C (fsR g1 g2 g3)] ∧ r = .int g3
theorem ok_points (T : Tx K mg C) (h : HasM K C "points" "Rules.points" st_Rules_points ["self"]) : DoesM P w K mg base 1 C "points" ["self"] (R_points C) := by
  refine h.does sc_Rules_points (fun ds r ⟨_, _, _, e, _⟩ => by rw [e]; rfl) fun f cdv A outer s H E vs ds r hr hl hR => ?_
  obtain ⟨g1, g2, g3, rfl, rfl⟩ := hR
  obtain ⟨v0, rfl, h0⟩ := isL1 hl
  exact pr_ret (pd_fld (pd_var 0 rfl h0) T.cl T.n1 (fsR_1 _ _ _) (fun _ => .int _))
theorem ok_games (T : Tx K mg C) (h : HasM K C "games" "Rules.games" st_Rules_games ["self"]) : DoesM P w K mg base 1 C "games" ["self"] (R_games C) := by
  refine h.does sc_Rules_games (fun ds r ⟨_, _, _, e, _⟩ => by rw [e]; rfl) fun f cdv A outer s H E vs ds r hr hl hR => ?_
  obtain ⟨g1, g2, g3, rfl, rfl⟩ := hR
  obtain ⟨v0, rfl, h0⟩ := isL1 hl
  exact pr_ret (pd_fld (pd_var 0 rfl h0) T.cl T.n2 (fsR_2 _ _ _) (fun _ => .int _))
theorem ok_sets (T : Tx K mg C) (h : HasM K C "sets" "Rules.sets" st_Rules_sets ["self"]) : DoesM P w K mg base 1 C "sets" ["self"] (R_sets C) := by
  refine h.does sc_Rules_sets (fun ds r ⟨_, _, _, e, _⟩ => by rw [e]; rfl) fun f cdv A outer s H E vs ds r hr hl hR => ?_
  obtain ⟨g1, g2, g3, rfl, rfl⟩ := hR
  obtain ⟨v0, rfl, h0⟩ := isL1 hl
  exact pr_ret (pd_fld (pd_var 0 rfl h0) T.cl T.n3 (fsR_3 _ _ _) (fun _ => .int _))
theorem no1 (g1 g2 g3 : Int) : (fsR g1 g2 g3).lookup ("points" : Str) = none := fsR_no _ _ _ (by decide +kernel) (by decide +kernel) (by decide +kernel)
theorem no2 (g1 g2 g3 : Int) : (fsR g1 g2 g3).lookup ("games" : Str) = none := fsR_no _ _ _ (by decide +kernel) (by decide +kernel) (by decide +kernel)
theorem no3 (g1 g2 g3 : Int) : (fsR g1 g2 g3).lookup ("sets" : Str) = none := fsR_no _ _ _ (by decide +kernel) (by decide +kernel) (by decide +kernel)
def R_refuse_beyond (ds : List D) (r : D) : Prop := ∃ x n m, ds = [.str x, .int n, .int m] ∧ 1 ≤ n ∧ n ≤ m ∧ r = .non
theorem ok_refuse_beyond (h : Has K mg "refuse_beyond" st_refuse_beyond ["what", "number", "most"]) : Does P w K mg base 1 "refuse_beyond" ["what", "number", "most"] R_refuse_beyond := by
  refine h.doesF sc_refuse_beyond (fun ds r ⟨_, _, _, e, _⟩ => by rw [e]; rfl) (fun ds r ⟨_, _, _, _, _, _, e⟩ => e) fun f cdv A outer s H E vs ds hr hl hR => ?_
  obtain ⟨x, n, m, rfl, h1, h2, _⟩ := hR
  obtain ⟨v0, v1, v2, rfl, h0, hn, hm⟩ := isL3 hl
  cases hn; cases hm
  exact pf_of (pn_one (pn1_if (PDW.pt (pdw_or (pdt_lt (pd_var 1 rfl (.int _)) pd_int) fun _ => pdw_or1 (pdt_gt (pd_var 1 rfl (.int _)) (pd_var 2 rfl (.int _)))))
    (fun z => absurd z (by simp; omega)) (fun _ => pn_nil fun _ _ => trivial)))
def R_init (ds : List D) (fs : List (Str × V)) : Prop := ∃ g1 g2 g3, ds = [.int g1, .int g2, .int g3] ∧ M.Good g1 g2 g3 ∧ fs = fsR g1 g2 g3
theorem ok_Rules {fI : Addr} {fdI : FuncData} (T : Tx K mg C) (d1 : Does P w K mg base 1 "refuse_beyond" ["what", "number", "most"] R_refuse_beyond) (M : Mk K C fI) (F : Fun K "__init__" "Rules.__init__" st_Rules___init__ fI fdI) (hb : Binds K fdI ["self", "points", "games", "sets"] []) :
    Makes P w K mg base 2 C "Rules" ["self", "points", "games", "sets"] R_init := by
  refine ⟨fI, fdI, ?_, M, T.mgC, hb⟩
  refine F.ok sc_Rules___init__ (fun vs H Q E ⟨p, dx, us, ds, fs, e, hl, ⟨g1, g2, g3, e2, _⟩, _⟩ => by subst e2; obtain ⟨v1, v2, v3, rfl, _⟩ := isL3 hl; rw [e]; rfl) fun cdv A outer s H vs Q E hr h => ?_
  obtain ⟨p, dx, us, ds, fs, rfl, hl, ⟨g1, g2, g3, rfl, hg, rfl⟩, hp, q⟩ := h
  obtain ⟨v1, v2, v3, rfl, h1, h2, h3⟩ := isL3 hl
  cases h1; cases h2; cases h3
  obtain ⟨t1, m1⟩ := T.mp
  obtain ⟨t2, m2⟩ := T.mgm
  obtain ⟨t3, m3⟩ := T.ms
  have e1 : ∀ (x : Str) (n m : Int), 1 ≤ n → n ≤ m → R_refuse_beyond [.str x, .int n, .int m] .non := fun x n m a b => ⟨x, n, m, rfl, a, b, rfl⟩
  let Z : List (Str × V) → L2.St → Hp → Prop := fun fs σ' H' => σ' = [some (.ref p), some (.int g1), some (.int g2), some (.int g3)] ∧ H' p = some (.ins C dx fs) ∧ ∀ b o, H b = some o → b ≠ p → H' b = some o
  obtain ⟨b1, b2, b3, b4, b5, b6⟩ := hg
  have keep : ∀ {fs σ H1 H2}, Z fs σ H1 → Same H1 H2 → Z fs σ H2 := fun {fs σ H1 H2} ⟨z1, z2, z3⟩ e => ⟨z1, e _ _ z2, fun b o hb hne => e _ _ (z3 b o hb hne)⟩
  have put : ∀ {fs σ H1 H2} (f : Str) (v : V), Z fs σ H1 → Same H1 H2 → Z (putF f v fs) σ (upd H2 p (.ins C dx (putF f v fs))) := fun {fs σ H1 H2} f v ⟨z1, z2, z3⟩ e =>
    ⟨z1, upd_same, fun b o hb hne => by rw [upd_ne hne]; exact e _ _ (z3 b o hb hne)⟩
  refine ⟨_, (?_ : PQ _ _ (fun σ' H' => σ' = [some (.ref p), some (.int g1), some (.int g2), some (.int g3)] ∧ H' = H) (Z (fsR g1 g2 g3))), ⟨rfl, rfl⟩, fun σ' H' ⟨_, z2, z3⟩ => q H' z3 z2⟩
  refine pq_cons (Mid := Z []) (pq1_pn (Post := fun σ _ σ' _ => σ' = σ) (fun σ H1 ⟨z1, z2⟩ => by
      subst z1; subst z2
      exact pn1_expr (pd_does d1 (hr.mono (by decide)) (pda_cons pd_str (pda_cons (pd_var 1 rfl (.int _)) (pda_cons (pd_globI m1) pda_nil))) (e1 _ _ _ b1 b2)) fun _ _ => rfl)
    fun σ H1 σ' H2 ⟨z1, z2⟩ e z => by subst z; subst z1; subst z2; exact ⟨rfl, e _ _ hp, fun b o hb _ => e _ _ hb⟩) ?_
  refine pq_cons (Mid := Z []) (pq1_pn (Post := fun σ _ σ' _ => σ' = σ) (fun σ H1 ⟨z1, z2⟩ => by
      subst z1
      exact pn1_expr (pd_does d1 (hr.mono (by decide)) (pda_cons pd_str (pda_cons (pd_var 2 rfl (.int _)) (pda_cons (pd_globI m2) pda_nil))) (e1 _ _ _ b3 b4)) fun _ _ => rfl)
    fun σ H1 σ' H2 z e y => by subst y; exact keep z e) ?_
  refine pq_cons (Mid := Z []) (pq1_pn (Post := fun σ _ σ' _ => σ' = σ) (fun σ H1 ⟨z1, z2⟩ => by
      subst z1
      exact pn1_expr (pd_does d1 (hr.mono (by decide)) (pda_cons pd_str (pda_cons (pd_var 3 rfl (.int _)) (pda_cons (pd_globI m3) pda_nil))) (e1 _ _ _ b5 b6)) fun _ _ => rfl)
    fun σ H1 σ' H2 z e y => by subst y; exact keep z e) ?_
  refine pq_cons (Mid := Z (putF "point_goal" (.int g1) [])) (pq1_fld fun σ H1 z => by
    have z' := z
    obtain ⟨z1, z2, z3⟩ := z'
    subst z1
    exact ⟨p, C, dx, _, .int g1, pd_var 0 rfl (.adr p), z2, T.cl, T.n1, by simp, pd_var 1 rfl (.int _), fun v H2 e hv => by cases hv; exact put _ _ z e⟩) ?_
  have l1 := putF_len "point_goal" (.int g1) []
  have l2 := putF_len "game_goal" (.int g2) (putF "point_goal" (.int g1) [])
  simp only [List.length_nil] at l1
  refine pq_cons (Mid := Z (putF "game_goal" (.int g2) (putF "point_goal" (.int g1) []))) (pq1_fld fun σ H1 z => by
    have z' := z
    obtain ⟨z1, z2, z3⟩ := z'
    subst z1
    exact ⟨p, C, dx, _, .int g2, pd_var 0 rfl (.adr p), z2, T.cl, T.n2, by omega, pd_var 2 rfl (.int _), fun v H2 e hv => by cases hv; exact put _ _ z e⟩) ?_
  exact pq_one (pq1_fld fun σ H1 z => by
    have z' := z
    obtain ⟨z1, z2, z3⟩ := z'
    subst z1
    exact ⟨p, C, dx, _, .int g3, pd_var 0 rfl (.adr p), z2, T.cl, T.n3, by omega, pd_var 3 rfl (.int _), fun v H2 e hv => by cases hv; exact put _ _ z e⟩)
def R_is_reached (C : Addr) (ds : List D) (r : D) : Prop := ∃ g1 g2 g3 s, ds = [.obj C (fsR g1 g2 g3), dS s] ∧ r = .bl (M.reached g1 g2 g3 s)
theorem eqP (q : Int × Int) : eqD (dP q) (dP (0, 0)) = decide (q = (0, 0)) := by
  obtain ⟨a, b⟩ := q
  simp [eqD, dP, toPy, toPys, PyData.eqv, PyData.eqvAll, Prod.ext_iff]
  by_cases h1 : a = 0 <;> by_cases h2 : b = 0 <;> simp [h1, h2]
theorem dep_dP (q : Int × Int) : depD (dP q) ≤ 60 := by simp [depD, dP, toPy, toPys, PyData.depth, PyData.depthAll]
theorem ok_is_reached (T : Tx K mg C) (d1 : DoesM P w K mg base 1 C "points" ["self"] (R_points C)) (d2 : DoesM P w K mg base 1 C "games" ["self"] (R_games C)) (d3 : DoesM P w K mg base 1 C "sets" ["self"] (R_sets C))
    (d4 : Does P w K mg base 2 "goes_on" ["pair", "goal"] R_goes_on) (h : Has K mg "is_reached" st_is_reached ["rules", "standing"]) : Does P w K mg base 3 "is_reached" ["rules", "standing"] (R_is_reached C) := by
  refine h.does sc_is_reached (fun ds r ⟨_, _, _, _, e, _⟩ => by rw [e]; rfl) fun f cdv A outer s H E vs ds r hr hl hR => ?_
  obtain ⟨g1, g2, g3, st, rfl, rfl⟩ := hR
  obtain ⟨v0, v1, rfl, h0, h1⟩ := isL2 hl
  have hr1 : Room 1 _ := hr.mono (by decide)
  obtain ⟨an, mn, nn⟩ := T.nought
  refine pr_set 2 sc_is_reached.nd (pd_ixT (d := dP st.1) (pd_var 1 rfl h1) pd_int) fun v2 H2 e2 h2 => ?_
  have h0' := h0.mono e2
  have h1' := h1.mono e2
  refine pr_if (PDW.pt (pdw_or (pdt_lt (pd_min rfl T.min (pd_var 2 rfl h2)) pd_int) fun _ => pdw_or (pdt_ge (pd_min rfl T.min (pd_var 2 rfl h2)) (pd_doesM0 d3 T.cl hr1 (pd_var 0 rfl h0') (no3 _ _ _) ⟨_, _, _, rfl, rfl⟩)) fun _ => pdw_or1 (pdt_gt (pd_max rfl T.max (pd_var 2 rfl h2)) (pd_doesM0 d3 T.cl hr1 (pd_var 0 rfl h0') (no3 _ _ _) ⟨_, _, _, rfl, rfl⟩))))
    (fun z => (pr_ret pd_bl).cast ?_) (fun z => ?_)
  · have z' : M.outB g3 st.1 = true := z
    unfold M.reached; rw [if_pos z']
  · have z' : ¬ M.outB g3 st.1 = true := by rw [show M.outB g3 st.1 = false from z]; exact Bool.false_ne_true
    refine pr_if (pdt_eqI (pd_max rfl T.max (pd_var 2 rfl h2)) (pd_doesM0 d3 T.cl hr1 (pd_var 0 rfl h0') (no3 _ _ _) ⟨_, _, _, rfl, rfl⟩)) (fun y => ?_) (fun y => ?_)
    · refine (pr_ret (pd_and (pd_eqD (hu64 hr) (pd_ixT (d := dP st.2.1) (pd_var 1 rfl h1') pd_int) (pd_globR mn (nn _)) rfl rfl (dep_dP _)) fun _ =>
        pd_one (pd_eqD (hu64 hr) (pd_ixT (d := dP st.2.2) (pd_var 1 rfl h1') pd_int) (pd_globR mn (nn _)) rfl rfl (dep_dP _)))).cast ?_
      unfold M.reached
      rw [if_neg z', if_pos (of_decide_eq_true y), eqP, eqP]
    · refine (pr_ret (pd_and (pd_does d4 hr (pda_cons (pd_ixT (d := dP st.2.1) (pd_var 1 rfl h1') pd_int) (pda_cons (pd_doesM0 d2 T.cl hr1 (pd_var 0 rfl h0') (no2 _ _ _) ⟨_, _, _, rfl, rfl⟩) pda_nil)) ⟨_, _, rfl, rfl⟩) fun _ =>
        pd_one (pd_does d4 hr (pda_cons (pd_ixT (d := dP st.2.2) (pd_var 1 rfl h1') pd_int) (pda_cons (pd_doesM0 d1 T.cl hr1 (pd_var 0 rfl h0') (no1 _ _ _) ⟨_, _, _, rfl, rfl⟩) pda_nil)) ⟨_, _, rfl, rfl⟩))).cast ?_
      unfold M.reached
      rw [if_neg z', if_neg (of_decide_eq_false y)]
def R_refuse_unreached (C : Addr) (ds : List D) (r : D) : Prop := ∃ g1 g2 g3 s, ds = [.obj C (fsR g1 g2 g3), dS s] ∧ M.reached g1 g2 g3 s = true ∧ r = .non
theorem ok_refuse_unreached (d1 : Does P w K mg base 3 "is_reached" ["rules", "standing"] (R_is_reached C)) (h : Has K mg "refuse_unreached" st_refuse_unreached ["rules", "standing"]) :
    Does P w K mg base 4 "refuse_unreached" ["rules", "standing"] (R_refuse_unreached C) := by
  refine h.doesF sc_refuse_unreached (fun ds r ⟨_, _, _, _, e, _⟩ => by rw [e]; rfl) (fun ds r ⟨_, _, _, _, _, _, e⟩ => e) fun f cdv A outer s H E vs ds hr hl hR => ?_
  obtain ⟨g1, g2, g3, st, rfl, hre, _⟩ := hR
  obtain ⟨v0, v1, rfl, h0, h1⟩ := isL2 hl
  exact pf_of (pn_one (pn1_if (pdt_not (pdt_val (pd_does d1 hr (pda_cons (pd_var 0 rfl h0) (pda_cons (pd_var 1 rfl h1) pda_nil)) ⟨_, _, _, _, rfl, rfl⟩)))
    (fun z => absurd z (by rw [hre]; decide)) (fun _ => pn_nil fun _ _ => trivial)))
def R_winner (C : Addr) (ds : List D) (r : D) : Prop := ∃ g1 g2 g3 s, ds = [.obj C (fsR g1 g2 g3), dS s] ∧ M.reached g1 g2 g3 s = true ∧ r = M.wnr g3 s
theorem ok_winner (T : Tx K mg C) (d3 : DoesM P w K mg base 1 C "sets" ["self"] (R_sets C)) (d1 : Does P w K mg base 4 "refuse_unreached" ["rules", "standing"] (R_refuse_unreached C)) (h : Has K mg "winner" st_winner ["rules", "standing"]) :
    Does P w K mg base 5 "winner" ["rules", "standing"] (R_winner C) := by
  refine h.does sc_winner (fun ds r ⟨_, _, _, _, e, _⟩ => by rw [e]; rfl) fun f cdv A outer s H E vs ds r hr hl hR => ?_
  obtain ⟨g1, g2, g3, st, rfl, hre, rfl⟩ := hR
  obtain ⟨v0, v1, rfl, h0, h1⟩ := isL2 hl
  have hr1 : Room 1 _ := hr.mono (by decide)
  refine pr_cons (Post := fun σ' _ => σ' = [some v0, some v1]) (pn1_expr (pd_does d1 hr (pda_cons (pd_var 0 rfl h0) (pda_cons (pd_var 1 rfl h1) pda_nil)) ⟨_, _, _, _, rfl, hre, rfl⟩) fun _ _ => rfl) fun σ' H2 e2 z => ?_
  subst z
  have h0' := h0.mono e2
  have h1' := h1.mono e2
  refine pr_if (pdt_eqI (pd_ixT (pd_ixT (d := dP st.1) (pd_var 1 rfl h1') pd_int) pd_int) (pd_doesM0 d3 T.cl hr1 (pd_var 0 rfl h0') (no3 _ _ _) ⟨_, _, _, rfl, rfl⟩)) (fun y => (pr_ret pd_int).cast ?_) (fun y => ?_)
  · unfold M.wnr; rw [if_pos (of_decide_eq_true y)]
  · refine pr_if (pdt_eqI (pd_ixT (pd_ixT (d := dP st.1) (pd_var 1 rfl h1') pd_int) pd_int) (pd_doesM0 d3 T.cl hr1 (pd_var 0 rfl h0') (no3 _ _ _) ⟨_, _, _, rfl, rfl⟩)) (fun y2 => (pr_ret pd_int).cast ?_) (fun y2 => (pr_ret pd_non).cast ?_)
    · unfold M.wnr; rw [if_neg (of_decide_eq_false y), if_pos (of_decide_eq_true y2)]
    · unfold M.wnr; rw [if_neg (of_decide_eq_false y), if_neg (of_decide_eq_false y2)]
def R_after (C : Addr) (ds : List D) (r : D) : Prop := ∃ g1 g2 g3 s v, ds = [.obj C (fsR g1 g2 g3), dS s, .int v] ∧ M.reached g1 g2 g3 s = true ∧ M.over g3 s = false ∧ r = dS (M.aft g1 g2 s v)
theorem ok_after (T : Tx K mg C) (d1 : DoesM P w K mg base 1 C "points" ["self"] (R_points C)) (d2 : DoesM P w K mg base 1 C "games" ["self"] (R_games C)) (d4 : Does P w K mg base 5 "winner" ["rules", "standing"] (R_winner C))
    (d5 : Does P w K mg base 1 "one_more" ["pair", "who"] R_one_more) (d6 : Does P w K mg base 1 "is_won" ["pair", "goal", "lead"] R_is_won) (h : Has K mg "after" st_after ["rules", "standing", "who"]) :
    Does P w K mg base 6 "after" ["rules", "standing", "who"] (R_after C) := by
  refine h.does sc_after (fun ds r ⟨_, _, _, _, _, e, _⟩ => by rw [e]; rfl) fun f cdv A outer s H E vs ds r hr hl hR => ?_
  obtain ⟨g1, g2, g3, st, v, rfl, hre, hov, rfl⟩ := hR
  obtain ⟨v0, v1, v2, rfl, h0, h1, h2⟩ := isL3 hl
  cases h2
  have hr1 : Room 1 _ := hr.mono (by decide)
  obtain ⟨an, mn, nn⟩ := T.nought
  obtain ⟨tl, hlead⟩ := T.lead
  refine pr_if (pdt_notN (pd_does d4 hr (pda_cons (pd_var 0 rfl h0) (pda_cons (pd_var 1 rfl h1) pda_nil)) ⟨_, _, _, _, rfl, hre, rfl⟩)) (fun z => absurd z (by rw [M.wnr_non hre hov]; decide)) (fun _ => ?_)
  refine pr_set 3 sc_after.nd (pd_does d5 hr1 (pda_cons (pd_ixT (d := dP st.2.2) (pd_var 1 rfl h1) pd_int) (pda_cons (pd_var 2 rfl (.int _)) pda_nil)) ⟨_, _, rfl, rfl⟩) fun v3 H2 e2 h3 => ?_
  have h0' := h0.mono e2
  have h1' := h1.mono e2
  refine pr_if (pdt_not (pdt_val (pd_does d6 hr1 (pda_cons (pd_var 3 rfl h3) (pda_cons (pd_doesM0 d1 T.cl hr1 (pd_var 0 rfl h0') (no1 _ _ _) ⟨_, _, _, rfl, rfl⟩) (pda_cons (pd_globI hlead) pda_nil))) ⟨_, _, _, rfl, rfl⟩)))
    (fun y => (pr_ret (pd_tup (pda_cons (pd_ixT (pd_var 1 rfl h1') pd_int) (pda_cons (pd_ixT (pd_var 1 rfl h1') pd_int) (pda_cons (pd_var 3 rfl h3) pda_nil))))).cast ?_) (fun y => ?_)
  · unfold M.aft
    rw [if_neg (by rw [show M.won (M.more st.2.2 v) g1 = M.wonL (M.more st.2.2 v) g1 2 from rfl]; simpa using y)]
    rfl
  have y' : M.won (M.more st.2.2 v) g1 = true := by rw [show M.won (M.more st.2.2 v) g1 = M.wonL (M.more st.2.2 v) g1 2 from rfl]; simpa using y
  refine pr_set 4 sc_after.nd (pd_does d5 hr1 (pda_cons (pd_ixT (d := dP st.2.1) (pd_var 1 rfl h1') pd_int) (pda_cons (pd_var 2 rfl (.int _)) pda_nil)) ⟨_, _, rfl, rfl⟩) fun v4 H3 e3 h4 => ?_
  have h0'' := h0'.mono e3
  have h1'' := h1'.mono e3
  refine pr_if (pdt_not (pdt_val (pd_does d6 hr1 (pda_cons (pd_var 4 rfl h4) (pda_cons (pd_doesM0 d2 T.cl hr1 (pd_var 0 rfl h0'') (no2 _ _ _) ⟨_, _, _, rfl, rfl⟩) (pda_cons (pd_globI hlead) pda_nil))) ⟨_, _, _, rfl, rfl⟩)))
    (fun y2 => (pr_ret (pd_tup (pda_cons (pd_ixT (pd_var 1 rfl h1'') pd_int) (pda_cons (pd_var 4 rfl h4) (pda_cons (pd_globR mn (nn _)) pda_nil))))).cast ?_) (fun y2 => ?_)
  · unfold M.aft
    rw [if_pos y', if_neg (by rw [show M.won (M.more st.2.1 v) g2 = M.wonL (M.more st.2.1 v) g2 2 from rfl]; simpa using y2)]
    rfl
  have y2' : M.won (M.more st.2.1 v) g2 = true := by rw [show M.won (M.more st.2.1 v) g2 = M.wonL (M.more st.2.1 v) g2 2 from rfl]; simpa using y2
  refine (pr_ret (pd_tup (pda_cons (pd_does d5 hr1 (pda_cons (pd_ixT (d := dP st.1) (pd_var 1 rfl h1'') pd_int) (pda_cons (pd_var 2 rfl (.int _)) pda_nil)) ⟨_, _, rfl, rfl⟩) (pda_cons (pd_globR mn (nn _)) (pda_cons (pd_globR mn (nn _)) pda_nil))))).cast ?_
  unfold M.aft
  rw [if_pos y', if_pos y2']
  rfl
def R_begin (ds : List D) (r : D) : Prop := ds = [] ∧ r = dS M.st0
theorem ok_begin (T : Tx K mg C) (h : Has K mg "begin" st_begin []) : Does P w K mg base 1 "begin" [] R_begin := by
  refine h.does sc_begin (fun ds r ⟨e, _⟩ => by rw [e]; rfl) fun f cdv A outer s H E vs ds r hr hl hR => ?_
  obtain ⟨rfl, rfl⟩ := hR
  obtain rfl := isL0 hl
  obtain ⟨an, mn, nn⟩ := T.nought
  exact pr_ret (pd_tup (pda_cons (pd_globR mn (nn _)) (pda_cons (pd_globR mn (nn _)) (pda_cons (pd_globR mn (nn _)) pda_nil))))
def R_played (C : Addr) (ds : List D) (r : D) : Prop := ∃ g1 g2 g3 ws, ds = [.obj C (fsR g1 g2 g3), .lst (ws.map D.int)] ∧ M.Good g1 g2 g3 ∧ M.Legal g1 g2 g3 M.st0 ws ∧ r = dS (M.run g1 g2 M.st0 ws)
theorem ok_played (d1 : Does P w K mg base 1 "begin" [] R_begin) (d2 : Does P w K mg base 6 "after" ["rules", "standing", "who"] (R_after C)) (h : Has K mg "played" st_played ["rules", "row"]) :
    Does P w K mg base 7 "played" ["rules", "row"] (R_played C) := by
  refine h.does sc_played (fun ds r ⟨_, _, _, _, e, _⟩ => by rw [e]; rfl) fun f cdv A outer s H E vs ds r hr hl hR => ?_
  obtain ⟨g1, g2, g3, ws, rfl, hg, hleg, rfl⟩ := hR
  obtain ⟨v0, v1, rfl, h0, h1⟩ := isL2 hl
  refine pr_set 2 sc_played.nd (pd_does0 d1 (hr.mono (by decide)) ⟨rfl, rfl⟩) fun v2 H2 e2 h2 => ?_
  have h0' := h0.mono e2
  have h1' := h1.mono e2
  refine pr_cons (Post := fun σ' H' => ∃ v x, σ' = [some v0, some v1, some v, x] ∧ Is K H' (dS (M.run g1 g2 M.st0 ws)) v)
    (pn1_forL 3 (fun i σ' H' => ∃ v x, σ' = [some v0, some v1, some v, x] ∧ Is K H' (dS (M.run g1 g2 M.st0 (ws.take i))) v) PassesOwn.never rfl sc_played.nd (pd_var 1 rfl h1')
      (fun H3 e3 => ⟨v2, none, rfl, h2.mono e3⟩) (fun i d v σ1 H3 hd e3 ⟨u, x, hs, hu⟩ hv => ?_) (fun σ1 H3 e3 ⟨u, x, hs, hu⟩ => ⟨u, x, hs, by rw [List.length_map, List.take_length] at hu; exact hu⟩)) (fun σ' H3 e3 ⟨u, x, hs, hu⟩ => ?_)
  · subst hs
    obtain ⟨w', rfl⟩ : ∃ w', d = .int w' := by
      rw [List.getElem?_map] at hd
      cases q : ws[i]? with
      | none => rw [q] at hd; cases hd
      | some w' => rw [q] at hd; exact ⟨w', (Option.some.inj hd).symm⟩
    have hw : ws[i]? = some w' := by
      rw [List.getElem?_map] at hd
      cases q : ws[i]? with
      | none => rw [q] at hd; cases hd
      | some w2 => rw [q] at hd; cases hd; rfl
    cases hv
    have hrun := M.run_take g1 g2 M.st0 hw
    obtain ⟨l1, l2⟩ := M.legal_take hg (M.reached_st0 hg) hleg hw
    exact pn_one (pn1_set 2 sc_played.nd (pd_does d2 hr (pda_cons (pd_var 0 rfl (h0'.mono e3)) (pda_cons (pd_var 2 rfl hu) (pda_cons (pd_var 3 rfl (.int _)) pda_nil))) ⟨_, _, _, _, _, rfl, l1, l2, rfl⟩)
      fun v' H4 e4 hv' => ⟨v', _, rfl, by rw [hrun]; exact hv'⟩)
  · subst hs
    exact pr_ret (pd_var 2 rfl hu)
end
end Q
set_option Elab.async false
set_option linter.all false
set_option maxRecDepth 100000
set_option maxHeartbeats 4000000
namespace Q
open PySem PySem.Spec PyProof.Rows L2 L3
section
variable {P : Program} {w : World} {K : PySem.W.Frag} {mg : Str → Option Value} {base : Heap} {C : Addr}
abbrev dL (ns : List Int) : D := .lst (ns.map D.int)
def R_cell (ds : List D) (r : D) : Prop := ∃ ns k, ds = [dL ns, .int k] ∧ 0 ≤ k ∧ r = .int (M.cellF ns k)
theorem ok_cell (T : Tx K mg C) (h : Has K mg "_law_cell_at" st__law_cell_at ["script", "k"]) : Does P w K mg base 1 "_law_cell_at" ["script", "k"] R_cell := by
  refine h.does sc__law_cell_at (fun ds r ⟨_, _, e, _⟩ => by rw [e]; rfl) fun f cdv A outer s H E vs ds r hr hl hR => ?_
  obtain ⟨ns, k, rfl, hk, rfl⟩ := hR
  obtain ⟨v0, v1, rfl, h0, h1⟩ := isL2 hl
  cases h1
  refine pr_if (pdt_lt (pd_var 1 rfl (.int _)) (pd_lenL T.len (pd_var 0 rfl h0))) (fun z => ?_) (fun z => (pr_ret pd_int).cast ?_)
  · have z' : k < ns.length := by simpa using z
    exact pr_ret (pd_ixL (pd_var 0 rfl h0) (pd_var 1 rfl (.int _)) (M.atI_cell hk z'))
  · have z' : ¬ k < ns.length := by simpa using z
    rw [M.cell_out hk z']
def R_draw (ds : List D) (r : D) : Prop := ∃ ns k, ds = [dL ns, .int k] ∧ 0 ≤ k ∧ k < 1000000 ∧ r = .int (M.drawF ns k)
theorem ok_draw (T : Tx K mg C) (d1 : Does P w K mg base 1 "_law_cell_at" ["script", "k"] R_cell) (h : Has K mg "_law_draw" st__law_draw ["script", "k"]) : Does P w K mg base 2 "_law_draw" ["script", "k"] R_draw := by
  refine h.does sc__law_draw (fun ds r ⟨_, _, e, _⟩ => by rw [e]; rfl) fun f cdv A outer s H E vs ds r hr hl hR => ?_
  obtain ⟨ns, k, rfl, hk, hk2, rfl⟩ := hR
  obtain ⟨v0, v1, rfl, h0, h1⟩ := isL2 hl
  cases h1
  refine pr_set 2 sc__law_draw.nd (pd_does d1 hr (pda_cons (pd_var 0 rfl h0) (pda_cons (pd_mod (pd_var 1 rfl (.int _)) pd_int (by decide)) pda_nil)) ⟨_, _, rfl, by omega, rfl⟩) fun v2 H2 e2 h2 => ?_
  cases h2
  have h0' := h0.mono e2
  refine pr_if (pdt_eqI (pd_mod (pd_does d1 hr (pda_cons (pd_var 0 rfl h0') (pda_cons pd_int pda_nil)) ⟨_, _, rfl, by decide, rfl⟩) pd_int (by decide)) pd_int) (fun z => ?_) (fun z => ?_)
  · refine pr_cons (Post := fun σ' _ => ∃ x y, σ' = [some v0, some (.int k), some (.int (M.divs (k / 61).toNat (M.cellF ns (k % 61)))), x, y])
      (pn1_forR 3 (fun i σ' _ => ∃ x y, σ' = [some v0, some (.int k), some (.int (M.divs i (M.cellF ns (k % 61)))), x, y]) PassesOwn.never rfl sc__law_draw.nd T.range (pd_div (pd_var 1 rfl (.int _)) pd_int ⟨by decide, by decide⟩) (by omega)
        (fun _ _ => ⟨_, _, rfl⟩) (fun i σ1 H3 hi e3 ⟨x, y, hs⟩ => ?_) (fun σ1 H3 e3 z => z)) (fun σ' H3 e3 ⟨x, y, hs⟩ => ?_)
    · subst hs
      exact pn_one (pn1_set 2 sc__law_draw.nd (pd_div (pd_var 2 rfl (.int _)) pd_int ⟨by decide, by decide⟩) fun v H4 e4 hv => by cases hv; exact ⟨_, _, rfl⟩)
    · subst hs
      refine (pr_ret (pd_mod (pd_var 2 rfl (.int _)) pd_int (by decide))).cast ?_
      unfold M.drawF; rw [if_pos (of_decide_eq_true z)]
  · refine pr_set 4 sc__law_draw.nd (pd_mod (pd_mul (pd_add (pd_add (pd_var 2 rfl (.int _)) (pd_mul pd_int (pd_var 1 rfl (.int _)) (.inl (by decide)))) pd_int) pd_int (.inr (by decide))) pd_int (by decide)) fun v4 H3 e3 h4 => ?_
    cases h4
    refine pr_set 4 sc__law_draw.nd (pd_mod (pd_mul (pd_var 4 rfl (.int _)) (pd_var 4 rfl (.int _)) (.inl (by omega))) pd_int (by decide)) fun v5 H4 e4 h5 => ?_
    cases h5
    refine (pr_ret (pd_div (pd_mod (pd_mul (pd_var 4 rfl (.int _)) pd_int (.inr (by decide))) pd_int (by decide)) pd_int ⟨by decide, by decide⟩)).cast ?_
    unfold M.drawF; rw [if_neg (of_decide_eq_false z)]
def R_whole (ds : List D) (r : D) : Prop := ∃ i, ds = [.int i] ∧ r = .bl true
theorem ok_whole (T : Tx K mg C) (h : Has K mg "_law_whole" st__law_whole ["found"]) : Does P w K mg base 1 "_law_whole" ["found"] R_whole := by
  refine h.does sc__law_whole (fun ds r ⟨_, e, _⟩ => by rw [e]; rfl) fun f cdv A outer s H E vs ds r hr hl hR => ?_
  obtain ⟨i, rfl, rfl⟩ := hR
  obtain ⟨v0, rfl, h0⟩ := isL1 hl
  exact pr_ret (pd_and (pd_isi (k := true) T.isi (pd_var 0 rfl h0) (pd_ty T.int) rfl) fun _ => pd_one (pd_not (pd_isi (k := false) T.isi (pd_var 0 rfl h0) (pd_ty T.bool) rfl)))
def dW (g : Int × Int × Int) : D := .lst [.int g.1, .int g.2.1, .int g.2.2]
def R_made (C : Addr) (ds : List D) (r : D) : Prop := ∃ g1 g2 g3, ds = [dW (g1, g2, g3)] ∧ M.Good g1 g2 g3 ∧ r = .obj C (fsR g1 g2 g3)
theorem ok_made (d1 : Makes P w K mg base 2 C "Rules" ["self", "points", "games", "sets"] R_init) (h : Has K mg "_law_made" st__law_made ["wanted"]) : Does P w K mg base 4 "_law_made" ["wanted"] (R_made C) := by
  refine h.does sc__law_made (fun ds r ⟨_, _, _, e, _⟩ => by rw [e]; rfl) fun f cdv A outer s H E vs ds r hr hl hR => ?_
  obtain ⟨g1, g2, g3, rfl, hg, rfl⟩ := hR
  obtain ⟨v0, rfl, h0⟩ := isL1 hl
  exact pr_ret (pd_makes d1 hr (pda_cons (pd_ixL (pd_var 0 rfl h0) pd_int) (pda_cons (pd_ixL (pd_var 0 rfl h0) pd_int) (pda_cons (pd_ixL (pd_var 0 rfl h0) pd_int) pda_nil))) ⟨g1, g2, g3, rfl, hg, rfl⟩)
def aheadF (q : Int × Int) (g : Int) : D := if M.won q g = true then .int (if q.1 = mxP q then 0 else 1) else .non
def R_ahead (ds : List D) (r : D) : Prop := ∃ q g, ds = [dP q, .int g] ∧ r = aheadF q g
theorem ok_ahead (T : Tx K mg C) (h : Has K mg "_law_ahead" st__law_ahead ["pair", "wanted"]) : Does P w K mg base 1 "_law_ahead" ["pair", "wanted"] R_ahead := by
  refine h.does sc__law_ahead (fun ds r ⟨q, v, e, _⟩ => by rw [e]; rfl) fun f cdv A outer s H E vs ds r hr hl hR => ?_
  obtain ⟨q, g, rfl, rfl⟩ := hR
  obtain ⟨v0, v1, rfl, h0, h1⟩ := isL2 hl
  cases h1
  refine pr_if (k := M.won q g) (PDW.pt (pdw_and (pdt_ge (pd_max rfl T.max (pd_var 0 rfl h0)) (pd_var 1 rfl (.int _))) fun _ => pdw_and1 (pdt_ge (pd_abs T.abs (pd_sub (pd_ixT (pd_var 0 rfl h0) pd_int) (pd_ixT (pd_var 0 rfl h0) pd_int))) pd_int)))
    (fun z => (pr_ret (pd_indexT (q := q) (pd_var 0 rfl h0) (pd_max rfl T.max (pd_var 0 rfl h0)) ?_)).cast ?_) (fun z => (pr_ret pd_non).cast ?_)
  · unfold mxP; split <;> simp
  · unfold aheadF; rw [if_pos z]
  · unfold aheadF; rw [z]; rfl
def R_more (ds : List D) (r : D) : Prop := ∃ q v, ds = [dP q, .int v] ∧ (v = 0 ∨ v = 1) ∧ r = dP (M.more q v)
theorem ok_more (T : Tx K mg C) (h : Has K mg "_law_more" st__law_more ["pair", "who"]) : Does P w K mg base 1 "_law_more" ["pair", "who"] R_more := by
  refine h.does sc__law_more (fun ds r ⟨q, v, e, _⟩ => by rw [e]; rfl) fun f cdv A outer s H E vs ds r hr hl hR => ?_
  obtain ⟨q, v, rfl, hv, rfl⟩ := hR
  obtain ⟨v0, v1, rfl, h0, h1⟩ := isL2 hl
  cases h1
  refine pr_pqr fun H1 e1 => ?_
  have h0' := h0.mono e1
  refine pqr_cons (Mid := fun σ' H' => ∃ l, σ' = [some v0, some (.int v), some (.ref l)] ∧ Same H1 H' ∧ H1 l = none ∧ H' l = some (.lst [.int q.1, .int q.2])) ?_ ?_
  · refine pq1_new 2 sc__law_more.nd fun σ' H' ⟨z1, z2⟩ => ?_
    subst z1; subst z2
    refine ⟨_, pl_listT T.list (pd_var 0 rfl h0'), fun l vs H2 e2 hn hl2 hvs => ?_⟩
    obtain ⟨a, b, rfl, ha, hb⟩ := isL2 hvs
    cases ha; cases hb
    exact ⟨l, rfl, e2, hn, hl2⟩
  refine pqr_cons (Mid := fun σ' H' => ∃ l, σ' = [some v0, some (.int v), some (.ref l)] ∧ Same H1 H' ∧ H' l = some (.lst [.int (M.more q v).1, .int (M.more q v).2])) ?_ ?_
  · refine pq1_setL fun σ' H' ⟨l, z1, z2, z3, z4⟩ => ?_
    subst z1
    have hrow : Is K H' (.lst [.int q.1, .int q.2]) (.ref l) := .lst (SqL.of z4) (.cons (.int _) (.cons (.int _) .nil))
    rcases hv with rfl | rfl
    · exact ⟨l, _, 0, 0, .int (q.1 + 1), pd_var 2 rfl (.adr l), z4, pd_var 1 rfl (.int _), rfl, pd_add (pd_ixL (pd_var 2 rfl hrow) (pd_var 1 rfl (.int _))) pd_int, fun v' H2 e2 hv' => by
        cases hv'
        exact ⟨l, rfl, fun b o e => by rw [upd_ne (ne_of_none e z3)]; exact e2 _ _ (z2 _ _ e), upd_same⟩⟩
    · exact ⟨l, _, 1, 1, .int (q.2 + 1), pd_var 2 rfl (.adr l), z4, pd_var 1 rfl (.int _), rfl, pd_add (pd_ixL (pd_var 2 rfl hrow) (pd_var 1 rfl (.int _))) pd_int, fun v' H2 e2 hv' => by
        cases hv'
        exact ⟨l, rfl, fun b o e => by rw [upd_ne (ne_of_none e z3)]; exact e2 _ _ (z2 _ _ e), upd_same⟩⟩
  · refine pqr_pr fun σ' H' ⟨l, z1, z2, z4⟩ => ?_
    subst z1
    have hl : Is K H' (.lst [.int (M.more q v).1, .int (M.more q v).2]) (.ref l) := .lst (SqL.of z4) (.cons (.int _) (.cons (.int _) .nil))
    exact ⟨_, pr_ret (pd_tupL T.tuple (pd_var 2 rfl hl)), fun v' H2 e2 hv' => ⟨z2.trans e2, hv'⟩⟩
def R_over (ds : List D) (r : D) : Prop := ∃ g s, ds = [dW g, dS s] ∧ r = .bl (M.over g.2.2 s)
theorem ok_over (T : Tx K mg C) (h : Has K mg "_law_over" st__law_over ["wanted", "standing"]) : Does P w K mg base 1 "_law_over" ["wanted", "standing"] R_over := by
  refine h.does sc__law_over (fun ds r ⟨_, _, e, _⟩ => by rw [e]; rfl) fun f cdv A outer s H E vs ds r hr hl hR => ?_
  obtain ⟨g, st, rfl, rfl⟩ := hR
  obtain ⟨v0, v1, rfl, h0, h1⟩ := isL2 hl
  exact pr_ret (pd_eqI (pd_max rfl T.max (pd_ixT (d := dP st.1) (pd_var 1 rfl h1) pd_int)) (pd_ixL (pd_var 0 rfl h0) pd_int))
def R_aft (ds : List D) (r : D) : Prop := ∃ g s v, ds = [dW g, dS s, .int v] ∧ (v = 0 ∨ v = 1) ∧ r = dS (M.aft g.1 g.2.1 s v)
theorem isNon_ahead (q : Int × Int) (g : Int) : isNon (aheadF q g) = !M.won q g := by
  unfold aheadF
  cases M.won q g <;> rfl
theorem ok_aft (d1 : Does P w K mg base 1 "_law_more" ["pair", "who"] R_more) (d2 : Does P w K mg base 1 "_law_ahead" ["pair", "wanted"] R_ahead) (h : Has K mg "_law_after" st__law_after ["wanted", "standing", "who"]) :
    Does P w K mg base 2 "_law_after" ["wanted", "standing", "who"] R_aft := by
  refine h.does sc__law_after (fun ds r ⟨_, _, _, e, _⟩ => by rw [e]; rfl) fun f cdv A outer s H E vs ds r hr hl hR => ?_
  obtain ⟨g, st, v, rfl, hv, rfl⟩ := hR
  obtain ⟨v0, v1, v2, rfl, h0, h1, h2⟩ := isL3 hl
  cases h2
  refine pr_set 3 sc__law_after.nd (pd_does d1 hr (pda_cons (pd_ixT (d := dP st.2.2) (pd_var 1 rfl h1) pd_int) (pda_cons (pd_var 2 rfl (.int _)) pda_nil)) ⟨_, _, rfl, hv, rfl⟩) fun v3 H2 e2 h3 => ?_
  have h0' := h0.mono e2
  have h1' := h1.mono e2
  refine pr_if (pdt_isN (pd_does d2 hr (pda_cons (pd_var 3 rfl h3) (pda_cons (pd_ixL (pd_var 0 rfl h0') pd_int) pda_nil)) ⟨_, _, rfl, rfl⟩))
    (fun y => (pr_ret (pd_tup (pda_cons (pd_ixT (pd_var 1 rfl h1') pd_int) (pda_cons (pd_ixT (pd_var 1 rfl h1') pd_int) (pda_cons (pd_var 3 rfl h3) pda_nil))))).cast ?_) (fun y => ?_)
  · rw [isNon_ahead] at y
    unfold M.aft
    rw [if_neg (by simpa using y)]
    rfl
  rw [isNon_ahead] at y
  have y' : M.won (M.more st.2.2 v) g.1 = true := by simpa using y
  refine pr_set 4 sc__law_after.nd (pd_does d1 hr (pda_cons (pd_ixT (d := dP st.2.1) (pd_var 1 rfl h1') pd_int) (pda_cons (pd_var 2 rfl (.int _)) pda_nil)) ⟨_, _, rfl, hv, rfl⟩) fun v4 H3 e3 h4 => ?_
  have h0'' := h0'.mono e3
  have h1'' := h1'.mono e3
  refine pr_if (pdt_isN (pd_does d2 hr (pda_cons (pd_var 4 rfl h4) (pda_cons (pd_ixL (pd_var 0 rfl h0'') pd_int) pda_nil)) ⟨_, _, rfl, rfl⟩))
    (fun y2 => (pr_ret (pd_tup (pda_cons (pd_ixT (pd_var 1 rfl h1'') pd_int) (pda_cons (pd_var 4 rfl h4) (pda_cons (pd_tup (pda_cons pd_int (pda_cons pd_int pda_nil))) pda_nil))))).cast ?_) (fun y2 => ?_)
  · rw [isNon_ahead] at y2
    unfold M.aft
    rw [if_pos y', if_neg (by simpa using y2)]
    rfl
  rw [isNon_ahead] at y2
  have y2' : M.won (M.more st.2.1 v) g.2.1 = true := by simpa using y2
  refine (pr_ret (pd_tup (pda_cons (pd_does d1 hr (pda_cons (pd_ixT (d := dP st.1) (pd_var 1 rfl h1'') pd_int) (pda_cons (pd_var 2 rfl (.int _)) pda_nil)) ⟨_, _, rfl, hv, rfl⟩)
    (pda_cons (pd_tup (pda_cons pd_int (pda_cons pd_int pda_nil))) (pda_cons (pd_tup (pda_cons pd_int (pda_cons pd_int pda_nil))) pda_nil))))).cast ?_
  unfold M.aft
  rw [if_pos y', if_pos y2']
  rfl
end
section
variable {P : Program} {w : World} {K : PySem.W.Frag} {mg : Str → Option Value} {base : Heap} {C : Addr}
end
end Q
set_option Elab.async false
set_option linter.all false
set_option maxRecDepth 100000
set_option maxHeartbeats 4000000
namespace Q
open PySem PySem.Spec PyProof.Rows L2 L3
section
variable {P : Program} {w : World} {K : PySem.W.Frag} {mg : Str → Option Value} {base : Heap} {C CR : Addr}
structure Trw (mg : Str → Option Value) : Prop where
  dict : mg "dict" = none
  sum : mg "sum" = none
  enum : mg "enumerate" = none
  sorted : mg "sorted" = none
def R_lowered (ds : List D) (r : D) : Prop := ∃ q g, ds = [dP q, .int g] ∧ r = dP (M.lowP q g)
theorem ok_lowered (T : Tx K mg C) (h : Has K mg "lowered" st_lowered ["pair", "goal"]) : Does P w K mg base 1 "lowered" ["pair", "goal"] R_lowered := by
  refine h.does sc_lowered (fun ds r ⟨_, _, e, _⟩ => by rw [e]; rfl) fun f cdv A outer s H E vs ds r hr hl hR => ?_
  obtain ⟨q, g, rfl, rfl⟩ := hR
  obtain ⟨v0, v1, rfl, h0, h1⟩ := isL2 hl
  cases h1
  refine pr_set 2 sc_lowered.nd (pd_max2 rfl T.max (pd_add (pd_sub (pd_min rfl T.min (pd_var 0 rfl h0)) (pd_var 1 rfl (.int _))) pd_int) pd_int) fun v2 H2 e2 h2 => ?_
  cases h2
  replace h0 := h0.mono e2
  exact pr_ret (pd_tup (pda_cons (pd_sub (pd_ixT (d := .int q.1) (pd_var 0 rfl h0) pd_int) (pd_var 2 rfl (.int _))) (pda_cons (pd_sub (pd_ixT (d := .int q.2) (pd_var 0 rfl h0) pd_int) (pd_var 2 rfl (.int _))) pda_nil)))
def R_behind (C : Addr) (ds : List D) (r : D) : Prop := ∃ g1 g2 g3 s v, ds = [.obj C (fsR g1 g2 g3), dS s, .int v] ∧ M.reached g1 g2 g3 s = true ∧ M.over g3 s = false ∧ r = dS (M.beh g1 g2 s v)
theorem ok_behind (T : Tx K mg C) (d1 : DoesM P w K mg base 1 C "points" ["self"] (R_points C)) (d2 : DoesM P w K mg base 1 C "games" ["self"] (R_games C)) (dAft : Does P w K mg base 6 "after" ["rules", "standing", "who"] (R_after C))
    (dLow : Does P w K mg base 1 "lowered" ["pair", "goal"] R_lowered) (h : Has K mg "behind" st_behind ["rules", "standing", "who"]) : Does P w K mg base 7 "behind" ["rules", "standing", "who"] (R_behind C) := by
  refine h.does sc_behind (fun ds r ⟨_, _, _, _, _, e, _⟩ => by rw [e]; rfl) fun f cdv A outer s H E vs ds r hr hl hR => ?_
  obtain ⟨g1, g2, g3, st, v, rfl, hre, ho, rfl⟩ := hR
  obtain ⟨v0, v1, v2, rfl, h0, h1, h2⟩ := isL3 hl
  cases h2
  have hr1 : Room 1 _ := hr.mono (by decide)
  refine pr_set 3 sc_behind.nd (pd_does dAft hr (pda_cons (pd_var 0 rfl h0) (pda_cons (pd_var 1 rfl h1) (pda_cons (pd_var 2 rfl (.int _)) pda_nil))) ⟨g1, g2, g3, st, v, rfl, hre, ho, rfl⟩) fun v3 H3 e3 h3 => ?_
  replace h0 := h0.mono e3
  generalize hX : M.aft g1 g2 st v = a at h3
  have hb : M.beh g1 g2 st v = (a.1, M.lowP a.2.1 g2, M.lowP a.2.2 g1) := by unfold M.beh; rw [hX]
  rw [hb]
  exact pr_ret (pd_tup (pda_cons (pd_ixT (d := dP a.1) (pd_var 3 rfl h3) pd_int) (pda_cons (pd_does dLow hr1 (pda_cons (pd_ixT (d := dP a.2.1) (pd_var 3 rfl h3) pd_int) (pda_cons (pd_doesM0 d2 T.cl hr1 (pd_var 0 rfl h0) (fsR_no _ _ _ (by decide +kernel) (by decide +kernel) (by decide +kernel)) ⟨_, _, _, rfl, rfl⟩) pda_nil)) ⟨_, _, rfl, rfl⟩)
    (pda_cons (pd_does dLow hr1 (pda_cons (pd_ixT (d := dP a.2.2) (pd_var 3 rfl h3) pd_int) (pda_cons (pd_doesM0 d1 T.cl hr1 (pd_var 0 rfl h0) (fsR_no _ _ _ (by decide +kernel) (by decide +kernel) (by decide +kernel)) ⟨_, _, _, rfl, rfl⟩) pda_nil)) ⟨_, _, rfl, rfl⟩) pda_nil))))
def R_sbehind (C : Addr) (ds : List D) (r : D) : Prop := ∃ g1 g2 g3 s, ds = [.obj C (fsR g1 g2 g3), dS s] ∧ M.reached g1 g2 g3 s = true ∧ r = .lst ((M.succ g1 g2 g3 s).map dS)
theorem win_non {g1 g2 g3 : Int} {s : M.Stg} (hr : M.reached g1 g2 g3 s = true) : isNon (M.wnr g3 s) = !M.over g3 s := by
  cases h : M.over g3 s with
  | false => rw [M.wnr_non hr h]; rfl
  | true =>
    have h' : mxP s.1 = g3 := of_decide_eq_true h
    have m := M.mx_spec s.1.1 s.1.2
    have e : mxP (s.1.1, s.1.2) = mxP s.1 := rfl
    rw [e, h'] at m
    unfold M.wnr
    by_cases h1 : s.1.1 = g3
    · rw [if_pos h1]; rfl
    · rw [if_neg h1, if_pos (by omega)]; rfl
theorem ok_sbehind (dWin : Does P w K mg base 5 "winner" ["rules", "standing"] (R_winner C)) (dBeh : Does P w K mg base 7 "behind" ["rules", "standing", "who"] (R_behind C)) (h : Has K mg "standings_behind" st_standings_behind ["rules", "standing"]) :
    Does P w K mg base 8 "standings_behind" ["rules", "standing"] (R_sbehind C) := by
  refine h.does sc_standings_behind (fun ds r ⟨_, _, _, _, e, _⟩ => by rw [e]; rfl) fun f cdv A outer s H E vs ds r hr hl hR => ?_
  obtain ⟨g1, g2, g3, st, rfl, hre, rfl⟩ := hR
  obtain ⟨v0, v1, rfl, h0, h1⟩ := isL2 hl
  have hr5 : Room 5 _ := hr.mono (by decide)
  refine pr_if ((pdt_notN (pd_does dWin hr5 (pda_cons (pd_var 0 rfl h0) (pda_cons (pd_var 1 rfl h1) pda_nil)) ⟨_, _, _, _, rfl, hre, rfl⟩)).cast (show (!isNon (M.wnr g3 st)) = M.over g3 st by rw [win_non hre, Bool.not_not])) (fun z => ?_) (fun z => ?_)
  · refine (pr_ret (pd_lst pda_nil)).cast ?_
    unfold M.succ; rw [if_pos z]; rfl
  · refine (pr_ret (pd_lst (pda_cons (pd_does dBeh hr (pda_cons (pd_var 0 rfl h0) (pda_cons (pd_var 1 rfl h1) (pda_cons pd_int pda_nil))) ⟨g1, g2, g3, st, 0, rfl, hre, z, rfl⟩) (pda_cons (pd_does dBeh hr (pda_cons (pd_var 0 rfl h0) (pda_cons (pd_var 1 rfl h1) (pda_cons pd_int pda_nil))) ⟨g1, g2, g3, st, 1, rfl, hre, z, rfl⟩) pda_nil)))).cast ?_
    unfold M.succ; rw [if_neg (by rw [z]; exact Bool.false_ne_true)]; rfl
theorem pq1_fix {X : Cx} {st : Stmt} {Pre Nx : L2.St → Hp → Prop} (h : ∀ σ H, Pre σ H → PQ1 X st (fun σ' H' => σ' = σ ∧ H' = H) Nx) : PQ1 X st Pre Nx := fun pins s σ H D I ⟨p, q⟩ => h σ H p pins s σ H D I ⟨⟨rfl, rfl⟩, q⟩
def toL (q : St3 × List St3) : St3 × D := (q.1, .lst (q.2.map dSt))
def toB (q : St3 × Bool) : St3 × D := (q.1, .bl q.2)
theorem putL_map {α : Type} (f : α → D) (l : List (St3 × α)) (t : St3) (y : α) : putL (l.map fun q => (q.1, f q.2)) t (f y) = (putL l t y).map fun q => (q.1, f q.2) := by
  unfold putL
  rw [look_map f t l, Option.isSome_map]
  by_cases h : (look l t).isSome = true
  · rw [if_pos h, if_pos h, List.map_map, List.map_map]
    refine List.map_congr_left fun x _ => ?_
    by_cases e : x.1 = t
    · simp only [Function.comp, e, if_true]
    · simp only [Function.comp, e, if_false]
  · rw [if_neg h, if_neg h, List.map_append]; rfl
theorem putL_toL (l : M.Steps) (t : St3) (y : List St3) : putL (l.map toL) t (.lst (y.map dSt)) = (putL l t y).map toL := putL_map (fun y : List St3 => D.lst (y.map dSt)) l t y
theorem putL_toB (l : List (St3 × Bool)) (t : St3) (y : Bool) : putL (l.map toB) t (.bl y) = (putL l t y).map toB := putL_map (fun y : Bool => D.bl y) l t y
theorem look_toL (l : M.Steps) (t : St3) : look (l.map toL) t = (look l t).map fun y => D.lst (y.map dSt) := look_map (fun y : List St3 => D.lst (y.map dSt)) t l
theorem plain_dSts : ∀ xs : List St3, plainTs (xs.map dSt) = true
  | [] => rfl
  | x :: xs => by show (plainT (dSt x) && plainTs (xs.map dSt)) = true; rw [plain_dSts xs]; rfl
theorem len_toL {P : Program} {w : World} {K : PySem.W.Frag} {H : Hp} {a : Addr} {l : M.Steps} {g1 g2 g3 : Int} (h : HasS P w K H a (l.map toL)) (hf : ∀ s y, look l s = some y → M.Fit g1 g2 g3 s) : (l.map toL).length ≤ 262144 := by
  have hn := h.nodup
  rw [List.map_map] at hn
  have := M.few (l := l.map (·.1)) hn fun s hs => by
    have := M.look_mem_iff.mpr hs
    cases e : look l s with
    | none => rw [e] at this; cases this
    | some y => exact (hf s y e).2
  rw [List.length_map] at this ⊢
  exact this
theorem len_toB {P : Program} {w : World} {K : PySem.W.Frag} {H : Hp} {a : Addr} {l : List (St3 × Bool)} {g1 g2 g3 : Int} (h : HasS P w K H a (l.map toB)) (hf : ∀ s, (look l s).isSome = true → M.Fit g1 g2 g3 s) : (l.map toB).length ≤ 262144 := by
  have hn := h.nodup
  rw [List.map_map] at hn
  have := M.few (l := l.map (·.1)) hn fun s hs => (hf s (M.look_mem_iff.mpr hs)).2
  rw [List.length_map] at this ⊢
  exact this
theorem big_box {n : Nat} (h : n ≤ 262144) : n < sizeLine := Nat.lt_of_le_of_lt h (by decide)
theorem key_mem {α : Type} {l : List (St3 × α)} {t : St3} : t ∈ l.map (·.1) ↔ ∃ i, i < l.length ∧ keyAt l i = t := by
  constructor
  · intro h
    obtain ⟨i, hi, e⟩ := List.mem_iff_getElem.mp h
    rw [List.length_map] at hi
    exact ⟨i, hi, by unfold keyAt; rw [List.getElem?_eq_getElem (by rw [List.length_map]; exact hi), e]; rfl⟩
  · rintro ⟨i, hi, rfl⟩
    unfold keyAt
    rw [List.getElem?_eq_getElem (by rw [List.length_map]; exact hi)]
    exact List.getElem_mem _
theorem new_mem {steps : M.Steps} {found : List (St3 × Bool)} {t : St3} :
    t ∈ ((List.range (found.map toB).length).filter fun i => !(look (steps.map toL) (keyAt (found.map toB) i)).isSome).map (keyAt (found.map toB)) ↔ (look found t).isSome = true ∧ look steps t = none := by
  have hk : (found.map toB).map (·.1) = found.map (·.1) := by rw [List.map_map]; rfl
  rw [M.look_mem_iff, ← hk, key_mem, List.mem_map]
  have e : ∀ u, (!(look (steps.map toL) u).isSome) = true ↔ look steps u = none := fun u => by
    rw [look_toL, Option.isSome_map]
    cases look steps u <;> simp
  constructor
  · rintro ⟨i, hi, rfl⟩
    rw [List.mem_filter, List.mem_range] at hi
    exact ⟨⟨i, hi.1, rfl⟩, (e _).mp hi.2⟩
  · rintro ⟨⟨i, hi, rfl⟩, h2⟩
    exact ⟨i, List.mem_filter.mpr ⟨List.mem_range.mpr hi, (e _).mpr h2⟩, rfl⟩
def R_steps (P : Program) (w : World) (K : PySem.W.Frag) (C : Addr) (H : Hp) (vs : List V) (Φ : Hp → Hp → V → Prop) : Prop := ∃ (g1 g2 g3 : Int) (many : Nat) (v0 : V), vs = [v0, .int many] ∧ Is K H (.obj C (fsR g1 g2 g3)) v0 ∧ M.Good g1 g2 g3 ∧ many ≤ 1000 ∧
  Φ = fun H1 H2 v => ∃ l steps, v = .ref l ∧ H1 l = none ∧ M.Tbl g1 g2 g3 many steps ∧ HasS P w K H2 l (steps.map toL)
theorem ok_steps (T : Tx K mg C) (dBeg : Does P w K mg base 1 "begin" [] R_begin) (dSb : Does P w K mg base 8 "standings_behind" ["rules", "standing"] (R_sbehind C)) (h : Has K mg "steps_from_begin" st_steps_from_begin ["rules", "many"]) :
    DoesG P w K mg base 9 "steps_from_begin" ["rules", "many"] (R_steps P w K C) := by
  refine h.doesG sc_steps_from_begin (fun H vs Φ ⟨_, _, _, _, _, e, _⟩ => by rw [e]; rfl) fun f cdv A outer s H E vs Φ hr hR => ?_
  obtain ⟨g1, g2, g3, many, v0, rfl, h0, hg, hm, rfl⟩ := hR
  have hr1 : Room 1 _ := hr.mono (by decide)
  have hu := hu64 hr
  refine pqr_cons (Mid := fun σ' H' => ∃ ls, σ' = [some v0, some (.int many), some (.ref ls), none, none, none, none, none] ∧ Same H H' ∧ H ls = none ∧ HasS P w K H' ls (([] : M.Steps).map toL)) (pq1_snew 2 sc_steps_from_begin.nd fun σ' H' ⟨z1, z2⟩ l H2 e2 hn hl2 => ?_) ?_
  · subst z1; subst z2
    exact ⟨l, rfl, e2, hn, hl2⟩
  let Z : Nat → L2.St → Hp → Prop := fun k σ' H' => ∃ ls steps newest vn y4 y5 y6 y7, σ' = [some v0, some (.int many), some (.ref ls), some vn, y4, y5, y6, y7] ∧ Same H H' ∧ H ls = none ∧ HasS P w K H' ls (steps.map toL) ∧ Is K H' (.lst (newest.map dSt)) vn ∧ M.Bfs g1 g2 g3 k steps newest
  refine pqr_cons (Mid := Z 0) (pq1_set 3 sc_steps_from_begin.nd fun σ' H' ⟨ls, z1, z2, z3, z4⟩ => ?_) ?_
  · subst z1
    exact ⟨.lst [dSt M.st0], pd_lst (pda_cons (pd_does0 dBeg hr1 ⟨rfl, rfl⟩) pda_nil), fun v H2 e2 hv => ⟨ls, [], [M.st0], v, none, none, none, none, rfl, z2.trans e2, z3, z4.mono e2, hv, M.Bfs.first hg⟩⟩
  refine pqr_cons (Mid := Z many) (pq1_forR (j := (many : Int)) 4 Z PassesOwn.never rfl sc_steps_from_begin.nd T.range (fun σ' H' ⟨ls, steps, newest, vn, y4, y5, y6, y7, z1, _⟩ => by subst z1; exact pd_var 1 rfl (.int _)) (by omega)
    (fun σ' H' H2 ⟨ls, steps, newest, vn, y4, y5, y6, y7, z1, z2, z3, z4, z5, z6⟩ e => ⟨ls, steps, newest, vn, y4, y5, y6, y7, z1, z2.trans e, z3, z4.mono e, z5.mono e, z6⟩) (fun k hk => ?_) (fun σ' H' z => z)) ?_
  · -- found = {}
    refine pq_cons (Mid := fun σ' H' => ∃ ls lf steps newest vn y4 y6 y7, σ' = [some v0, some (.int many), some (.ref ls), some vn, y4, some (.ref lf), y6, y7] ∧ Same H H' ∧ H ls = none ∧ H lf = none ∧ lf ≠ ls ∧ HasS P w K H' ls (steps.map toL) ∧ HasS P w K H' lf (([] : List (St3 × Bool)).map toB) ∧ Is K H' (.lst (newest.map dSt)) vn ∧ M.Bfs g1 g2 g3 k steps newest)
      (pq1_snew 5 sc_steps_from_begin.nd fun σ' H' ⟨σ1, zz, ls, steps, newest, vn, y4, y5, y6, y7, z1, z2, z3, z4, z5, z6⟩ l H2 e2 hn hl2 => ?_) ?_
    · subst z1; subst zz
      exact ⟨ls, l, steps, newest, vn, _, y6, y7, rfl, z2.trans e2, z3, z2.free hn, (fun e => by obtain ⟨φ, hx⟩ := z4.there; rw [← e, hn] at hx; cases hx), z4.mono e2, hl2, z5.mono e2, z6⟩
    refine pq_cons (Mid := fun σ' H' => ∃ ls lf steps newest steps' found vn y4 y6 y7, σ' = [some v0, some (.int many), some (.ref ls), some vn, y4, some (.ref lf), y6, y7] ∧ Same H H' ∧ H ls = none ∧ HasS P w K H' ls (steps'.map toL) ∧ HasS P w K H' lf (found.map toB) ∧ M.Bfs g1 g2 g3 k steps newest ∧ M.MidB g1 g2 g3 steps newest newest.length [] steps' found) ?_ ?_
    · refine pq1_fix fun σ' H' ⟨ls, lf, steps, newest, vn, y4, y6, y7, z1, z2, z3, z3', zne, z4, z4', z5, z6⟩ => ?_
      subst z1
      have hfitS : ∀ {i : Nat} {steps' : M.Steps} {found : List (St3 × Bool)} {more : List St3}, M.MidB g1 g2 g3 steps newest i more steps' found → ∀ t y, look steps' t = some y → M.Fit g1 g2 g3 t := fun {i steps' found more} m t y h => by
        rw [m.lookS] at h
        split at h
        · exact z6.fitN t (List.mem_of_mem_take (by assumption))
        · exact z6.fitS t y h
      have hfitF : ∀ {i : Nat} {steps' : M.Steps} {found : List (St3 × Bool)} {more : List St3}, M.MidB g1 g2 g3 steps newest i more steps' found → (∀ t ∈ more, M.Fit g1 g2 g3 t) → ∀ t, (look found t).isSome = true → M.Fit g1 g2 g3 t := fun {i steps' found more} m hm t h => by
        rcases (m.lookF t).mp h with ⟨u, hu, ht⟩ | ht
        · exact M.fit_succ hg (z6.fitN u (List.mem_of_mem_take hu)) ht
        · exact hm t ht
      let Zi : Addr → List V → Nat → L2.St → Hp → Prop := fun l vs i σ' H' => ∃ steps' found y6 y7, σ' = [some v0, some (.int many), some (.ref ls), some vn, y4, some (.ref lf), y6, y7] ∧ Same H H' ∧ HasS P w K H' ls (steps'.map toL) ∧ HasS P w K H' lf (found.map toB) ∧ SqL K H' l vs ∧ IsL K H' (newest.map dSt) vs ∧ M.MidB g1 g2 g3 steps newest i [] steps' found
      refine pq1_forLv (ds := newest.map dSt) 6 Zi PassesOwn.never rfl sc_steps_from_begin.nd
        (fun σ1 H1 ⟨w1, w2⟩ => by subst w1; subst w2; exact pd_var 3 rfl z5) (fun σ1 H1 l us H2 ⟨w1, w2⟩ e hq hv => by subst w1; subst w2; exact ⟨steps, [], y6, y7, rfl, z2.trans e, z4.mono e, z4'.mono e, hq, hv, M.MidB.first⟩)
        (fun l us i σ1 H1 ⟨_, _, _, _, _, _, _, _, hq, hv, _⟩ => ⟨hq, hv⟩) (fun l us i d hd => ?_) (fun l us σ1 H1 ⟨steps', found, a6, a7, w1, w2, w3, w4, _, _, w5⟩ => ⟨ls, lf, steps, newest, steps', found, vn, y4, a6, a7, w1, w2, z3, w3, w4, z6, by rw [List.length_map] at w5; exact w5⟩)
      rw [List.getElem?_map] at hd
      obtain ⟨t, ht, rfl⟩ : ∃ t, newest[i]? = some t ∧ dSt t = d := by
        cases hw : newest[i]? with
        | none => rw [hw] at hd; cases hd
        | some t => rw [hw] at hd; exact ⟨t, rfl, Option.some.inj hd⟩
      have hfit := z6.fitN t (List.mem_of_getElem? ht)
      refine pq_cons (Mid := fun σ1 H1 => ∃ steps' found v6 y7, σ1 = [some v0, some (.int many), some (.ref ls), some vn, y4, some (.ref lf), some v6, y7] ∧ Same H H1 ∧ HasS P w K H1 ls ((putL steps' t (M.succ g1 g2 g3 t)).map toL) ∧ HasS P w K H1 lf (found.map toB) ∧ SqL K H1 l us ∧ IsL K H1 (newest.map dSt) us ∧ Is K H1 (dSt t) v6 ∧ M.MidB g1 g2 g3 steps newest i [] steps' found)
        (pq1_sput hu fun σ1 H1 ⟨σ2, v6, zz, k6, steps', found, a6, a7, w1, w2, w3, w4, w5, w6, w7⟩ => ?_) ?_
      · subst w1; subst zz
        refine ⟨ls, steps'.map toL, t, .lst ((M.succ g1 g2 g3 t).map dSt), pd_var 2 rfl (.adr ls), w3, big_box (len_toL w3 (hfitS w7)), pd_var 6 rfl k6, pd_does dSb hr (pda_cons (pd_var 0 rfl (h0.mono w2)) (pda_cons (pd_var 6 rfl k6) pda_nil)) ⟨g1, g2, g3, t, rfl, hfit.1, rfl⟩, plain_dSts _, fun v H2 φ ho e2 hv hx hS2 => ?_⟩
        rw [putL_toL] at hS2
        refine ⟨steps', found, v6, a7, rfl, fun b o eb => by rw [upd_ne (ne_of_none eb z3)]; exact e2 _ _ (w2 _ _ eb), hS2, (w4.mono e2).updS hx zne, sqL_updE hx (e2.seq w5), IsL.updE hx (w6.mono e2) (plain_dSts _), Is.updE hx (k6.mono e2) rfl, w7⟩
      refine pq_one (pq1_fix fun σ2 H2 ⟨steps', found, v6, a7, w1, w2, w3, w4, w5, w6, w6', w7⟩ => ?_)
      subst w1
      refine pq1_forLv (ds := (M.succ g1 g2 g3 t).map dSt) 7
        (fun l2 us2 j σ1 H1 => ∃ found' y7, σ1 = [some v0, some (.int many), some (.ref ls), some vn, y4, some (.ref lf), some v6, y7] ∧ Same H H1 ∧ HasS P w K H1 ls ((putL steps' t (M.succ g1 g2 g3 t)).map toL) ∧ HasS P w K H1 lf (found'.map toB) ∧ SqL K H1 l us ∧ IsL K H1 (newest.map dSt) us ∧ SqL K H1 l2 us2 ∧ IsL K H1 ((M.succ g1 g2 g3 t).map dSt) us2 ∧ M.MidB g1 g2 g3 steps newest i ((M.succ g1 g2 g3 t).take j) steps' found')
        PassesOwn.never rfl sc_steps_from_begin.nd (fun σ1 H1 ⟨x1, x2⟩ => by
          subst x1; subst x2
          exact pd_sget hu (pd_var 2 rfl (.adr ls)) w3 (pd_var 6 rfl w6') (by rw [look_toL, M.look_put, if_pos rfl]; rfl))
        (fun σ1 H1 l2 us2 H3 ⟨x1, x2⟩ e hq hv => by subst x1; subst x2; exact ⟨found, a7, rfl, w2.trans e, w3.mono e, w4.mono e, e.seq w5, w6.mono e, hq, hv, w7⟩)
        (fun l2 us2 j σ1 H1 ⟨_, _, _, _, _, _, _, _, hq, hv, _⟩ => ⟨hq, hv⟩) (fun l2 us2 j d hd2 => ?_) (fun l2 us2 σ1 H1 ⟨found', y7', x1, x2, x3, x4, x5, x6, _, _, x7⟩ => ?_)
      · rw [List.getElem?_map] at hd2
        obtain ⟨u, hu2, rfl⟩ : ∃ u, (M.succ g1 g2 g3 t)[j]? = some u ∧ dSt u = d := by
          cases hw : (M.succ g1 g2 g3 t)[j]? with
          | none => rw [hw] at hd2; cases hd2
          | some u => rw [hw] at hd2; exact ⟨u, rfl, Option.some.inj hd2⟩
        refine pq_one (pq1_sput hu fun σ1 H1 ⟨σ3, v7, zz, k7, found', y7', x1, x2, x3, x4, x5, x6, x8, x9, x7⟩ => ?_)
        subst x1; subst zz
        refine ⟨lf, found'.map toB, u, .bl true, pd_var 5 rfl (.adr lf), x4, big_box (len_toB x4 (hfitF x7 fun y hy => M.fit_succ hg hfit (List.mem_of_mem_take hy))), pd_var 7 rfl k7, pd_bl, rfl, fun v H3 φ ho e3 hv hx hS3 => ?_⟩
        rw [putL_toB] at hS3
        refine ⟨putL found' u true, some v7, rfl, fun b o eb => by rw [upd_ne (ne_of_none eb z3')]; exact e3 _ _ (x2 _ _ eb), (x3.mono e3).updS hx (Ne.symm zne), hS3, sqL_updE hx (e3.seq x5), IsL.updE hx (x6.mono e3) (plain_dSts _), sqL_updE hx (e3.seq x8), IsL.updE hx (x9.mono e3) (plain_dSts _), ?_⟩
        rw [List.take_add_one, hu2]
        exact x7.find
      · rw [List.length_map, List.take_length] at x7
        exact ⟨_, found', some v6, y7', x1, x2, x3, x4, x5, x6, x7.step ht⟩
    refine pq_one (pq1_pn (Post := fun σ1 H1 σ2 H2 => Z (k + 1) σ2 H2) (fun σ1 H1 ⟨ls, lf, steps, newest, steps', found, vn, y4, y6, y7, z1, z2, z3, z4, z5, z6, z7⟩ => ?_) (fun _ _ _ _ _ _ z => z))
    subst z1
    have hfitF : ∀ t, (look found t).isSome = true → M.Fit g1 g2 g3 t := fun t h => by
      rcases (z7.lookF t).mp h with ⟨u, hu, ht⟩ | ht
      · exact M.fit_succ hg (z6.fitN u (List.mem_of_mem_take hu)) ht
      · cases ht
    refine pn1_compG (n := (found.map toB).length) (din := fun i => dSt (keyAt (found.map toB) i)) (ks := fun i => !(look (steps'.map toL) (keyAt (found.map toB) i)).isSome) (Φ := fun i _ H2 v => Is K H2 (dSt (keyAt (found.map toB) i)) v) (Ψ := fun i _ H2 v => Is K H2 (dSt (keyAt (found.map toB) i)) v)
      (N := ["standing", "steps"]) (σc := [none, some (.ref ls)]) (cl := [("steps", s.heap.objs.size + 1)]) 3 sc_steps_from_begin.nd rfl rfl ?tkn (gives_ds (pd_var 5 rfl (.adr lf)) z5) (big_box (len_toB z5 hfitF)) (stays_tree fun _ => rfl) (fun _ _ _ _ _ _ _ _ h => h) ?test ?elt ?post
    case tkn =>
      refine takesN (ys := [("steps", s.heap.objs.size + 1)]) (vs := [.ref ls]) ?c (by decide +kernel) rfl (by decide +kernel) rfl (by show (["standing", "steps"] : List Str).Nodup; decide) rfl ?_ ?_ (by intro z hz hf; show z.1 ∈ (["steps"] : List Str); revert hz hf; revert z; decide +kernel)
      case c => rfl
      · intro z hz
        simp only [List.mem_cons, List.not_mem_nil, or_false] at hz
        rcases hz with rfl <;> rfl
      · intro i z v hz hv
        match i, hz, hv with
        | 0, hz, hv => cases hz; cases hv; exact ⟨2, rfl, rfl, rfl, .inl rfl⟩
        | n + 1, hz, hv => simp at hz
    case test =>
      intro Cc s2 H2 fp i v H3 hi e3 hv
      exact .inr ⟨_, rfl, pdt_notinS hu (pd_var 0 rfl hv) (pd_var 1 rfl (.adr ls)) (z4.mono e3)⟩
    case elt =>
      intro Cc s2 H2 fp i v H3 hi hk e3 hv
      refine PD.f2 ?_
      exact pd_var 0 rfl hv
    case post =>
      intro l us H2 e2 hn hl hv
      have hb := z6.next hg z7 (newest' := ((List.range (found.map toB).length).filter fun i => !(look (steps'.map toL) (keyAt (found.map toB) i)).isSome).map (keyAt (found.map toB))) fun t => new_mem
      refine ⟨ls, steps', _, .ref l, y4, some (.ref lf), y6, y7, rfl, z2.trans e2, z3, z4.mono e2, ?_, hb⟩
      have := paired_isL (dout := fun i => dSt (keyAt (found.map toB) i)) hv
      rw [List.map_map]
      exact .lst (SqL.of hl) this
  refine pqr_cons (Mid := fun σ' H' => ∃ ls steps y3 y4 y5 y6 y7, σ' = [some v0, some (.int many), some (.ref ls), y3, y4, y5, y6, y7] ∧ Same H H' ∧ H ls = none ∧ HasS P w K H' ls (steps.map toL) ∧ M.Tbl g1 g2 g3 many steps) ?_ ?_
  · refine pq1_fix fun σ' H' ⟨ls, steps, newest, vn, y4, y5, y6, y7, z1, z2, z3, z4, z5, z6⟩ => ?_
    subst z1
    refine pq1_forLv (ds := newest.map dSt) 6
      (fun l us i σ1 H1 => ∃ steps' y6, σ1 = [some v0, some (.int many), some (.ref ls), some vn, y4, y5, y6, y7] ∧ Same H H1 ∧ HasS P w K H1 ls (steps'.map toL) ∧ SqL K H1 l us ∧ IsL K H1 (newest.map dSt) us ∧ ∀ t, look steps' t = if t ∈ newest.take i then some [] else look steps t) PassesOwn.never rfl sc_steps_from_begin.nd
      (fun σ1 H1 ⟨w1, w2⟩ => by subst w1; subst w2; exact pd_var 3 rfl z5) (fun σ1 H1 l us H2 ⟨w1, w2⟩ e hq hv => by subst w1; subst w2; exact ⟨steps, y6, rfl, z2.trans e, z4.mono e, hq, hv, fun t => by rw [List.take_zero, if_neg (by simp)]⟩)
      (fun l us i σ1 H1 ⟨_, _, _, _, _, hq, hv, _⟩ => ⟨hq, hv⟩) (fun l us i d hd => ?_) (fun l us σ1 H1 ⟨steps', a6, w1, w2, w3, _, _, w5⟩ => ⟨ls, steps', _, y4, y5, a6, y7, w1, w2, z3, w3, z6.last fun t => by have := w5 t; rwa [List.length_map, List.take_length] at this⟩)
    rw [List.getElem?_map] at hd
    obtain ⟨t, ht, rfl⟩ : ∃ t, newest[i]? = some t ∧ dSt t = d := by
      cases hw : newest[i]? with
      | none => rw [hw] at hd; cases hd
      | some t => rw [hw] at hd; exact ⟨t, rfl, Option.some.inj hd⟩
    refine pq_one (pq1_sput hu fun σ1 H1 ⟨σ2, v6, zz, k6, steps', a6, w1, w2, w3, w4, w5, w6⟩ => ?_)
    subst w1; subst zz
    have hfit : ∀ u y, look steps' u = some y → M.Fit g1 g2 g3 u := fun u y hl => by
      rw [w6] at hl
      split at hl
      · exact z6.fitN u (List.mem_of_mem_take (by assumption))
      · exact z6.fitS u y hl
    refine ⟨ls, steps'.map toL, t, .lst (([] : List St3).map dSt), pd_var 2 rfl (.adr ls), w3, big_box (len_toL w3 hfit), pd_var 6 rfl k6, pd_lst pda_nil, rfl, fun v H2 φ ho e2 hv hx hS2 => ?_⟩
    rw [putL_toL] at hS2
    refine ⟨putL steps' t [], some v6, rfl, fun b o eb => by rw [upd_ne (ne_of_none eb z3)]; exact e2 _ _ (w2 _ _ eb), hS2, sqL_updE hx (e2.seq w4), IsL.updE hx (w5.mono e2) (plain_dSts _), fun u => ?_⟩
    rw [M.look_put, w6]
    by_cases e : u = t
    · rw [if_pos e, if_pos ((M.mem_take_s ht).mpr (.inr e))]
    · rw [if_neg e]
      by_cases h2 : u ∈ newest.take i
      · rw [if_pos h2, if_pos ((M.mem_take_s ht).mpr (.inl h2))]
      · rw [if_neg h2, if_neg fun z => ((M.mem_take_s ht).mp z).elim h2 e]
  refine pqr_pr fun σ' H' ⟨ls, steps, y3, y4, y5, y6, y7, z1, z2, z3, z4, z5⟩ => ?_
  subst z1
  exact ⟨_, pr_ret (pd_var 2 rfl (.adr ls)), fun v H2 e2 hv => by cases hv; exact ⟨z2.trans e2, ls, steps, rfl, z3, z5, z4.mono e2⟩⟩
end
end Q
set_option Elab.async false
set_option linter.all false
set_option maxRecDepth 100000
set_option maxHeartbeats 4000000
namespace Q
open PySem PySem.Spec PyProof.Rows L2 L3
section
variable {P : Program} {w : World} {K : PySem.W.Frag} {mg : Str → Option Value} {base : Heap} {C CR : Addr}
theorem pqr_fix {X : Cx} {sts : List Stmt} {Pre : L2.St → Hp → Prop} {Rt : V → Hp → Prop} (h : ∀ σ H, Pre σ H → PQR X sts (fun σ' H' => σ' = σ ∧ H' = H) Rt) : PQR X sts Pre Rt := fun pins s σ H D I ⟨p, q⟩ => h σ H p pins s σ H D I ⟨⟨rfl, rfl⟩, q⟩
def toW (g3 : Int) (steps : M.Steps) (n : Nat) (q : St3 × List St3) : St3 × D := (q.1, .int (M.Wt g3 steps n q.1))
theorem range_keys {α β : Type} (f : St3 → β) (l : List (St3 × α)) : (List.range l.length).map (fun i => f (keyAt l i)) = l.map fun q => f q.1 := by
  refine List.ext_getElem (by rw [List.length_map, List.length_range, List.length_map]) fun i h1 h2 => ?_
  rw [List.getElem_map, List.getElem_map, List.getElem_range]
  rw [List.length_map] at h2
  unfold keyAt
  rw [List.getElem?_map, List.getElem?_eq_getElem h2]; rfl
theorem toW_look {g3 : Int} {steps : M.Steps} {n : Nat} {t : St3} (h : (look steps t).isSome = true) : look (steps.map (toW g3 steps n)) t = some (.int (M.Wt g3 steps n t)) := by
  have : ∀ l : M.Steps, (look l t).isSome = true → look (l.map (toW g3 steps n)) t = some (.int (M.Wt g3 steps n t)) := fun l => by
    induction l with
    | nil => intro h; cases h
    | cons p l ih =>
      intro h
      rw [List.map_cons]
      by_cases e : p.1 = t
      · rw [look_pos (p := toW g3 steps n p) e]
        show some (D.int (M.Wt g3 steps n p.1)) = _
        rw [e]
      · rw [look_neg e] at h
        rw [look_neg (p := toW g3 steps n p) e]; exact ih h
  exact this steps h
theorem key_look {α β : Type} {l : List (St3 × α)} {f : α → β} {i : Nat} (hi : i < (l.map fun q => (q.1, f q.2)).length) : (look l (keyAt (l.map fun q => (q.1, f q.2)) i)).isSome = true := by
  rw [M.look_mem_iff]
  have := key_mem.mpr ⟨i, hi, rfl⟩
  rw [List.map_map] at this
  exact this
theorem adrs_isL {K : PySem.W.Frag} {H : Hp} : ∀ ls : List Addr, IsL K H (ls.map D.adr) (ls.map V.ref)
  | [] => .nil
  | l :: ls => .cons (.adr l) (adrs_isL ls)
theorem atI_nat {α : Type} {l : List α} {i : Nat} {x : α} (h : l[i]? = some x) : atI l (i : Int) = some x := by
  unfold atI ixN
  have hi : i < l.length := (List.getElem?_eq_some_iff.mp h).1
  rw [if_pos (by omega), if_pos (by omega)]
  show l[(i : Int).toNat]? = some x
  rw [Int.toNat_natCast]; exact h
def WaysAt (P : Program) (w : World) (K : PySem.W.Frag) (g1 g2 g3 : Int) (many : Nat) (H : Hp) (v : V) : Prop := ∃ (l : Addr) (ls : List Addr) (steps : M.Steps), v = .ref l ∧ H l = some (.lst (ls.map V.ref)) ∧ ls.length = many + 1 ∧ M.Tbl g1 g2 g3 many steps ∧
  ∀ n a, ls[n]? = some a → HasS P w K H a (steps.map (toW g3 steps n))
def R_ways (P : Program) (w : World) (K : PySem.W.Frag) (C : Addr) (H : Hp) (vs : List V) (Φ : Hp → Hp → V → Prop) : Prop := ∃ (g1 g2 g3 : Int) (many : Nat) (v0 : V), vs = [v0, .int many] ∧ Is K H (.obj C (fsR g1 g2 g3)) v0 ∧ M.Good g1 g2 g3 ∧ many ≤ 1000 ∧
  Φ = fun _ H2 v => WaysAt P w K g1 g2 g3 many H2 v
theorem ok_ways (T : Tx K mg C) (U : Trw mg) (dWin : Does P w K mg base 5 "winner" ["rules", "standing"] (R_winner C)) (dSt : DoesG P w K mg base 9 "steps_from_begin" ["rules", "many"] (R_steps P w K C)) (h : Has K mg "ways_to_end" st_ways_to_end ["rules", "many"]) :
    DoesG P w K mg base 10 "ways_to_end" ["rules", "many"] (R_ways P w K C) := by
  refine h.doesG sc_ways_to_end (fun H vs Φ ⟨_, _, _, _, _, e, _⟩ => by rw [e]; rfl) fun f cdv A outer s H E vs Φ hr hR => ?_
  obtain ⟨g1, g2, g3, many, v0, rfl, h0, hg, hm, rfl⟩ := hR
  have hr5 : Room 5 _ := hr.mono (by decide)
  have hu := hu64 hr
  refine pqr_cons (Mid := fun σ' H' => ∃ la steps, σ' = [some v0, some (.int many), some (.ref la), none, none, none] ∧ Same H H' ∧ M.Tbl g1 g2 g3 many steps ∧ HasS P w K H' la (steps.map toL))
    (pq1_setF 2 sc_ways_to_end.nd fun σ' H' ⟨z1, z2⟩ => ?_) ?_
  · subst z1; subst z2
    refine ⟨_, pf_doesG (Φ' := fun H1 H2 v => ∃ l steps, v = .ref l ∧ M.Tbl g1 g2 g3 many steps ∧ HasS P w K H2 l (steps.map toL)) dSt hr (PDA.f (pda_cons (pd_var 0 rfl h0) (pda_cons (pd_var 1 rfl (.int _)) pda_nil))) (fun H1 H3 us e1 e2 hvs => ?_), fun v H2 e2 ⟨l, steps, ev, ht, hS⟩ => ?_⟩
    · obtain ⟨u0, u1, rfl, k0, k1⟩ := isL2 hvs
      cases k1
      exact ⟨_, ⟨g1, g2, g3, many, u0, rfl, k0, hg, hm, rfl⟩, fun H4 v e4 ⟨l, steps, a1, a2, a3, a4⟩ => ⟨l, steps, a1, a3, a4⟩⟩
    · subst ev; exact ⟨l, steps, rfl, e2, ht, hS⟩
  refine pqr_fix fun σ1 H1 ⟨la, steps, z1, e1, ht, hS⟩ => ?_
  subst z1
  have hsz : (steps.map toL).length ≤ 262144 := len_toL hS ht.fit
  have hnd : ∀ n, ((steps.map (toW g3 steps n)).map (·.1)).Nodup := fun n => by
    have := hS.nodup
    rw [List.map_map] at this ⊢
    exact this
  have hpl : ∀ n, ∀ x ∈ steps.map (toW g3 steps n), plainT x.2 = true := fun n x hx => by
    obtain ⟨q, _, rfl⟩ := List.mem_map.mp hx; rfl
  have hno : ∀ n, ∀ x ∈ steps.map (toW g3 steps n), noL x.2 = true := fun n x hx => by
    obtain ⟨q, _, rfl⟩ := List.mem_map.mp hx; rfl
  have hzl : ∀ n, (steps.map (toW g3 steps n)).length ≤ sizeLine := fun n => by
    rw [List.length_map]; rw [List.length_map] at hsz
    exact Nat.le_of_lt (big_box hsz)
  have hkey : ∀ i, i < (steps.map toL).length → (look steps (keyAt (steps.map toL) i)).isSome = true := fun i hi => key_look (f := fun y : List St3 => D.lst (y.map L3.dSt)) hi
  have hdo : ∀ n, (List.range (steps.map toL).length).map (fun i => D.tup [L3.dSt (keyAt (steps.map toL) i), .int (M.Wt g3 steps n (keyAt (steps.map toL) i))]) = (steps.map (toW g3 steps n)).map dPair := fun n => by
    rw [range_keys (fun t => D.tup [L3.dSt t, .int (M.Wt g3 steps n t)]), List.map_map, List.map_map]; rfl
  let Z : Nat → L2.St → Hp → Prop := fun k σ' H' => ∃ (lw : Addr) (ls : List Addr) (y4 y5 : Option V), σ' = [some v0, some (.int many), some (.ref la), some (.ref lw), y4, y5] ∧ Same H1 H' ∧ H1 lw = none ∧ H' lw = some (.lst (ls.map V.ref)) ∧ ls.length = k + 1 ∧ ∀ n a, ls[n]? = some a → HasS P w K H' a (steps.map (toW g3 steps n))
  refine pqr_cons (Mid := Z 0) (pq1_setF 3 sc_ways_to_end.nd fun σ' H' ⟨z1, z2⟩ => ?_) ?_
  · subst z1; subst z2
    refine ⟨_, pf_lst (paf_one (pf_dict rfl hu U.dict (kvs := steps.map (toW g3 steps 0)) ?_ (hnd 0) (hpl 0) (hzl 0))) (fun _ _ us ⟨v, e, _⟩ => by rw [e]; show 1 ≤ 1000; decide), fun v H2 e2 ⟨l, us, Hm, ev, em, hn, eH, u, eu, l', eu', hn', hS'⟩ => ?_⟩
    · rw [← hdo 0]
      refine pl_compN (n := (steps.map toL).length) (din := fun i => L3.dSt (keyAt (steps.map toL) i)) (dout := fun i => D.tup [L3.dSt (keyAt (steps.map toL) i), .int (M.Wt g3 steps 0 (keyAt (steps.map toL) i))]) (N := ["standing", "rules"]) (σc := [none, some v0]) (cl := [("rules", s.heap.objs.size + 1)]) rfl ?tk0 (gives_ds (pd_var 2 rfl (.adr la)) hS) (big_box hsz) (fun _ => rfl) ?e0
      case tk0 =>
        refine takesN (ys := [("rules", s.heap.objs.size + 1)]) (vs := [v0]) ?c0 (by decide +kernel) rfl (by decide +kernel) rfl (by show (["standing", "rules"] : List Str).Nodup; decide) rfl ?_ ?_ (by intro z hz hf; show z.1 ∈ (["rules"] : List Str); revert hz hf; revert z; decide +kernel)
        case c0 => rfl
        · intro z hz
          simp only [List.mem_cons, List.not_mem_nil, or_false] at hz
          rcases hz with rfl <;> rfl
        · intro i z v hz hv
          match i, hz, hv with
          | 0, hz, hv => cases hz; cases hv; exact ⟨0, rfl, rfl, rfl, .inl rfl⟩
          | n + 1, hz, hv => simp at hz
      case e0 =>
        intro Cc s2 H2 fp i v H3 hi e3 hv
        have hk := hkey i hi
        have hre : M.reached g1 g2 g3 (keyAt (steps.map toL) i) = true := by
          cases hl : look steps (keyAt (steps.map toL) i) with
          | none => rw [hl] at hk; cases hk
          | some y => exact (ht.fit _ _ hl).1
        show PD _ _ _ _ (D.tup [L3.dSt (keyAt (steps.map toL) i), .int (M.Wt g3 steps 0 (keyAt (steps.map toL) i))])
        generalize keyAt (steps.map toL) i = t at hre hv ⊢
        have hW : D.int (M.Wt g3 steps 0 t) = (if isNon (M.wnr g3 t) = true then D.int 0 else D.int 1) := by
          rw [win_non hre]
          show D.int (if M.over g3 t = true then 1 else 0) = _
          cases M.over g3 t <;> rfl
        rw [hW]
        exact pd_tup (pda_cons (pd_var 0 rfl hv) (pda_cons (pd_ifExp (pdt_isN (pd_does dWin hr5 (pda_cons (pd_var 1 rfl (h0.mono (e1.trans e3))) (pda_cons (pd_var 0 rfl (show Is K H3 (dS t) v from hv)) pda_nil)) ⟨g1, g2, g3, t, rfl, hre, rfl⟩)) (fun _ => pd_int) (fun _ => pd_int)) pda_nil))
    · subst ev; subst eH; subst eu; subst eu'
      refine ⟨l, [l'], none, none, rfl, e2, em.free hn, upd_same, rfl, fun n a ha => ?_⟩
      match n, ha with
      | 0, ha => cases ha; exact hS'.mono (same_upd hn)
      | n + 1, ha => simp at ha
  refine pqr_cons (Mid := Z many) (pq1_forR (j := (many : Int)) 4 Z PassesOwn.never rfl sc_ways_to_end.nd T.range (fun σ' H' ⟨lw, ls, y4, y5, z1, _⟩ => by subst z1; exact pd_var 1 rfl (.int _)) (by omega)
    (fun σ' H' H2 ⟨lw, ls, y4, y5, z1, z2, z3, z4, z5, z6⟩ e => ⟨lw, ls, y4, y5, z1, z2.trans e, z3, e _ _ z4, z5, fun n a ha => (z6 n a ha).mono e⟩) (fun k hk => ?_) (fun σ' H' z => z)) ?_
  · refine pq_cons (Mid := fun σ' H' => ∃ (lw : Addr) (ls : List Addr) (a : Addr), σ' = [some v0, some (.int many), some (.ref la), some (.ref lw), some (.int k), some (.ref a)] ∧ Same H1 H' ∧ H1 lw = none ∧ H' lw = some (.lst (ls.map V.ref)) ∧ ls.length = k + 1 ∧ (∀ n a, ls[n]? = some a → HasS P w K H' a (steps.map (toW g3 steps n))) ∧ HasS P w K H' a (steps.map (toW g3 steps k)))
      (pq1_set 5 sc_ways_to_end.nd fun σ' H' ⟨σ2, zz, lw, ls, y4, y5, z1, z2, z3, z4, z5, z6⟩ => ?_) ?_
    · subst z1; subst zz
      have hla : ls[k]? = some (ls[k]'(by omega)) := List.getElem?_eq_getElem (by omega)
      generalize ls[k]'(by omega) = a at hla
      refine ⟨.adr a, pd_ixL (ds := ls.map D.adr) (pd_var 3 rfl (.lst (SqL.of z4) (adrs_isL ls))) (pd_var 4 rfl (.int _)) (atI_nat (by rw [List.getElem?_map, hla]; rfl)), fun v H2 e2 hv => ?_⟩
      cases hv
      exact ⟨lw, ls, a, rfl, z2.trans e2, z3, e2 _ _ z4, z5, fun n b hb => (z6 n b hb).mono e2, (z6 k a hla).mono e2⟩
    refine pq_one (pq1_appendF fun σ' H' ⟨lw, ls, a, z1, z2, z3, z4, z5, z6, z7⟩ => ?_)
    subst z1
    refine ⟨lw, ls.map V.ref, _, pd_var 3 rfl (.adr lw), z4, small1000 (by rw [List.length_map, z5]; omega), pf_dict rfl hu U.dict (kvs := steps.map (toW g3 steps (k + 1))) ?_ (hnd _) (hpl _) (hzl _), fun v H2 H3 e2 e3 ⟨l', ev, hn', hS'⟩ => ?_⟩
    · rw [← hdo (k + 1)]
      refine pl_compN (n := (steps.map toL).length) (din := fun i => L3.dSt (keyAt (steps.map toL) i)) (dout := fun i => D.tup [L3.dSt (keyAt (steps.map toL) i), .int (M.Wt g3 steps (k + 1) (keyAt (steps.map toL) i))]) (N := ["standing", "steps", "shorter"]) (σc := [none, some (.ref la), some (.ref a)]) (cl := [("steps", s.heap.objs.size + 2), ("shorter", s.heap.objs.size + 3)]) rfl ?tk1 (gives_ds (pd_var 2 rfl (.adr la)) (hS.mono z2)) (big_box hsz) (fun _ => rfl) ?e1
      case tk1 =>
        refine takesN (ys := [("steps", s.heap.objs.size + 2), ("shorter", s.heap.objs.size + 3)]) (vs := [.ref la, .ref a]) ?c1 (by decide +kernel) rfl (by decide +kernel) rfl (by show (["standing", "steps", "shorter"] : List Str).Nodup; decide) rfl ?_ ?_ (by intro z hz hf; show z.1 ∈ (["steps", "shorter"] : List Str); revert hz hf; revert z; decide +kernel)
        case c1 => rfl
        · intro z hz
          simp only [List.mem_cons, List.not_mem_nil, or_false] at hz
          rcases hz with rfl | rfl <;> rfl
        · intro i z v hz hv
          match i, hz, hv with
          | 0, hz, hv => cases hz; cases hv; exact ⟨2, rfl, rfl, rfl, .inl rfl⟩
          | 1, hz, hv => cases hz; cases hv; exact ⟨5, rfl, rfl, rfl, .inl rfl⟩
          | n + 2, hz, hv => simp at hz
      case e1 =>
        intro Cc s2 H2 fp i v H3 hi e3 hv
        have hk2 := hkey i hi
        show PD _ _ _ _ (D.tup [L3.dSt (keyAt (steps.map toL) i), .int (M.Wt g3 steps (k + 1) (keyAt (steps.map toL) i))])
        generalize keyAt (steps.map toL) i = t at hk2 hv ⊢
        cases hl : look steps t with
        | none => rw [hl] at hk2; cases hk2
        | some y =>
          have hy := ht.small t y hl
          have hyc := ht.cl t y hl
          have hsum : M.Wt g3 steps (k + 1) t = (y.map (M.Wt g3 steps k)).sum := by
            show (((look steps t).getD []).map (M.Wt g3 steps k)).sum = _
            rw [hl]; rfl
          rw [hsum]
          have hrg : (List.range (y.map L3.dSt).length).map (fun j => D.int (M.Wt g3 steps k (y.getD j M.st0))) = (y.map (M.Wt g3 steps k)).map D.int := by
            refine List.ext_getElem (by simp) fun j h1 h2 => ?_
            simp only [List.length_map] at h2
            simp [h2]
          refine pd_tup (pda_cons (pd_var 0 rfl hv) (pda_cons (pd_sum rfl U.sum (PL.pd ?_)) pda_nil))
          rw [← hrg]
          refine pl_comp (n := (y.map L3.dSt).length) (din := fun j => (y.map L3.dSt).getD j .non) (dout := fun j => D.int (M.Wt g3 steps k (y.getD j M.st0))) (N := ["later", "shorter"]) (σc := [none, some (.ref a)]) (cl := [("shorter", s.heap.objs.size + 3)]) rfl ?tk2
            (gives_list (pd_sget hu (pd_var 1 rfl (.adr la)) (hS.mono (z2.trans e3)) (pd_var 0 rfl hv) (by rw [look_toL, hl]; rfl))) (by rw [List.length_map]; omega) (fun _ => rfl) ?e2
          case tk2 =>
            refine takesN (ys := [("shorter", s.heap.objs.size + 3)]) (vs := [.ref a]) ?c2 (by decide +kernel) rfl (by decide +kernel) rfl (by show (["later", "shorter"] : List Str).Nodup; decide) rfl ?_ ?_ (by intro z hz hf; show z.1 ∈ (["shorter"] : List Str); revert hz hf; revert z; decide +kernel)
            case c2 => rfl
            · intro z hz
              simp only [List.mem_cons, List.not_mem_nil, or_false] at hz
              rcases hz with rfl <;> rfl
            · intro i z v hz hv
              match i, hz, hv with
              | 0, hz, hv => cases hz; cases hv; exact ⟨2, rfl, rfl, rfl, .inl rfl⟩
              | n + 1, hz, hv => simp at hz
          case e2 =>
            intro Cc2 s3 H4 fp2 j v2 H5 hj e5 hv2
            rw [List.length_map] at hj
            have e : (y.map L3.dSt).getD j .non = L3.dSt (y.getD j M.st0) := by simp [hj]
            replace hv2 : Is K H5 (L3.dSt (y.getD j M.st0)) v2 := by rw [← e]; exact hv2
            have hm : y.getD j M.st0 ∈ y := by
              have : y.getD j M.st0 = y[j] := by simp [hj]
              rw [this]; exact List.getElem_mem hj
            exact pd_sget hu (pd_var 1 rfl (.adr a)) (z7.mono (e3.trans e5)) (pd_var 0 rfl hv2) (toW_look (hyc _ hm))
    · subst ev
      have e13 := e2.trans e3
      have hl3 := e13 _ _ z4
      refine ⟨lw, ls ++ [l'], _, _, rfl, fun b o eb => by rw [upd_ne (ne_of_none eb z3)]; exact e13 _ _ (z2 _ _ eb), z3, ?_, by rw [List.length_append, z5]; rfl, fun n b hb => ?_⟩
      · rw [List.map_append]; exact upd_same
      · by_cases hn : n < ls.length
        · rw [List.getElem?_append_left hn] at hb
          exact ((z6 n b hb).mono e13).updL hl3 (hno n)
        · have hn2 : n = ls.length := by
            have := (List.getElem?_eq_some_iff.mp hb).1
            rw [List.length_append] at this
            simp at this
            omega
          subst hn2
          rw [List.getElem?_append_right (Nat.le_refl _), Nat.sub_self] at hb
          cases hb
          rw [z5]
          exact hS'.updL hl3 (hno (k + 1))
  refine pqr_pr fun σ' H' ⟨lw, ls, y4, y5, z1, z2, z3, z4, z5, z6⟩ => ?_
  subst z1
  exact ⟨_, pr_ret (pd_var 3 rfl (.adr lw)), fun v H2 e2 hv => by cases hv; exact ⟨(e1.trans z2).trans e2, lw, ls, steps, rfl, e2 _ _ z4, z5, ht, fun n a ha => (z6 n a ha).mono e2⟩⟩
end
end Q
set_option Elab.async false
set_option linter.all false
set_option maxRecDepth 100000
set_option maxHeartbeats 4000000
namespace Q
open PySem PySem.Spec PyProof.Rows L2 L3
section
variable {P : Program} {w : World} {K : PySem.W.Frag} {mg : Str → Option Value} {base : Heap} {C CR : Addr}
theorem pn1_aug {X : Cx} {e : Expr} {σ : L2.St} {H : Hp} {op : Operator} {f : Int → Int → Int} {j k : Int} {pos : Pos} {Post : L2.St → Hp → Prop} (i : Nat) {x : Str} {pos' : Pos} (hN : X.N.Nodup) (ho : PIp X op (ipI f)) (hv : σ[i]? = some (some (.int j))) (he : PD X e σ H (.int k)) (h : ∀ H', Same H H' → Post (σ.set i (some (.int (f j k)))) H')
    (hi : X.N[i]? = some x := by rfl) (hx : Loc X.env.scope x := by first | exact Or.inl rfl | exact Or.inr rfl)
    (hf : X.fn x = true ∨ X.env.scope.names.lookup x = some .local := by first | exact .inl rfl | exact .inr rfl | assumption) : PN1 X (.AugAssign (.Name x pos') op e pos) σ H Post :=
  PS.imp (ps_aug hN hi hx he ho hf) fun D σ' H1 ⟨hs, e1, q⟩ => by
    subst hs
    exact ⟨_, hv, rfl, e1, fun v H2 e2 hv2 => by cases hv2; exact ⟨j, k, rfl, rfl, q _ _ e2 (h H2 (e1.trans e2))⟩⟩
theorem pf_var {X : Cx} {σ : L2.St} {H : Hp} {pos : Pos} {Φ : Hp → V → Prop} (n : Nat) {x : Str} {v : V} (hs : σ[n]? = some (some v)) (r : ∀ H', Same H H' → Φ H' v) (hN : X.N[n]? = some x := by rfl)
    (hv : Vis X.env.scope x := by first | exact Or.inl rfl | exact Or.inr (Or.inl rfl) | exact Or.inr (Or.inr rfl)) (hd : (x == ("__debug__" : Str)) = false := by decide)
    (hcd : (x == ("__classdict__" : Str)) = false := by decide) : PF2 X (.Name x pos) σ H (fun _ H2 u => Φ H2 u) :=
  PE.imp (pe_var hN hv hd hcd) fun σ' H1 Q ⟨hs', e1, q⟩ => by
    subst hs'
    exact ⟨v, hs, q _ _ (Same.refl _) (r H1 e1)⟩
theorem atI_neg1 {α : Type} {l : List α} {n : Nat} {x : α} (hl : l.length = n + 1) (h : l[n]? = some x) : atI l (-1) = some x := by
  unfold atI ixN
  rw [if_neg (by decide), if_pos (by omega)]
  show l[(-1 + (l.length : Int)).toNat]? = some x
  rw [show (-1 + (l.length : Int)).toNat = n by omega]; exact h
theorem ways_look {g1 g2 g3 : Int} {many : Nat} {H : Hp} {v : V} (h : WaysAt P w K g1 g2 g3 many H v) : ∃ (l : Addr) (ls : List Addr), v = .ref l ∧ H l = some (.lst (ls.map V.ref)) ∧ ls.length = many + 1 ∧ ∀ (n : Nat), n ≤ many → ∃ a, ls[n]? = some a ∧ ∀ j t, M.Rch g1 g2 g3 j t → j + n ≤ many → ∃ kds, HasS P w K H a kds ∧ look kds t = some (.int (M.cnt (M.beh g1 g2) (M.over g3) n t : Nat)) := by
  obtain ⟨l, ls, steps, e, hl, hz, ht, hS⟩ := h
  refine ⟨l, ls, e, hl, hz, fun n hn => ?_⟩
  have ha : ls[n]? = some (ls[n]'(by omega)) := List.getElem?_eq_getElem (by omega)
  refine ⟨_, ha, fun j t hr hj => ⟨_, hS n _ ha, ?_⟩⟩
  rw [toW_look (ht.all j t (by omega) hr), M.Wt_cnt ht n j t hr hj]
theorem WaysAt.mono {g1 g2 g3 : Int} {many : Nat} {H H' : Hp} {v : V} (h : WaysAt P w K g1 g2 g3 many H v) (e : Same H H') : WaysAt P w K g1 g2 g3 many H' v := by
  obtain ⟨l, ls, steps, e1, hl, hz, ht, hS⟩ := h
  exact ⟨l, ls, steps, e1, e _ _ hl, hz, ht, fun n a ha => (hS n a ha).mono e⟩
theorem pd_ways {X : Cx} {σ : L2.St} {H : Hp} {a b i' : Expr} {pos pos2 : Pos} {g1 g2 g3 i : Int} {many n j : Nat} {t : St3} {v : V} (hu : X.A.units + 64 < cLine) (ha : PF2 X a σ H (fun _ H2 u => WaysAt X.prog X.w X.K g1 g2 g3 many H2 u)) (hb : PD X b σ H (.int i))
    (hn : n ≤ many) (hi : (∃ k : Nat, i = k ∧ k = n) ∨ (i = -1 ∧ n = many)) (hr : M.Rch g1 g2 g3 j t) (hj : j + n ≤ many) (ht : PD X i' σ H (L3.dSt t)) (hs : PlainIx b := by intro _ _; rfl) (hs2 : NoSl i' := by intro _ _; rfl) :
    PD X (.Subscript (.Subscript a b pos) i' pos2) σ H (.int (M.cnt (M.beh g1 g2) (M.over g3) n t : Nat)) := by
  refine pd_sgetF hu (pf_ixL (Φ' := fun _ H2 u => ∃ l kds, u = .ref l ∧ HasS X.prog X.w X.K H2 l kds ∧ look kds t = some (.int (M.cnt (M.beh g1 g2) (M.over g3) n t : Nat))) ha hb (fun H1 H2 u e1 e2 hW => ?_) hs) (fun H1 H2 u e1 e2 h => h) ht hs2
  obtain ⟨l, ls, rfl, hl, hz, k⟩ := ways_look hW
  obtain ⟨x, hx, kx⟩ := k n hn
  obtain ⟨kds, hS, hk⟩ := kx j t hr hj
  refine ⟨l, ls.map V.ref, .ref x, rfl, SqL.of hl, ?_, fun H3 e3 => ⟨x, kds, rfl, hS.mono e3, hk⟩⟩
  rcases hi with ⟨k, rfl, rfl⟩ | ⟨rfl, rfl⟩
  · exact atI_nat (by rw [List.getElem?_map, hx]; rfl)
  · exact atI_neg1 (by rw [List.length_map]; exact hz) (by rw [List.getElem?_map, hx]; rfl)
theorem pf_ways {X : Cx} {σ : L2.St} {H : Hp} {e : Expr} {es : List Expr} {p pos : Pos} {g1 g2 g3 : Int} {many : Nat} (dWays : DoesG X.prog X.w X.K X.mg X.base 10 "ways_to_end" ["rules", "many"] (R_ways X.prog X.w X.K C)) (hr : Room 10 X.A) (ha : PDA X (e :: es) σ H [.obj C (fsR g1 g2 g3), .int many]) (hg : M.Good g1 g2 g3) (hm : many ≤ 1000) (hgl : Gl X "ways_to_end" := by rfl)
    (he : starEach (e :: es) X.env = (false, eval e X.env) :: starEach es X.env := by rfl) (hpl : (backTo pos (starEach es X.env)).any (·.1) = false := by rfl) : PF2 X (.Call (.Name "ways_to_end" p) (e :: es) [] pos) σ H (fun _ H2 u => WaysAt X.prog X.w X.K g1 g2 g3 many H2 u) := by
  refine pf_doesG dWays hr (PDA.f ha) (fun H1 H3 us e1 e2 hvs => ?_) hgl (by decide) he hpl
  obtain ⟨u0, u1, rfl, k0, k1⟩ := isL2 hvs
  cases k1
  exact ⟨_, ⟨g1, g2, g3, many, u0, rfl, k0, hg, hm, rfl⟩, fun H4 v e4 h => h⟩
def R_many (C : Addr) (ds : List D) (r : D) : Prop := ∃ (g1 g2 g3 : Int) (many : Nat), ds = [.obj C (fsR g1 g2 g3), .int many] ∧ M.Good g1 g2 g3 ∧ many ≤ 1000 ∧ r = .int (M.cnt (M.beh g1 g2) (M.over g3) many M.st0 : Nat)
theorem ok_many (dBeg : Does P w K mg base 1 "begin" [] R_begin) (dWays : DoesG P w K mg base 10 "ways_to_end" ["rules", "many"] (R_ways P w K C)) (h : Has K mg "many_rows" st_many_rows ["rules", "many"]) : Does P w K mg base 11 "many_rows" ["rules", "many"] (R_many C) := by
  refine h.does sc_many_rows (fun ds r ⟨_, _, _, _, e, _⟩ => by rw [e]; rfl) fun f cdv A outer s H E vs ds r hr hl hR => ?_
  obtain ⟨g1, g2, g3, many, rfl, hg, hm, rfl⟩ := hR
  obtain ⟨v0, v1, rfl, h0, h1⟩ := isL2 hl
  cases h1
  exact pr_ret (pd_ways (v := .non) (hu64 hr) (pf_ways dWays hr (pda_cons (pd_var 0 rfl h0) (pda_cons (pd_var 1 rfl (.int _)) pda_nil)) hg hm) (pd_neg pd_int) (Nat.le_refl _) (.inr ⟨rfl, rfl⟩) (j := 0) rfl (by omega) (pd_does0 dBeg (hr.mono (by decide)) ⟨rfl, rfl⟩))
def R_row (P : Program) (w : World) (K : PySem.W.Frag) (C : Addr) (H : Hp) (vs : List V) (Φ : Hp → Hp → V → Prop) : Prop := ∃ (g1 g2 g3 : Int) (many k : Nat) (v0 : V), vs = [v0, .int many, .int k] ∧ Is K H (.obj C (fsR g1 g2 g3)) v0 ∧ M.Good g1 g2 g3 ∧ many ≤ 1000 ∧ k < M.cnt (M.beh g1 g2) (M.over g3) many M.st0 ∧
  Φ = fun H1 H2 v => ∃ l, v = .ref l ∧ H1 l = none ∧ H2 l = some (.lst ((M.unrank (M.beh g1 g2) (M.over g3) many M.st0 k).map V.int))
theorem ok_row (T : Tx K mg C) (dBeg : Does P w K mg base 1 "begin" [] R_begin) (dBeh : Does P w K mg base 7 "behind" ["rules", "standing", "who"] (R_behind C)) (dWays : DoesG P w K mg base 10 "ways_to_end" ["rules", "many"] (R_ways P w K C)) (h : Has K mg "row_at" st_row_at ["rules", "many", "number"]) :
    DoesG P w K mg base 11 "row_at" ["rules", "many", "number"] (R_row P w K C) := by
  refine h.doesG sc_row_at (fun H vs Φ ⟨_, _, _, _, _, _, e, _⟩ => by rw [e]; rfl) fun f cdv A outer s H E vs Φ hr hR => ?_
  obtain ⟨g1, g2, g3, many, k, v0, rfl, h0, hg, hm, hk, rfl⟩ := hR
  have hr1 : Room 1 _ := hr.mono (by decide)
  have hr7 : Room 7 _ := hr.mono (by decide)
  have hu := hu64 hr
  refine pqr_cons (Mid := fun σ' H' => ∃ vw, σ' = [some v0, some (.int many), some (.int k), some vw, none, none, none, none, none] ∧ Same H H' ∧ WaysAt P w K g1 g2 g3 many H' vw)
    (pq1_setF 3 sc_row_at.nd fun σ' H' ⟨z1, z2⟩ => ?_) ?_
  · subst z1; subst z2
    exact ⟨_, pf_ways dWays hr (pda_cons (pd_var 0 rfl h0) (pda_cons (pd_var 1 rfl (.int _)) pda_nil)) hg hm, fun v H2 e2 hW => ⟨v, rfl, e2, hW⟩⟩
  refine pqr_fix fun σ1 H1 ⟨vw, z1, e1, hW⟩ => ?_
  subst z1
  replace h0 := h0.mono e1
  refine pqr_cons (Mid := fun σ' H' => σ' = [some v0, some (.int many), some (.int k), some vw, none, none, none, none, none] ∧ Same H1 H') (pq1_if fun σ' H' ⟨z1, z2⟩ => ?_) ?_
  · subst z1; subst z2
    refine ⟨false, (PDW.pt (pdw_or (pdt_lt (pd_var 2 rfl (.int _)) pd_int) fun _ => pdw_or1 (pdt_ge (pd_var 2 rfl (.int _)) (pd_ways (v := .non) (t := M.st0) hu (pf_var (Φ := fun H2 u => WaysAt P w K g1 g2 g3 many H2 u) 3 rfl fun _ e => hW.mono e) (pd_neg pd_int) (Nat.le_refl _) (.inr ⟨rfl, rfl⟩) (j := 0) rfl (by omega) (pd_does0 dBeg hr1 ⟨rfl, rfl⟩))))).cast ?_, fun z => absurd z Bool.false_ne_true, fun _ => pq_nil fun σ2 H2 ⟨y1, y2⟩ => ⟨y1, y2⟩⟩
    rw [decide_eq_false (by omega), decide_eq_false (by omega)]; rfl
  refine pqr_cons (Mid := fun σ' H' => ∃ v4, σ' = [some v0, some (.int many), some (.int k), some vw, some v4, none, none, none, none] ∧ Same H1 H' ∧ Is K H' (dS M.st0) v4) (pq1_set 4 sc_row_at.nd fun σ' H' ⟨z1, z2⟩ => ?_) ?_
  · subst z1
    exact ⟨_, pd_does0 dBeg hr1 ⟨rfl, rfl⟩, fun v H2 e2 hv => ⟨v, rfl, z2.trans e2, hv⟩⟩
  let Z : Nat → L2.St → Hp → Prop := fun i σ' H' => ∃ (lr : Addr) (st : St3) (n : Nat) (r : List Int) (v4 : V) (y6 y7 y8 : Option V), σ' = [some v0, some (.int many), some (.int n), some vw, some v4, some (.ref lr), y6, y7, y8] ∧ Same H1 H' ∧ H1 lr = none ∧ H' lr = some (.lst (r.map V.int)) ∧ Is K H' (dS st) v4 ∧ M.RowAt g1 g2 g3 many k i st n r
  refine pqr_cons (Mid := Z 0) (pq1_new 5 sc_row_at.nd fun σ' H' ⟨v4, z1, z2, z3⟩ => ?_) ?_
  · subst z1
    refine ⟨[], pl_lst pda_nil, fun l us H2 e2 hn hl hus => ?_⟩
    obtain rfl := isL0 hus
    exact ⟨l, M.st0, k, [], v4, none, none, none, rfl, z2.trans e2, z2.free hn, hl, z3.mono e2, M.RowAt.first hk⟩
  refine pqr_cons (Mid := Z many) (pq1_forRd (lo := (many : Int) - 1) (hi := -1) 6 Z PassesOwn.never rfl sc_row_at.nd T.range (fun σ' H' ⟨lr, st, n, r, v4, y6, y7, y8, z1, _⟩ => by subst z1; exact ⟨pd_sub (pd_var 1 rfl (.int _)) pd_int, pd_neg pd_int, pd_neg pd_int⟩) (by omega)
    (fun σ' H' H2 ⟨lr, st, n, r, v4, y6, y7, y8, z1, z2, z3, z4, z5, z6⟩ e => ⟨lr, st, n, r, v4, y6, y7, y8, z1, z2.trans e, z3, e _ _ z4, z5.mono e, z6⟩) (fun i hi => ?_) (fun σ' H' z => by rw [show ((many : Int) - 1 - -1).toNat = many by omega] at z; exact z)) ?_
  · have hi' : i < many := by omega
    refine pq_cons (Mid := fun σ' H' => ∃ (lr : Addr) (st : St3) (n : Nat) (r : List Int) (v4 : V) (y6 y8 : Option V), σ' = [some v0, some (.int many), some (.int n), some vw, some v4, some (.ref lr), y6, some (.int (M.cnt (M.beh g1 g2) (M.over g3) (many - 1 - i) (M.beh g1 g2 st 0) : Nat)), y8] ∧ Same H1 H' ∧ H1 lr = none ∧ H' lr = some (.lst (r.map V.int)) ∧ Is K H' (dS st) v4 ∧ M.RowAt g1 g2 g3 many k i st n r)
      (pq1_set 7 sc_row_at.nd fun σ' H' ⟨σ2, zz, lr, st, n, r, v4, y6, y7, y8, z1, z2, z3, z4, z5, z6⟩ => ?_) ?_
    · subst z1; subst zz
      have hs := z6.next hi'
      have hfit := M.fit_rch hg z6.rch
      refine ⟨_, pd_ways (v := .non) (n := many - 1 - i) (j := i + 1) (t := M.beh g1 g2 st 0) hu (pf_var (Φ := fun H2 u => WaysAt P w K g1 g2 g3 many H2 u) 3 rfl fun _ e => hW.mono (z2.trans e)) (pd_var 6 rfl (.int _)) (by omega) (.inl ⟨many - 1 - i, by omega, rfl⟩) (z6.rch.step hs.1 (.inl rfl)) (by omega) (pd_does dBeh hr7 (pda_cons (pd_var 0 rfl (h0.mono z2)) (pda_cons (pd_var 4 rfl z5) (pda_cons pd_int pda_nil))) ⟨g1, g2, g3, st, 0, rfl, hfit.1, hs.1, rfl⟩), fun v H2 e2 hv => ?_⟩
      cases hv
      exact ⟨lr, st, n, r, v4, _, y8, rfl, z2.trans e2, z3, e2 _ _ z4, z5.mono e2, z6⟩
    refine pq_cons (Mid := fun σ' H' => ∃ (lr : Addr) (st : St3) (n : Nat) (r : List Int) (v4 : V) (y6 : Option V), σ' = [some v0, some (.int many), some (.int n), some vw, some v4, some (.ref lr), y6, some (.int (M.cnt (M.beh g1 g2) (M.over g3) (many - 1 - i) (M.beh g1 g2 st 0) : Nat)), some (.int 0)] ∧ Same H1 H' ∧ H1 lr = none ∧ H' lr = some (.lst (r.map V.int)) ∧ Is K H' (dS st) v4 ∧ M.RowAt g1 g2 g3 many k i st n r)
      (pq1_set 8 sc_row_at.nd fun σ' H' ⟨lr, st, n, r, v4, y6, y8, z1, z2, z3, z4, z5, z6⟩ => ?_) ?_
    · subst z1
      exact ⟨_, pd_int, fun v H2 e2 hv => by cases hv; exact ⟨lr, st, n, r, v4, y6, rfl, z2.trans e2, z3, e2 _ _ z4, z5.mono e2, z6⟩⟩
    refine pq_cons (Mid := fun σ' H' => ∃ (lr : Addr) (st : St3) (n' : Nat) (r : List Int) (v4 : V) (y6 y7 : Option V) (who : Int), σ' = [some v0, some (.int many), some (.int n'), some vw, some v4, some (.ref lr), y6, y7, some (.int who)] ∧ Same H1 H' ∧ H1 lr = none ∧ H' lr = some (.lst (r.map V.int)) ∧ Is K H' (dS st) v4 ∧ (who = 0 ∨ who = 1) ∧ M.reached g1 g2 g3 st = true ∧ M.over g3 st = false ∧ r.length ≤ 1000 ∧ M.RowAt g1 g2 g3 many k (i + 1) (M.beh g1 g2 st who) n' (r ++ [who]))
      (pq1_pn (Post := fun _ _ σ' H' => ∃ (lr : Addr) (st : St3) (n' : Nat) (r : List Int) (v4 : V) (y6 y7 : Option V) (who : Int), σ' = [some v0, some (.int many), some (.int n'), some vw, some v4, some (.ref lr), y6, y7, some (.int who)] ∧ Same H1 H' ∧ H1 lr = none ∧ H' lr = some (.lst (r.map V.int)) ∧ Is K H' (dS st) v4 ∧ (who = 0 ∨ who = 1) ∧ M.reached g1 g2 g3 st = true ∧ M.over g3 st = false ∧ r.length ≤ 1000 ∧ M.RowAt g1 g2 g3 many k (i + 1) (M.beh g1 g2 st who) n' (r ++ [who]))
        (fun σ' H' ⟨lr, st, n, r, v4, y6, z1, z2, z3, z4, z5, z6⟩ => ?_) (fun _ _ _ _ _ _ z => z)) ?_
    · subst z1
      obtain ⟨ho, s0, s1⟩ := z6.next hi'
      have hfit := M.fit_rch hg z6.rch
      have hrl : r.length ≤ 1000 := by rw [z6.len]; omega
      refine pn1_if (pdt_ge (pd_var 2 rfl (.int _)) (pd_var 7 rfl (.int _))) (fun hk => ?_) (fun hk => ?_)
      · have hk' := of_decide_eq_true hk
        have hle : M.cnt (M.beh g1 g2) (M.over g3) (many - 1 - i) (M.beh g1 g2 st 0) ≤ n := by omega
        refine pn_cons (P := fun σ2 H2 => σ2 = [some v0, some (.int many), some (.int ((n - M.cnt (M.beh g1 g2) (M.over g3) (many - 1 - i) (M.beh g1 g2 st 0) : Nat) : Int)), some vw, some v4, some (.ref lr), y6, some (.int (M.cnt (M.beh g1 g2) (M.over g3) (many - 1 - i) (M.beh g1 g2 st 0) : Nat)), some (.int 0)])
          (pn1_aug (f := fun i j => i - j) 2 sc_row_at.nd ip_sub rfl (pd_var 7 rfl (.int _)) fun H2 e2 => ?_) fun σ2 H2 e2 hs => ?_
        · show List.set _ 2 _ = _
          rw [show (n : Int) - (M.cnt (M.beh g1 g2) (M.over g3) (many - 1 - i) (M.beh g1 g2 st 0) : Nat) = ((n - M.cnt (M.beh g1 g2) (M.over g3) (many - 1 - i) (M.beh g1 g2 st 0) : Nat) : Int) by omega]; rfl
        subst hs
        refine pn_one (pn1_set 8 sc_row_at.nd pd_int fun v H3 e3 hv => ?_)
        cases hv
        exact ⟨lr, st, _, r, v4, y6, _, 1, rfl, (z2.trans e2).trans e3, z3, (e2.trans e3) _ _ z4, z5.mono (e2.trans e3), .inr rfl, hfit.1, ho, hrl, s1 hle⟩
      · have hk' := of_decide_eq_false hk
        exact pn_nil fun H2 e2 => ⟨lr, st, n, r, v4, y6, _, 0, rfl, z2.trans e2, z3, e2 _ _ z4, z5.mono e2, .inl rfl, hfit.1, ho, hrl, s0 (by omega)⟩
    refine pq_cons (Mid := fun σ' H' => ∃ (lr : Addr) (st : St3) (n' : Nat) (r : List Int) (v4 : V) (y6 y7 : Option V) (who : Int), σ' = [some v0, some (.int many), some (.int n'), some vw, some v4, some (.ref lr), y6, y7, some (.int who)] ∧ Same H1 H' ∧ H1 lr = none ∧ H' lr = some (.lst ((r ++ [who]).map V.int)) ∧ Is K H' (dS st) v4 ∧ (who = 0 ∨ who = 1) ∧ M.reached g1 g2 g3 st = true ∧ M.over g3 st = false ∧ M.RowAt g1 g2 g3 many k (i + 1) (M.beh g1 g2 st who) n' (r ++ [who]))
      (pq1_append fun σ' H' ⟨lr, st, n', r, v4, y6, y7, who, z1, z2, z3, z4, z5, z6, z7, z8, z9, z10⟩ => ?_) ?_
    · subst z1
      refine ⟨lr, r.map V.int, .int who, pd_var 5 rfl (.adr lr), z4, small1000 (by rw [List.length_map]; exact z9), pd_var 8 rfl (.int _), fun v H2 e2 hv => ?_⟩
      cases hv
      refine ⟨lr, st, n', r, v4, y6, y7, who, rfl, fun b o eb => by rw [upd_ne (ne_of_none eb z3)]; exact e2 _ _ (z2 _ _ eb), z3, ?_, (z5.mono e2).updL (e2 _ _ z4) rfl, z6, z7, z8, z10⟩
      rw [List.map_append]; exact upd_same
    refine pq_one (pq1_set 4 sc_row_at.nd fun σ' H' ⟨lr, st, n', r, v4, y6, y7, who, z1, z2, z3, z4, z5, z6, z7, z8, z9⟩ => ?_)
    subst z1
    exact ⟨_, pd_does dBeh hr7 (pda_cons (pd_var 0 rfl (h0.mono z2)) (pda_cons (pd_var 4 rfl z5) (pda_cons (pd_var 8 rfl (.int _)) pda_nil))) ⟨g1, g2, g3, st, who, rfl, z7, z8, rfl⟩, fun v H2 e2 hv => ⟨lr, M.beh g1 g2 st who, n', r ++ [who], v, y6, y7, _, rfl, z2.trans e2, z3, e2 _ _ z4, hv, z9⟩⟩
  refine pqr_pr fun σ' H' ⟨lr, st, n, r, v4, y6, y7, y8, z1, z2, z3, z4, z5, z6⟩ => ?_
  subst z1
  exact ⟨_, pr_ret (pd_var 5 rfl (.adr lr)), fun v H2 e2 hv => by cases hv; exact ⟨(e1.trans z2).trans e2, lr, rfl, e1.free z3, by rw [z6.last]; exact e2 _ _ z4⟩⟩
end
end Q
set_option Elab.async false
set_option linter.all false
set_option maxRecDepth 100000
set_option maxHeartbeats 4000000
namespace Q
open PySem PySem.Spec PyProof.Rows L2 L3
section
variable {P : Program} {w : World} {K : PySem.W.Frag} {mg : Str → Option Value} {base : Heap} {C CR : Addr}
def R_noend (C : Addr) (ds : List D) (r : D) : Prop := ∃ g1 g2 g3 row, ds = [.obj C (fsR g1 g2 g3), .lst (row.map D.int)] ∧ M.Good g1 g2 g3 ∧ M.ends (M.aft g1 g2) (M.over g3) row M.st0 = true ∧ r = .non
theorem ok_noend (dPla : Does P w K mg base 7 "played" ["rules", "row"] (R_played C)) (dWin : Does P w K mg base 5 "winner" ["rules", "standing"] (R_winner C)) (h : Has K mg "refuse_no_end" st_refuse_no_end ["rules", "row"]) :
    Does P w K mg base 8 "refuse_no_end" ["rules", "row"] (R_noend C) := by
  refine h.doesF sc_refuse_no_end (fun ds r ⟨_, _, _, _, e, _⟩ => by rw [e]; rfl) (fun ds r ⟨_, _, _, _, _, _, _, e⟩ => e) fun f cdv A outer s H E vs ds hr hl hR => ?_
  obtain ⟨g1, g2, g3, row, rfl, hg, he, _⟩ := hR
  obtain ⟨v0, v1, rfl, h0, h1⟩ := isL2 hl
  have hr5 : Room 5 _ := hr.mono (by decide)
  obtain ⟨hleg, hov, _⟩ := M.ends_run he
  have hre := M.reached_run hg (M.reached_st0 hg) hleg
  refine pf_of (pn_cons (P := fun σ' H' => ∃ v2, σ' = [some v0, some v1, some v2] ∧ Is K H' (dS (M.run g1 g2 M.st0 row)) v2)
    (pn1_tryOk (pn_one (pn1_set 2 sc_refuse_no_end.nd (pd_does dPla hr (pda_cons (pd_var 0 rfl h0) (pda_cons (pd_var 1 rfl h1) pda_nil)) ⟨_, _, _, row, rfl, hg, hleg, rfl⟩) fun v H' e hv => ⟨v, rfl, hv⟩)) rfl) fun σ' H2 e2 ⟨v2, hs, h2⟩ => ?_)
  subst hs
  refine pn_one (pn1_if (k := false) ((pdt_isN (pd_does dWin hr5 (pda_cons (pd_var 0 rfl (h0.mono e2)) (pda_cons (pd_var 2 rfl h2) pda_nil)) ⟨g1, g2, g3, _, rfl, hre, rfl⟩)).cast (by rw [win_non hre, hov]; rfl)) (fun z => absurd z Bool.false_ne_true) (fun _ => pn_nil fun _ _ => trivial))
def R_num (P : Program) (w : World) (K : PySem.W.Frag) (C : Addr) (H : Hp) (vs : List V) (Φ : Hp → Hp → V → Prop) : Prop := ∃ (g1 g2 g3 : Int) (row : List Int) (l : Addr) (v0 : V), vs = [v0, .ref l] ∧ Is K H (.obj C (fsR g1 g2 g3)) v0 ∧ H l = some (.lst (row.map V.int)) ∧ M.Good g1 g2 g3 ∧
  M.ends (M.beh g1 g2) (M.over g3) row M.st0 = true ∧ row.length ≤ 1000 ∧ Φ = fun _ _ v => v = .int (M.rank (M.beh g1 g2) (M.over g3) row M.st0 : Nat)
theorem ok_num (T : Tx K mg C) (U : Trw mg) (dBeg : Does P w K mg base 1 "begin" [] R_begin) (dBeh : Does P w K mg base 7 "behind" ["rules", "standing", "who"] (R_behind C)) (dNo : Does P w K mg base 8 "refuse_no_end" ["rules", "row"] (R_noend C)) (dWays : DoesG P w K mg base 10 "ways_to_end" ["rules", "many"] (R_ways P w K C))
    (h : Has K mg "number_of" st_number_of ["rules", "row"]) : DoesG P w K mg base 11 "number_of" ["rules", "row"] (R_num P w K C) := by
  refine h.doesG sc_number_of (fun H vs Φ ⟨_, _, _, _, _, _, e, _⟩ => by rw [e]; rfl) fun f cdv A outer s H E vs Φ hr hR => ?_
  obtain ⟨g1, g2, g3, row, l, v0, rfl, h0, hl, hg, he, hz, rfl⟩ := hR
  have hr1 : Room 1 _ := hr.mono (by decide)
  have hr7 : Room 7 _ := hr.mono (by decide)
  have hr8 : Room 8 _ := hr.mono (by decide)
  have hu := hu64 hr
  have hrow : Is K H (.lst (row.map D.int)) (.ref l) := .lst (SqL.of hl) (ints_isL row)
  refine pqr_cons (Mid := fun σ' H' => σ' = [some v0, some (.ref l), none, none, none, none, none] ∧ Same H H') (pq1_pn (Post := fun _ _ σ' H' => σ' = [some v0, some (.ref l), none, none, none, none, none]) (fun σ' H' ⟨z1, z2⟩ => by
    subst z1; subst z2
    exact pn1_expr (pd_does dNo hr8 (pda_cons (pd_var 0 rfl h0) (pda_cons (pd_var 1 rfl hrow) pda_nil)) ⟨g1, g2, g3, row, rfl, hg, by rw [M.ends_beh]; exact he, rfl⟩) fun H' e => rfl) (fun σ' H' σ2 H2 ⟨z1, z2⟩ e hs => ⟨hs, by subst z2; exact e⟩)) ?_
  refine pqr_cons (Mid := fun σ' H' => ∃ vw, σ' = [some v0, some (.ref l), some vw, none, none, none, none] ∧ Same H H' ∧ WaysAt P w K g1 g2 g3 row.length H' vw) (pq1_setF 2 sc_number_of.nd fun σ' H' ⟨z1, z2⟩ => ?_) ?_
  · subst z1
    refine ⟨_, pf_ways (many := row.length) dWays hr (pda_cons (pd_var 0 rfl (h0.mono z2)) (pda_cons ((pd_lenL T.len (pd_var 1 rfl (hrow.mono z2))).cast (by rw [List.length_map])) pda_nil)) hg hz, fun v H2 e2 hW => ⟨v, rfl, z2.trans e2, hW⟩⟩
  refine pqr_fix fun σ1 H1 ⟨vw, z1, e1, hW⟩ => ?_
  subst z1
  replace h0 := h0.mono e1
  replace hl := e1 _ _ hl
  replace hrow := hrow.mono e1
  refine pqr_cons (Mid := fun σ' H' => ∃ v3, σ' = [some v0, some (.ref l), some vw, some v3, none, none, none] ∧ Same H1 H' ∧ Is K H' (dS M.st0) v3) (pq1_set 3 sc_number_of.nd fun σ' H' ⟨z1, z2⟩ => ?_) ?_
  · subst z1; subst z2
    exact ⟨_, pd_does0 dBeg hr1 ⟨rfl, rfl⟩, fun v H2 e2 hv => ⟨v, rfl, e2, hv⟩⟩
  let Z : Nat → L2.St → Hp → Prop := fun i σ' H' => ∃ (st : St3) (n : Nat) (v3 : V) (y5 y6 : Option V), σ' = [some v0, some (.ref l), some vw, some v3, some (.int n), y5, y6] ∧ Same H1 H' ∧ Is K H' (dS st) v3 ∧ M.NumAt g1 g2 g3 row i st n
  refine pqr_cons (Mid := Z 0) (pq1_set 4 sc_number_of.nd fun σ' H' ⟨v3, z1, z2, z3⟩ => ?_) ?_
  · subst z1
    exact ⟨_, pd_int, fun v H2 e2 hv => by cases hv; exact ⟨M.st0, 0, v3, none, none, rfl, z2.trans e2, z3.mono e2, M.NumAt.first he⟩⟩
  refine pqr_cons (Mid := Z row.length) (pq1_forE (l := l) (vs := row.map V.int) 5 6 Z PassesOwn.never rfl sc_number_of.nd U.enum (fun σ' H' ⟨st, n, v3, y5, y6, z1, _⟩ => by subst z1; exact pd_var 1 rfl (.adr l)) (fun σ' H' H2 ⟨st, n, v3, y5, y6, z1, z2, z3, z4⟩ e => ⟨st, n, v3, y5, y6, z1, z2.trans e, z3.mono e, z4⟩)
    (fun i σ' H' ⟨st, n, v3, y5, y6, z1, z2, _⟩ => z2 _ _ hl) (fun i σ' H' H2 ⟨st, n, v3, y5, y6, z1, z2, z3, z4⟩ e => ⟨st, n, v3, y5, y6, z1, z2.trans e, z3.mono e, z4⟩) (fun i x hx => ?_) (fun σ' H' z => by rw [List.length_map] at z; exact z)) ?_
  · rw [List.getElem?_map] at hx
    obtain ⟨w', hw, rfl⟩ : ∃ w', row[i]? = some w' ∧ V.int w' = x := by
      cases hq : row[i]? with
      | none => rw [hq] at hx; cases hx
      | some w' => rw [hq] at hx; exact ⟨w', rfl, Option.some.inj hx⟩
    have hi : i < row.length := (List.getElem?_eq_some_iff.mp hw).1
    refine pq_pn (Po := fun _ _ σ' H' => ∃ (st : St3) (n : Nat) (v3 : V) (y5 y6 : Option V), σ' = [some v0, some (.ref l), some vw, some v3, some (.int n), y5, y6] ∧ Is K H' (dS st) v3 ∧ M.NumAt g1 g2 g3 row (i + 1) st n) (fun σ' H' ⟨σ2, zz, st, n, v3, y5, y6, z1, z2, z3, z4⟩ => ?_) (fun σ' H' σ2 H2 ⟨σ3, zz, st, n, v3, y5, y6, z1, z2, _⟩ e ⟨st', n', v3', y5', y6', a1, a2, a3⟩ => ⟨st', n', v3', y5', y6', a1, z2.trans e, a2, a3⟩)
    subst z1; subst zz
    obtain ⟨ho, hw01, hn⟩ := z4.next hw
    have hfit := M.fit_rch hg z4.rch
    refine pn_cons (P := fun σ2 H2 => σ2 = [some v0, some (.ref l), some vw, some v3, some (.int ((n + if w' = 1 then M.cnt (M.beh g1 g2) (M.over g3) (row.length - i - 1) (M.beh g1 g2 st 0) else 0 : Nat) : Int)), some (.int i), some (.int w')])
      (pn1_if (pdt_eqI (pd_var 6 rfl (.int _)) pd_int) (fun z => pn_one ?_) (fun z => pn_nil fun H2 e2 => ?_)) fun σ2 H2 e2 hs => ?_
    · have z' : w' = 1 := of_decide_eq_true z
      refine pn1_aug (f := fun i j => i + j) 4 sc_number_of.nd ip_add rfl (pd_ways (v := .non) (n := row.length - i - 1) (j := i + 1) (t := M.beh g1 g2 st 0) hu (pf_var (Φ := fun H2 u => WaysAt P w K g1 g2 g3 row.length H2 u) 2 rfl fun _ e => hW.mono (z2.trans e))
        ((pd_sub (pd_sub (pd_lenL T.len (pd_var 1 rfl (hrow.mono z2))) (pd_var 5 rfl (.int _))) pd_int)) (by omega) (.inl ⟨row.length - i - 1, by rw [List.length_map]; omega, rfl⟩) (z4.rch.step ho (.inl rfl)) (by omega) (pd_does dBeh hr7 (pda_cons (pd_var 0 rfl (h0.mono z2)) (pda_cons (pd_var 3 rfl z3) (pda_cons pd_int pda_nil))) ⟨g1, g2, g3, st, 0, rfl, hfit.1, ho, rfl⟩)) fun H2 e2 => ?_
      show List.set _ 4 _ = _
      rw [if_pos z', Int.natCast_add]; rfl
    · have z' : ¬ w' = 1 := of_decide_eq_false z
      rw [if_neg z', Nat.add_zero]; rfl
    subst hs
    exact pn_one (pn1_set 3 sc_number_of.nd (pd_does dBeh hr7 (pda_cons (pd_var 0 rfl ((h0.mono z2).mono e2)) (pda_cons (pd_var 3 rfl (z3.mono e2)) (pda_cons (pd_var 6 rfl (.int _)) pda_nil))) ⟨g1, g2, g3, st, w', rfl, hfit.1, ho, rfl⟩) fun v H3 e3 hv => ⟨_, _, v, _, _, rfl, hv, hn⟩)
  refine pqr_pr fun σ' H' ⟨st, n, v3, y5, y6, z1, z2, z3, z4⟩ => ?_
  subst z1
  refine ⟨_, pr_ret (pd_var 4 rfl (.int _)), fun v H2 e2 hv => ?_⟩
  cases hv
  refine ⟨(e1.trans z2).trans e2, ?_⟩
  have := z4.num
  rw [List.drop_length] at this
  show V.int n = V.int _
  rw [this]; rfl
end
section
variable {P : Program} {w : World} {K : PySem.W.Frag} {mg : Str → Option Value} {base : Heap} {C CO CN : Addr}
def RX_after (C CO : Addr) (ds : List D) (c : Addr) : Prop := c = CO ∧ ∃ g1 g2 g3 s v, ds = [.obj C (fsR g1 g2 g3), dS s, .int v] ∧ M.reached g1 g2 g3 s = true ∧ M.over g3 s = true
theorem wnr_some {g1 g2 g3 : Int} {s : M.Stg} (h : M.reached g1 g2 g3 s = true) (ho : M.over g3 s = true) : isNon (M.wnr g3 s) = false := by
  rw [(M.wnr_over h ho).1]; rfl
theorem ex_afterS (ec : ErrCls K CO) (mO : mg "Over" = some (.ref CO)) (d4 : Does P w K mg base 5 "winner" ["rules", "standing"] (R_winner C)) (h : Has K mg "after" st_after ["rules", "standing", "who"]) :
    RaisesS P w K mg base 6 "after" ["rules", "standing", "who"] (RX_after C CO) := by
  refine h.raisesS sc_after (fun ds c ⟨_, _, _, _, _, _, e, _⟩ => by rw [e]; rfl) fun f cdv A outer s H E vs ds c hr hl hR hL => ?_
  obtain ⟨rfl, g1, g2, g3, st, v, rfl, hre, hov⟩ := hR
  obtain ⟨v0, v1, v2, rfl, h0, h1, h2⟩ := isL3 hl
  refine px_if (pdt_notN (pd_does d4 hr (pda_cons (pd_var 0 rfl h0) (pda_cons (pd_var 1 rfl h1) pda_nil)) ⟨_, _, _, _, rfl, hre, rfl⟩)) (fun _ => px_raiseS ec rfl mO pd_str hL fun H' e => e) (fun z => absurd z ?_)
  rw [wnr_some hre hov]; decide
def RX_played (C CO : Addr) (ds : List D) (c : Addr) : Prop := c = CO ∧ ∃ (g1 g2 g3 : Int) (ws : List Int) (m : Nat), ds = [.obj C (fsR g1 g2 g3), .lst (ws.map D.int)] ∧ M.Good g1 g2 g3 ∧ m < ws.length ∧ M.Legal g1 g2 g3 M.st0 (ws.take m) ∧ M.over g3 (M.run g1 g2 M.st0 (ws.take m)) = true
theorem int_at {ws : List Int} {i : Nat} {d : D} (h : (ws.map D.int)[i]? = some d) : ∃ x, d = .int x ∧ ws[i]? = some x := by
  rw [List.getElem?_map] at h
  cases q : ws[i]? with
  | none => rw [q] at h; cases h
  | some x => rw [q] at h; exact ⟨x, (Option.some.inj h).symm, rfl⟩
theorem ex_playedS (d1 : Does P w K mg base 1 "begin" [] R_begin) (d2 : Does P w K mg base 6 "after" ["rules", "standing", "who"] (R_after C)) (d3 : RaisesS P w K mg base 6 "after" ["rules", "standing", "who"] (RX_after C CO))
    (h : Has K mg "played" st_played ["rules", "row"]) : RaisesS P w K mg base 7 "played" ["rules", "row"] (RX_played C CO) := by
  refine h.raisesS sc_played (fun ds c ⟨_, _, _, _, _, _, e, _⟩ => by rw [e]; rfl) fun f cdv A outer s H E vs ds c hr hl hR hL => ?_
  obtain ⟨rfl, g1, g2, g3, ws, m, rfl, hg, hm, hleg, hov⟩ := hR
  obtain ⟨v0, v1, rfl, h0, h1⟩ := isL2 hl
  refine px_cons (Post := fun σ' H' => ∃ v, σ' = [some v0, some v1, some v, none] ∧ Is K H' (dS M.st0) v) (pn1_set 2 sc_played.nd (pd_does0 d1 (hr.mono (by decide)) ⟨rfl, rfl⟩) fun v H' e hv => ⟨v, rfl, hv⟩) fun σ' H2 e2 ⟨v2, hs, h2⟩ => ?_
  subst hs
  have h0' := h0.mono e2
  have h1' := h1.mono e2
  refine px_forL 3 m (fun i σ' H' => ∃ v x, σ' = [some v0, some v1, some v, x] ∧ Is K H' (dS (M.run g1 g2 M.st0 (ws.take i))) v) PassesOwn.leaving rfl sc_played.nd (pd_var 1 rfl h1') (by rw [List.length_map]; exact hm)
    (fun H3 e3 => ⟨v2, none, rfl, h2.mono e3⟩) (fun i d v σ1 H3 him hd e3 ⟨u, x, hs, hu⟩ hv => ?_) (fun d v σ1 H3 hd e3 ⟨u, x, hs, hu⟩ hv => ?_)
  · subst hs
    obtain ⟨w', rfl, hw⟩ := int_at hd
    cases hv
    have hrun := M.run_take g1 g2 M.st0 hw
    have hw2 : (ws.take m)[i]? = some w' := by rw [List.getElem?_take_of_lt him]; exact hw
    obtain ⟨l1, l2⟩ := M.legal_take hg (M.reached_st0 hg) hleg hw2
    have et : (ws.take m).take i = ws.take i := by rw [List.take_take, Nat.min_eq_left (Nat.le_of_lt him)]
    rw [et] at l1 l2
    exact pn_one (pn1_set 2 sc_played.nd (pd_does d2 hr (pda_cons (pd_var 0 rfl (h0'.mono e3)) (pda_cons (pd_var 2 rfl hu) (pda_cons (pd_var 3 rfl (.int _)) pda_nil))) ⟨_, _, _, _, _, rfl, l1, l2, rfl⟩)
      fun v' H4 e4 hv' => ⟨v', _, rfl, by rw [hrun]; exact hv'⟩)
  · subst hs
    obtain ⟨w', rfl, hw⟩ := int_at hd
    cases hv
    have hre := M.reached_run hg (M.reached_st0 hg) hleg
    exact px_set 2 sc_played.nd (pxe_raisesS d3 hr (pda_cons (pd_var 0 rfl (h0'.mono e3)) (pda_cons (pd_var 2 rfl hu) (pda_cons (pd_var 3 rfl (.int _)) pda_nil))) ⟨rfl, _, _, _, _, _, rfl, hre, hov⟩ hL (fun H' e => (e2.trans e3).trans e) fun _ z => z.1)
def RX_noend (C CN : Addr) (ds : List D) (c : Addr) : Prop := c = CN ∧ ∃ (g1 g2 g3 : Int) (ws : List Int), ds = [.obj C (fsR g1 g2 g3), .lst (ws.map D.int)] ∧ M.Good g1 g2 g3 ∧
  ((∃ m : Nat, m < ws.length ∧ M.Legal g1 g2 g3 M.st0 (ws.take m) ∧ M.over g3 (M.run g1 g2 M.st0 (ws.take m)) = true) ∨ (M.Legal g1 g2 g3 M.st0 ws ∧ M.over g3 (M.run g1 g2 M.st0 ws) = false))
theorem ex_noend (cO : Caught K CO CO) (mO : mg "Over" = some (.ref CO)) (ecN : ErrCls K CN) (mN : mg "NoSuch" = some (.ref CN)) (dPla : Does P w K mg base 7 "played" ["rules", "row"] (R_played C)) (xPla : RaisesS P w K mg base 7 "played" ["rules", "row"] (RX_played C CO))
    (dWin : Does P w K mg base 5 "winner" ["rules", "standing"] (R_winner C)) (h : Has K mg "refuse_no_end" st_refuse_no_end ["rules", "row"]) : Raises P w K mg base 8 "refuse_no_end" ["rules", "row"] (RX_noend C CN) := by
  refine h.raisesH sc_refuse_no_end (fun ds c ⟨_, _, _, _, _, e, _⟩ => by rw [e]; rfl) fun f cdv A outer s H E vs ds c hr hl hR hL hLH => ?_
  obtain ⟨rfl, g1, g2, g3, ws, rfl, hg, hcase⟩ := hR
  obtain ⟨v0, v1, rfl, h0, h1⟩ := isL2 hl
  have hr5 : Room 5 _ := hr.mono (by decide)
  rcases hcase with ⟨m, hm, hleg, hov⟩ | ⟨hleg, hov⟩
  · exact px_tryRaise rfl rfl rfl rfl cO mO ecN mN (fun _ _ _ _ _ => pd_str) hLH (fun H' e => e) (fun pn E2 H1 e1 hL1 => px_set 2 sc_refuse_no_end.nd (pxe_raisesS xPla hr (pda_cons (pd_var 0 rfl (h0.mono e1)) (pda_cons (pd_var 1 rfl (h1.mono e1)) pda_nil)) ⟨rfl, g1, g2, g3, ws, m, rfl, hg, hm, hleg, hov⟩ hL1 (fun H' e => ⟨rfl, e⟩) fun _ z => z.1))
  · have hre := M.reached_run hg (M.reached_st0 hg) hleg
    refine px_cons (Post := fun σ' H' => ∃ v2, σ' = [some v0, some v1, some v2] ∧ Is K H' (dS (M.run g1 g2 M.st0 ws)) v2)
      (pn1_tryOkX fun pn => pn_one (pn1_set 2 sc_refuse_no_end.nd (pd_does dPla hr (pda_cons (pd_var 0 rfl h0) (pda_cons (pd_var 1 rfl h1) pda_nil)) ⟨_, _, _, ws, rfl, hg, hleg, rfl⟩) fun v H' e hv => ⟨v, rfl, hv⟩)) fun σ' H2 e2 ⟨v2, hs, h2⟩ => ?_
    subst hs
    refine px_if ((pdt_isN (pd_does dWin hr5 (pda_cons (pd_var 0 rfl (h0.mono e2)) (pda_cons (pd_var 2 rfl h2) pda_nil)) ⟨g1, g2, g3, _, rfl, hre, rfl⟩)).cast (show isNon (M.wnr g3 (M.run g1 g2 M.st0 ws)) = true by rw [win_non hre, hov]; rfl)) (fun _ => px_raise ecN rfl mN pd_str hL fun H' e => e2.trans e) (fun z => absurd z (by decide))
def RX_row (C CN : Addr) (ds : List D) (c : Addr) : Prop := c = CN ∧ ∃ (g1 g2 g3 : Int) (many : Nat) (k : Int), ds = [.obj C (fsR g1 g2 g3), .int many, .int k] ∧ M.Good g1 g2 g3 ∧ many ≤ 1000 ∧ (k < 0 ∨ (M.cnt (M.beh g1 g2) (M.over g3) many M.st0 : Int) ≤ k)
theorem ex_row (ecN : ErrCls K CN) (mN : mg "NoSuch" = some (.ref CN)) (dBeg : Does P w K mg base 1 "begin" [] R_begin) (dWays : DoesG P w K mg base 10 "ways_to_end" ["rules", "many"] (R_ways P w K C)) (h : Has K mg "row_at" st_row_at ["rules", "many", "number"]) :
    Raises P w K mg base 11 "row_at" ["rules", "many", "number"] (RX_row C CN) := by
  refine h.raises sc_row_at (fun ds c ⟨_, _, _, _, _, _, e, _⟩ => by rw [e]; rfl) fun f cdv A outer s H E vs ds c hr hl hR hL => ?_
  obtain ⟨rfl, g1, g2, g3, many, k, rfl, hg, hm, hk⟩ := hR
  obtain ⟨v0, v1, v2, rfl, h0, h1, h2⟩ := isL3 hl
  cases h1; cases h2
  have hr1 : Room 1 _ := hr.mono (by decide)
  refine px_cons (Post := fun σ' H' => ∃ vw, σ' = [some v0, some (.int many), some (.int k), some vw, none, none, none, none, none] ∧ WaysAt P w K g1 g2 g3 many H' vw)
    (pn1_setF 3 sc_row_at.nd (pf_ways dWays hr (pda_cons (pd_var 0 rfl h0) (pda_cons (pd_var 1 rfl (.int _)) pda_nil)) hg hm) fun v H1 H' _ _ hW => ⟨v, rfl, hW⟩) fun σ' H2 e2 ⟨vw, hs, hW⟩ => ?_
  subst hs
  refine px_if ((PDW.pt (pdw_or (pdt_lt (pd_var 2 rfl (.int _)) pd_int) fun _ => pdw_or1 (pdt_ge (pd_var 2 rfl (.int _)) (pd_ways (v := .non) (t := M.st0) (hu64 hr) (pf_var (Φ := fun H2 u => WaysAt P w K g1 g2 g3 many H2 u) 3 rfl fun _ e => hW.mono e) (pd_neg pd_int) (Nat.le_refl _) (.inr ⟨rfl, rfl⟩) (j := 0) rfl (by omega) (pd_does0 dBeg hr1 ⟨rfl, rfl⟩))))).cast
    (show (decide (k < 0) || decide ((M.cnt (M.beh g1 g2) (M.over g3) many M.st0 : Int) ≤ k)) = true by
      rcases hk with hk | hk
      · rw [decide_eq_true hk]; rfl
      · rw [decide_eq_true hk, Bool.or_true])) (fun _ => px_raise ecN rfl mN pd_str hL fun H' e => e2.trans e) (fun z => absurd z (by decide))
theorem ex_num (xNo : Raises P w K mg base 8 "refuse_no_end" ["rules", "row"] (RX_noend C CN)) (h : Has K mg "number_of" st_number_of ["rules", "row"]) : Raises P w K mg base 9 "number_of" ["rules", "row"] (RX_noend C CN) := by
  refine h.raises sc_number_of (fun ds c ⟨_, _, _, _, _, e, _⟩ => by rw [e]; rfl) fun f cdv A outer s H E vs ds c hr hl hR hL => ?_
  obtain ⟨rfl, g1, g2, g3, ws, rfl, hg, hcase⟩ := hR
  obtain ⟨v0, v1, rfl, h0, h1⟩ := isL2 hl
  exact px_expr (pxe_raises xNo hr (pda_cons (pd_var 0 rfl h0) (pda_cons (pd_var 1 rfl h1) pda_nil)) ⟨rfl, g1, g2, g3, ws, rfl, hg, hcase⟩ hL (fun H' e => e) fun _ z => z.1)
end
end Q
set_option Elab.async false
set_option linter.all false
set_option maxRecDepth 100000
set_option maxHeartbeats 4000000
namespace Q
open PySem PySem.Spec PyProof.Rows L2 L3
section
variable {P : Program} {w : World} {K : PySem.W.Frag} {mg : Str → Option Value} {base : Heap} {C CE c0 c1 c2 c3 c4 c5 : Addr}
structure Tn4 (K : PySem.W.Frag) (mg : Str → Option Value) (CE c0 c1 c2 c3 c4 c5 : Addr) : Prop where
  m0 : mg "BadRules" = some (.ref c0)
  m1 : mg "BadStanding" = some (.ref c1)
  m2 : mg "Over" = some (.ref c2)
  m3 : mg "BadPart" = some (.ref c3)
  m4 : mg "NoSuch" = some (.ref c4)
  m5 : mg "NoText" = some (.ref c5)
  mE : mg "CourtError" = some (.ref CE)
  mV : mg "ValueError" = none
  ec : ErrCls K c4
  ca : Caught K c4 CE
  gt : ExcGet K c4
  k0 : PySem.W.kitOne K (.ref c4) (.ref c0) = some false
  k1 : PySem.W.kitOne K (.ref c4) (.ref c1) = some false
  k2 : PySem.W.kitOne K (.ref c4) (.ref c2) = some false
  k3 : PySem.W.kitOne K (.ref c4) (.ref c3) = some false
  k4 : PySem.W.kitOne K (.ref c4) (.ref c4) = some true
  k5 : PySem.W.kitOne K (.ref c4) (.ref c5) = some false
  kE : PySem.W.kitOne K (.ref c4) (.ref CE) = some true
  kV : PySem.W.kitOne K (.ref c4) (.type "ValueError") = some true
  eO : ErrCls K c2
  cO : Caught K c2 c2
def R_alone (c4 : Addr) (ds : List D) (r : D) : Prop := ds = [.exc c4] ∧ r = .int 4
theorem ok_alone (T : Tx K mg C) (Z : Tn4 K mg CE c0 c1 c2 c3 c4 c5) (h : Has K mg "_law_alone" st__law_alone ["e"]) : Does P w K mg base 1 "_law_alone" ["e"] (R_alone c4) := by
  refine h.does sc__law_alone (fun ds r ⟨e, _⟩ => by rw [e]; rfl) fun f cdv A outer s H E vs ds r hr hl hR => ?_
  obtain ⟨rfl, rfl⟩ := hR
  obtain ⟨v0, rfl, h0⟩ := isL1 hl
  refine pr_new 1 sc__law_alone.nd (ds := [false, false, false, false].map D.bl) (pl_lst (pda_cons (pd_isiX Z.gt T.isi (pd_var 0 rfl h0) (pd_clsR Z.m0) Z.k0) (pda_cons (pd_isiX Z.gt T.isi (pd_var 0 rfl h0) (pd_clsR Z.m1) Z.k1)
    (pda_cons (pd_isiX Z.gt T.isi (pd_var 0 rfl h0) (pd_clsR Z.m2) Z.k2) (pda_cons (pd_isiX Z.gt T.isi (pd_var 0 rfl h0) (pd_clsR Z.m3) Z.k3) pda_nil))))) fun l1 vs1 H1 e1 hl1 hv1 => ?_
  replace h0 := h0.mono e1
  refine pr_new 1 sc__law_alone.nd (ds := [false, false, false, false].map D.bl ++ [true, false].map D.bl) (pl_cat (pd_var 1 rfl (.adr l1)) hl1 hv1 (pl_lst (pda_cons (pd_isiX Z.gt T.isi (pd_var 0 rfl h0) (pd_clsR Z.m4) Z.k4) (pda_cons (pd_isiX Z.gt T.isi (pd_var 0 rfl h0) (pd_clsR Z.m5) Z.k5) pda_nil))))
    fun l2 vs2 H2 e2 hl2 hv2 => ?_
  replace h0 := h0.mono e2
  have hL : Is K H2 (.lst ([false, false, false, false, true, false].map D.bl)) (.ref l2) := .lst (SqL.of hl2) hv2
  refine pr_if (k := false) (PDW.pt (pdw_or (k := false) (pdt_not (k := true) (pdt_val (pd_isiX Z.gt T.isi (pd_var 0 rfl h0) (pd_clsR Z.mE) Z.kE))) fun _ => pdw_or (k := false) (pdt_not (k := true) (pdt_val (pd_isiX Z.gt T.isi (pd_var 0 rfl h0) (pd_ty Z.mV) Z.kV))) fun _ =>
    pdw_or1 ((pdt_neI (pd_countB (k := true) (pd_var 1 rfl hL) pd_bl) pd_int).cast (by decide)))) (fun z => absurd z Bool.false_ne_true) (fun _ => ?_)
  exact (pr_ret (pd_indexB (k := true) (j := 4) (pd_var 1 rfl hL) pd_bl rfl (by decide))).cast rfl
def R_refused (C : Addr) (ds : List D) (r : D) : Prop := ∃ (g1 g2 g3 : Int) (many : Nat) (c : Int) (d : D), ds = [.int c, .obj C (fsR g1 g2 g3), .int many, d] ∧ M.Good g1 g2 g3 ∧ many ≤ 1000 ∧
  ((c = 0 ∧ ∃ k : Int, d = .int k ∧ (k < 0 ∨ (M.cnt (M.beh g1 g2) (M.over g3) many M.st0 : Int) ≤ k)) ∨ (c = 1 ∧ ∃ row : List Int, d = .lst (row.map D.int) ∧ (∀ x ∈ row, x = 0 ∨ x = 1) ∧ M.ends (M.aft g1 g2) (M.over g3) row M.st0 = false)) ∧ r = .bl true
theorem ok_refused (T : Tx K mg C) (Z : Tn4 K mg CE c0 c1 c2 c3 c4 c5) (xRow : Raises P w K mg base 11 "row_at" ["rules", "many", "number"] (RX_row C c4)) (xNum : Raises P w K mg base 9 "number_of" ["rules", "row"] (RX_noend C c4)) (lAl : Does P w K mg base 1 "_law_alone" ["e"] (R_alone c4))
    (h : Has K mg "_law_refused" st__law_refused ["call", "rules", "many", "what"]) : Does P w K mg base 12 "_law_refused" ["call", "rules", "many", "what"] (R_refused C) := by
  refine h.does sc__law_refused (fun ds r ⟨_, _, _, _, _, _, e, _⟩ => by rw [e]; rfl) fun f cdv A outer s H E vs ds r hr hl hR => ?_
  obtain ⟨g1, g2, g3, many, c, d, rfl, hg, hm, hcase, rfl⟩ := hR
  obtain ⟨v0, v1, v2, v3, rfl, h0, h1, h2, h3⟩ := isL4 hl
  cases h0; cases h2
  have hr9 : Room 9 _ := hr.mono (by decide)
  have hr1 : Room 1 _ := hr.mono (by decide)
  refine pr_set 4 sc__law_refused.nd pd_non fun v4 H4 e4 h4 => ?_
  cases h4
  replace h1 := h1.mono e4
  replace h3 := h3.mono e4
  refine pr_cons (Post := fun σ' H' => ∃ v, σ' = [some (.int c), some v1, some (.int many), some v3, some v, none] ∧ Is K H' (.exc c4) v) ?_ fun σ' H5 e5 ⟨v, hs, hv⟩ => by
    subst hs
    exact (pr_ret (pd_eqI (pd_does lAl hr1 (pda_cons (pd_var 4 rfl hv) pda_nil) ⟨rfl, rfl⟩) pd_int)).cast rfl
  refine pn1_tryCatch 5 (Mid := fun σ' H' => ∃ v w', σ' = [some (.int c), some v1, some (.int many), some v3, some v, w'] ∧ Is K H' (.exc c4) v) rfl rfl rfl rfl rfl sc__law_refused.nd Z.ca Z.mE (fun pn E' H5 e5 hL => ?_)
    (fun a H' e5 ha => pn_one (pn1_set 4 sc__law_refused.nd (pd_var 5 rfl (.exc ha)) fun v H'' e hv => ⟨v, _, rfl, hv⟩)) (fun σ' H' ⟨v, w', hs, hv⟩ => by subst hs; exact ⟨v, rfl, hv⟩)
  rcases hcase with ⟨rfl, k, rfl, hk⟩ | ⟨rfl, row, rfl, h01, hne⟩
  · refine px_ifelse ((pdt_eqI (pd_var 0 rfl (.int _)) pd_int).cast (show decide ((0 : Int) = 0) = true from rfl)) (fun _ => ?_) (fun z => absurd z (by decide))
    exact px_expr (pxe_raises xRow hr (pda_cons (pd_var 1 rfl (h1.mono e5)) (pda_cons (pd_var 2 rfl (.int _)) (pda_cons (pd_var 3 rfl (h3.mono e5)) pda_nil))) ⟨rfl, g1, g2, g3, many, k, rfl, hg, hm, hk⟩ hL (fun H' e => ⟨rfl, e⟩) fun _ z => z.1)
  · refine px_ifelse ((pdt_eqI (pd_var 0 rfl (.int _)) pd_int).cast (show decide ((1 : Int) = 0) = false from rfl)) (fun z => absurd z (by decide)) (fun _ => ?_)
    exact px_expr (pxe_raises xNum hr9 (pda_cons (pd_var 1 rfl (h1.mono e5)) (pda_cons (pd_var 3 rfl (h3.mono e5)) pda_nil)) ⟨rfl, g1, g2, g3, row, rfl, hg, M.not_ends h01 hne⟩ hL (fun H' e => ⟨rfl, e⟩) fun _ z => z.1)
theorem pq_fix {X : Cx} {sts : List Stmt} {Pre Nx : L2.St → Hp → Prop} (h : ∀ σ H, Pre σ H → PQ X sts (fun σ' H' => σ' = σ ∧ H' = H) Nx) : PQ X sts Pre Nx := fun pins s σ H D I ⟨p, q⟩ => h σ H p pins s σ H D I ⟨⟨rfl, rfl⟩, q⟩
theorem pq_inv {X : Cx} {sts : List Stmt} {Pre Pre' Nx : L2.St → Hp → Prop} (h : ∀ pins s σ H, Inv X pins σ H s → Pre σ H → Pre' σ H) (h2 : PQ X sts Pre' Nx) : PQ X sts Pre Nx := fun pins s σ H D I ⟨p, q⟩ => h2 pins s σ H D I ⟨h pins s σ H I p, q⟩
def Itm (K : PySem.W.Frag) (H : Hp) (A : List Addr) (q : List Int × M.Stg) (v : V) : Prop := ∃ p l vs, v = .ref p ∧ SqT K H p [.ref l, vs] ∧ l ∉ A ∧ H l = some (.lst (q.1.map V.int)) ∧ Is K H (dS q.2) vs
theorem Itm.mono {H H' : Hp} {A : List Addr} {q : List Int × M.Stg} {v : V} (e : Same H H') (h : Itm K H A q v) : Itm K H' A q v := by
  obtain ⟨p, l, vs, h1, h2, h3, h4, h5⟩ := h
  exact ⟨p, l, vs, h1, sameT e h2, h3, e _ _ h4, h5.mono e⟩
theorem Itm.upd {H : Hp} {A : List Addr} {q : List Int × M.Stg} {v : V} {m : Addr} {xs : List V} {o : HO} (hm : m ∈ A) (hl : H m = some (.lst xs)) (h : Itm K H A q v) : Itm K (L2.upd H m o) A q v := by
  obtain ⟨p, l, vs, h1, h2, h3, h4, h5⟩ := h
  exact ⟨p, l, vs, h1, sqT_upd hl h2, h3, by rw [upd_ne (fun z : l = m => h3 (by rw [z]; exact hm))]; exact h4, h5.updL hl rfl⟩
theorem Itm.less {H : Hp} {A B : List Addr} {q : List Int × M.Stg} {v : V} (hs : ∀ a ∈ B, a ∈ A) (h : Itm K H A q v) : Itm K H B q v := by
  obtain ⟨p, l, vs, h1, h2, h3, h4, h5⟩ := h
  exact ⟨p, l, vs, h1, h2, fun z => h3 (hs _ z), h4, h5⟩
abbrev Itms (K : PySem.W.Frag) (H : Hp) (A : List Addr) (xs : List (List Int × M.Stg)) (vs : List V) : Prop := Paired (Itm K H A) xs vs
def rowD (r : List Int) : D := .lst (r.map D.int)
def R_all (ds : List D) (r : D) : Prop := ∃ (g : Int × Int × Int) (many : Nat), ds = [dW g, .int many] ∧ many ≤ 20 ∧ r = .lst ((M.rowsF (M.aft g.1 g.2.1) (M.over g.2.2) many M.st0).map rowD)
theorem flat_s {xs : List (List Int × M.Stg)} {i : Nat} {q : List Int × M.Stg} {f : List Int × M.Stg → List (List Int × M.Stg)} (h : xs[i]? = some q) : (xs.take (i + 1)).flatMap f = (xs.take i).flatMap f ++ f q := by
  rw [List.take_add_one, h, List.flatMap_append]; simp
theorem flat_len {xs : List (List Int × M.Stg)} {g : Int × Int × Int} (i : Nat) : ((xs.take i).flatMap (M.expand (M.aft g.1 g.2.1) (M.over g.2.2))).length ≤ 2 * xs.length := by
  have a : ∀ ys : List (List Int × M.Stg), (ys.flatMap (M.expand (M.aft g.1 g.2.1) (M.over g.2.2))).length ≤ 2 * ys.length := fun ys => by
    induction ys with
    | nil => exact Nat.le_refl _
    | cons q ys ih =>
      rw [List.flatMap_cons, List.length_append, List.length_cons]
      have : (M.expand (M.aft g.1 g.2.1) (M.over g.2.2) q).length ≤ 2 := by unfold M.expand; split <;> simp
      omega
  have b := a (xs.take i)
  have c : (xs.take i).length ≤ xs.length := by rw [List.length_take]; omega
  omega
theorem big21 {n : Nat} (h : n ≤ 4194304) : n < sizeLine := Nat.lt_of_le_of_lt h (by decide)
end
end Q
set_option Elab.async false
set_option linter.all false
set_option maxRecDepth 100000
set_option maxHeartbeats 4000000
namespace Q
open PySem PySem.Spec PyProof.Rows L2 L3
section
variable {P : Program} {w : World} {K : PySem.W.Frag} {mg : Str → Option Value} {base : Heap} {C CE c0 c1 c2 c3 c4 c5 : Addr}
theorem ok_all (T : Tx K mg C) (lOver : Does P w K mg base 1 "_law_over" ["wanted", "standing"] R_over) (lAft : Does P w K mg base 2 "_law_after" ["wanted", "standing", "who"] R_aft) (h : Has K mg "_law_all_rows" st__law_all_rows ["wanted", "many"]) :
    Does P w K mg base 3 "_law_all_rows" ["wanted", "many"] R_all := by
  refine h.does sc__law_all_rows (fun ds r ⟨_, _, e, _⟩ => by rw [e]; rfl) fun f cdv A outer s H E vs ds r hr hl hR => ?_
  obtain ⟨g, many, rfl, hmany, rfl⟩ := hR
  obtain ⟨v0, v1, rfl, h0, h1⟩ := isL2 hl
  cases h1
  have hr1 : Room 1 _ := hr.mono (by decide)
  refine pr_pqr fun H1 e1 => ?_
  replace h0 := h0.mono e1
  refine pqr_cons (Mid := fun σ' H' => ∃ lf, σ' = [some v0, some (.int many), some (.ref lf), none, none, none, none, none, none] ∧ Same H1 H' ∧ H1 lf = none ∧ H' lf = some (.lst [])) ?_ ?_
  refine BQ1.go ?_
  refine bq1_new 2 sc__law_all_rows.nd ?_
  · intro σ' H' hz
    obtain ⟨z1, z2⟩ := hz
    subst z1; subst z2
    refine ⟨[], pl_lst pda_nil, fun l us H2 e2 hn hl2 hus => ?_⟩
    obtain rfl := isL0 hus
    exact ⟨l, rfl, e2, hn, hl2⟩
  refine pqr_fix ?_
  intro σa Ha hz
  obtain ⟨lf, za, ea, hfn, hfl⟩ := hz
  subst za
  let Z : Nat → L2.St → Hp → Prop := fun k σ' H' => ∃ (ls : Addr) (us : List V) (y4 y5 y6 y7 y8 : Option V), σ' = [some v0, some (.int many), some (.ref lf), some (.ref ls), y4, y5, y6, y7, y8] ∧ Same Ha H' ∧ H' ls = some (.lst us) ∧ ls ≠ lf ∧ Itms K H' [lf] (M.spr (M.aft g.1 g.2.1) (M.over g.2.2) M.st0 k) us
  refine pqr_cons (Mid := Z 0) ?_ ?_
  refine BQ1.go ?_
  refine bq1_setF 3 sc__law_all_rows.nd ?_
  · intro σ' H' hz
    obtain ⟨z1, z2⟩ := hz
    subst z1; subst z2
    refine ⟨_, bf_lp (pl_lst pda_nil) (pd_tup (ds := [dP (0, 0), dP (0, 0), dP (0, 0)]) (pda_cons (pd_tup (pda_cons pd_int (pda_cons pd_int pda_nil))) (pda_cons (pd_tup (pda_cons pd_int (pda_cons pd_int pda_nil))) (pda_cons (pd_tup (pda_cons pd_int (pda_cons pd_int pda_nil))) pda_nil)))), ?_⟩
    intro v H2 e2 hz
    obtain ⟨l, p, l0, xs0, y, Hm, Hq, ev, eq, hn0, hl0, hx0, hy, hpn, em, hp, hn, eH⟩ := hz
    subst ev; subst eH
    obtain rfl := isL0 hx0
    have ne0 : l0 ≠ lf := fun z => by rw [z, hfl] at hn0; cases hn0
    refine ⟨l, _, none, none, none, none, none, rfl, e2, upd_same, fun z => ?_, .cons ⟨p, l0, y, rfl, ?_, ?_, ?_, ?_⟩ .nil⟩
    · have := em _ _ (eq _ _ hfl)
      rw [← z, hn] at this; cases this
    · exact sameT (same_upd hn) (SqT.of hp)
    · intro z; exact ne0 (List.mem_singleton.mp z)
    · exact (same_upd hn) _ _ (em _ _ hl0)
    · exact (hy.mono em).mono (same_upd hn)
  refine pqr_cons (Mid := Z many) ?_ ?_
  refine BQ1.go ?_
  refine bq1_forR (j := (many : Int)) 4 Z PassesOwn.never rfl sc__law_all_rows.nd T.range (by intro σ' H' hz; obtain ⟨ls, us, y4, y5, y6, y7, y8, z1, _⟩ := hz; subst z1; exact pd_var 1 rfl (.int _)) (by omega)
    (by intro σ' H' H2 hz e; obtain ⟨ls, us, y4, y5, y6, y7, y8, z1, z2, z3, z4, z5⟩ := hz; exact ⟨ls, us, y4, y5, y6, y7, y8, z1, z2.trans e, e _ _ z3, z4, L2.Paired.imp' (fun _ _ z => z.mono e) z5⟩) ?_ (fun σ' H' z => z)
  · intro k hk
    refine pq_fix ?_
    intro σs Hs hz
    obtain ⟨σ2, zz, ls, us, y4, y5, y6, y7, y8, z1, z2, z3, z4, z5⟩ := hz
    subst z1; subst zz
    have hk' : k < many := by omega
    have hnx : M.spr (M.aft g.1 g.2.1) (M.over g.2.2) M.st0 (k + 1) = (M.spr (M.aft g.1 g.2.1) (M.over g.2.2) M.st0 k).flatMap (M.expand (M.aft g.1 g.2.1) (M.over g.2.2)) := rfl
    have hxl : (M.spr (M.aft g.1 g.2.1) (M.over g.2.2) M.st0 k).length ≤ 1048576 := Nat.le_trans (M.spr_len _ k) (Nat.le_trans (Nat.pow_le_pow_right (by decide) (show k ≤ 20 by omega)) (by decide))
    have hrl : ∀ q ∈ M.spr (M.aft g.1 g.2.1) (M.over g.2.2) M.st0 k, q.1.length ≤ 20 := fun q hq => by have := M.spr_row hq; omega
    generalize M.spr (M.aft g.1 g.2.1) (M.over g.2.2) M.st0 k = xs at hnx hxl hrl z5
    have hsf : Hs lf = some (.lst []) := z2 _ _ hfl
    have k0 := h0.mono (ea.trans z2)
    refine pq_cons (Mid := fun σ' H' => ∃ (lu : Addr), σ' = [some v0, some (.int many), some (.ref lf), some (.ref ls), some (.int k), some (.ref lu), y6, y7, y8] ∧ Same Hs H' ∧ Hs lu = none ∧ H' lu = some (.lst [])) ?_ ?_
    refine BQ1.go ?_
    refine bq1_new 5 sc__law_all_rows.nd ?_
    · intro σ' H' hz
      obtain ⟨w1, w2⟩ := hz
      subst w1; subst w2
      refine ⟨[], pl_lst pda_nil, fun l ws H2 e2 hn hl2 hus => ?_⟩
      obtain rfl := isL0 hus
      exact ⟨l, rfl, e2, hn, hl2⟩
    refine pq_fix ?_
    intro σu Hu hz
    obtain ⟨lu, wu, eu, hun, hul⟩ := hz
    subst wu
    have nef : lu ≠ lf := fun z => by rw [z, hsf] at hun; cases hun
    let Y : List (List Int × M.Stg) → L2.St → Hp → Prop := fun out σ' H' => ∃ (ws : List V) (y6 y7 y8 : Option V), σ' = [some v0, some (.int many), some (.ref lf), some (.ref ls), some (.int k), some (.ref lu), y6, y7, y8] ∧ Same Hs H' ∧ H' lu = some (.lst ws) ∧ Itms K H' [lf, lu] out ws
    refine pq_cons (Mid := Y (xs.flatMap (M.expand (M.aft g.1 g.2.1) (M.over g.2.2)))) ?_ ?_
    refine BQ1.go ?_
    refine bq1_forLt (l := ls) (vs := us) 6 7 (fun i => Y ((xs.take i).flatMap (M.expand (M.aft g.1 g.2.1) (M.over g.2.2)))) PassesOwn.never rfl sc__law_all_rows.nd (by intro σ' H' hz; obtain ⟨w1, w2⟩ := hz; subst w1; exact pd_var 3 rfl (.adr ls))
      (by intro σ' H' H2 hz e; obtain ⟨w1, w2⟩ := hz; subst w1; subst w2; exact ⟨[], y6, y7, y8, rfl, eu.trans e, e _ _ hul, .nil⟩) (by intro i σ' H' hz; obtain ⟨ws, a6, a7, a8, w1, w2, w3, w4⟩ := hz; exact SqL.of (w2 _ _ z3)) ?_ ?_ ?_
    · intro i σ' H' v hz hv
      obtain ⟨ws, a6, a7, a8, w1, w2, w3, w4⟩ := hz
      obtain ⟨q, hq, p, l, vs, h1, h2, _⟩ := paired_get z5 hv
      exact ⟨p, .ref l, vs, h1, sameT w2 h2⟩
    · intro i p u1 u2 hv
      obtain ⟨q, hq, p', l, vq, h1, h2, h3, h4, h5⟩ := paired_get z5 hv
      cases h1
      have hq1 := hrl q (List.mem_of_getElem? hq)
      rw [flat_s hq]
      generalize hout : (xs.take i).flatMap (M.expand (M.aft g.1 g.2.1) (M.over g.2.2)) = out
      have hol : out.length ≤ 2 * xs.length := by rw [← hout]; exact flat_len i
      refine pq_inv (Pre' := fun σ' H' => u1 = .ref l ∧ u2 = vq ∧ ∃ (ws : List V) (y8 : Option V), σ' = [some v0, some (.int many), some (.ref lf), some (.ref ls), some (.int k), some (.ref lu), some (.ref l), some vq, y8] ∧ Same Hs H' ∧ H' lu = some (.lst ws) ∧ Itms K H' [lf, lu] out ws) ?_ ?_
      · intro pins s' σ' H' I hz
        obtain ⟨σ1, w1, w2, ws, a6, a7, a8, w3, w4, w5, w6⟩ := hz
        have e := I.tuple_inj w2 (sameT w4 h2)
        simp only [List.cons.injEq, and_true] at e
        obtain ⟨e1, e2⟩ := e
        subst e1; subst e2; subst w3; subst w1
        exact ⟨rfl, rfl, ws, a8, rfl, w4, w5, w6⟩
      refine pq_one ?_
      refine BQ1.go ?_
      refine bq1_forR (j := 2) 8 (fun j σ' H' => ∃ (ws : List V) (y8 : Option V), σ' = [some v0, some (.int many), some (.ref lf), some (.ref ls), some (.int k), some (.ref lu), some (.ref l), some vq, y8] ∧ Same Hs H' ∧ H' lu = some (.lst ws) ∧ Itms K H' [lf, lu] (out ++ (M.expand (M.aft g.1 g.2.1) (M.over g.2.2) q).take j) ws) PassesOwn.never rfl sc__law_all_rows.nd T.range (by intro σ' H' hz; exact pd_int) (by decide)
        (by intro σ' H' H2 hz e; obtain ⟨_, _, ws, y8, w1, w2, w3, w4⟩ := hz; exact ⟨ws, y8, w1, w2.trans e, e _ _ w3, by rw [List.take_zero, List.append_nil]; exact L2.Paired.imp' (fun _ _ z => z.mono e) w4⟩) ?_ (by
          intro σ' H' hz; obtain ⟨ws, y8, w1, w2, w3, w4⟩ := hz
          rw [List.take_of_length_le (by unfold M.expand; split <;> simp)] at w4; exact ⟨ws, _, _, y8, w1, w2, w3, w4⟩)
      intro j hj
      refine pq_one ?_
      refine pq1_if ?_
      intro σ' H' hz
      obtain ⟨σ1, zz, ws, y8, w1, w2, w3, w4⟩ := hz
      subst w1; subst zz
      refine ⟨_, pdt_not (pdt_val (pd_does lOver hr1 (pda_cons (pd_var 0 rfl (k0.mono w2)) (pda_cons (pd_var 7 rfl (h5.mono w2)) pda_nil)) ⟨g, q.2, rfl, rfl⟩)), fun hkk => ?_, fun hkk => ?_⟩
      · have ho : M.over g.2.2 q.2 = false := by simpa using hkk
        have hex : M.expand (M.aft g.1 g.2.1) (M.over g.2.2) q = [(q.1 ++ [0], M.aft g.1 g.2.1 q.2 0), (q.1 ++ [1], M.aft g.1 g.2.1 q.2 1)] := by unfold M.expand; rw [if_neg (by rw [ho]; exact Bool.false_ne_true)]
        have hj01 : (j : Int) = 0 ∨ (j : Int) = 1 := by omega
        have htk : (M.expand (M.aft g.1 g.2.1) (M.over g.2.2) q).take (j + 1) = (M.expand (M.aft g.1 g.2.1) (M.over g.2.2) q).take j ++ [(q.1 ++ [(j : Int)], M.aft g.1 g.2.1 q.2 j)] := by
          rw [hex]
          match j, hj with
          | 0, _ => rfl
          | 1, _ => rfl
        refine pq_one ?_
        refine BQ1.go ?_
        refine bq1_appendF ?_
        intro σ2 H2 hz
        obtain ⟨x1, x2⟩ := hz
        subst x1
        have w2' := w2.trans x2
        refine ⟨lu, ws, _, pd_var 5 rfl (.adr lu), x2 _ _ w3, big21 (by
            have e1 := paired_len w4
            rw [e1, List.length_append, List.length_take]
            have : (M.expand (M.aft g.1 g.2.1) (M.over g.2.2) q).length ≤ 2 := by rw [hex]; exact Nat.le_refl _
            omega), bf_tp (pl_cat (ds := q.1.map D.int) (ds' := [.int (j : Int)]) (pd_var 6 rfl (.adr l)) (w2' _ _ h4) (ints_isL q.1) (pl_lst (pda_cons (pd_var 8 rfl (.int _)) pda_nil)) (by rw [List.length_map]; simp; omega)) (pd_does lAft hr (pda_cons (pd_var 0 rfl (k0.mono w2')) (pda_cons (pd_var 7 rfl (h5.mono w2')) (pda_cons (pd_var 8 rfl (.int _)) pda_nil))) ⟨g, q.2, (j : Int), rfl, hj01, rfl⟩), ?_⟩
        intro v Hb Hc eb ec hz
        obtain ⟨p, l0, xs0, y, Hm, ev, em, hn0, hl0, hx0, hy, hpn, eH⟩ := hz
        subst ev; subst eH
        have hxx : xs0 = (q.1 ++ [(j : Int)]).map V.int := isL_ints (is := q.1 ++ [(j : Int)]) (by rw [List.map_append]; exact hx0)
        subst hxx
        have hbu : Hb lu = some (.lst ws) := eb _ _ (x2 _ _ w3)
        have hbf : Hb lf = some (.lst []) := eb _ _ (w2' _ _ hsf)
        have ne1 : l0 ≠ lu := fun z => by rw [z, hbu] at hn0; cases hn0
        have ne2 : l0 ≠ lf := fun z => by rw [z, hbf] at hn0; cases hn0
        have eA : Same H' (L2.upd Hm p (.tup [.ref l0, y])) := (((x2.trans eb).trans em).trans (same_upd hpn))
        have huA : L2.upd Hm p (.tup [.ref l0, y]) lu = some (.lst ws) := eA _ _ w3
        refine ⟨_, _, rfl, fun b o eb2 => by rw [upd_ne (ne_of_none eb2 hun)]; exact eA _ _ (w2 _ _ eb2), upd_same, ?_⟩
        rw [htk, ← List.append_assoc]
        refine Paired.snoc (L2.Paired.imp' (fun _ _ z => (z.mono eA).upd (List.mem_cons_of_mem _ List.mem_cons_self) huA) w4) ⟨p, l0, y, rfl, sqT_upd huA (SqT.of upd_same), ?_, ?_, ?_⟩
        · simp only [List.mem_cons, List.not_mem_nil, or_false, not_or]; exact ⟨ne2, ne1⟩
        · rw [upd_ne ne1]; exact (same_upd hpn) _ _ hl0
        · exact (hy.mono (same_upd hpn)).updL huA rfl
      · have ho : M.over g.2.2 q.2 = true := by simpa using hkk
        have hex : M.expand (M.aft g.1 g.2.1) (M.over g.2.2) q = [] := by unfold M.expand; rw [if_pos ho]
        refine pq_nil ?_
        intro σ2 H2 hz
        obtain ⟨x1, x2⟩ := hz
        subst x1
        rw [hex, List.take_nil] at w4 ⊢
        exact ⟨ws, _, rfl, w2.trans x2, x2 _ _ w3, L2.Paired.imp' (fun _ _ z => z.mono x2) w4⟩
    · intro σ' H' z
      have hl := paired_len z5
      rw [hl, List.take_length] at z
      exact z
    refine pq_one ?_
    refine BQ1.go ?_
    refine bq1_set 3 sc__law_all_rows.nd ?_
    intro σ' H' hz
    obtain ⟨ws, a6, a7, a8, w1, w2, w3, w4⟩ := hz
    subst w1
    refine ⟨.adr lu, pd_var 5 rfl (.adr lu), fun v H2 e2 hv => ?_⟩
    cases hv
    exact ⟨lu, ws, _, _, a6, a7, a8, rfl, (z2.trans w2).trans e2, e2 _ _ w3, nef, by rw [hnx]; exact L2.Paired.imp' (fun _ _ z => (z.mono e2).less fun a ha => by rw [List.mem_singleton.mp ha]; exact List.mem_cons_self) w4⟩
  refine pqr_fix ?_
  intro σs Hs hz
  obtain ⟨ls, us, y4, y5, y6, y7, y8, z1, z2, z3, z4, z5⟩ := hz
  subst z1
  have hsf : Hs lf = some (.lst []) := z2 _ _ hfl
  have he : M.ended (M.over g.2.2) (M.spr (M.aft g.1 g.2.1) (M.over g.2.2) M.st0 many) = M.rowsF (M.aft g.1 g.2.1) (M.over g.2.2) many M.st0 := M.spr_ended _ _
  have hxl : (M.spr (M.aft g.1 g.2.1) (M.over g.2.2) M.st0 many).length ≤ 1048576 := Nat.le_trans (M.spr_len _ many) (Nat.le_trans (Nat.pow_le_pow_right (by decide) hmany) (by decide))
  generalize M.spr (M.aft g.1 g.2.1) (M.over g.2.2) M.st0 many = xs at he hxl z5
  let W : List (List Int) → L2.St → Hp → Prop := fun out σ' H' => ∃ (ws : List V) (y6 y7 y8 : Option V), σ' = [some v0, some (.int many), some (.ref lf), some (.ref ls), y4, y5, y6, y7, y8] ∧ Same H1 H' ∧ H' ls = some (.lst us) ∧ H' lf = some (.lst ws) ∧ Itms K H' [lf] xs us ∧ Paired (fun r v => ∃ l, v = .ref l ∧ l ≠ lf ∧ H' l = some (.lst (r.map V.int))) out ws
  refine pqr_cons (Mid := W (M.ended (M.over g.2.2) xs)) ?_ ?_
  refine BQ1.go ?_
  refine bq1_forLt (l := ls) (vs := us) 6 7 (fun i => W (M.ended (M.over g.2.2) (xs.take i))) PassesOwn.never rfl sc__law_all_rows.nd (by intro σ' H' hz; obtain ⟨w1, w2⟩ := hz; subst w1; exact pd_var 3 rfl (.adr ls))
    (by intro σ' H' H2 hz e; obtain ⟨w1, w2⟩ := hz; subst w1; subst w2; exact ⟨[], y6, y7, y8, rfl, (ea.trans z2).trans e, e _ _ z3, e _ _ hsf, L2.Paired.imp' (fun _ _ z => z.mono e) z5, .nil⟩) (by intro i σ' H' hz; obtain ⟨ws, a6, a7, a8, w1, w2, w3, w4, w5, w6⟩ := hz; exact SqL.of w3) ?_ ?_ ?_
  · intro i σ' H' v hz hv
    obtain ⟨ws, a6, a7, a8, w1, w2, w3, w4, w5, w6⟩ := hz
    obtain ⟨q, hq, p, l, vs, h1, h2, _⟩ := paired_get w5 hv
    exact ⟨p, .ref l, vs, h1, h2⟩
  · intro i p u1 u2 hv
    obtain ⟨q, hq, _⟩ := paired_get z5 hv
    refine pq_inv (Pre' := fun σ' H' => ∃ (l : Addr) (vq : V) (ws : List V) (y8 : Option V), σ' = [some v0, some (.int many), some (.ref lf), some (.ref ls), y4, y5, some (.ref l), some vq, y8] ∧ l ≠ lf ∧ H' l = some (.lst (q.1.map V.int)) ∧ Is K H' (dS q.2) vq ∧ Same H1 H' ∧ H' ls = some (.lst us) ∧ H' lf = some (.lst ws) ∧ Itms K H' [lf] xs us ∧ Paired (fun r v => ∃ l, v = .ref l ∧ l ≠ lf ∧ H' l = some (.lst (r.map V.int))) (M.ended (M.over g.2.2) (xs.take i)) ws) ?_ ?_
    · intro pins s' σ' H' I hz
      obtain ⟨σ1, w1, w2, ws, a6, a7, a8, w3, w4, w5, w6, w7, w8⟩ := hz
      obtain ⟨q', hq', p', l, vq, h1, h2, h3, h4, h5⟩ := paired_get w7 hv
      rw [hq] at hq'
      cases hq'; cases h1
      have e := I.tuple_inj w2 h2
      simp only [List.cons.injEq, and_true] at e
      obtain ⟨e1, e2⟩ := e
      subst e1; subst e2; subst w3; subst w1
      exact ⟨l, _, ws, a8, rfl, fun z => h3 (by rw [z]; exact List.mem_cons_self), h4, h5, w4, w5, w6, w7, w8⟩
    have hen : M.ended (M.over g.2.2) (xs.take (i + 1)) = M.ended (M.over g.2.2) (xs.take i) ++ (if M.over g.2.2 q.2 = true then [q.1] else []) := by
      unfold M.ended
      rw [List.take_add_one, hq, List.filter_append, List.map_append]
      congr 1
      show List.map _ (List.filter _ [q]) = _
      rw [List.filter_cons]
      split <;> rfl
    refine pq_one ?_
    refine pq1_if ?_
    intro σ' H' hz
    obtain ⟨l, vq, ws, a8, w1, w2, w3, w4, w5, w6, w7, w8, w9⟩ := hz
    subst w1
    refine ⟨_, pdt_val (pd_does lOver hr1 (pda_cons (pd_var 0 rfl (h0.mono w5)) (pda_cons (pd_var 7 rfl w4) pda_nil)) ⟨g, q.2, rfl, rfl⟩), fun hkk => ?_, fun hkk => ?_⟩
    · refine pq_one ?_
      refine pq1_append ?_
      intro σ2 H2 hz
      obtain ⟨x1, x2⟩ := hz
      subst x1
      have hf2 := x2 _ _ w7
      refine ⟨lf, ws, .adr l, pd_var 2 rfl (.adr lf), hf2, big21 (by
          have e1 := paired_len w9
          have : (M.ended (M.over g.2.2) (xs.take i)).length ≤ xs.length := by
            unfold M.ended
            rw [List.length_map]
            exact Nat.le_trans (List.length_filter_le _ _) (by rw [List.length_take]; omega)
          omega), pd_var 6 rfl (.adr l), fun v H3 e3 hv3 => ?_⟩
      cases hv3
      have hf3 := e3 _ _ hf2
      have e23 := x2.trans e3
      refine ⟨ws ++ [.ref l], _, _, _, rfl, fun b o eb => by rw [upd_ne (ne_of_none eb hfn)]; exact e23 _ _ (w5 _ _ eb), by rw [upd_ne z4]; exact e23 _ _ w6, upd_same, L2.Paired.imp' (fun _ _ z => (z.mono e23).upd List.mem_cons_self hf3) w8, ?_⟩
      rw [hen, if_pos hkk]
      exact Paired.snoc (L2.Paired.imp' (fun _ _ ⟨l2, a1, a2, a3⟩ => ⟨l2, a1, a2, by rw [upd_ne a2]; exact e23 _ _ a3⟩) w9) ⟨l, rfl, w2, by rw [upd_ne w2]; exact e23 _ _ w3⟩
    · refine pq_nil ?_
      intro σ2 H2 hz
      obtain ⟨x1, x2⟩ := hz
      subst x1
      refine ⟨ws, _, _, _, rfl, w5.trans x2, x2 _ _ w6, x2 _ _ w7, L2.Paired.imp' (fun _ _ z => z.mono x2) w8, ?_⟩
      rw [hen, if_neg (by rw [show M.over g.2.2 q.2 = false from hkk]; exact Bool.false_ne_true), List.append_nil]
      exact L2.Paired.imp' (fun _ _ ⟨l2, a1, a2, a3⟩ => ⟨l2, a1, a2, x2 _ _ a3⟩) w9
  · intro σ' H' z
    have hl := paired_len z5
    rw [hl, List.take_length] at z
    exact z
  refine pqr_pr ?_
  intro σ' H' hz
  obtain ⟨ws, a6, a7, a8, w1, w2, w3, w4, w5, w6⟩ := hz
  subst w1
  rw [he] at w6
  have hfin : IsL K H' ((M.rowsF (M.aft g.1 g.2.1) (M.over g.2.2) many M.st0).map rowD) ws := by
    generalize M.rowsF (M.aft g.1 g.2.1) (M.over g.2.2) many M.st0 = rs at w6
    clear w4
    induction w6 with
    | nil => exact .nil
    | cons h t ih =>
      obtain ⟨l, a1, _, a3⟩ := h
      rw [a1]
      exact .cons (.lst (SqL.of a3) (ints_isL _)) ih
  exact ⟨_, pr_ret (pd_var 2 rfl (.lst (SqL.of w4) hfin)), fun v H2 e2 hv => ⟨w2.trans e2, hv⟩⟩
end
end Q
set_option Elab.async false
set_option linter.all false
set_option maxRecDepth 100000
set_option maxHeartbeats 4000000
namespace Q
open PySem PySem.Spec PyProof.Rows L2 L3
section
variable {P : Program} {w : World} {K : PySem.W.Frag} {mg : Str → Option Value} {base : Heap} {C CE c0 c1 c2 c3 c4 c5 : Addr}
theorem pd_numA {X : Cx} {σ : L2.St} {H : Hp} {e a : Expr} {p pos : Pos} {l : Addr} {g1 g2 g3 : Int} {row : List Int} (dNum : DoesG X.prog X.w X.K X.mg X.base 11 "number_of" ["rules", "row"] (R_num X.prog X.w X.K C)) (hr : Room 11 X.A) (he : PD X e σ H (.obj C (fsR g1 g2 g3))) (ha : PD X a σ H (.adr l)) (hl : H l = some (.lst (row.map V.int))) (hg : M.Good g1 g2 g3)
    (hen : M.ends (M.beh g1 g2) (M.over g3) row M.st0 = true) (hz : row.length ≤ 1000) (hgl : Gl X "number_of" := by rfl) (hs : starEach [e, a] X.env = (false, eval e X.env) :: starEach [a] X.env := by rfl) (hs2 : starEach [a] X.env = (false, eval a X.env) :: starEach [] X.env := by rfl)
    (hpl : (backTo pos (starEach [a] X.env)).any (·.1) = false := by rfl) : PD X (.Call (.Name "number_of" p) [e, a] [] pos) σ H (.int (M.rank (M.beh g1 g2) (M.over g3) row M.st0 : Nat)) := by
  refine pf_doesG (Φ' := fun _ H2 v => Is X.K H2 (.int (M.rank (M.beh g1 g2) (M.over g3) row M.st0 : Nat)) v) dNum hr (paf_cons (PD.f2 he) (paf_one (PD.f2 ha) hs2) hs) (fun H1 H' vs e1 e2 ⟨v, r, Hm, ev, em, em2, hv, u, er, hu⟩ => ?_) hgl (by decide) hs hpl
  subst ev; subst er
  cases hu
  exact ⟨_, ⟨g1, g2, g3, row, l, v, rfl, hv.mono em2, (e1.trans e2) _ _ hl, hg, hen, hz, rfl⟩, fun H2 v e2 hv => by rw [hv]; exact .int _⟩
theorem pf_row {X : Cx} {σ : L2.St} {H : Hp} {e : Expr} {es : List Expr} {p pos : Pos} {g1 g2 g3 : Int} {many k : Nat} (dRow : DoesG X.prog X.w X.K X.mg X.base 11 "row_at" ["rules", "many", "number"] (R_row X.prog X.w X.K C)) (hr : Room 11 X.A) (ha : PDA X (e :: es) σ H [.obj C (fsR g1 g2 g3), .int many, .int k]) (hg : M.Good g1 g2 g3) (hm : many ≤ 1000)
    (hk : k < M.cnt (M.beh g1 g2) (M.over g3) many M.st0) (hgl : Gl X "row_at" := by rfl) (he : starEach (e :: es) X.env = (false, eval e X.env) :: starEach es X.env := by rfl) (hpl : (backTo pos (starEach es X.env)).any (·.1) = false := by rfl) :
    PF2 X (.Call (.Name "row_at" p) (e :: es) [] pos) σ H (fun H1 H2 v => ∃ l, v = .ref l ∧ H1 l = none ∧ H2 l = some (.lst ((M.unrank (M.beh g1 g2) (M.over g3) many M.st0 k).map V.int))) := by
  refine pf_doesG dRow hr (PDA.f ha) (fun H1 H3 us e1 e2 hvs => ?_) hgl (by decide) he hpl
  obtain ⟨u0, u1, u2, rfl, k0, k1, k2⟩ := isL3 hvs
  cases k1; cases k2
  exact ⟨_, ⟨g1, g2, g3, many, k, u0, rfl, k0, hg, hm, hk, rfl⟩, fun H4 v e4 ⟨l, ev, hn, hl⟩ => ⟨l, ev, e2.free hn, hl⟩⟩
theorem pd_row {X : Cx} {σ : L2.St} {H : Hp} {e : Expr} {is : List Int} (h : PF2 X e σ H (fun H1 H2 v => ∃ l, v = .ref l ∧ H1 l = none ∧ H2 l = some (.lst (is.map V.int)))) : PD X e σ H (.lst (is.map D.int)) :=
  PF2.imp (Φ' := fun _ H2 v => Is X.K H2 (.lst (is.map D.int)) v) h fun H1 H2 v e1 e2 ⟨l, ev, hn, hl⟩ => by rw [ev]; exact .lst (SqL.of hl) (ints_isL is)
theorem ok_ints : ∀ is : List Int, pyOk (.lst (is.map D.int)) = true ∧ depD (.lst (is.map D.int)) ≤ 1 := by
  have a : ∀ is : List Int, pyOks (is.map D.int) = true ∧ PyData.depthAll (toPys (is.map D.int)) = 0 := fun is => by
    induction is with
    | nil => exact ⟨rfl, rfl⟩
    | cons i is ih =>
      refine ⟨?_, ?_⟩
      · show (pyOk (.int i) && pyOks (is.map D.int)) = true
        rw [ih.1]; rfl
      · show max (PyData.depth (toPy (.int i))) (PyData.depthAll (toPys (is.map D.int))) = 0
        rw [ih.2]; rfl
  exact fun is => ⟨(a is).1, by show PyData.depthAll (toPys (is.map D.int)) + 1 ≤ 1; rw [(a is).2]; decide⟩
theorem six_at {k : Int} (h0 : 0 ≤ k) (h6 : k < 6) : ∃ g : Int × Int × Int, atI [dW (1, 1, 1), dW (2, 1, 1), dW (1, 2, 1), dW (2, 1, 2), dW (1, 1, 2), dW (2, 2, 1)] k = some (dW g) ∧ M.Good g.1 g.2.1 g.2.2 := by
  have : k = 0 ∨ k = 1 ∨ k = 2 ∨ k = 3 ∨ k = 4 ∨ k = 5 := by omega
  rcases this with rfl | rfl | rfl | rfl | rfl | rfl
  · exact ⟨(1, 1, 1), rfl, by decide, by decide, by decide, by decide, by decide, by decide⟩
  · exact ⟨(2, 1, 1), rfl, by decide, by decide, by decide, by decide, by decide, by decide⟩
  · exact ⟨(1, 2, 1), rfl, by decide, by decide, by decide, by decide, by decide, by decide⟩
  · exact ⟨(2, 1, 2), rfl, by decide, by decide, by decide, by decide, by decide, by decide⟩
  · exact ⟨(1, 1, 2), rfl, by decide, by decide, by decide, by decide, by decide, by decide⟩
  · exact ⟨(2, 2, 1), rfl, by decide, by decide, by decide, by decide, by decide, by decide⟩
theorem draw_pos (ns : List Int) (k : Int) : 0 ≤ M.drawF ns k := by
  unfold M.drawF
  split <;> omega
theorem mx1_pos (n : Nat) : 0 < mxP (1, (n : Int)) := by unfold mxP; simp only []; split <;> omega
theorem mx1_n {n : Nat} (h : 0 < n) : mxP (1, (n : Int)) = n := by unfold mxP; simp only []; split <;> omega
theorem nums_at {ns : List Int} {n i : Nat} {d : D} (h : (((List.range 3).map fun i : Nat => D.int (M.drawF ns (10 + (i : Int)) % mxP (1, (n : Int)))).take n)[i]? = some d) : ∃ k : Nat, d = .int k ∧ k < n := by
  have hn : 0 < n := by
    rcases Nat.eq_zero_or_pos n with z | z
    · rw [z] at h; simp at h
    · exact z
  have hm := List.mem_of_getElem? h
  have hm2 := List.mem_of_mem_take hm
  rw [List.mem_map] at hm2
  obtain ⟨j, _, rfl⟩ := hm2
  rw [mx1_n hn]
  have a := Int.emod_nonneg (M.drawF ns (10 + (j : Int))) (b := (n : Int)) (by omega)
  have b := Int.emod_lt_of_pos (M.drawF ns (10 + (j : Int))) (b := (n : Int)) (by omega)
  exact ⟨(M.drawF ns (10 + (j : Int)) % (n : Int)).toNat, by rw [Int.toNat_of_nonneg a], by omega⟩
theorem all_true {K : PySem.W.Frag} {H : Hp} : ∀ {n : Nat} {us : List V}, IsL K H ((List.range n).map fun _ => D.bl true) us → us = List.replicate n (.bl true) := by
  intro n us h
  have a : ∀ (is : List Nat) (us : List V), IsL K H (is.map fun _ => D.bl true) us → us = List.replicate is.length (.bl true) := fun is => by
    induction is with
    | nil => intro us h; cases h; rfl
    | cons i is ih =>
      intro us h
      cases h with
      | cons h1 h2 =>
        cases h1
        rw [ih _ h2]; rfl
  have := a _ _ h
  rwa [List.length_range] at this
theorem flat_rep (n : Nat) : (List.replicate n (V.bl true)).all flatV = true ∧ inV (.bl false) (List.replicate n (V.bl true)) = false := by
  induction n with
  | zero => exact ⟨rfl, rfl⟩
  | succ n ih =>
    rw [List.replicate_succ]
    refine ⟨?_, ?_⟩
    · rw [List.all_cons, ih.1]; rfl
    · show (eqV (.bl true) (.bl false) || inV (.bl false) (List.replicate n (V.bl true))) = false
      rw [ih.2]; rfl
theorem ints_get {is : List Int} {i : Nat} (h : i < (is.map D.int).length) : ∃ x, (is.map D.int).getD i .non = .int x := by
  rw [List.length_map] at h
  exact ⟨is[i], by rw [List.getD_eq_getElem?_getD, List.getElem?_map, List.getElem?_eq_getElem h]; rfl⟩
def R_law (ds : List D) (r : D) : Prop := ∃ ns, ds = [dL ns] ∧ r = .bl true
theorem ok_law (T : Tx K mg C) (dMade : Does P w K mg base 4 "_law_made" ["wanted"] (R_made C)) (dDraw : Does P w K mg base 2 "_law_draw" ["script", "k"] R_draw) (lWhole : Does P w K mg base 1 "_law_whole" ["found"] R_whole) (lAll : Does P w K mg base 3 "_law_all_rows" ["wanted", "many"] R_all)
    (lRef : Does P w K mg base 12 "_law_refused" ["call", "rules", "many", "what"] (R_refused C)) (dMany : Does P w K mg base 11 "many_rows" ["rules", "many"] (R_many C)) (dRow : DoesG P w K mg base 11 "row_at" ["rules", "many", "number"] (R_row P w K C)) (dNum : DoesG P w K mg base 11 "number_of" ["rules", "row"] (R_num P w K C))
    {f : Addr} {fd : FuncData} (F : Fun K "law" "law" st_law f fd) : FnOk P w K mg base CX0 13 f fd ["script"] (spD K R_law) := by
  refine fun_ok F sc_law (fun ds r ⟨_, e, _⟩ => by rw [e]; rfl) fun cdv A outer s H E vs ds r hr hl hR => .inl ?_
  obtain ⟨ns, rfl, rfl⟩ := hR
  obtain ⟨v0, rfl, h0⟩ := isL1 hl
  have hr1 : Room 1 _ := hr.mono (by decide)
  have hr2 : Room 2 _ := hr.mono (by decide)
  have hr3 : Room 3 _ := hr.mono (by decide)
  have hr4 : Room 4 _ := hr.mono (by decide)
  have hr11 : Room 11 _ := hr.mono (by decide)
  have hu := hu64 hr
  obtain ⟨g, hsix, hg⟩ := six_at (k := M.drawF ns 2 % 6) (by omega) (by omega)
  obtain ⟨g1, g2, g3⟩ := g
  refine BR.go ?_
  refine br_set 1 sc_law.nd (d := dW (g1, g2, g3)) (bd_six bd_three bd_three bd_three bd_three bd_three bd_three
    (pd_mod (pd_does dDraw hr2 (pda_cons (pd_var 0 rfl h0) (pda_cons pd_int pda_nil)) ⟨_, _, rfl, by decide, by decide, rfl⟩) pd_int (by decide)) hsix) fun v1 H1 e1 h1 => ?_
  clear hsix
  replace h0 := h0.mono e1
  refine pr_set 2 sc_law.nd (pd_does dMade hr4 (pda_cons (pd_var 1 rfl h1) pda_nil) ⟨_, _, _, rfl, hg, rfl⟩) fun v2 H2 e2 h2 => ?_
  replace h0 := h0.mono e2
  replace h1 := h1.mono e2
  refine pr_set 3 sc_law.nd (pd_mod (pd_does dDraw hr2 (pda_cons (pd_var 0 rfl h0) (pda_cons pd_int pda_nil)) ⟨_, _, rfl, by decide, by decide, rfl⟩) pd_int (by decide)) fun v3 H3 e3 h3 => ?_
  cases h3
  obtain ⟨many, hmy, hm12⟩ : ∃ many : Nat, M.drawF ns 3 % 12 = (many : Int) ∧ many < 12 := ⟨(M.drawF ns 3 % 12).toNat, by omega, by omega⟩
  rw [hmy]
  clear hmy
  replace h0 := h0.mono e3
  replace h1 := h1.mono e3
  replace h2 := h2.mono e3
  refine pr_set 4 sc_law.nd (pd_does lAll hr3 (pda_cons (pd_var 1 rfl h1) (pda_cons (pd_var 3 rfl (.int _)) pda_nil)) ⟨(g1, g2, g3), many, rfl, by omega, rfl⟩) fun v4 H4 e4 h4 => ?_
  replace h4 : Is K H4 (.lst ((M.rowsF (M.beh g1 g2) (M.over g3) many M.st0).map rowD)) v4 := by rw [← M.rows_beh]; exact h4
  have hrl := M.rows_len (nx := M.beh g1 g2) (ov := M.over g3) many M.st0
  have hat : ∀ k : Nat, k < M.cnt (M.beh g1 g2) (M.over g3) many M.st0 → (M.rowsF (M.beh g1 g2) (M.over g3) many M.st0)[k]? = some (M.unrank (M.beh g1 g2) (M.over g3) many M.st0 k) := fun k h => M.rows_at h
  have hmem : ∀ r : List Int, r.length = many → r ∉ M.rowsF (M.beh g1 g2) (M.over g3) many M.st0 → M.ends (M.aft g1 g2) (M.over g3) r M.st0 = false := fun r hl hn => by
    rw [M.ends_beh]
    cases q : M.ends (M.beh g1 g2) (M.over g3) r M.st0 with
    | false => rfl
    | true => exact absurd (M.rows_mem.mpr ⟨q, hl⟩) hn
  generalize M.rowsF (M.beh g1 g2) (M.over g3) many M.st0 = rs at h4 hrl hat hmem
  replace h0 := h0.mono e4
  replace h1 := h1.mono e4
  replace h2 := h2.mono e4
  refine pr_set 5 sc_law.nd (pd_does dMany hr11 (pda_cons (pd_var 2 rfl h2) (pda_cons (pd_var 3 rfl (.int _)) pda_nil)) ⟨g1, g2, g3, many, rfl, hg, by omega, rfl⟩) fun v5 H5 e5 h5 => ?_
  cases h5
  generalize hcn : M.cnt (M.beh g1 g2) (M.over g3) many M.st0 = n at hrl hat
  replace h0 := h0.mono e5
  replace h1 := h1.mono e5
  replace h2 := h2.mono e5
  replace h4 := h4.mono e5
  have hdl : (rs.map rowD).length = n := by rw [List.length_map]; exact hrl
  refine pr_if (k := false) ((PDW.pt (pdw_or (pdt_not (pdt_val (pd_does lWhole hr1 (pda_cons (pd_var 5 rfl (.int _)) pda_nil) ⟨_, rfl, rfl⟩))) fun _ => pdw_or1 (pdt_neI (pd_var 5 rfl (.int _)) (pd_lenL T.len (pd_var 4 rfl h4))))).cast ?_) (fun z => absurd z Bool.false_ne_true) (fun _ => ?_)
  · rw [hdl]; simp
  refine pr_cons (Post := fun σ' H' => ∃ v6, σ' = [some v0, some v1, some v2, some (.int many), some v4, some (.int n), some v6, none, none, none, none, none] ∧ Is K H' (.lst ((List.range 3).map fun i : Nat => D.int (M.drawF ns (10 + (i : Int)) % mxP (1, (n : Int))))) v6)
    (pn1_comp (n := 3) (din := fun i => .int i) (dout := fun i => .int (M.drawF ns (10 + (i : Int)) % mxP (1, (n : Int)))) (N := ["k", "script", "due"]) (σc := [none, some v0, some v4]) (cl := [("script", s.heap.objs.size + 1), ("due", s.heap.objs.size + 2)]) 6 sc_law.nd rfl rfl ?tkn (gives_range T.range pd_int (by decide)) (by decide) (fun _ => rfl) ?elt
      fun v H' e hv => ⟨v, rfl, hv⟩) ?rest
  case tkn =>
    refine takesN (ys := [("script", s.heap.objs.size + 1), ("due", s.heap.objs.size + 2)]) (vs := [v0, v4]) ?c (by decide +kernel) rfl (by decide +kernel) rfl (by show (["k", "script", "due"] : List Str).Nodup; decide) rfl ?_ ?_ (by intro z hz hf; show z.1 ∈ (["script", "due"] : List Str); revert hz hf; revert z; decide +kernel)
    case c => rfl
    · intro z hz
      simp only [List.mem_cons, List.not_mem_nil, or_false] at hz
      rcases hz with rfl | rfl <;> rfl
    · intro i z v hz hv
      match i, hz, hv with
      | 0, hz, hv => cases hz; cases hv; exact ⟨0, rfl, rfl, rfl, .inl rfl⟩
      | 1, hz, hv => cases hz; cases hv; exact ⟨4, rfl, rfl, rfl, .inl rfl⟩
      | n + 2, hz, hv => simp at hz
  case elt =>
    intro Cc s2 Ha fp i v Hb hi e hv
    cases hv
    refine PD.cast (d := .int (M.drawF ns (10 + (i : Int)) % mxP (1, ((rs.map rowD).length : Int)))) ?_ (by rw [hdl])
    exact pd_mod (pd_does dDraw hr2 (pda_cons (pd_var 1 rfl (h0.mono e)) (pda_cons (pd_add pd_int (pd_var 0 rfl (.int _))) pda_nil)) ⟨_, _, rfl, by omega, by omega, rfl⟩) (pd_max2 rfl T.max pd_int (pd_lenL T.len (pd_var 2 rfl (h4.mono e)))) (by rw [hdl]; exact mx1_pos n)
  case rest =>
  intro σ' H6 e6 hz
  obtain ⟨v6, hs, h6⟩ := hz
  subst hs
  replace h0 := h0.mono e6
  replace h2 := h2.mono e6
  replace h4 := h4.mono e6
  clear h1
  refine pr_pqr fun HA eA => ?_
  replace h0 := h0.mono eA
  replace h2 := h2.mono eA
  replace h4 := h4.mono eA
  replace h6 := h6.mono eA
  let ds : List D := ((List.range 3).map fun i : Nat => D.int (M.drawF ns (10 + (i : Int)) % mxP (1, (n : Int)))).take n
  let W : Addr → List V → Nat → L2.St → Hp → Prop := fun l vs i σ' H' => ∃ (HB : Hp) (y7 y8 y9 y10 : Option V), σ' = [some v0, some v1, some v2, some (.int many), some v4, some (.int n), some v6, y7, y8, y9, y10, none] ∧ Same HA HB ∧ SqL K HB l vs ∧ IsL K HB ds vs ∧ Same HB H'
  refine pqr_cons (Mid := fun σ' H' => ∃ (y7 y8 y9 y10 : Option V), σ' = [some v0, some v1, some v2, some (.int many), some v4, some (.int n), some v6, y7, y8, y9, y10, none] ∧ Same HA H') (pq1_forLv (ds := ds) 7 W PassesOwn.never rfl sc_law.nd ?it ?h0 ?hk ?body ?done) ?after
  case it =>
    intro σ' H' hz
    obtain ⟨z1, z2⟩ := hz
    subst z1; subst z2
    exact pd_sliceN (pd_var 6 rfl h6) ((pd_lenL T.len (pd_var 4 rfl h4)).cast (by rw [hdl]))
  case h0 =>
    intro σ' H' l vs H2 hz e hS hI
    obtain ⟨z1, z2⟩ := hz
    subst z1; subst z2
    exact ⟨H2, none, none, none, none, rfl, e, hS, hI, Same.refl _⟩
  case hk =>
    intro l vs i σ' H' hz
    obtain ⟨HB, y7, y8, y9, y10, z1, eB, hS, hI, e0⟩ := hz
    exact ⟨e0.seq hS, hI.mono e0⟩
  case done =>
    intro l vs σ' H' hz
    obtain ⟨HB, y7, y8, y9, y10, z1, eB, hS, hI, e0⟩ := hz
    exact ⟨y7, y8, y9, y10, z1, eB.trans e0⟩
  case body =>
    intro l vs i d hd
    obtain ⟨k, rfl, hkn⟩ := nums_at hd
    refine pq_fix ?_
    intro σ0 H0 hz
    obtain ⟨σ1, v, z0, hv, HB, y7, y8, y9, y10, z1, eB, hS, hI, e0⟩ := hz
    subst z1; subst z0
    cases hv
    have hk' : k < M.cnt (M.beh g1 g2) (M.over g3) many M.st0 := by rw [hcn]; exact hkn
    obtain ⟨hen, hrlen, hrank⟩ := M.unrank_ok hk'
    have hrk := hat k hkn
    generalize hun : M.unrank (M.beh g1 g2) (M.over g3) many M.st0 k = r at hen hrlen hrank hrk
    have k2 := h2.mono (eB.trans e0)
    have k4 := h4.mono (eB.trans e0)
    have hdk : atI (rs.map rowD) (k : Int) = some (.lst (r.map D.int)) := atI_nat (by rw [List.getElem?_map, hrk]; rfl)
    refine pq_cons (Mid := fun σ' H' => ∃ lt, σ' = [some v0, some v1, some v2, some (.int many), some v4, some (.int n), some v6, some (.int k), some (.ref lt), y9, y10, none] ∧ H0 lt = none ∧ Same H0 H' ∧ H' lt = some (.lst (r.map V.int))) (pq1_setF 8 sc_law.nd ?_) ?_
    · intro σ' H' hz
      obtain ⟨z1, z2⟩ := hz
      subst z1; subst z2
      refine ⟨_, pf_row dRow hr11 (pda_cons (pd_var 2 rfl k2) (pda_cons (pd_var 3 rfl (.int _)) (pda_cons (pd_var 7 rfl (.int _)) pda_nil))) hg (by omega) hk', ?_⟩
      intro v H2 e2 hz
      obtain ⟨lt, ev, hn, hl⟩ := hz
      subst ev
      rw [hun] at hl
      exact ⟨lt, rfl, hn, e2, hl⟩
    refine pq_fix ?_
    intro σ2 Ht hz
    obtain ⟨lt, z1, hn, e1, hlt⟩ := hz
    subst z1
    have t2 := k2.mono e1
    have t4 := k4.mono e1
    have hT : Is K Ht (.lst (r.map D.int)) (.ref lt) := .lst (SqL.of hlt) (ints_isL r)
    refine pq_cons (Mid := fun σ' H' => σ' = [some v0, some v1, some v2, some (.int many), some v4, some (.int n), some v6, some (.int k), some (.ref lt), y9, y10, none] ∧ Same Ht H') (pq1_if ?_) ?_
    · intro σ' H' hz
      obtain ⟨z1, z2⟩ := hz
      subst z1; subst z2
      refine ⟨false, PDT.cast (k := !true || (!eqD (.lst (r.map D.int)) (.lst (r.map D.int)) || inV (.bl false) (List.replicate (r.map D.int).length (V.bl true)))) (PDW.pt (pdw_or (pdt_not (pdt_val (pd_isi (k := true) T.isi (pd_var 8 rfl hT) (pd_ty T.list) rfl))) fun _ => pdw_or (pdt_neD hu (pd_var 8 rfl hT) (pd_ixL (pd_var 4 rfl t4) (pd_var 7 rfl (.int _)) hdk) (ok_ints _).1 (ok_ints _).1 (Nat.le_trans (ok_ints _).2 (by decide))) fun _ => pdw_or1 ?inn)) ?c, fun z => absurd z (by decide), fun _ => pq_nil fun σ3 H3 z => z⟩
      case c => rw [eqD_refl _ (ok_ints r).1, (flat_rep _).2]; rfl
      case inn =>
        refine pdt_inL (x := .bl false) (vs := List.replicate (r.map D.int).length (V.bl true)) pd_bl (PL.pd (pl_comp (n := (r.map D.int).length) (din := fun i => (r.map D.int).getD i .non) (dout := fun _ => .bl true) (N := ["who"]) (σc := [none]) (cl := []) rfl ?t ?g (by rw [List.length_map, hrlen]; omega) (fun _ => rfl) ?e)) ?x ?y rfl (flat_rep _).1
        case t => exact takes0 (by decide +kernel) (by decide +kernel) rfl (by decide +kernel) rfl
        case g => exact gives_list (pd_var 8 rfl hT)
        case x => exact fun _ _ z => by cases z; rfl
        case y => exact fun _ _ z => all_true z
        case e =>
          intro Cc s2 H2' fp i v H4 hi e4 hv
          obtain ⟨x, hx⟩ := ints_get hi
          exact pd_does lWhole hr1 (pda_cons (pd_var 0 rfl hv) pda_nil) ⟨x, by rw [hx], rfl⟩
    refine pq_cons (Mid := fun σ' H' => ∃ lh, σ' = [some v0, some v1, some v2, some (.int many), some v4, some (.int n), some v6, some (.int k), some (.ref lt), some (.ref lh), y10, none] ∧ Same Ht H' ∧ H' lh = some (.lst (r.map V.int))) (pq1_new 9 sc_law.nd ?_) ?_
    · intro σ' H' hz
      obtain ⟨z1, z2⟩ := hz
      subst z1
      refine ⟨r.map D.int, pl_listL T.list (pd_ixL (pd_var 4 rfl (t4.mono z2)) (pd_var 7 rfl (.int _)) hdk), ?_⟩
      intro lh us H2 e2 hn2 hl2 hu2
      obtain rfl := isL_ints hu2
      exact ⟨lh, rfl, z2.trans e2, hl2⟩
    refine pq_fix ?_
    intro σ3 Hh hz
    obtain ⟨lh, z1, eh, hlh⟩ := hz
    subst z1
    refine pq_cons (Mid := fun σ' H' => σ' = [some v0, some v1, some v2, some (.int many), some v4, some (.int n), some v6, some (.int k), some (.ref lt), some (.ref lh), some (.int k), none] ∧ Same Hh H') (pq1_set 10 sc_law.nd ?_) ?_
    · intro σ' H' hz
      obtain ⟨z1, z2⟩ := hz
      subst z1; subst z2
      refine ⟨.int k, PD.cast (pd_numA dNum hr11 (pd_var 2 rfl (t2.mono eh)) (pd_var 9 rfl (.adr lh)) hlh hg hen (by rw [hrlen]; omega)) (by rw [hrank]), ?_⟩
      intro v H2 e2 hv
      cases hv
      exact ⟨rfl, e2⟩
    refine pq_cons (Mid := fun σ' H' => σ' = [some v0, some v1, some v2, some (.int many), some v4, some (.int n), some v6, some (.int k), some (.ref lt), some (.ref lh), some (.int k), none] ∧ Same Hh H') (pq1_if ?_) ?_
    · intro σ' H' hz
      obtain ⟨z1, z2⟩ := hz
      subst z1
      have hH : Is K H' (.lst (r.map D.int)) (.ref lh) := .lst (SqL.of (z2 _ _ hlh)) (ints_isL r)
      refine ⟨false, PDT.cast (PDW.pt (pdw_or (pdt_not (pdt_val (pd_does lWhole hr1 (pda_cons (pd_var 10 rfl (.int _)) pda_nil) ⟨_, rfl, rfl⟩))) fun _ => pdw_or (pdt_neI (pd_var 10 rfl (.int _)) (pd_var 7 rfl (.int _))) fun _ => pdw_or1 (pdt_neD hu (pd_var 9 rfl hH) (pd_ixL (pd_var 4 rfl (t4.mono (eh.trans z2))) (pd_var 7 rfl (.int _)) hdk) (ok_ints _).1 (ok_ints _).1 (Nat.le_trans (ok_ints _).2 (by decide))))) ?_, fun z => absurd z (by decide), fun _ => pq_nil ?_⟩
      · rw [eqD_refl _ (ok_ints r).1]; simp
      · intro σ3 H3 z
        exact ⟨z.1, z2.trans z.2⟩
    refine pq_cons (Mid := fun σ' H' => σ' = [some v0, some v1, some v2, some (.int many), some v4, some (.int n), some v6, some (.int k), some (.ref lt), some (.ref lh), some (.int k), none] ∧ Same H0 H') (pq1_append ?_) ?_
    · intro σ' H' hz
      obtain ⟨z1, z2⟩ := hz
      subst z1
      refine ⟨lt, r.map V.int, .int 0, pd_var 8 rfl (.adr lt), z2 _ _ (eh _ _ hlt), big21 (by rw [List.length_map, hrlen]; omega), pd_int, ?_⟩
      intro v H2 e2 hv
      refine ⟨rfl, ?_⟩
      intro b o eb
      rw [upd_ne (ne_of_none eb hn)]
      exact e2 _ _ (z2 _ _ (eh _ _ (e1 _ _ eb)))
    refine pq_one (pq1_if ?_)
    intro σ' H' hz
    obtain ⟨z1, z2⟩ := hz
    subst z1
    refine ⟨false, PDT.cast (pdt_neD (d := .lst (r.map D.int)) hu (pd_row (by rw [← hun]; exact pf_row dRow hr11 (pda_cons (pd_var 2 rfl (k2.mono z2)) (pda_cons (pd_var 3 rfl (.int _)) (pda_cons (pd_var 7 rfl (.int _)) pda_nil))) hg (by omega) hk')) (pd_ixL (pd_var 4 rfl (k4.mono z2)) (pd_var 7 rfl (.int _)) hdk) (ok_ints _).1 (ok_ints _).1 (Nat.le_trans (ok_ints _).2 (by decide))) ?_, fun z => absurd z (by decide), fun _ => pq_nil ?_⟩
    · rw [eqD_refl _ (ok_ints r).1]; rfl
    · intro σ3 H3 z
      obtain ⟨x1, x2⟩ := z
      exact ⟨HB, _, _, _, _, x1, eB, hS, hI, (e0.trans z2).trans x2⟩
  case after =>
  refine pqr_pr ?_
  intro σ' HL hz
  obtain ⟨y7, y8, y9, y10, z1, eL⟩ := hz
  subst z1
  refine ⟨.bl true, ?_, fun v H2 e2 hv => ⟨eL.trans e2, hv⟩⟩
  replace h0 := h0.mono eL
  replace h2 := h2.mono eL
  replace h4 := h4.mono eL
  refine pr_cons (Post := fun σ' H' => ∃ y7, σ' = [some v0, some v1, some v2, some (.int many), some v4, some (.int n), some v6, y7, y8, y9, y10, none])
    (pn1_forL (ds := [.int (-1), .int (-1 - M.drawF ns 13), .int n, .int (n + M.drawF ns 14)]) 7 (fun i σ' H' => ∃ y7, σ' = [some v0, some v1, some v2, some (.int many), some v4, some (.int n), some v6, y7, y8, y9, y10, none]) PassesOwn.never rfl sc_law.nd
      (pd_lst (pda_cons (pd_neg pd_int) (pda_cons (pd_sub (pd_neg pd_int) (pd_does dDraw hr2 (pda_cons (pd_var 0 rfl h0) (pda_cons pd_int pda_nil)) ⟨_, _, rfl, by decide, by decide, rfl⟩)) (pda_cons ((pd_lenL T.len (pd_var 4 rfl h4)).cast (by rw [hdl])) (pda_cons (pd_add ((pd_lenL T.len (pd_var 4 rfl h4)).cast (by rw [hdl])) (pd_does dDraw hr2 (pda_cons (pd_var 0 rfl h0) (pda_cons pd_int pda_nil)) ⟨_, _, rfl, by decide, by decide, rfl⟩)) pda_nil)))))
      (fun _ _ => ⟨y7, rfl⟩) ?turn (fun _ _ _ z => z)) ?rest2
  case turn =>
    intro i d v σ1 H1 hd e hz hv
    obtain ⟨y, hs⟩ := hz
    subst hs
    have hkk : ∃ kk : Int, d = .int kk ∧ (kk < 0 ∨ (n : Int) ≤ kk) := by
      have d1 := draw_pos ns 13
      have d2 := draw_pos ns 14
      match i, hd with
      | 0, hd => cases hd; exact ⟨_, rfl, .inl (by decide)⟩
      | 1, hd => cases hd; exact ⟨_, rfl, .inl (by omega)⟩
      | 2, hd => cases hd; exact ⟨_, rfl, .inr (Int.le_refl _)⟩
      | 3, hd => cases hd; exact ⟨_, rfl, .inr (by omega)⟩
      | i + 4, hd => simp at hd
    obtain ⟨kk, rfl, hkk⟩ := hkk
    cases hv
    refine pn_one (pn1_if (k := false) ((pdt_not (pdt_val (pd_does lRef hr (pda_cons pd_int (pda_cons (pd_var 2 rfl (h2.mono e)) (pda_cons (pd_var 3 rfl (.int _)) (pda_cons (pd_var 7 rfl (.int _)) pda_nil)))) ⟨g1, g2, g3, many, 0, .int kk, rfl, hg, by omega, .inl ⟨rfl, kk, rfl, by rw [hcn]; exact hkk⟩, rfl⟩))).cast rfl) (fun z => absurd z Bool.false_ne_true) (fun _ => pn_nil fun _ _ => ⟨_, rfl⟩))
  case rest2 =>
  intro σ' HM eM hz
  obtain ⟨y, hs⟩ := hz
  subst hs
  replace h0 := h0.mono eM
  replace h2 := h2.mono eM
  replace h4 := h4.mono eM
  refine pr_cons (Post := fun σ' H' => ∃ vr, σ' = [some v0, some v1, some v2, some (.int many), some v4, some (.int n), some v6, y, y8, y9, y10, some vr] ∧ Is K H' (.lst ((List.range many).map fun i : Nat => D.int (M.drawF ns (100 + (i : Int)) % 2))) vr)
    (pn1_comp (n := many) (din := fun i => .int i) (dout := fun i => .int (M.drawF ns (100 + (i : Int)) % 2)) (N := ["k", "script"]) (σc := [none, some v0]) (cl := [("script", s.heap.objs.size + 1)]) 11 sc_law.nd rfl rfl ?t3 ?gv3 (by omega) (fun _ => rfl) ?e3 fun v H' e hv => ⟨v, rfl, hv⟩) ?rest3
  case t3 => exact takes1 (j := 0) rfl (by decide +kernel) rfl (by decide +kernel) rfl (by decide) rfl rfl rfl rfl (.inl rfl) (by decide +kernel)
  case gv3 => exact gives_range (j := (many : Int)) T.range (pd_var 3 rfl (.int _)) (by omega)
  case e3 =>
    intro Cc s2 Ha fp i v Hb hi e hv
    cases hv
    exact pd_mod (pd_does dDraw hr2 (pda_cons (pd_var 1 rfl (h0.mono e)) (pda_cons (pd_add pd_int (pd_var 0 rfl (.int _))) pda_nil)) ⟨_, _, rfl, by omega, by omega, rfl⟩) pd_int (show (0 : Int) < 2 by decide)
  case rest3 =>
  intro σ' HR eR hz
  obtain ⟨vr, hs, hvr⟩ := hz
  subst hs
  replace h2 := h2.mono eR
  replace h4 := h4.mono eR
  obtain ⟨row, hrow, hrl2, h01⟩ : ∃ row : List Int, row.map D.int = ((List.range many).map fun i : Nat => D.int (M.drawF ns (100 + (i : Int)) % 2)) ∧ row.length = many ∧ ∀ x ∈ row, x = 0 ∨ x = 1 := by
    refine ⟨(List.range many).map fun i : Nat => M.drawF ns (100 + (i : Int)) % 2, by rw [List.map_map]; rfl, by rw [List.length_map, List.length_range], fun x hx => ?_⟩
    rw [List.mem_map] at hx
    obtain ⟨j, _, rfl⟩ := hx
    omega
  rw [← hrow] at hvr
  refine PR.cast (pr_ret (pd_or (k := decide (row ∈ rs)) (k' := true) (pd_inLL hu (pd_var 11 rfl hvr) (pd_var 4 rfl h4)) (fun z => pd_one (pd_does lRef hr (pda_cons pd_int (pda_cons (pd_var 2 rfl h2) (pda_cons (pd_var 3 rfl (.int _)) (pda_cons (pd_var 11 rfl hvr) pda_nil)))) ⟨g1, g2, g3, many, 1, .lst (row.map D.int), rfl, hg, by omega, .inr ⟨rfl, row, rfl, h01, hmem row hrl2 (of_decide_eq_false z)⟩, rfl⟩)))) (by rw [Bool.or_true])
end
end Q
set_option Elab.async false
set_option linter.all false
set_option maxRecDepth 100000
set_option maxHeartbeats 4000000
set_option pp.maxSteps 300
namespace Q
open PySem PySem.Spec PyProof.Rows L2 L3
section
theorem law_mk {l : PySem.W.OpenLaw} {w : World} {K : PySem.W.Frag} {h : Heap} {mg : Str → Option Value} {fa f : Addr} {oc : Value} {od an : Option Addr} {osl : Array (Option Value)} {kV doc pm cdv ct : Value} {n : Nat} {R : List D → D → Prop} (X : K.In h) (G : h.Ns mainGlobals mg) (hfa : mg "law" = some (.ref fa))
    (a : PySem.W.nsIn K mainGlobals "law" = some (some (.ref f))) (lk : K.lookup f = some ⟨oc, od, .func (PySem.W.fnOf "law" "law" (defArgs st_law) (defBody st_law) (defScope st_law) .none kV doc pm an cdv ct), osl⟩) (c : PySem.W.codeIn K cdv "law" = true) (k : PySem.W.keepIn K (.ref f) = true)
    (ok : ∀ base : Heap, ∀ (f : Addr) (fd : FuncData), Fun K "law" "law" st_law f fd → FnOk l.prog w K mg base CX0 n f fd ["script"] (spD K R)) :
    ∃ fd : FuncData, (∀ (s : Shared) (u : Value), BindsTo s fd ⟨[u], []⟩ [("script", u)]) ∧ ∀ base : Heap, K.In base → base.Ns mainGlobals mg → FnOk l.prog w K mg base CX0 n fa fd ["script"] (spD K R) := by
  have e := hfa.symm.trans (PySem.W.mg_of X G a)
  cases e
  have F := fun_mk (st := st_law) lk c k
  exact ⟨_, fun s u => .of_eq rfl, fun base _ _ => ok base _ _ F⟩
theorem walk {l : PySem.W.OpenLaw} {q : Program} {loose : List Str} {XP : (Str → Option Value) → Heap → Prop} {YP : World → Heap → Prop} {d : DefRec} {K : Params → PySem.W.Frag} {n : Nat} (hn : l.most = some 63) (hdf : d.params.defaults = []) (hr : Room n callerA)
    (hY : ∀ (w : World) (h : Heap), YP w h → (K w.params).In h)
    (F : ∀ (w : World) (mg : Str → Option Value) (fa : Addr) (h : Heap), (K w.params).In h → h.Ns mainGlobals mg → mg d.name = some (.ref fa) →
      ∃ fd : FuncData, (∀ (s : Shared) (u : Value), BindsTo s fd ⟨[u], []⟩ [("script", u)]) ∧ ∀ base : Heap, (K w.params).In base → base.Ns mainGlobals mg → FnOk l.prog w (K w.params) mg base CX0 n fa fd ["script"] (spD (K w.params) R_law)) :
    PySem.W.WalkO q loose XP YP l.row.toRowW d [] (fun f vs => PySem.call f vs) :=
  L2.walk_of (n := 63) (k := n) (x := "script") (CX := fun _ => CX0) (sp := fun w => spD (K w.params) R_law) hn (by decide) hdf hr hY F
    (fun _ H a ns hl _ hS => ⟨[dL ns], .bl true, .cons (.lst hS (.ints ns)) .nil, ⟨ns, rfl, rfl⟩, fun v H' _ hv => by cases hv; rfl⟩) fun _ _ _ _ _ z => z
theorem init_mk {K : PySem.W.Frag} {C f : Addr} {oc : Value} {od an : Option Addr} {osl : Array (Option Value)} {kV doc pm cdv ct : Value} (m : PySem.W.makesIn K C = true) (a : PySem.W.findIn K (.ref C) "__init__" = some (some (.ref f))) (i : PySem.W.isFn K (.ref f) = true) (kc : PySem.W.keepIn K (.ref C) = true)
    (l : K.lookup f = some ⟨oc, od, .func (PySem.W.fnOf "__init__" "Rules.__init__" (defArgs st_Rules___init__) (defBody st_Rules___init__) (defScope st_Rules___init__) .none kV doc pm an cdv ct), osl⟩) (c : PySem.W.codeIn K cdv "Rules.__init__" = true) (k : PySem.W.keepIn K (.ref f) = true) :
    ∃ fI fdI, Mk K C fI ∧ Fun K "__init__" "Rules.__init__" st_Rules___init__ fI fdI ∧ Binds K fdI ["self", "points", "games", "sets"] [] :=
  let F := fun_mk (st := st_Rules___init__) l c k
  ⟨f, _, ⟨m, a, i, kc⟩, F, F.binds fun _ _ _ _ _ _ us hl => match us, hl with | [_, _, _, _], _ => rfl⟩
theorem tx_mk {K : PySem.W.Frag} {h : Heap} {mg : Str → Option Value} {C an : Addr} {t1 t2 t3 t4 t5 t6 : Tok} {n : Nat} {sl : Array (Option Value)} (X : K.In h) (G : h.Ns mainGlobals mg)
    (aC : PySem.W.nsIn K mainGlobals "Rules" = some (some (.ref C))) (pg : PySem.W.plainGet K C Str.empty = true) (hd : PySem.W.hasDictIn K C = true) (po : PySem.W.plainOver K C = true) (sa : PySem.W.findIn K (.ref C) "__setattr__" = some (some (.builtin "object.__setattr__")))
    (n1 : PySem.W.findIn K (.ref C) "point_goal" = some none) (n2 : PySem.W.findIn K (.ref C) "game_goal" = some none) (n3 : PySem.W.findIn K (.ref C) "set_goal" = some none)
    (z1 : PySem.W.nsIn K mainGlobals "max" = some none) (z2 : PySem.W.nsIn K mainGlobals "min" = some none) (z3 : PySem.W.nsIn K mainGlobals "abs" = some none) (z4 : PySem.W.nsIn K mainGlobals "len" = some none) (z5 : PySem.W.nsIn K mainGlobals "range" = some none)
    (z6 : PySem.W.nsIn K mainGlobals "int" = some none) (z7 : PySem.W.nsIn K mainGlobals "bool" = some none) (z8 : PySem.W.nsIn K mainGlobals "list" = some none) (z9 : PySem.W.nsIn K mainGlobals "tuple" = some none) (z10 : PySem.W.nsIn K mainGlobals "isinstance" = some none)
    (c1 : PySem.W.nsIn K mainGlobals "LEAD" = some (some (.int 2 t1))) (c2 : PySem.W.nsIn K mainGlobals "MOST_POINTS" = some (some (.int 5 t2))) (c3 : PySem.W.nsIn K mainGlobals "MOST_GAMES" = some (some (.int 6 t3))) (c4 : PySem.W.nsIn K mainGlobals "MOST_SETS" = some (some (.int 3 t4)))
    (c5 : PySem.W.nsIn K mainGlobals "NOUGHT" = some (some (.ref an))) (c6 : K.lookup an = some ⟨.type "tuple", none, .seq #[.int 0 t5, .int 0 t6] n, sl⟩) : Tx K mg C where
  cl := ⟨pg, hd, po, sa⟩
  n1 := n1
  n2 := n2
  n3 := n3
  mgC := PySem.W.mg_of X G aC
  max := PySem.W.mg_none_of X G z1
  min := PySem.W.mg_none_of X G z2
  abs := PySem.W.mg_none_of X G z3
  len := PySem.W.mg_none_of X G z4
  range := PySem.W.mg_none_of X G z5
  int := PySem.W.mg_none_of X G z6
  bool := PySem.W.mg_none_of X G z7
  list := PySem.W.mg_none_of X G z8
  tuple := PySem.W.mg_none_of X G z9
  isi := PySem.W.mg_none_of X G z10
  lead := ⟨t1, PySem.W.mg_of X G c1⟩
  mp := ⟨t2, PySem.W.mg_of X G c2⟩
  mgm := ⟨t3, PySem.W.mg_of X G c3⟩
  ms := ⟨t4, PySem.W.mg_of X G c4⟩
  nought := ⟨an, PySem.W.mg_of X G c5, fun H => .tup (xs := [.int 0, .int 0]) (.inr ⟨_, _, _, c6, rfl, rfl, rfl, (by rw [sizeLine_eq]; show 2 ≤ 16777216; decide), .cons (a := V.int 0) ⟨_, rfl⟩ (.cons (a := V.int 0) ⟨_, rfl⟩ .nil)⟩) (.cons (.int 0) (.cons (.int 0) .nil))⟩
end
theorem errcls_of {K : PySem.W.Frag} {C : Addr} {Bn newId inN B nid initId : String} {bmN bmB : List Value} (q : PySem.W.excIn K C bmB newId = true) (Fn : ExcBaseFacts Bn newId inN bmN) (F : ExcBaseFacts B nid initId bmB) (hBn : bmB.contains (.type Bn) = true) : ErrCls K C := by
  refine ⟨fun h X => ?_⟩
  unfold PySem.W.excIn at q
  split at q
  case h_2 => cases q
  case h_1 dd cd sl lk =>
    split at q
    case h_2 => cases q
    case h_1 c2 bm k0 k1 k2 k3 nw k5 em es =>
      simp only [Bool.not_eq_true', beq_iff_eq, Bool.and_eq_true] at q
      obtain ⟨⟨⟨⟨⟨e1, e2⟩, e3⟩, e4⟩, e5⟩, e6⟩ := q
      cases cd with
      | mk nm bs mro ns qn hd sn sub ab col del =>
        dsimp only at em e3 e5 e6
        subst em; subst e3; subst e1; subst e2
        cases sl with
        | mk l =>
          have es' : l = [k0, k1, k2, k3, some (.builtin nw), k5] := es
          subst es'
          have tl := PySem.W.tail_of_in X e4
          exact ⟨nm, qn, ns, bs, bm, hd, sn, sub, ab, col, dd, k0, k1, k2, k3, k5, Bn, nw, inN, B, nid, initId, bmN, bmB, h.nsMap ns, Fn, hBn, F, tl.hasType F.hasBase, PySem.W.nsMap_none_of_in X e5 e6, X _ _ lk, .of_isNs (PySem.W.isNs_of_in X e5), tl⟩
theorem caught_mk {K : PySem.W.Frag} {C CE : Addr} {cd : ClassData} (ty : PySem.W.typeIn K (.ref CE) = some (.type "type")) (cl : PySem.W.clsIn K CE = some cd) (ba : PySem.W.mroIn K CE (.type "BaseException") = some true) (su : PySem.W.mroIn K C (.ref CE) = some true) : Caught K C CE :=
  ⟨ty, by rw [cl]; rfl, ba, su⟩
theorem excget_mk {K : PySem.W.Frag} {C : Addr} {cd : ClassData} (ga : PySem.W.findIn K (.ref C) "__getattribute__" = some (some (.builtin "BaseException.__getattribute__"))) (hk : PySem.W.findIn K (.ref C) "__getattr__" = some none)
    (ca : PySem.W.findIn K (.ref C) "__class__" = some (some (.builtin "object.__class__"))) (gt : PySem.W.specialIn K (.builtin "object.__class__") "__get__" = some (some (.builtin "getset_descriptor.__get__"))) (tk : PySem.W.takesIn K (.builtin "object.__class__") = some true)
    (mo : PySem.W.mroIn K C (.type "object") = some true) (mb : PySem.W.mroIn K C (.type "BaseException") = some true) (cs : PySem.W.clsIn K C = some cd) : ExcGet K C :=
  ⟨ga, hk, ca, gt, tk, mo, mb, by rw [cs]; rfl⟩
theorem trw_mk {K : PySem.W.Frag} {h : Heap} {mg : Str → Option Value} (X : K.In h) (G : h.Ns mainGlobals mg) (w1 : PySem.W.nsIn K mainGlobals "dict" = some none) (w2 : PySem.W.nsIn K mainGlobals "sum" = some none) (w3 : PySem.W.nsIn K mainGlobals "enumerate" = some none) (w4 : PySem.W.nsIn K mainGlobals "sorted" = some none) : Trw mg :=
  ⟨PySem.W.mg_none_of X G w1, PySem.W.mg_none_of X G w2, PySem.W.mg_none_of X G w3, PySem.W.mg_none_of X G w4⟩
theorem tn4_mk {K : PySem.W.Frag} {h : Heap} {mg : Str → Option Value} {CE c0 c1 c2 c3 c4 c5 : Addr} (X : K.In h) (G : h.Ns mainGlobals mg)
    (a0 : PySem.W.nsIn K mainGlobals "BadRules" = some (some (.ref c0))) (a1 : PySem.W.nsIn K mainGlobals "BadStanding" = some (some (.ref c1))) (a2 : PySem.W.nsIn K mainGlobals "Over" = some (some (.ref c2))) (a3 : PySem.W.nsIn K mainGlobals "BadPart" = some (some (.ref c3)))
    (a4 : PySem.W.nsIn K mainGlobals "NoSuch" = some (some (.ref c4))) (a5 : PySem.W.nsIn K mainGlobals "NoText" = some (some (.ref c5))) (aE : PySem.W.nsIn K mainGlobals "CourtError" = some (some (.ref CE))) (aV : PySem.W.nsIn K mainGlobals "ValueError" = some none)
    (ec : ErrCls K c4) (ca : Caught K c4 CE) (gt : ExcGet K c4)
    (k0 : PySem.W.kitOne K (.ref c4) (.ref c0) = some false) (k1 : PySem.W.kitOne K (.ref c4) (.ref c1) = some false) (k2 : PySem.W.kitOne K (.ref c4) (.ref c2) = some false) (k3 : PySem.W.kitOne K (.ref c4) (.ref c3) = some false)
    (k4 : PySem.W.kitOne K (.ref c4) (.ref c4) = some true) (k5 : PySem.W.kitOne K (.ref c4) (.ref c5) = some false) (kE : PySem.W.kitOne K (.ref c4) (.ref CE) = some true) (kV : PySem.W.kitOne K (.ref c4) (.type "ValueError") = some true)
    (eO : ErrCls K c2) (cO : Caught K c2 c2) : Tn4 K mg CE c0 c1 c2 c3 c4 c5 :=
  ⟨PySem.W.mg_of X G a0, PySem.W.mg_of X G a1, PySem.W.mg_of X G a2, PySem.W.mg_of X G a3, PySem.W.mg_of X G a4, PySem.W.mg_of X G a5, PySem.W.mg_of X G aE, PySem.W.mg_none_of X G aV, ec, ca, gt, k0, k1, k2, k3, k4, k5, kE, kV, eO, cO⟩
end Q
open PySem PySem.W PyProof.Rows
set_option maxRecDepth 100000 in
set_option maxHeartbeats 0 in
theorem PySem.Challenge.cw_courtscore_k08_whole_rows_counted_in_ord_holds : PySem.Challenge.rw_courtscore_k08_whole_rows_counted_in_ord.Holds := by
  w_on; o_law; k_head; (case hw => w_witness2)
  k_fill
  refine Q.walk (l := PySem.Challenge.rw_courtscore_k08_whole_rows_counted_in_ord) (n := 13) rfl rfl ⟨rfl, by decide, by decide⟩ (fun w h Y => PySem.W.kIn_of Y) ?F
  case F =>
    intro w mg fa h KX G hmg
    have T : ∃ C, Q.Tx (L2.KOf KX) mg C ∧ L3.HasM (L2.KOf KX) C "points" "Rules.points" Q.st_Rules_points ["self"] ∧ L3.HasM (L2.KOf KX) C "games" "Rules.games" Q.st_Rules_games ["self"] ∧ L3.HasM (L2.KOf KX) C "sets" "Rules.sets" Q.st_Rules_sets ["self"] ∧
        ∃ fI fdI, L2.Mk (L2.KOf KX) C fI ∧ L2.Fun (L2.KOf KX) "__init__" "Rules.__init__" Q.st_Rules___init__ fI fdI ∧ L2.Binds (L2.KOf KX) fdI ["self", "points", "games", "sets"] [] := by
      dsimp only [L2.KOf]
      refine' ⟨_, Q.tx_mk KX G ?aC ?pg ?hd ?po ?sa ?n1 ?n2 ?n3 ?z1 ?z2 ?z3 ?z4 ?z5 ?z6 ?z7 ?z8 ?z9 ?z10 ?c1 ?c2 ?c3 ?c4 ?c5 ?c6, L3.hasM_mk ?a1 ?i1 ?l1 ?d1 ?k1 ?b1, L3.hasM_mk ?a2 ?i2 ?l2 ?d2 ?k2 ?b2, L3.hasM_mk ?a3 ?i3 ?l3 ?d3 ?k3 ?b3, Q.init_mk ?m1 ?a4 ?i4 ?kc ?l4 ?d4 ?k4⟩
      (case aC => k_is); (case pg => k_is); (case hd => k_is); (case po => k_is); (case sa => k_is); (case n1 => k_is); (case n2 => k_is); (case n3 => k_is)
      (case z1 => k_is); (case z2 => k_is); (case z3 => k_is); (case z4 => k_is); (case z5 => k_is); (case z6 => k_is); (case z7 => k_is); (case z8 => k_is); (case z9 => k_is); (case z10 => k_is)
      (case c1 => k_is); (case c2 => k_is); (case c3 => k_is); (case c4 => k_is); (case c5 => k_is); (case c6 => k_is)
      (case a1 => k_is); (case i1 => k_is); (case l1 => k_is); (case d1 => k_is); (case k1 => k_is)
      (case a2 => k_is); (case i2 => k_is); (case l2 => k_is); (case d2 => k_is); (case k2 => k_is)
      (case a3 => k_is); (case i3 => k_is); (case l3 => k_is); (case d3 => k_is); (case k3 => k_is)
      (case m1 => k_is); (case a4 => k_is); (case i4 => k_is); (case kc => k_is); (case l4 => k_is); (case d4 => k_is); (case k4 => k_is)
      (case b1 => exact fun _ _ _ _ _ _ us hl => match us, hl with | [_], _ => rfl); (case b2 => exact fun _ _ _ _ _ _ us hl => match us, hl with | [_], _ => rfl); (case b3 => exact fun _ _ _ _ _ _ us hl => match us, hl with | [_], _ => rfl)
    obtain ⟨C, T, M1, M2, M3, fI, fdI, MK, FI, BI⟩ := T
    have Z : ∃ CE c0 c1 c2 c3 c4 c5, Q.Tn4 (L2.KOf KX) mg CE c0 c1 c2 c3 c4 c5 := by
      dsimp only [L2.KOf]
      refine' ⟨_, _, _, _, _, _, _, Q.tn4_mk KX G ?a0 ?a1 ?a2 ?a3 ?a4 ?a5 ?aE ?aV ?ec (Q.caught_mk ?p1 ?p2 ?p3 ?p4) (Q.excget_mk ?g1 ?g2 ?g3 ?g4 ?g5 ?g6 ?g7 ?g8) ?k0 ?k1 ?k2 ?k3 ?k4 ?k5 ?kE ?kV ?eo (Q.caught_mk ?q1 ?q2 ?q3 ?q4)⟩
      (case a0 => k_is); (case a1 => k_is); (case a2 => k_is); (case a3 => k_is); (case a4 => k_is); (case a5 => k_is); (case aE => k_is); (case aV => k_is)
      (case ec => first | exact Q.errcls_of (by k_exc) PySem.F.excBase_ValueError PySem.F.excBase_ValueError rfl | exact Q.errcls_of (by k_exc) PySem.F.excBase_Exception PySem.F.excBase_ValueError rfl)
      (case eo => first | exact Q.errcls_of (by k_exc) PySem.F.excBase_ValueError PySem.F.excBase_ValueError rfl | exact Q.errcls_of (by k_exc) PySem.F.excBase_Exception PySem.F.excBase_ValueError rfl)
      (case p1 => k_is); (case p2 => k_is); (case p3 => k_is); (case p4 => k_is)
      (case q1 => k_is); (case q2 => k_is); (case q3 => k_is); (case q4 => k_is)
      (case g1 => k_is); (case g2 => k_is); (case g3 => k_is); (case g4 => k_is); (case g5 => k_is); (case g6 => k_is); (case g7 => k_is); (case g8 => k_is)
      (case k0 => kit_is); (case k1 => kit_is); (case k2 => kit_is); (case k3 => kit_is); (case k4 => kit_is); (case k5 => kit_is); (case kE => kit_is); (case kV => kit_is)
    obtain ⟨CE, c0, c1, c2, c3, c4, c5, Z⟩ := Z
    have U : Q.Trw mg := by
      refine' Q.trw_mk KX G ?w1 ?w2 ?w3 ?w4
      (case w1 => k_is); (case w2 => k_is); (case w3 => k_is); (case w4 => k_is)
    have h_begin : L3.Has (L2.KOf KX) mg "begin" Q.st_begin [] := by
      dsimp only [L2.KOf]
      refine' L3.has_mk KX G ?a ?l ?c ?k ?b
      (case a => k_is); (case l => k_is); (case c => k_is); (case k => k_is); (case b => exact fun _ _ _ _ _ _ us hl => match us, hl with | [], _ => rfl)
    have h_winner : L3.Has (L2.KOf KX) mg "winner" Q.st_winner ["rules", "standing"] := by
      dsimp only [L2.KOf]
      refine' L3.has_mk KX G ?a ?l ?c ?k ?b
      (case a => k_is); (case l => k_is); (case c => k_is); (case k => k_is); (case b => exact fun _ _ _ _ _ _ us hl => match us, hl with | [_, _], _ => rfl)
    have h_after : L3.Has (L2.KOf KX) mg "after" Q.st_after ["rules", "standing", "who"] := by
      dsimp only [L2.KOf]
      refine' L3.has_mk KX G ?a ?l ?c ?k ?b
      (case a => k_is); (case l => k_is); (case c => k_is); (case k => k_is); (case b => exact fun _ _ _ _ _ _ us hl => match us, hl with | [_, _, _], _ => rfl)
    have h_played : L3.Has (L2.KOf KX) mg "played" Q.st_played ["rules", "row"] := by
      dsimp only [L2.KOf]
      refine' L3.has_mk KX G ?a ?l ?c ?k ?b
      (case a => k_is); (case l => k_is); (case c => k_is); (case k => k_is); (case b => exact fun _ _ _ _ _ _ us hl => match us, hl with | [_, _], _ => rfl)
    have h_one_more : L3.Has (L2.KOf KX) mg "one_more" Q.st_one_more ["pair", "who"] := by
      dsimp only [L2.KOf]
      refine' L3.has_mk KX G ?a ?l ?c ?k ?b
      (case a => k_is); (case l => k_is); (case c => k_is); (case k => k_is); (case b => exact fun _ _ _ _ _ _ us hl => match us, hl with | [_, _], _ => rfl)
    have h_is_won : L3.Has (L2.KOf KX) mg "is_won" Q.st_is_won ["pair", "goal", "lead"] := by
      dsimp only [L2.KOf]
      refine' L3.has_mk KX G ?a ?l ?c ?k ?b
      (case a => k_is); (case l => k_is); (case c => k_is); (case k => k_is); (case b => exact fun _ _ _ _ _ _ us hl => match us, hl with | [_, _, _], _ => rfl)
    have h_goes_on : L3.Has (L2.KOf KX) mg "goes_on" Q.st_goes_on ["pair", "goal"] := by
      dsimp only [L2.KOf]
      refine' L3.has_mk KX G ?a ?l ?c ?k ?b
      (case a => k_is); (case l => k_is); (case c => k_is); (case k => k_is); (case b => exact fun _ _ _ _ _ _ us hl => match us, hl with | [_, _], _ => rfl)
    have h_is_reached : L3.Has (L2.KOf KX) mg "is_reached" Q.st_is_reached ["rules", "standing"] := by
      dsimp only [L2.KOf]
      refine' L3.has_mk KX G ?a ?l ?c ?k ?b
      (case a => k_is); (case l => k_is); (case c => k_is); (case k => k_is); (case b => exact fun _ _ _ _ _ _ us hl => match us, hl with | [_, _], _ => rfl)
    have h_refuse_unreached : L3.Has (L2.KOf KX) mg "refuse_unreached" Q.st_refuse_unreached ["rules", "standing"] := by
      dsimp only [L2.KOf]
      refine' L3.has_mk KX G ?a ?l ?c ?k ?b
      (case a => k_is); (case l => k_is); (case c => k_is); (case k => k_is); (case b => exact fun _ _ _ _ _ _ us hl => match us, hl with | [_, _], _ => rfl)
    have h_refuse_beyond : L3.Has (L2.KOf KX) mg "refuse_beyond" Q.st_refuse_beyond ["what", "number", "most"] := by
      dsimp only [L2.KOf]
      refine' L3.has_mk KX G ?a ?l ?c ?k ?b
      (case a => k_is); (case l => k_is); (case c => k_is); (case k => k_is); (case b => exact fun _ _ _ _ _ _ us hl => match us, hl with | [_, _, _], _ => rfl)
    have h_many_rows : L3.Has (L2.KOf KX) mg "many_rows" Q.st_many_rows ["rules", "many"] := by
      dsimp only [L2.KOf]
      refine' L3.has_mk KX G ?a ?l ?c ?k ?b
      (case a => k_is); (case l => k_is); (case c => k_is); (case k => k_is); (case b => exact fun _ _ _ _ _ _ us hl => match us, hl with | [_, _], _ => rfl)
    have h_row_at : L3.Has (L2.KOf KX) mg "row_at" Q.st_row_at ["rules", "many", "number"] := by
      dsimp only [L2.KOf]
      refine' L3.has_mk KX G ?a ?l ?c ?k ?b
      (case a => k_is); (case l => k_is); (case c => k_is); (case k => k_is); (case b => exact fun _ _ _ _ _ _ us hl => match us, hl with | [_, _, _], _ => rfl)
    have h_number_of : L3.Has (L2.KOf KX) mg "number_of" Q.st_number_of ["rules", "row"] := by
      dsimp only [L2.KOf]
      refine' L3.has_mk KX G ?a ?l ?c ?k ?b
      (case a => k_is); (case l => k_is); (case c => k_is); (case k => k_is); (case b => exact fun _ _ _ _ _ _ us hl => match us, hl with | [_, _], _ => rfl)
    have h_refuse_no_end : L3.Has (L2.KOf KX) mg "refuse_no_end" Q.st_refuse_no_end ["rules", "row"] := by
      dsimp only [L2.KOf]
      refine' L3.has_mk KX G ?a ?l ?c ?k ?b
      (case a => k_is); (case l => k_is); (case c => k_is); (case k => k_is); (case b => exact fun _ _ _ _ _ _ us hl => match us, hl with | [_, _], _ => rfl)
    have h_ways_to_end : L3.Has (L2.KOf KX) mg "ways_to_end" Q.st_ways_to_end ["rules", "many"] := by
      dsimp only [L2.KOf]
      refine' L3.has_mk KX G ?a ?l ?c ?k ?b
      (case a => k_is); (case l => k_is); (case c => k_is); (case k => k_is); (case b => exact fun _ _ _ _ _ _ us hl => match us, hl with | [_, _], _ => rfl)
    have h_steps_from_begin : L3.Has (L2.KOf KX) mg "steps_from_begin" Q.st_steps_from_begin ["rules", "many"] := by
      dsimp only [L2.KOf]
      refine' L3.has_mk KX G ?a ?l ?c ?k ?b
      (case a => k_is); (case l => k_is); (case c => k_is); (case k => k_is); (case b => exact fun _ _ _ _ _ _ us hl => match us, hl with | [_, _], _ => rfl)
    have h_standings_behind : L3.Has (L2.KOf KX) mg "standings_behind" Q.st_standings_behind ["rules", "standing"] := by
      dsimp only [L2.KOf]
      refine' L3.has_mk KX G ?a ?l ?c ?k ?b
      (case a => k_is); (case l => k_is); (case c => k_is); (case k => k_is); (case b => exact fun _ _ _ _ _ _ us hl => match us, hl with | [_, _], _ => rfl)
    have h_behind : L3.Has (L2.KOf KX) mg "behind" Q.st_behind ["rules", "standing", "who"] := by
      dsimp only [L2.KOf]
      refine' L3.has_mk KX G ?a ?l ?c ?k ?b
      (case a => k_is); (case l => k_is); (case c => k_is); (case k => k_is); (case b => exact fun _ _ _ _ _ _ us hl => match us, hl with | [_, _, _], _ => rfl)
    have h_lowered : L3.Has (L2.KOf KX) mg "lowered" Q.st_lowered ["pair", "goal"] := by
      dsimp only [L2.KOf]
      refine' L3.has_mk KX G ?a ?l ?c ?k ?b
      (case a => k_is); (case l => k_is); (case c => k_is); (case k => k_is); (case b => exact fun _ _ _ _ _ _ us hl => match us, hl with | [_, _], _ => rfl)
    have h__law_cell_at : L3.Has (L2.KOf KX) mg "_law_cell_at" Q.st__law_cell_at ["script", "k"] := by
      dsimp only [L2.KOf]
      refine' L3.has_mk KX G ?a ?l ?c ?k ?b
      (case a => k_is); (case l => k_is); (case c => k_is); (case k => k_is); (case b => exact fun _ _ _ _ _ _ us hl => match us, hl with | [_, _], _ => rfl)
    have h__law_draw : L3.Has (L2.KOf KX) mg "_law_draw" Q.st__law_draw ["script", "k"] := by
      dsimp only [L2.KOf]
      refine' L3.has_mk KX G ?a ?l ?c ?k ?b
      (case a => k_is); (case l => k_is); (case c => k_is); (case k => k_is); (case b => exact fun _ _ _ _ _ _ us hl => match us, hl with | [_, _], _ => rfl)
    have h__law_whole : L3.Has (L2.KOf KX) mg "_law_whole" Q.st__law_whole ["found"] := by
      dsimp only [L2.KOf]
      refine' L3.has_mk KX G ?a ?l ?c ?k ?b
      (case a => k_is); (case l => k_is); (case c => k_is); (case k => k_is); (case b => exact fun _ _ _ _ _ _ us hl => match us, hl with | [_], _ => rfl)
    have h__law_made : L3.Has (L2.KOf KX) mg "_law_made" Q.st__law_made ["wanted"] := by
      dsimp only [L2.KOf]
      refine' L3.has_mk KX G ?a ?l ?c ?k ?b
      (case a => k_is); (case l => k_is); (case c => k_is); (case k => k_is); (case b => exact fun _ _ _ _ _ _ us hl => match us, hl with | [_], _ => rfl)
    have h__law_ahead : L3.Has (L2.KOf KX) mg "_law_ahead" Q.st__law_ahead ["pair", "wanted"] := by
      dsimp only [L2.KOf]
      refine' L3.has_mk KX G ?a ?l ?c ?k ?b
      (case a => k_is); (case l => k_is); (case c => k_is); (case k => k_is); (case b => exact fun _ _ _ _ _ _ us hl => match us, hl with | [_, _], _ => rfl)
    have h__law_more : L3.Has (L2.KOf KX) mg "_law_more" Q.st__law_more ["pair", "who"] := by
      dsimp only [L2.KOf]
      refine' L3.has_mk KX G ?a ?l ?c ?k ?b
      (case a => k_is); (case l => k_is); (case c => k_is); (case k => k_is); (case b => exact fun _ _ _ _ _ _ us hl => match us, hl with | [_, _], _ => rfl)
    have h__law_over : L3.Has (L2.KOf KX) mg "_law_over" Q.st__law_over ["wanted", "standing"] := by
      dsimp only [L2.KOf]
      refine' L3.has_mk KX G ?a ?l ?c ?k ?b
      (case a => k_is); (case l => k_is); (case c => k_is); (case k => k_is); (case b => exact fun _ _ _ _ _ _ us hl => match us, hl with | [_, _], _ => rfl)
    have h__law_after : L3.Has (L2.KOf KX) mg "_law_after" Q.st__law_after ["wanted", "standing", "who"] := by
      dsimp only [L2.KOf]
      refine' L3.has_mk KX G ?a ?l ?c ?k ?b
      (case a => k_is); (case l => k_is); (case c => k_is); (case k => k_is); (case b => exact fun _ _ _ _ _ _ us hl => match us, hl with | [_, _, _], _ => rfl)
    have h__law_all_rows : L3.Has (L2.KOf KX) mg "_law_all_rows" Q.st__law_all_rows ["wanted", "many"] := by
      dsimp only [L2.KOf]
      refine' L3.has_mk KX G ?a ?l ?c ?k ?b
      (case a => k_is); (case l => k_is); (case c => k_is); (case k => k_is); (case b => exact fun _ _ _ _ _ _ us hl => match us, hl with | [_, _], _ => rfl)
    have h__law_alone : L3.Has (L2.KOf KX) mg "_law_alone" Q.st__law_alone ["e"] := by
      dsimp only [L2.KOf]
      refine' L3.has_mk KX G ?a ?l ?c ?k ?b
      (case a => k_is); (case l => k_is); (case c => k_is); (case k => k_is); (case b => exact fun _ _ _ _ _ _ us hl => match us, hl with | [_], _ => rfl)
    have h__law_refused : L3.Has (L2.KOf KX) mg "_law_refused" Q.st__law_refused ["call", "rules", "many", "what"] := by
      dsimp only [L2.KOf]
      refine' L3.has_mk KX G ?a ?l ?c ?k ?b
      (case a => k_is); (case l => k_is); (case c => k_is); (case k => k_is); (case b => exact fun _ _ _ _ _ _ us hl => match us, hl with | [_, _, _, _], _ => rfl)
    have main : ∀ base : PySem.Heap, ∀ (f : PySem.Addr) (fd : PySem.FuncData), L2.Fun (L2.KOf KX) "law" "law" Q.st_law f fd → L2.FnOk PySem.Challenge.rw_courtscore_k08_whole_rows_counted_in_ord.prog w (L2.KOf KX) mg base L2.CX0 13 f fd ["script"] (L3.spD (L2.KOf KX) Q.R_law) := by
      intro base f fd F
      have d1 := Q.ok_points (P := PySem.Challenge.rw_courtscore_k08_whole_rows_counted_in_ord.prog) (w := w) (base := base) T M1
      have d2 := Q.ok_games (P := PySem.Challenge.rw_courtscore_k08_whole_rows_counted_in_ord.prog) (w := w) (base := base) T M2
      have d3 := Q.ok_sets (P := PySem.Challenge.rw_courtscore_k08_whole_rows_counted_in_ord.prog) (w := w) (base := base) T M3
      have dOne := Q.ok_one_more (P := PySem.Challenge.rw_courtscore_k08_whole_rows_counted_in_ord.prog) (w := w) (base := base) h_one_more
      have dWon := Q.ok_is_won (P := PySem.Challenge.rw_courtscore_k08_whole_rows_counted_in_ord.prog) (w := w) (base := base) T h_is_won
      have dOn := Q.ok_goes_on T dWon h_goes_on
      have dBey := Q.ok_refuse_beyond (P := PySem.Challenge.rw_courtscore_k08_whole_rows_counted_in_ord.prog) (w := w) (base := base) h_refuse_beyond
      have dInit := Q.ok_Rules T dBey MK FI BI
      have dRea := Q.ok_is_reached T d1 d2 d3 dOn h_is_reached
      have dRef := Q.ok_refuse_unreached dRea h_refuse_unreached
      have dWin := Q.ok_winner T d3 dRef h_winner
      have dAft := Q.ok_after T d1 d2 dWin dOne dWon h_after
      have dBeg := Q.ok_begin (P := PySem.Challenge.rw_courtscore_k08_whole_rows_counted_in_ord.prog) (w := w) (base := base) T h_begin
      have dPla := Q.ok_played dBeg dAft h_played
      have lCell := Q.ok_cell (P := PySem.Challenge.rw_courtscore_k08_whole_rows_counted_in_ord.prog) (w := w) (base := base) T h__law_cell_at
      have lDraw := Q.ok_draw T lCell h__law_draw
      have lWhole := Q.ok_whole (P := PySem.Challenge.rw_courtscore_k08_whole_rows_counted_in_ord.prog) (w := w) (base := base) T h__law_whole
      have lMade := Q.ok_made dInit h__law_made
      have lAhead := Q.ok_ahead (P := PySem.Challenge.rw_courtscore_k08_whole_rows_counted_in_ord.prog) (w := w) (base := base) T h__law_ahead
      have lMore := Q.ok_more (P := PySem.Challenge.rw_courtscore_k08_whole_rows_counted_in_ord.prog) (w := w) (base := base) T h__law_more
      have lOver := Q.ok_over (P := PySem.Challenge.rw_courtscore_k08_whole_rows_counted_in_ord.prog) (w := w) (base := base) T h__law_over
      have lAft := Q.ok_aft lMore lAhead h__law_after
      have dLow := Q.ok_lowered (P := PySem.Challenge.rw_courtscore_k08_whole_rows_counted_in_ord.prog) (w := w) (base := base) T h_lowered
      have dBeh := Q.ok_behind T d1 d2 dAft dLow h_behind
      have dSb := Q.ok_sbehind dWin dBeh h_standings_behind
      have dSt := Q.ok_steps T dBeg dSb h_steps_from_begin
      have dWays := Q.ok_ways T U dWin dSt h_ways_to_end
      have dMany := Q.ok_many dBeg dWays h_many_rows
      have dRow := Q.ok_row T dBeg dBeh dWays h_row_at
      have dNo := Q.ok_noend dPla dWin h_refuse_no_end
      have dNum := Q.ok_num T U dBeg dBeh dNo dWays h_number_of
      have xAftS := Q.ex_afterS Z.eO Z.m2 dWin h_after
      have xPlaS := Q.ex_playedS dBeg dAft xAftS h_played
      have xNo := Q.ex_noend Z.cO Z.m2 Z.ec Z.m4 dPla xPlaS dWin h_refuse_no_end
      have xRow := Q.ex_row Z.ec Z.m4 dBeg dWays h_row_at
      have xNum := Q.ex_num xNo h_number_of
      have lAl := Q.ok_alone (P := PySem.Challenge.rw_courtscore_k08_whole_rows_counted_in_ord.prog) (w := w) (base := base) T Z h__law_alone
      have lRef := Q.ok_refused T Z xRow xNum lAl h__law_refused
      have lAll := Q.ok_all T lOver lAft h__law_all_rows
      exact Q.ok_law T lMade lDraw lWhole lAll lRef dMany dRow dNum F
    refine' Q.law_mk KX G hmg ?a ?l ?c ?k main
    (case a => k_is); (case l => k_is); (case c => k_is); (case k => k_is)
