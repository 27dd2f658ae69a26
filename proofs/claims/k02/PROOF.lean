import PyProof.Rows.All
import Wide.All
import OpenK.AllK
import Wide.FinOn
import PySem.Challenge.RW_courtscore_k02_rules_and_standings_refus
import Lean
import PyProof.EqAt
import PyProof.EqKinds
import PyProof.TupleCall
import PyProof.NeData
import KE.IntBitsLaws
set_option Elab.async false
set_option linter.all false
set_option maxRecDepth 100000
def PySem.W.Fast.tw17658336195162961206 : Unit := ()
def PySem.W.Fast.tw14008035530075626257 : Unit := ()
def PySem.W.Fast.tw12371296507465294236 : Unit := ()
def PySem.W.Fast.tw15447316614938352173 : Unit := ()
def PySem.W.Fast.tw18190119448480483436 : Unit := ()
def PySem.W.Fast.tw10246815473614042411 : Unit := ()
def PySem.W.Fast.tw10643759919789230140 : Unit := ()
def PySem.W.Fast.tw13376453125668701679 : Unit := ()
def PySem.W.Fast.tw17581644250298652675 : Unit := ()
def PySem.W.Fast.tw2743996377170671559 : Unit := ()
def PySem.W.Fast.tw1368368157982689845 : Unit := ()
def PySem.W.Fast.tw6980528467442160899 : Unit := ()
def PySem.W.Fast.tw4143446204427576434 : Unit := ()
def PySem.W.Fast.tw3981045580694105034 : Unit := ()
def PySem.W.Fast.tw5504008818453267868 : Unit := ()
def PySem.W.Fast.tw12757352295945595756 : Unit := ()
def PySem.W.Fast.tw12121653133104216650 : Unit := ()
def PySem.W.Fast.tw16213117274841924889 : Unit := ()
def PySem.W.Fast.tw7925276969156265822 : Unit := ()
def PySem.W.Fast.tw4817128076281226263 : Unit := ()
def PySem.W.Fast.tw10879040064671860572 : Unit := ()
def PySem.W.Fast.tw7062977783848009398 : Unit := ()
def PySem.W.Fast.tw327106247173246366 : Unit := ()
def PySem.W.Fast.tw13893033788680790735 : Unit := ()
def PySem.W.Fast.tw8914311545305710725 : Unit := ()
def PySem.W.Fast.tw16534834572819052140 : Unit := ()
def PySem.W.Fast.tw12262691969782267373 : Unit := ()
def PySem.W.Fast.tw17957748771313123582 : Unit := ()
def PySem.W.Fast.tw8048905890421021820 : Unit := ()
namespace L2
open PySem PySem.Spec PyProof.Rows
abbrev Key := Sum Int Str
def keyIs : Key → Value → Bool
  | .inl k, v => Value.isInt k v
  | .inr x, v => Value.isStrOf x v
def keyH (w : World) : Key → Int
  | .inl k => hashInt k
  | .inr x => hashStr w x
theorem keyIs_shape : ∀ {k : Key} {v : Value}, keyIs k v = true → (∃ i t, k = Sum.inl i ∧ v = Value.int i t) ∨ (∃ x t, k = Sum.inr x ∧ v = Value.str x t)
  | .inl i, v, h => by
    obtain ⟨t, e⟩ := Value.isInt_shape (k := i) (v := v) h
    exact .inl ⟨i, t, rfl, e⟩
  | .inr x, v, h => by
    obtain ⟨t, e⟩ := Value.isStrOf_shape (x := x) (v := v) h
    exact .inr ⟨x, t, rfl, e⟩
theorem keyIs_int (i : Int) (t : Tok) : keyIs (.inl i) (.int i t) = true := by simp [keyIs, Value.isInt]
theorem keyIs_str (x : Str) (t : Tok) : keyIs (.inr x) (.str x t) = true := by simp [keyIs, Value.isStrOf]
theorem key_ll (a b : Int) : decide ((Sum.inl a : Key) = Sum.inl b) = (a == b) := by
  by_cases e : a = b
  · subst e; simp
  · have h : ¬ (Sum.inl a : Key) = Sum.inl b := fun q => e (Sum.inl.inj q)
    rw [decide_eq_false h]
    exact (beq_eq_false_iff_ne.mpr e).symm
theorem key_rr (a b : Str) : decide ((Sum.inr a : Key) = Sum.inr b) = decide (a = b) := by
  by_cases e : a = b
  · subst e; simp
  · have h : ¬ (Sum.inr a : Key) = Sum.inr b := fun q => e (Sum.inr.inj q)
    rw [decide_eq_false h, decide_eq_false e]
theorem key_lr (a : Int) (b : Str) : decide ((Sum.inl a : Key) = Sum.inr b) = false := decide_eq_false (fun q => nomatch q)
theorem key_rl (a : Str) (b : Int) : decide ((Sum.inr a : Key) = Sum.inl b) = false := decide_eq_false (fun q => nomatch q)
def mixKind (prog : Program) (w : World) : PySem.KeyKind prog w Key where
  is := keyIs
  hash := keyH w
  inj := fun v a b ha hb => by
    rcases keyIs_shape ha with ⟨i, t, rfl, rfl⟩ | ⟨x, t, rfl, rfl⟩
    · rcases keyIs_shape hb with ⟨j, u, rfl, e⟩ | ⟨y, u, rfl, e⟩
      · injection e with e1 _; rw [e1]
      · exact nomatch e
    · rcases keyIs_shape hb with ⟨j, u, rfl, e⟩ | ⟨y, u, rfl, e⟩
      · exact nomatch e
      · injection e with e1 _; rw [e1]
  byValue := fun k v h => by
    rcases keyIs_shape h with ⟨i, t, rfl, rfl⟩ | ⟨x, t, rfl, rfl⟩ <;> rfl
  pyHash := fun hv h => by
    rcases keyIs_shape hv with ⟨i, t, rfl, rfl⟩ | ⟨x, t, rfl, rfl⟩
    · exact wpAny_pyHash_int h
    · exact wpAny_pyHash_str h
  eqBool := fun hu hv h => by
    rcases keyIs_shape hu with ⟨i, t, rfl, rfl⟩ | ⟨x, t, rfl, rfl⟩
    · rcases keyIs_shape hv with ⟨j, u, rfl, rfl⟩ | ⟨y, u, rfl, rfl⟩
      · rw [key_ll] at h; exact wpAny_eqBool_int h
      · rw [key_lr] at h; exact SeqAt.EqAt.int_str i t y u _ _ _ _ h
    · rcases keyIs_shape hv with ⟨j, u, rfl, rfl⟩ | ⟨y, u, rfl, rfl⟩
      · rw [key_rl] at h; exact SeqAt.EqAt.str_int x t j u _ _ _ _ h
      · rw [key_rr] at h; exact wpAny_eqBool_str h
  «strs» := fun k x t v h => by
    rcases keyIs_shape h with ⟨i, u, rfl, e⟩ | ⟨y, u, rfl, e⟩
    · exact nomatch e
    · injection e with e1 _
      subst e1
      cases v <;> rfl
theorem mixKind_int (prog : Program) (w : World) (i : Int) (t : Tok) : (mixKind prog w).is (.inl i) (.int i t) = true := keyIs_int i t
theorem mixKind_str (prog : Program) (w : World) (x : Str) (t : Tok) : (mixKind prog w).is (.inr x) (.str x t) = true := keyIs_str x t
end L2
namespace L2
open PySem PySem.Spec PyProof.Rows
inductive V where
  | non | bl (b : Bool) | int (i : Int) | str (x : Str) | byt (b : Array UInt8) | flt (b : UInt64) | ref (a : Addr) | ty (n : String)
  deriving DecidableEq
def RelV : V → Value → Prop
  | .non, u => u = Value.none
  | .bl b, u => u = Value.bool b
  | .int i, u => ∃ t, u = Value.int i t
  | .str x, u => ∃ t, u = Value.str x t
  | .byt b, u => ∃ t, u = Value.bytes b t
  | .flt b, u => ∃ t, u = Value.float b t
  | .ref a, u => u = Value.ref a
  | .ty n, u => u = Value.type n
abbrev Vals : List V → List Value → Prop := Paired RelV
theorem Vals.length {xs : List V} {us : List Value} (r : Vals xs us) : xs.length = us.length := Paired.length r
theorem Vals.get : ∀ {xs : List V} {us : List Value} {i : Nat} {x : V}, Vals xs us → xs[i]? = some x → ∃ u, us[i]? = some u ∧ RelV x u
  | _, _, _, _, .nil, e => by simp at e
  | _, _, 0, _, .cons r _, e => by simp at e; subst e; exact ⟨_, rfl, r⟩
  | _, _, i + 1, x, .cons _ t, e => by
    obtain ⟨u, h1, h2⟩ := Vals.get (i := i) (x := x) t (by simpa using e)
    exact ⟨u, by simpa using h1, h2⟩
theorem Vals.set {x : V} {u : Value} (r : RelV x u) : ∀ {xs : List V} {us : List Value} (i : Nat), Vals xs us → Vals (xs.set i x) (us.set i u)
  | _, _, _, .nil => .nil
  | _, _, 0, .cons _ t => .cons r t
  | _, _, i + 1, .cons q t => .cons q (Vals.set r i t)
theorem Vals.append : ∀ {xs ys : List V} {us ws : List Value}, Vals xs us → Vals ys ws → Vals (xs ++ ys) (us ++ ws)
  | _, _, _, _, .nil, s => s
  | _, _, _, _, .cons r t, s => .cons r (Vals.append t s)
theorem Vals.take : ∀ {xs : List V} {us : List Value} (n : Nat), Vals xs us → Vals (xs.take n) (us.take n)
  | _, _, 0, _ => .nil
  | _, _, _ + 1, .nil => .nil
  | _, _, n + 1, .cons r t => .cons r (Vals.take n t)
theorem Vals.drop : ∀ {xs : List V} {us : List Value} (n : Nat), Vals xs us → Vals (xs.drop n) (us.drop n)
  | _, _, 0, r => r
  | _, _, _ + 1, .nil => .nil
  | _, _, n + 1, .cons _ t => Vals.drop n t
theorem Vals.none_of : ∀ {xs : List V} {us : List Value} {i : Nat}, Vals xs us → xs[i]? = none → us[i]? = none := fun {xs us i} r e => by
  have h1 := r.length
  have h2 : xs.length ≤ i := List.getElem?_eq_none_iff.mp e
  exact List.getElem?_eq_none_iff.mpr (by omega)
def RelO : Option V → Option Value → Prop
  | some v, some u => RelV v u
  | none, none => True
  | _, _ => False
def KV {κ : Type} : List (κ × V) → List (κ × Value) → Prop := Paired fun (p : κ × V) (q : κ × Value) => p.1 = q.1 ∧ RelV p.2 q.2
def kV : Key → V
  | .inl i => .int i
  | .inr x => .str x
inductive HO where
    | lst (xs : List V)
    | tup (xs : List V)
    | dK (kvs : List (Key × V)) | dT (kvs : List (List Key × V))
    | set (S : Int → Bool) (n : Nat)
    | ins (C dx : Addr) (fs : List (Str × V))
    | own (x : Addr)
    | xd (fs : List (Str × V))
    | met (f x : Addr)
    | rng (lo hi : Int)
    | frz (o : Obj) (u : HO)
    | tbl (ps : Array Value)
    | ext (φ : Heap → Prop)
def TupO (h : Heap) (a : Addr) (items : Array Value) : Prop := ∃ o, h.get? a = some o ∧ o.cls = .type "tuple" ∧ o.dict = none ∧ ∃ n, o.data = .seq items n
theorem TupO.tup {h : Heap} {a : Addr} {items : Array Value} (x : TupO h a items) : IsTup h a items := let ⟨o, e, c, _, d⟩ := x; ⟨o, e, c, d⟩
theorem TupO.new (h : Heap) (items : Array Value) : TupO (h.push { cls := .type "tuple", data := .seq items }) h.objs.size items := ⟨_, Heap.get?_push_size _ rfl, rfl, rfl, _, rfl⟩
abbrev Hp := Addr → Option HO
def upd (H : Hp) (a : Addr) (o : HO) : Hp := fun b => if b = a then some o else H b
theorem upd_same {H : Hp} {a : Addr} {o : HO} : upd H a o a = some o := by unfold upd; rw [if_pos rfl]
theorem upd_ne {H : Hp} {a b : Addr} {o : HO} (h : b ≠ a) : upd H a o b = H b := by unfold upd; rw [if_neg h]
theorem ne_of {H : Hp} {a b : Addr} {o u : HO} (h : H a = some o) (h' : H b = some u) (d : o ≠ u) : a ≠ b := by
  intro e; subst e; rw [h] at h'; exact d (Option.some.inj h')
theorem ne_of_none {H : Hp} {a b : Addr} {o : HO} (h : H a = some o) (h' : H b = none) : a ≠ b := by
  intro e; subst e; rw [h] at h'; cases h'
section
variable (P : Program) (w : World)
def ObjOk (H : Hp) (h : Heap) (a : Addr) : HO → Prop
  | .lst xs => xs.length ≤ sizeLine ∧ ∃ (its : List Value) (n : Nat), Vals xs its ∧ h.get? a = some { cls := .type "list", data := .seq its.toArray n }
  | .tup xs => xs.length ≤ sizeLine ∧ ∃ its : List Value, Vals xs its ∧ TupO h a its.toArray
  | .dK kvs => kvs.length ≤ sizeLine ∧ (a == sysModules) = false ∧ ∃ vs, KV kvs vs ∧ h.DictOf (mixKind P w) a vs
  | .dT kvs => kvs.length ≤ sizeLine ∧ (a == sysModules) = false ∧ ∃ xs : List (List Key × Addr × Value),
      Paired (fun (p : List Key × V) (q : List Key × Addr × Value) => p.1 = q.1 ∧ H q.2.1 = some (.tup (p.1.map kV)) ∧ RelV p.2 q.2.2) kvs xs ∧
      ∃ o es ep, h.get? a = some o ∧ o.ExactDict ∧ o.data = .dict es ep ∧ es.toList = xs.map (entryOfKey (tupleKind (mixKind P w))) ∧ (xs.map (·.1)).Nodup
  | .set S n => h.SetOf (intKind P w) a S n
  | .ins C dx fs => H dx = some (.own a) ∧ fs.length ≤ 1000 ∧ dx ≠ a ∧ h.get? a = some (PySem.W.instObj C dx) ∧
      ∃ mA, h.Ns1 dx mA ∧ (∀ f, RelO (fs.lookup f) (mA f)) ∧ PySem.Within mA (fs.map (·.1))
  | .own _ => ∃ o, h.get? a = some o
  | .xd fs => ∃ mA, h.Ns1 a mA ∧ ∀ f, RelO (fs.lookup f) (mA f)
  | .rng lo hi => ∃ t u v, h.get? a = some { cls := .type "range", data := .fields #[.int lo t, .int hi u, .int 1 v] }
  | .frz o u => h.get? a = some o ∧ ObjOk H h a u
  | .tbl ps => h.get? a = some { cls := .none, data := .fields ps }
  | .met f x => h.get? a = some (PySem.W.methodObj (.ref f) (.ref x))
  | .ext φ => φ h ∧ (∃ o, h.get? a = some o) ∧ ∀ h1 h2 : Heap, φ h1 → (∀ o, h1.get? a = some o → h2.get? a = some o) → φ h2
def HOk (H : Hp) (h : Heap) : Prop := ∀ a o, H a = some o → ObjOk P w H h a o
end
section
variable {P : Program} {w : World} {H H' : Hp} {h h' : Heap} {a : Addr} {o : HO}
theorem ObjOk.lt (x : ObjOk P w H h a o) : a < h.objs.size := by
  cases o with
  | lst xs => obtain ⟨_, _, _, _, e⟩ := x; exact Heap.lt_size e
  | tup xs => obtain ⟨_, _, _, p⟩ := x; exact p.tup.lt
  | dK kvs => obtain ⟨_, _, _, _, o, _, _, e, _⟩ := x; exact Heap.lt_size e
  | dT kvs => obtain ⟨_, _, _, _, o, _, _, e, _⟩ := x; exact Heap.lt_size e
  | set S n => obtain ⟨o, _, _, _, e, _⟩ := x; exact Heap.lt_size e
  | ins C dx fs => obtain ⟨_, _, _, e, _⟩ := x; exact Heap.lt_size e
  | own y => obtain ⟨_, e⟩ := x; exact Heap.lt_size e
  | xd fs => obtain ⟨_, ⟨_, _, _, e, _⟩, _⟩ := x; exact Heap.lt_size e
  | rng lo hi => obtain ⟨_, _, _, e⟩ := x; exact Heap.lt_size e
  | frz ob u => obtain ⟨e, _⟩ := x; exact Heap.lt_size e
  | tbl ps => exact Heap.lt_size (show h.get? a = some _ from x)
  | met f y => exact Heap.lt_size (show h.get? a = some _ from x)
  | ext φ => obtain ⟨_, ⟨_, e⟩, _⟩ := x; exact Heap.lt_size e
theorem Paired.mapP {α β : Type} {F G : α → β → Prop} : ∀ {l₁ : List α} {l₂ : List β}, Paired F l₁ l₂ → (∀ a b, F a b → G a b) → Paired G l₁ l₂
  | _, _, .nil, _ => .nil
  | _, _, .cons r t, f => .cons (f _ _ r) (Paired.mapP t f)
theorem ObjOk.stay (x : ObjOk P w H h a o) (k : ∀ b u, (b = a ∨ H b = some (.own a)) → h.get? b = some u → h'.get? b = some u)
    (ho : ∀ b, H b = some (.own a) → H' b = some (.own a)) (ht : ∀ b xs, H b = some (.tup xs) → H' b = some (.tup xs)) : ObjOk P w H' h' a o := by
  induction o with
  | lst xs => obtain ⟨z, its, n, r, e⟩ := x; exact ⟨z, its, n, r, k _ _ (.inl rfl) e⟩
  | tup xs => obtain ⟨z, its, r, ob, e, c⟩ := x; exact ⟨z, its, r, ob, k _ _ (.inl rfl) e, c⟩
  | dK kvs => obtain ⟨z, y, vs, r, ob, es, ep, e, c⟩ := x; exact ⟨z, y, vs, r, ob, es, ep, k _ _ (.inl rfl) e, c⟩
  | dT kvs =>
    obtain ⟨z, y, xs, r, ob, es, ep, e, c⟩ := x
    exact ⟨z, y, xs, Paired.mapP r fun p q z => ⟨z.1, ht _ _ z.2.1, z.2.2⟩, ob, es, ep, k _ _ (.inl rfl) e, c⟩
  | set S n => obtain ⟨ob, es, ep, t, e, c⟩ := x; exact ⟨ob, es, ep, t, k _ _ (.inl rfl) e, c⟩
  | ins C dx fs =>
    obtain ⟨d, z, ne, e, mA, ⟨od, es, ep, e2, c⟩, r⟩ := x
    exact ⟨ho _ d, z, ne, k _ _ (.inl rfl) e, mA, ⟨od, es, ep, k _ _ (.inr d) e2, c⟩, r⟩
  | own y => obtain ⟨ob, e⟩ := x; exact ⟨ob, k _ _ (.inl rfl) e⟩
  | xd fs => obtain ⟨mA, ⟨od, es, ep, e, c⟩, r⟩ := x; exact ⟨mA, ⟨od, es, ep, k _ _ (.inl rfl) e, c⟩, r⟩
  | rng lo hi => obtain ⟨t, u, v, e⟩ := x; exact ⟨t, u, v, k _ _ (.inl rfl) e⟩
  | frz ob u ih => obtain ⟨e, q⟩ := x; exact ⟨k _ _ (.inl rfl) e, ih q⟩
  | tbl ps =>
    have e : h.get? a = some { cls := .none, data := .fields ps } := x
    show h'.get? a = some { cls := .none, data := .fields ps }
    exact k a _ (.inl rfl) e
  | met f y =>
    have e : h.get? a = some (PySem.W.methodObj (.ref f) (.ref y)) := x
    show h'.get? a = some (PySem.W.methodObj (.ref f) (.ref y))
    exact k a _ (.inl rfl) e
  | ext φ => obtain ⟨p, ⟨o, e⟩, st⟩ := x; exact ⟨st _ _ p fun o q => k _ _ (.inl rfl) q, ⟨o, k _ _ (.inl rfl) e⟩, st⟩
theorem HOk.lt (x : HOk P w H h) (e : H a = some o) : a < h.objs.size := (x a o e).lt
theorem HOk.fresh (x : HOk P w H h) (e : h.objs.size ≤ a) : H a = none := by
  cases q : H a with
  | none => rfl
  | some u => exact absurd (Nat.lt_of_lt_of_le (x.lt q) e) (Nat.lt_irrefl _)
theorem HOk.kept (x : HOk P w H h) (k : ∀ b u, h.get? b = some u → h'.get? b = some u) : HOk P w H h' := fun a o e =>
  (x a o e).stay (fun b u _ q => k b u q) (fun _ q => q) fun _ _ q => q
theorem HOk.laid (x : HOk P w H h) (k : ∀ b u, h.get? b = some u → h'.get? b = some u) (hp : h.objs.size ≤ a) (new : ObjOk P w (upd H a o) h' a o) : HOk P w (upd H a o) h' := fun b u e => by
  have hn := x.fresh hp
  by_cases hb : b = a
  · subst hb; rw [upd_same] at e; cases e; exact new
  · rw [upd_ne hb] at e
    exact (x b u e).stay (fun c v _ q => k c v q) (fun c q => by rw [upd_ne (ne_of_none q hn)]; exact q) fun c xs q => by rw [upd_ne (ne_of_none q hn)]; exact q
end
def Rd (H : Hp) (a : Addr) (u : HO) : Prop := H a = some u ∨ ∃ o, H a = some (.frz o u)
theorem Rd.of {H : Hp} {a : Addr} {u : HO} (h : H a = some u) : Rd H a u := .inl h
theorem Rd.ok {P : Program} {w : World} {H : Hp} {h : Heap} {a : Addr} {u : HO} (r : Rd H a u) (x : HOk P w H h) : ObjOk P w H h a u := by
  rcases r with r | ⟨o, r⟩
  · exact x a u r
  · obtain ⟨_, q⟩ := x a _ r
    exact q
def Mut : Option HO → Prop
  | some (.lst _) => True
  | some (.dK _) => True
  | some (.dT _) => True
  | some (.set _ _) => True
  | some (.ins _ _ _) => True
  | some (.ext _) => True
  | _ => False
section
variable {P : Program} {w : World} {H : Hp} {h h' : Heap} {x e : Addr} {o' : HO}
theorem HOk.write (ok : HOk P w H h) (mu : Mut (H x)) (he : e = x ∨ H e = some (.own x)) (k : ∀ b u, b ≠ e → h.get? b = some u → h'.get? b = some u) (heo : ∃ u, h'.get? e = some u)
    (new : ObjOk P w (upd H x o') h' x o') : HOk P w (upd H x o') h' := fun b u q => by
  have nown : ∀ c y, H c = some (.own y) → c ≠ x := fun c y r z => by subst z; rw [r] at mu; exact mu
  have ntup : ∀ c xs, H c = some (.tup xs) → c ≠ x := fun c xs r z => by subst z; rw [r] at mu; exact mu
  by_cases hb : b = x
  · subst hb; rw [upd_same] at q; cases q; exact new
  · rw [upd_ne hb] at q
    by_cases hbe : b = e
    · have q' : H b = some (.own x) := by
        rcases he with z | z
        · exact absurd (hbe.trans z) hb
        · rw [hbe]; exact z
      rw [q] at q'; cases q'
      obtain ⟨v, hv⟩ := heo
      exact ⟨v, by rw [hbe]; exact hv⟩
    · refine (ok b u q).stay (fun c v hc r => k c v ?_ r) (fun c r => by rw [upd_ne (nown c b r)]; exact r) fun c xs r => by rw [upd_ne (ntup c xs r)]; exact r
      rcases hc with rfl | hc
      · exact hbe
      · rintro rfl
        rcases he with z | z
        · exact nown c b hc z
        · rw [hc] at z; cases z; exact hb rfl
end
structure Un (fs ex : List Addr) (H H' : Hp) (h h' : Heap) : Prop where
  keep : ∀ b o, h.get? b = some o → H b = none → b ∉ fs → b ∉ ex → h'.get? b = some o
  slot : ∀ b o, h.get? b = some o → H b = none → b ∈ fs → b ∉ ex → ∃ sl, h'.get? b = some { o with slots := sl }
  free : ∀ b o, h.get? b = some o → H b = none → b ∉ ex → H' b = none
  there : ∀ b o, h.get? b = some o → b ∉ ex → ∃ o', h'.get? b = some o'
  tups : ∀ b xs, H b = some (.tup xs) → H' b = some (.tup xs)
  frzs : ∀ b o u, H b = some (.frz o u) → H' b = some (.frz o u)
  tbls : ∀ b ps, H b = some (.tbl ps) → ∃ more, H' b = some (.tbl (ps ++ more))
section
variable {fs fs' ex ex' : List Addr} {H H1 H2 : Hp} {h h1 h2 h' : Heap} {a x e : Addr} {o : HO}
theorem Un.any (u : Un fs ex H H1 h h1) {b : Addr} {ob : Obj} (q : h.get? b = some ob) (n : H b = none) (hx : b ∉ ex) : ∃ sl, h1.get? b = some { ob with slots := sl } := by
  by_cases hb : b ∈ fs
  · exact u.slot b ob q n hb hx
  · exact ⟨ob.slots, u.keep b ob q n hb hx⟩
theorem Un.trans (a : Un fs ex H H1 h h1) (b : Un fs ex H1 H2 h1 h2) : Un fs ex H H2 h h2 where
  keep := fun c ob q n hc hx => b.keep c ob (a.keep c ob q n hc hx) (a.free c ob q n hx) hc hx
  slot := fun c ob q n hc hx => by
    obtain ⟨sl, e1⟩ := a.slot c ob q n hc hx
    obtain ⟨sl', e2⟩ := b.slot c _ e1 (a.free c ob q n hx) hc hx
    exact ⟨sl', e2⟩
  free := fun c ob q n hx => by
    obtain ⟨o', e1⟩ := a.there c ob q hx
    exact b.free c o' e1 (a.free c ob q n hx) hx
  there := fun c ob q hx => by
    obtain ⟨o', e1⟩ := a.there c ob q hx
    exact b.there c o' e1 hx
  tups := fun c xs q => b.tups c xs (a.tups c xs q)
  frzs := fun c ob xs q => b.frzs c ob xs (a.frzs c ob xs q)
  tbls := fun c ps q => by
    obtain ⟨m1, e1⟩ := a.tbls c ps q
    obtain ⟨m2, e2⟩ := b.tbls c _ e1
    exact ⟨m1 ++ m2, by rw [e2, Array.append_assoc]⟩
theorem Un.kept (k : ∀ b u, h.get? b = some u → h'.get? b = some u) : Un fs ex H H h h' :=
  ⟨fun b ob q _ _ _ => k b ob q, fun b ob q _ _ _ => ⟨ob.slots, k b ob q⟩, fun _ _ _ n _ => n, fun b ob q _ => ⟨ob, k b ob q⟩, fun _ _ q => q, fun _ _ _ q => q, fun _ ps q => ⟨#[], by rw [q]; simp⟩⟩
theorem Un.refl : Un fs ex H H h h := Un.kept fun _ _ q => q
theorem Un.laid (k : ∀ b u, h.get? b = some u → h'.get? b = some u) (hp : h.objs.size ≤ a) (hn : H a = none) : Un fs ex H (upd H a o) h h' where
  keep := fun b u q _ _ _ => k b u q
  slot := fun b u q _ _ _ => ⟨u.slots, k b u q⟩
  free := fun b u q n _ => by rw [upd_ne (Nat.ne_of_lt (Nat.lt_of_lt_of_le (Heap.lt_size q) hp))]; exact n
  there := fun b u q _ => ⟨u, k b u q⟩
  tups := fun b xs q => by rw [upd_ne (ne_of_none q hn)]; exact q
  frzs := fun b u xs q => by rw [upd_ne (ne_of_none q hn)]; exact q
  tbls := fun b ps q => ⟨#[], by rw [upd_ne (ne_of_none q hn), q]; simp⟩
theorem Un.write (mu : Mut (H x)) (he : e = x ∨ H e = some (.own x)) (k : ∀ b u, b ≠ e → h.get? b = some u → h'.get? b = some u) (heo : ∃ u, h'.get? e = some u) : Un fs ex H (upd H x o) h h' := by
  have hx : ∀ b, H b = none → b ≠ x := fun b n z => by subst z; rw [n] at mu; exact mu
  have hb : ∀ b, H b = none → b ≠ e := fun b n z => by
    subst z
    rcases he with r | r
    · exact hx b n r
    · rw [n] at r; cases r
  have hm : ∀ b u, H b = some u → ¬ Mut (some u) → b ≠ x := fun b u q nm z => by subst z; rw [q] at mu; exact nm mu
  refine ⟨fun b u q n _ _ => k b u (hb b n) q, fun b u q n _ _ => ⟨u.slots, k b u (hb b n) q⟩, fun b u q n _ => by rw [upd_ne (hx b n)]; exact n, fun b u q _ => ?_,
    fun b xs q => by rw [upd_ne (hm b _ q fun z => z)]; exact q, fun b u xs q => by rw [upd_ne (hm b _ q fun z => z)]; exact q, fun b ps q => ⟨#[], by rw [upd_ne (hm b _ q fun z => z), q]; simp⟩⟩
  by_cases hbe : b = e
  · subst hbe; exact heo
  · exact ⟨u, k b u hbe q⟩
theorem Un.mono (u : Un fs ex H H1 h h1) (hs : ∀ b ∈ fs, b ∈ fs') (hx : ∀ b ∈ ex, b ∈ ex') : Un fs' ex' H H1 h h1 :=
  ⟨fun b ob q n hb he => u.keep b ob q n (fun z => hb (hs b z)) fun z => he (hx b z), fun _ _ q n _ he => u.any q n fun z => he (hx _ z), fun b ob q n he => u.free b ob q n fun z => he (hx b z), fun b ob q he => u.there b ob q fun z => he (hx b z), u.tups, u.frzs, u.tbls⟩
end
def trk (h : Heap) (H : Hp) : List Addr := (List.range h.objs.size).filter fun a => (H a).isSome
def hidT (h : Heap) (H : Hp) : Heap := PySem.W.hideAll h (trk h H)
theorem hidT_size (h : Heap) (H : Hp) : (hidT h H).objs.size = h.objs.size := PySem.W.hideAll_size _ _
theorem hidT_get {h : Heap} {H : Hp} {b : Addr} {o : Obj} (e : h.get? b = some o) (n : H b = none) : (hidT h H).get? b = some o :=
  PySem.W.hideAll_get _ e fun hm => by
    have q : (H b).isSome = true := (List.mem_filter.mp hm).2
    rw [n] at q; simp at q
theorem of_hidT {h : Heap} {H : Hp} {b : Addr} {o : Obj} (e : (hidT h H).get? b = some o) : h.get? b = some o ∧ H b = none := by
  have e' : h.get? b = some o := PySem.W.of_hideAll (trk h H) e
  refine ⟨e', ?_⟩
  cases q : H b with
  | none => rfl
  | some x =>
    have hm : b ∈ trk h H := List.mem_filter.mpr ⟨List.mem_range.mpr (Heap.lt_size e'), by simp [q]⟩
    have z : (hidT h H).get? b = none := PySem.W.hideAll_none (trk h H) hm
    rw [z] at e; cases e
def allNews (g h : Heap) (L : Addr) : List (Addr × Obj) := (List.range h.objs.size).filterMap fun a => if a = L ∨ (g.get? a).isSome = true then none else (h.get? a).map fun o => (a, o)
def rest (g h : Heap) (L d : Addr) : List (Addr × Obj) := (allNews g h L).filter fun p => decide (p.1 ≠ d)
end L2
namespace L2
open PySem PySem.Spec PyProof.Rows
structure Mod (K : PySem.W.Frag) (mg : Str → Option Value) (base : Heap) : Prop where
  kin : K.In base
  glob : base.Ns mainGlobals mg
  blt : ∃ mb, base.Ns builtinsNs mb ∧ ∀ x : Str, x ≠ "__name__" → mb x = bootBuiltins x
  nolimit : base.NoLimit
structure Cx where
  prog : Program
  w : World
  K : PySem.W.Frag
  mg : Str → Option Value
  base : Heap
  A : Around
  N : List Str
  s₀ : Shared
  H₀ : Hp
  env : Env
  outer : List Env
  stack : List Env
  ex : List Addr
  fn : Str → Bool
  calm : Bool
  pn : List (Addr × Obj)
  xe : Value → Shared → Prop
def frs (l : List Env) : List Addr := l.filterMap (·.frame)
abbrev Cx.fs (X : Cx) : List Addr := frs X.outer
def Vis (sc : Scope) (x : Str) : Prop := sc.names.lookup x = some .local ∨ sc.names.lookup x = some .cell ∨ sc.names.lookup x = some .free
def Loc (sc : Scope) (x : Str) : Prop := sc.names.lookup x = some .local ∨ sc.names.lookup x = some .cell
def Look (env : Env) (h : Heap) (m : Str → Option Value) (x : Str) (u : Value) : Prop :=
  (env.kindOf x = some .local ∧ m x = some u) ∨ ((env.kindOf x = some .cell ∨ env.kindOf x = some .free) ∧ ∃ c, env.cells.lookup x = some c ∧ h.IsCell c (some u))
structure Cx.Ok (X : Cx) : Prop where
  mod : Mod X.K X.mg X.base
  kind : X.env.scope.kind = .function
  glob : X.env.globals = mainGlobals
  blt : X.env.builtins = builtinsNs
  above : X.s₀.heap.objs.size ≤ X.env.locals
  inj : ∀ x y c, X.env.cells.lookup x = some c → X.env.cells.lookup y = some c → x = y
  has : ∀ x, (X.env.kindOf x = some .cell ∨ X.env.kindOf x = some .free) → ∃ c, X.env.cells.lookup x = some c
  cab : ∀ x c, X.fn x = true → X.env.cells.lookup x = some c → X.s₀.heap.objs.size ≤ c
  hd : X.calm = true → X.A.handled = none
  frames : X.A.frames = some X.stack
  stk : X.stack = X.outer ∨ (X.stack = X.env :: X.outer ∧ X.env.frame = some X.env.locals)
  exf : ∀ b ∈ X.ex, b ≠ X.env.locals ∧ ∀ x c, X.env.cells.lookup x = some c → c ≠ b
  bs : ∀ b o, X.base.get? b = some o → X.s₀.heap.get? b = some o ∧ X.H₀ b = none
  bsz : X.base.objs.size ≤ X.s₀.heap.objs.size
  noex : ∀ b o, X.base.get? b = some o → b ∉ X.ex
  exfs : ∀ b ∈ X.ex, b ∉ X.fs
  funs : X.s₀.heap.FunFrames X.base X.outer
  frf : ∀ b ∈ X.fs, X.H₀ b = none
structure Inv (X : Cx) (pins : List (Addr × Obj)) (σ : List (Option V)) (H : Hp) (s : Shared) : Prop where
  ok : X.Ok
  os : s.os = X.s₀.os
  bare : AllBare s.gens
  base : Un X.fs X.ex X.H₀ H X.s₀.heap s.heap
  loc : ∃ m, s.heap.Ns X.env.locals m ∧ ∀ (i : Nat) (x : Str) (v : V), X.N[i]? = some x → σ[i]? = some (some v) → Vis X.env.scope x → ∃ u, RelV v u ∧ Look X.env s.heap m x u
  cell : ∀ x c, X.env.cells.lookup x = some c → ∃ v, s.heap.IsCell c v
  free : H X.env.locals = none
  freeC : ∀ x c, X.env.cells.lookup x = some c → H c = none
  pin : ∀ p ∈ X.pn ++ pins, s.heap.get? p.1 = some p.2 ∧ H p.1 = none ∧ p.1 ≠ X.env.locals ∧ p.1 ∉ X.fs ∧ ∀ v, p.2.data ≠ .cell v
  hok : HOk X.prog X.w H s.heap
  len : σ.length = X.N.length
section
variable {X : Cx} {pins : List (Addr × Obj)} {σ : List (Option V)} {H H' : Hp} {s : Shared} {h' : Heap}
theorem Cx.Ok.nofr (ok : X.Ok) {b : Addr} {o : Obj} (e : X.base.get? b = some o) : b ∉ X.fs := fun hb => by
  have := (ok.funs.mem hb).1
  rw [e] at this; cases this
theorem Inv.bs (I : Inv X pins σ H s) : ∀ b o, X.base.get? b = some o → s.heap.get? b = some o ∧ H b = none := fun b o e =>
  ⟨I.base.keep b o (I.ok.bs b o e).1 (I.ok.bs b o e).2 (I.ok.nofr e) (I.ok.noex b o e), I.base.free b o (I.ok.bs b o e).1 (I.ok.bs b o e).2 (I.ok.noex b o e)⟩
theorem Inv.bk (I : Inv X pins σ H s) : ∀ b o, X.base.get? b = some o → s.heap.get? b = some o := fun b o e => (I.bs b o e).1
theorem Inv.mod (I : Inv X pins σ H s) : Mod X.K X.mg X.base := I.ok.mod
theorem Inv.kIn (I : Inv X pins σ H s) : X.K.In s.heap := I.ok.mod.kin.keeps I.bk
theorem Inv.nolimit (I : Inv X pins σ H s) : s.heap.NoLimit := I.ok.mod.nolimit.keeps I.bk
theorem Inv.fr (I : Inv X pins σ H s) : ∃ m, Fr X.base X.env.locals s.heap m :=
  let ⟨m, hn, _⟩ := I.loc
  ⟨m, hn, I.bk, Nat.le_trans I.ok.bsz I.ok.above⟩
theorem Inv.lt (I : Inv X pins σ H s) : X.env.locals < s.heap.objs.size := let ⟨_, hn, _⟩ := I.loc; hn.lt
theorem Inv.sz (I : Inv X pins σ H s) : X.s₀.heap.objs.size ≤ s.heap.objs.size := Nat.le_trans I.ok.above (Nat.le_of_lt I.lt)
theorem Inv.nofs (I : Inv X pins σ H s) {a : Addr} (h : s.heap.objs.size ≤ a) : a ∉ X.fs := fun hb => by
  obtain ⟨_, o, ho, _⟩ := I.ok.funs.mem hb
  exact absurd (Nat.lt_of_lt_of_le (Heap.lt_size ho) (Nat.le_trans I.sz h)) (Nat.lt_irrefl _)
theorem Inv.cne (I : Inv X pins σ H s) : ∀ x c, X.env.cells.lookup x = some c → c ≠ X.env.locals := fun x c e z => by
  obtain ⟨v, o, ho, hd⟩ := I.cell x c e
  obtain ⟨m, ⟨o', es, ep, ho', hd', _⟩, _⟩ := I.loc
  rw [z, ho'] at ho; cases ho; rw [hd'] at hd; cases hd
theorem Inv.funs (I : Inv X pins σ H s) : s.heap.FunFrames X.base X.outer := by
  have all : ∀ (l : List Env), (∀ b ∈ frs l, b ∈ X.fs) → X.s₀.heap.FunFrames X.base l → s.heap.FunFrames X.base l := by
    intro l
    induction l with
    | nil => intro _ _; trivial
    | cons env r ih =>
      intro hs hl
      obtain ⟨hk, ⟨L, o, hf, hn, ho, hd⟩, hr⟩ := hl
      have hL : L ∈ X.fs := hs L (by unfold frs; rw [List.filterMap_cons, hf]; exact List.mem_cons_self)
      obtain ⟨sl, e⟩ := I.base.slot L o ho (I.ok.frf L hL) hL fun z => I.ok.exfs L z hL
      exact ⟨hk, ⟨L, _, hf, hn, e, hd⟩, ih (fun b hb => hs b (by unfold frs; rw [List.filterMap_cons, hf]; exact List.mem_cons_of_mem _ hb)) hr⟩
  exact all X.outer (fun _ hb => hb) I.ok.funs
theorem Inv.stack (I : Inv X pins σ H s) : s.heap.FunFrames X.base X.stack := by
  rcases I.ok.stk with e | ⟨e, hf⟩
  · rw [e]; exact I.funs
  · rw [e]
    obtain ⟨m, hn, _⟩ := I.loc
    refine .cons (by rw [I.ok.kind]; decide) hf hn ?_ I.funs
    exact Heap.get?_none_of_le (Nat.le_trans I.ok.bsz I.ok.above)
theorem Inv.stkSub (I : Inv X pins σ H s) : ∀ b ∈ frs X.stack, b ∈ X.env.locals :: X.fs := fun b hb => by
  rcases I.ok.stk with e | ⟨e, hf⟩
  · rw [e] at hb; exact List.mem_cons_of_mem _ hb
  · rw [e] at hb
    unfold frs at hb
    rw [List.filterMap_cons, hf] at hb
    exact hb
theorem Inv.stkFree (I : Inv X pins σ H s) : ∀ b ∈ frs X.stack, H b = none := fun b hb => by
  rcases List.mem_cons.mp (I.stkSub b hb) with e | hb
  · rw [e]; exact I.free
  · obtain ⟨_, o, ho, _⟩ := I.ok.funs.mem hb
    exact I.base.free b o ho (I.ok.frf b hb) fun z => I.ok.exfs b z hb
theorem Inv.step {g' : Array GenState} {t' : Nat} {d' : Drawn} {ch : List Addr} (I : Inv X pins σ H s)
    (hch : ∀ b ∈ ch, (b ∈ X.ex ∨ X.s₀.heap.objs.size ≤ b) ∧ b ≠ X.env.locals ∧ (∀ x c, X.env.cells.lookup x = some c → c ≠ b) ∧ ∀ p ∈ X.pn ++ pins, p.1 ≠ b)
    (keep : ∀ b o, b ≠ X.env.locals → b ∉ X.fs → b ∉ ch → s.heap.get? b = some o → H b = none → h'.get? b = some o)
    (slot : ∀ b o, b ≠ X.env.locals → b ∈ X.fs → b ∉ ch → s.heap.get? b = some o → H b = none → ∃ sl, h'.get? b = some { o with slots := sl }) (free : ∀ b o, b ∉ ch → s.heap.get? b = some o → H b = none → H' b = none)
    (there : ∀ b o, b ∉ ch → s.heap.get? b = some o → ∃ o', h'.get? b = some o')
    (tups : ∀ b xs, H b = some (.tup xs) → H' b = some (.tup xs)) (frzs : ∀ b o u, H b = some (.frz o u) → H' b = some (.frz o u)) (tbls : ∀ b ps, H b = some (.tbl ps) → ∃ more, H' b = some (.tbl (ps ++ more)))
    (ns : ∀ m, s.heap.Ns X.env.locals m → h'.Ns X.env.locals m) (hok : HOk X.prog X.w H' h') (hg : AllBare g') :
    Inv X pins σ H' { s with heap := h', gens := g', drawn := d', toks := t' } := by
  have neL : ∀ b o, X.s₀.heap.get? b = some o → b ≠ X.env.locals := fun b o e => Nat.ne_of_lt (Nat.lt_of_lt_of_le (Heap.lt_size e) I.ok.above)
  have neC : ∀ b o, X.s₀.heap.get? b = some o → b ∉ X.ex → b ∉ ch := fun b o e hx hb => by
    rcases (hch b hb).1 with z | z
    · exact hx z
    · exact absurd (Nat.lt_of_lt_of_le (Heap.lt_size e) z) (Nat.lt_irrefl _)
  have cellK : ∀ x c, X.env.cells.lookup x = some c → ∀ v, s.heap.IsCell c v → h'.IsCell c v := fun x c e v ⟨o, ho, hd⟩ => by
    have nch : c ∉ ch := fun z => (hch c z).2.2.1 x c e rfl
    by_cases hc : c ∈ X.fs
    · obtain ⟨sl, q⟩ := slot c o (I.cne x c e) hc nch ho (I.freeC x c e)
      exact ⟨_, q, hd⟩
    · exact ⟨o, keep c o (I.cne x c e) hc nch ho (I.freeC x c e), hd⟩
  refine ⟨I.ok, I.os, hg, ⟨fun b o e n hb hx => ?_, fun b o e n hb hx => ?_, fun b o e n hx => ?_, fun b o e hx => ?_, fun b xs e => tups b xs (I.base.tups b xs e), fun b o xs e => frzs b o xs (I.base.frzs b o xs e), fun b ps e => ?_⟩, ?_, fun x c e => ?_, ?_, fun x c e => ?_, fun p hp => ?_, hok, I.len⟩
  · exact keep b o (neL b o e) hb (neC b o e hx) (I.base.keep b o e n hb hx) (I.base.free b o e n hx)
  · obtain ⟨sl, e1⟩ := I.base.slot b o e n hb hx
    obtain ⟨sl', e2⟩ := slot b _ (neL b o e) hb (neC b o e hx) e1 (I.base.free b o e n hx)
    exact ⟨sl', e2⟩
  · obtain ⟨o', e1⟩ := I.base.there b o e hx
    exact free b o' (neC b o e hx) e1 (I.base.free b o e n hx)
  · obtain ⟨o', e1⟩ := I.base.there b o e hx
    exact there b o' (neC b o e hx) e1
  · obtain ⟨m1, e1⟩ := I.base.tbls b ps e
    obtain ⟨m2, e2⟩ := tbls b _ e1
    exact ⟨m1 ++ m2, by rw [e2, Array.append_assoc]⟩
  · obtain ⟨m, hn, hl⟩ := I.loc
    refine ⟨m, ns m hn, fun i x v e1 e2 e3 => ?_⟩
    obtain ⟨u, r, l⟩ := hl i x v e1 e2 e3
    refine ⟨u, r, ?_⟩
    rcases l with l | ⟨k, c, e, z⟩
    · exact .inl l
    · exact .inr ⟨k, c, e, cellK x c e _ z⟩
  · obtain ⟨v, z⟩ := I.cell x c e
    exact ⟨v, cellK x c e v z⟩
  · obtain ⟨m, ⟨o, _, _, ho, _⟩, _⟩ := I.loc
    exact free _ o (fun z => (hch _ z).2.1 rfl) ho I.free
  · obtain ⟨v, o, ho, hd⟩ := I.cell x c e
    exact free c o (fun z => (hch c z).2.2.1 x c e rfl) ho (I.freeC x c e)
  · obtain ⟨e, n, ne, nf, d⟩ := I.pin p hp
    have nch : p.1 ∉ ch := fun z => (hch p.1 z).2.2.2 p hp rfl
    exact ⟨keep p.1 p.2 ne nf nch e n, free p.1 p.2 nch e n, ne, nf, d⟩
theorem Inv.un {t' : Nat} (I : Inv X pins σ H s) (u : Un X.fs [] H H' s.heap h') (hok : HOk X.prog X.w H' h') : Inv X pins σ H' { s with heap := h', toks := t' } := by
  obtain ⟨m, ⟨o, es, ep, ho, r⟩, _⟩ := id I.loc
  obtain ⟨sl, hL⟩ := u.any ho I.free (by simp)
  exact I.step (g' := s.gens) (d' := s.drawn) (ch := []) (fun _ z => nomatch z) (fun b o _ hb _ e n => u.keep b o e n hb (by simp)) (fun b o _ hb _ e n => u.slot b o e n hb (by simp)) (fun b o _ e n => u.free b o e n (by simp)) (fun b o _ e => u.there b o e (by simp)) u.tups u.frzs u.tbls (fun m' hm => by
    obtain ⟨o', es', ep', ho', r'⟩ := hm
    rw [ho] at ho'; cases ho'
    exact ⟨_, es', ep', hL, r'⟩) hok I.bare
theorem Inv.call {g' : Array GenState} {t' : Nat} {d' : Drawn} {ch : List Addr} (I : Inv X pins σ H s) (u : Un (frs X.stack) ch H H' s.heap h') (hok : HOk X.prog X.w H' h') (hg : AllBare g')
    (hch : ∀ b ∈ ch, (b ∈ X.ex ∨ X.s₀.heap.objs.size ≤ b) ∧ b ≠ X.env.locals ∧ (∀ x c, X.env.cells.lookup x = some c → c ≠ b) ∧ ∀ p ∈ X.pn ++ pins, p.1 ≠ b) :
    Inv X pins σ H' { s with heap := h', gens := g', drawn := d', toks := t' } := by
  obtain ⟨m, ⟨o, es, ep, ho, r⟩, _⟩ := id I.loc
  obtain ⟨sl, hL⟩ := u.any ho I.free fun z => (hch _ z).2.1 rfl
  exact I.step (ch := ch) hch (fun b o hL hb hc e n => u.keep b o e n (fun z => (List.mem_cons.mp (I.stkSub b z)).elim hL hb) hc) (fun b o _ _ hc e n => u.any e n hc) (fun b o hc e n => u.free b o e n hc) (fun b o hc e => u.there b o e hc) u.tups u.frzs u.tbls (fun m' hm => by
    obtain ⟨o', es', ep', ho', r'⟩ := hm
    rw [ho] at ho'; cases ho'
    exact ⟨_, es', ep', hL, r'⟩) hok hg
theorem Inv.turned {t' : Nat} {it : Addr} (I : Inv X pins σ H s) (k : ∀ b o, b ≠ it → s.heap.get? b = some o → h'.get? b = some o) (hn : H it = none) (hL : it ≠ X.env.locals)
    (h1 : it ∈ X.ex ∨ X.s₀.heap.objs.size ≤ it) (h2 : ∀ x c, X.env.cells.lookup x = some c → c ≠ it) (h3 : ∀ p ∈ X.pn ++ pins, p.1 ≠ it) : Inv X pins σ H { s with heap := h', toks := t' } := by
  have nit : ∀ b u, H b = some u → b ≠ it := fun b u e z => by rw [z, hn] at e; cases e
  refine I.step (g' := s.gens) (d' := s.drawn) (ch := [it]) (fun b hb => ?_) (fun b o _ _ hc e _ => k b o (fun z => hc (by simp [z])) e) (fun b o _ _ hc e _ => ⟨o.slots, k b o (fun z => hc (by simp [z])) e⟩) (fun _ _ _ _ n => n)
    (fun b o hc e => ⟨o, k b o (fun z => hc (by simp [z])) e⟩) (fun _ _ e => e) (fun _ _ _ e => e) (fun b ps e => ⟨#[], by rw [e]; simp⟩) (fun m hm => ?_) (fun b u e => ?_) I.bare
  · have e : b = it := by simpa using hb
    subst e
    exact ⟨h1, hL, h2, h3⟩
  · obtain ⟨o, es, ep, ho, r⟩ := hm
    exact ⟨o, es, ep, k _ o (Ne.symm hL) ho, r⟩
  · refine (I.hok b u e).stay (fun c v hc q => k c v ?_ q) (fun _ q => q) fun _ _ q => q
    rcases hc with z | z
    · rw [z]; exact nit b u e
    · exact nit c _ z
theorem Inv.tok (I : Inv X pins σ H s) (t : Nat) : Inv X pins σ H { s with toks := t } := I.un (h' := s.heap) (t' := t) Un.refl I.hok
theorem Inv.kept {t' : Nat} (I : Inv X pins σ H s) (k : ∀ b u, s.heap.get? b = some u → h'.get? b = some u) : Inv X pins σ H { s with heap := h', toks := t' } := I.un (Un.kept k) (I.hok.kept k)
theorem Inv.laid {a : Addr} {o : HO} {t' : Nat} (I : Inv X pins σ H s) (k : ∀ b u, s.heap.get? b = some u → h'.get? b = some u) (hp : s.heap.objs.size ≤ a) (new : ObjOk X.prog X.w (upd H a o) h' a o) :
    Inv X pins σ (upd H a o) { s with heap := h', toks := t' } := I.un (Un.laid k hp (I.hok.fresh hp)) (I.hok.laid k hp new)
theorem Inv.write {x e : Addr} {o : HO} {t' : Nat} (I : Inv X pins σ H s) (mu : Mut (H x)) (he : e = x ∨ H e = some (.own x)) (k : ∀ b u, b ≠ e → s.heap.get? b = some u → h'.get? b = some u) (heo : ∃ u, h'.get? e = some u)
    (new : ObjOk X.prog X.w (upd H x o) h' x o) : Inv X pins σ (upd H x o) { s with heap := h', toks := t' } := I.un (Un.write mu he k heo) (I.hok.write mu he k heo new)
theorem Inv.pins_of {pins' : List (Addr × Obj)} (I : Inv X pins σ H s) (h : ∀ p ∈ pins', s.heap.get? p.1 = some p.2 ∧ H p.1 = none ∧ p.1 ≠ X.env.locals ∧ p.1 ∉ X.fs ∧ ∀ v, p.2.data ≠ .cell v) : Inv X pins' σ H s :=
  ⟨I.ok, I.os, I.bare, I.base, I.loc, I.cell, I.free, I.freeC, fun p hp => (List.mem_append.mp hp).elim (fun z => I.pin p (List.mem_append_left _ z)) (h p), I.hok, I.len⟩
theorem nodup_ix {N : List Str} (hN : N.Nodup) {i j : Nat} {x : Str} (a : N[i]? = some x) (b : N[j]? = some x) : i = j := by
  obtain ⟨h1, e1⟩ := List.getElem?_eq_some_iff.mp a
  obtain ⟨h2, e2⟩ := List.getElem?_eq_some_iff.mp b
  exact (List.getElem_inj hN).mp (e1.trans e2.symm)
theorem store_ok2 {M : Model} {A : Around} {E : Value → Shared → Prop} {i : Nat} {x : Str} {v : V} {u : Value} {Q : Unit → Shared → Prop} (I : Inv X pins σ H s) (hN : X.N.Nodup) (hi : X.N[i]? = some x) (hx : Loc X.env.scope x) (r : RelV v u)
    (h : ∀ s', Inv X pins (σ.set i (some v)) H s' → (∃ a, Heap.SameBut a s.heap s'.heap ∧ (a = X.env.locals ∨ X.env.cells.lookup x = some a)) → Q () s') (hf : X.fn x = true ∨ X.env.scope.names.lookup x = some .local := by first | exact .inl rfl | exact .inr rfl | assumption) : wpAny M A (storeName X.env x u) Q E s := by
  obtain ⟨m, hn, hl⟩ := id I.loc
  have hcls : (X.env.scope.kind == .class || (X.env.scope.kind == .module && X.env.locals != X.env.globals)) = false := by rw [I.ok.kind]; rfl
  have hiσ : i < σ.length := by rw [I.len]; exact (List.getElem?_eq_some_iff.mp hi).1
  have cne := I.cne
  have tracked : ∀ {a : Addr} {h' : Heap}, (∃ o, s.heap.get? a = some o ∧ H a = none) → Heap.SameBut a s.heap h' → HOk X.prog X.w H h' := fun {a h'} ha hs b ob e => by
    obtain ⟨_, _, hfree⟩ := ha
    refine (I.hok b ob e).stay (fun c w' hc q => (hs.2 c ?_).trans q) (fun _ q => q) fun _ _ q => q
    rintro rfl
    rcases hc with rfl | hc
    · rw [hfree] at e; cases e
    · rw [hfree] at hc; cases hc
  rcases hx with hk | hk
  · refine wpAny_storeName_local hk hn (fun h' hn' hs => ?_) hcls
    obtain ⟨oL, _, _, hoL, _⟩ := id hn
    refine h _ ⟨I.ok, I.os, I.bare, ⟨fun b o e n hb hx => ?_, fun b o e n hb hx => ?_, I.base.free, fun b o e hx => ?_, I.base.tups, I.base.frzs, I.base.tbls⟩, ⟨_, hn', fun j y v' e1 e2 e3 => ?_⟩, fun y c e => ?_, I.free, I.freeC, fun p hp => ?_, tracked ⟨oL, hoL, I.free⟩ hs, by simpa using I.len⟩ ⟨_, hs, .inl rfl⟩
    · exact (hs.2 b (Nat.ne_of_lt (Nat.lt_of_lt_of_le (Heap.lt_size e) I.ok.above))).trans (I.base.keep b o e n hb hx)
    · obtain ⟨sl, e1⟩ := I.base.slot b o e n hb hx
      exact ⟨sl, (hs.2 b (Nat.ne_of_lt (Nat.lt_of_lt_of_le (Heap.lt_size e) I.ok.above))).trans e1⟩
    · obtain ⟨o', e1⟩ := I.base.there b o e hx
      exact ⟨o', (hs.2 b (Nat.ne_of_lt (Nat.lt_of_lt_of_le (Heap.lt_size e) I.ok.above))).trans e1⟩
    · by_cases hj : j = i
      · subst hj
        rw [hi] at e1; cases e1
        rw [List.getElem?_set_self hiσ] at e2
        cases e2
        exact ⟨u, r, .inl ⟨hk, by simp⟩⟩
      · rw [List.getElem?_set_ne (Ne.symm hj)] at e2
        obtain ⟨u', r', q⟩ := hl j y v' e1 e2 e3
        refine ⟨u', r', ?_⟩
        rcases q with ⟨k, e⟩ | ⟨k, c, e, z⟩
        · refine .inl ⟨k, ?_⟩
          have : y ≠ x := fun e => hj (nodup_ix hN e1 (e ▸ hi))
          simp [this, e]
        · exact .inr ⟨k, c, e, z.sameBut hs (cne y c e)⟩
    · obtain ⟨w', z⟩ := I.cell y c e
      exact ⟨w', z.sameBut hs (cne y c e)⟩
    · obtain ⟨e, n, ne, nf, d⟩ := I.pin p hp
      exact ⟨(hs.2 p.1 ne).trans e, n, ne, nf, d⟩
  · have hfn : X.fn x = true := by
      rcases hf with z | z
      · exact z
      · rw [z] at hk; cases hk
    obtain ⟨c, hc⟩ := I.ok.has x (.inl hk)
    obtain ⟨w', z⟩ := I.cell x c hc
    refine wpAny_storeName_cell I.ok.kind hk hc z (fun h' hc' hs => ?_)
    obtain ⟨oc, hoc, hocd⟩ := id z
    refine h { s with heap := h' } ⟨I.ok, I.os, I.bare, ⟨fun b o e n hb hx => ?_, fun b o e n hb hx => ?_, I.base.free, fun b o e hx => ?_, I.base.tups, I.base.frzs, I.base.tbls⟩, ⟨m, hn.sameBut hs (Ne.symm (cne x c hc)), fun j y v' e1 e2 e3 => ?_⟩, fun y c' e => ?_, I.free, I.freeC, fun p hp => ?_, tracked ⟨oc, hoc, I.freeC x c hc⟩ hs, by simpa using I.len⟩ ⟨c, hs, .inr hc⟩
    · exact (hs.2 b (Nat.ne_of_lt (Nat.lt_of_lt_of_le (Heap.lt_size e) (I.ok.cab x c hfn hc)))).trans (I.base.keep b o e n hb hx)
    · obtain ⟨sl, e1⟩ := I.base.slot b o e n hb hx
      exact ⟨sl, (hs.2 b (Nat.ne_of_lt (Nat.lt_of_lt_of_le (Heap.lt_size e) (I.ok.cab x c hfn hc)))).trans e1⟩
    · obtain ⟨o', e1⟩ := I.base.there b o e hx
      exact ⟨o', (hs.2 b (Nat.ne_of_lt (Nat.lt_of_lt_of_le (Heap.lt_size e) (I.ok.cab x c hfn hc)))).trans e1⟩
    · by_cases hj : j = i
      · subst hj
        rw [hi] at e1; cases e1
        rw [List.getElem?_set_self hiσ] at e2
        cases e2
        exact ⟨u, r, .inr ⟨.inl hk, c, hc, hc'⟩⟩
      · rw [List.getElem?_set_ne (Ne.symm hj)] at e2
        obtain ⟨u', r', q⟩ := hl j y v' e1 e2 e3
        refine ⟨u', r', ?_⟩
        rcases q with q | ⟨k, c', e, z'⟩
        · exact .inl q
        · refine .inr ⟨k, c', e, z'.sameBut hs ?_⟩
          rintro rfl
          exact hj (nodup_ix hN e1 (I.ok.inj _ _ _ e hc ▸ hi))
    · by_cases hcc : c' = c
      · subst hcc; exact ⟨_, hc'⟩
      · obtain ⟨w2, z2⟩ := I.cell y c' e
        exact ⟨w2, z2.sameBut hs hcc⟩
    · obtain ⟨e, n, ne, nf, d⟩ := I.pin p hp
      refine ⟨(hs.2 p.1 ?_).trans e, n, ne, nf, d⟩
      intro q
      rw [q, hoc] at e
      have q' : oc = p.2 := Option.some.inj e
      exact d w' (by rw [← q']; exact hocd)
theorem store_ok {M : Model} {A : Around} {E : Value → Shared → Prop} {i : Nat} {x : Str} {v : V} {u : Value} {Q : Unit → Shared → Prop} (I : Inv X pins σ H s) (hN : X.N.Nodup) (hi : X.N[i]? = some x) (hx : Loc X.env.scope x) (r : RelV v u)
    (h : ∀ s', Inv X pins (σ.set i (some v)) H s' → Q () s') (hf : X.fn x = true ∨ X.env.scope.names.lookup x = some .local := by first | exact .inl rfl | exact .inr rfl | assumption) : wpAny M A (storeName X.env x u) Q E s :=
  store_ok2 I hN hi hx r (fun s' I' _ => h s' I') hf
theorem Inv.call' {s' : Shared} {ch : List Addr} (I : Inv X pins σ H s) (ho : s'.os = s.os) (u : Un (frs X.stack) ch H H' s.heap s'.heap) (hok : HOk X.prog X.w H' s'.heap) (hg : AllBare s'.gens)
    (hch : ∀ b ∈ ch, (b ∈ X.ex ∨ X.s₀.heap.objs.size ≤ b) ∧ b ≠ X.env.locals ∧ (∀ x c, X.env.cells.lookup x = some c → c ≠ b) ∧ ∀ p ∈ X.pn ++ pins, p.1 ≠ b) : Inv X pins σ H' s' := by
  obtain ⟨h', g', d', t', o'⟩ := s'
  have e : o' = s.os := ho
  subst e
  exact I.call (g' := g') (t' := t') (d' := d') u hok hg hch
end
abbrev XK := Value → Option Addr → Hp → Prop
abbrev St := List (Option V)
abbrev VK := V → Hp → Prop
abbrev TE := St → Hp → VK → Prop
abbrev TT := St → Hp → (Bool → Hp → Prop) → Prop
abbrev TA := St → Hp → (List V → Hp → Prop) → Prop
structure Ends where
  nx : St → Hp → Prop
  rt : VK
  bk : St → Hp → Prop := fun _ _ => False
  ct : St → Hp → Prop := fun _ _ => False
abbrev TS := Ends → St → Hp → Prop
def EP (X : Cx) (pins : List (Addr × Obj)) (σ : St) (Q : VK) (u : Value) (s' : Shared) : Prop := ∃ v H', Inv X pins σ H' s' ∧ RelV v u ∧ Q v H'
def TP (X : Cx) (pins : List (Addr × Obj)) (σ : St) (Q : Bool → Hp → Prop) (b : Bool) (s' : Shared) : Prop := ∃ H', Inv X pins σ H' s' ∧ Q b H'
def AP (X : Cx) (pins : List (Addr × Obj)) (σ : St) (Q : List V → Hp → Prop) (us : List Value) (s' : Shared) : Prop := ∃ vs H', Inv X pins σ H' s' ∧ Vals vs us ∧ Q vs H'
def SP (X : Cx) (pins : List (Addr × Obj)) (D : Ends) (f : Flow) (s' : Shared) : Prop :=
  match f with
  | .next => ∃ σ' H', Inv X pins σ' H' s' ∧ D.nx σ' H'
  | .brk => ∃ σ' H', Inv X pins σ' H' s' ∧ D.bk σ' H'
  | .cont => ∃ σ' H', Inv X pins σ' H' s' ∧ D.ct σ' H'
  | .ret u => ∃ v σ' H', Inv X pins σ' H' s' ∧ RelV v u ∧ D.rt v H'
def PE (X : Cx) (e : Expr) (t : TE) : Prop :=
  ∀ (pins : List (Addr × Obj)) (s : Shared) (σ : St) (H : Hp) (Q : VK), Inv X pins σ H s → t σ H Q → wpAny (model X.prog X.w) X.A (eval e X.env) (EP X pins σ Q) X.xe s
def PT (X : Cx) (e : Expr) (t : TT) : Prop :=
  ∀ (pins : List (Addr × Obj)) (s : Shared) (σ : St) (H : Hp) (Q : Bool → Hp → Prop), Inv X pins σ H s → t σ H Q → wpAny (model X.prog X.w) X.A (isTrue e X.env (eval e X.env)) (TP X pins σ Q) X.xe s
def PW (X : Cx) (e : Expr) (t : TT) : Prop :=
  ∀ (whole : Sem Value) (pins : List (Addr × Obj)) (s : Shared) (σ : St) (H : Hp) (Q : Bool → Hp → Prop), Inv X pins σ H s → t σ H Q → wpAny (model X.prog X.w) X.A (isTrue e X.env whole) (TP X pins σ Q) X.xe s
theorem PW.pt {X : Cx} {e : Expr} {t : TT} (h : PW X e t) : PT X e t := h _
def PA (X : Cx) (es : List Expr) (t : TA) : Prop :=
  ∀ (pos : Pos) (pins : List (Addr × Obj)) (s : Shared) (σ : St) (H : Hp) (Q : List V → Hp → Prop), Inv X pins σ H s → t σ H Q → wpAny (model X.prog X.w) X.A (spliced (backTo pos (starEach es X.env))) (AP X pins σ Q) X.xe s
def PS (X : Cx) (st : Stmt) (t : TS) : Prop :=
  ∀ (pins : List (Addr × Obj)) (s : Shared) (σ : St) (H : Hp) (D : Ends), Inv X pins σ H s → t D σ H → wpAny (model X.prog X.w) X.A (exec st X.env) (SP X pins D) X.xe s
def PSs (X : Cx) (st : List Stmt) (t : TS) : Prop :=
  ∀ (pins : List (Addr × Obj)) (s : Shared) (σ : St) (H : Hp) (D : Ends), Inv X pins σ H s → t D σ H → wpAny (model X.prog X.w) X.A (execs st X.env) (SP X pins D) X.xe s
theorem thn {α : Type} {t : Sem α} {Q Q' : α → Shared → Prop} {M : Model} {A : Around} {E : Value → Shared → Prop} {s : Shared} (h : wpAny M A t Q E s) (hQ : ∀ a s, Q a s → Q' a s) : wpAny M A t Q' E s := wpAny_mono h hQ fun _ _ x => x
end L2
namespace L2
open PySem PySem.Spec PyProof.Rows
section
variable {X : Cx}
def tVar (i : Nat) : TE := fun σ H Q => ∃ v, σ[i]? = some (some v) ∧ Q v H
def tC (v : V) : TE := fun _ H Q => Q v H
theorem pe_var {i : Nat} {x : Str} {pos : Pos} (hN : X.N[i]? = some x) (hv : Vis X.env.scope x) (hd : (x == ("__debug__" : Str)) = false := by decide) (hcd : (x == ("__classdict__" : Str)) = false := by decide) : PE X (.Name x pos) (tVar i) := by
  intro pins s σ H Q I h
  obtain ⟨v, e, h⟩ := h
  obtain ⟨m, hn, hl⟩ := I.loc
  obtain ⟨u, r, l⟩ := hl i x v hN e hv
  have fin : EP X pins σ Q u s := ⟨v, H, I, r, h⟩
  rcases l with ⟨hk, hm⟩ | ⟨hk, c, hc, hcell⟩
  · exact wpAny_Name (wpAny_loadName_local I.ok.kind hk hn hm fin) hd
  · rcases hk with hk | hk
    · exact wpAny_Name (wpAny_loadName_cell I.ok.kind hk hc hcell fin) hd
    · exact wpAny_Name (wpAny_loadName_free I.ok.kind hk hc hcell fin hcd) hd
theorem pe_int {i j pos} : PE X (.Constant (.int i) j pos) (tC (.int i)) := fun _ _ _ H _ I h => wpAny_Constant_int ⟨.int i, H, I.tok _, ⟨_, rfl⟩, h⟩
theorem pe_bl {b j pos} : PE X (.Constant (.bool b) j pos) (tC (.bl b)) := fun _ _ _ H _ I h => Constant_bool ⟨.bl b, H, I, rfl, h⟩
theorem pe_non {j pos} : PE X (.Constant .none j pos) (tC .non) := fun _ _ _ H _ I h => Constant_none ⟨.non, H, I, rfl, h⟩
theorem pe_str {x j pos} : PE X (.Constant (.str x) j pos) (tC (.str x)) := fun _ _ _ H _ I h => Calls.Constant_str ⟨.str x, H, I.tok _, ⟨_, rfl⟩, h⟩
def Gl (X : Cx) (x : Str) : Prop := X.env.kindOf x = some .globalImplicit
theorem ld_glob {E : Value → Shared → Prop} {pins : List (Addr × Obj)} {s : Shared} {σ : St} {H : Hp} {x : Str} {u : Value} {pos : Pos} {Q : Value → Shared → Prop} (I : Inv X pins σ H s) (hg : Gl X x) (hm : X.mg x = some u) (h : Q u s)
    (hd : (x == ("__debug__" : Str)) = false := by decide) : wpAny (model X.prog X.w) X.A (eval (.Name x pos) X.env) Q E s :=
  Calls.Name_function_global I.ok.kind hg (Calls.loadGlobal_global (by rw [I.ok.glob]; exact I.mod.glob.keeps I.bk) hm h) hd
theorem ld_blt {E : Value → Shared → Prop} {pins : List (Addr × Obj)} {s : Shared} {σ : St} {H : Hp} {x : Str} {u : Value} {pos : Pos} {Q : Value → Shared → Prop} (I : Inv X pins σ H s) (hg : Gl X x) (hm : X.mg x = none) (hv : bootBuiltins x = some u) (h : Q u s)
    (hn : x ≠ "__name__" := by decide) (hd : (x == ("__debug__" : Str)) = false := by decide) : wpAny (model X.prog X.w) X.A (eval (.Name x pos) X.env) Q E s := by
  obtain ⟨mb, h1, h2⟩ := I.mod.blt
  exact Calls.Name_function_global I.ok.kind hg (Calls.loadGlobal_builtin (by rw [I.ok.glob]; exact I.mod.glob.keeps I.bk) hm (by rw [I.ok.blt]; exact h1.keeps I.bk) ((h2 x hn).trans hv) h) hd
theorem pe_glob {x : Str} {v : V} {u : Value} {pos : Pos} (hg : Gl X x) (hm : X.mg x = some u) (r : RelV v u) (hd : (x == ("__debug__" : Str)) = false := by decide) : PE X (.Name x pos) (tC v) :=
  fun _ _ _ H _ I h => ld_glob I hg hm ⟨v, H, I, r, h⟩ hd
theorem pe_bltn {x : Str} {v : V} {u : Value} {pos : Pos} (hg : Gl X x) (hm : X.mg x = none) (hv : bootBuiltins x = some u) (r : RelV v u) (hn : x ≠ "__name__" := by decide) (hd : (x == ("__debug__" : Str)) = false := by decide) : PE X (.Name x pos) (tC v) :=
  fun _ _ _ H _ I h => ld_blt I hg hm hv ⟨v, H, I, r, h⟩ hn hd
variable {a b : Expr} {ta tb : TE} {pos : Pos}
theorem nobehind (b : Expr) {op : CmpOp} (h : op ≠ .In) (h2 : op ≠ .NotIn) : behindInMarks op b = false := by
  have e1 : (op == CmpOp.In) = false := by cases op <;> first | rfl | exact absurd rfl h
  have e2 : (op == CmpOp.NotIn) = false := by cases op <;> first | rfl | exact absurd rfl h2
  cases b <;> simp [behindInMarks, e1, e2]
def tB (t : TE) : TT := fun σ H Q => t σ H fun x H1 => ∃ c, x = .bl c ∧ Q c H1
theorem pt_val {e : Expr} {t : TE} (h : PE X e t) (he : ∀ whole, isTrue e X.env whole = (do let v ← whole; standAt e.pos; holding [v] (truthy v)) := by intro _; rfl) : PT X e (tB t) := by
  intro pins s σ H Q I hw
  refine isTrue_plain (thn (h pins s σ H _ I hw) fun v s1 ⟨x, H1, I1, r1, q1⟩ => ?_) (he _)
  obtain ⟨d, rfl, q⟩ := q1
  cases r1
  exact wpAny_truthy_bool ⟨H1, I1, q⟩
variable {tA tB' : TT} {rest : List Expr}
def tAnd (t u : TT) : TT := fun σ H Q => t σ H fun c H1 => if c = true then u σ H1 Q else Q false H1
def tOr (t u : TT) : TT := fun σ H Q => t σ H fun c H1 => if c = true then Q true H1 else u σ H1 Q
def tNot (t : TT) : TT := fun σ H Q => t σ H fun c H1 => Q (!c) H1
theorem pw_and1 (ha : PT X a tA) : PW X (.BoolOp .And [a] pos) tA := by
  intro wh pins s σ H Q I h
  refine isTrue_and (thn (ha pins s σ H Q I h) fun c s1 e => ?_)
  cases c with
  | true => exact isTrue_and_nil e
  | false => exact e
theorem pw_or1 (ha : PT X a tA) : PW X (.BoolOp .Or [a] pos) tA := by
  intro wh pins s σ H Q I h
  refine isTrue_or (thn (ha pins s σ H Q I h) fun c s1 e => ?_)
  cases c with
  | false => exact isTrue_or_nil e
  | true => exact e
theorem pw_and (ha : PT X a tA) (hb : PW X (.BoolOp .And (b :: rest) pos) tB') : PW X (.BoolOp .And (a :: b :: rest) pos) (tAnd tA tB') := by
  intro wh pins s σ H Q I h
  refine isTrue_and (thn (ha pins s σ H _ I h) fun c s1 ⟨H1, I1, q1⟩ => ?_)
  cases c with
  | true => exact hb wh pins s1 σ H1 Q I1 q1
  | false => exact ⟨H1, I1, q1⟩
theorem pw_or (ha : PT X a tA) (hb : PW X (.BoolOp .Or (b :: rest) pos) tB') : PW X (.BoolOp .Or (a :: b :: rest) pos) (tOr tA tB') := by
  intro wh pins s σ H Q I h
  refine isTrue_or (thn (ha pins s σ H _ I h) fun c s1 ⟨H1, I1, q1⟩ => ?_)
  cases c with
  | true => exact ⟨H1, I1, q1⟩
  | false => exact hb wh pins s1 σ H1 Q I1 q1
theorem pt_not (ha : PT X a tA) : PT X (.UnaryOp .Not a pos) (tNot tA) := by
  intro pins s σ H Q I h
  exact isTrue_not (ha pins s σ H (fun c H1 => Q (!c) H1) I h)
def tAndV (ta tb : TE) : TE := fun σ H Q => ta σ H fun x H1 => ∃ c, x = .bl c ∧ if c = true then tb σ H1 Q else Q (.bl false) H1
def tOrV (ta tb : TE) : TE := fun σ H Q => ta σ H fun x H1 => ∃ c, x = .bl c ∧ if c = true then Q (.bl true) H1 else tb σ H1 Q
def tNotV (ta : TE) : TE := fun σ H Q => ta σ H fun x H1 => ∃ c, x = .bl c ∧ Q (.bl (!c)) H1
theorem pe_one {op} {t : TE} (h : PE X a t) : PE X (.BoolOp op [a] pos) t := fun pins s σ H Q I hw => BoolOp_one (h pins s σ H Q I hw)
theorem pe_and (ha : PE X a ta) (hb : PE X (.BoolOp .And (b :: rest) pos) tb) : PE X (.BoolOp .And (a :: b :: rest) pos) (tAndV ta tb) := by
  intro pins s σ H Q I h
  refine BoolOp_and (thn (ha pins s σ H _ I h) fun v s1 ⟨x, H1, I1, r1, q1⟩ => ?_)
  obtain ⟨c, rfl, q1⟩ := q1
  cases r1
  refine wpAny_truthy_bool ?_
  cases c with
  | true => exact hb pins s1 σ H1 Q I1 q1
  | false => exact ⟨.bl false, H1, I1, rfl, q1⟩
theorem pe_or (ha : PE X a ta) (hb : PE X (.BoolOp .Or (b :: rest) pos) tb) : PE X (.BoolOp .Or (a :: b :: rest) pos) (tOrV ta tb) := by
  intro pins s σ H Q I h
  refine BoolOp_or (thn (ha pins s σ H _ I h) fun v s1 ⟨x, H1, I1, r1, q1⟩ => ?_)
  obtain ⟨c, rfl, q1⟩ := q1
  cases r1
  refine wpAny_truthy_bool ?_
  cases c with
  | false => exact hb pins s1 σ H1 Q I1 q1
  | true => exact ⟨.bl true, H1, I1, rfl, q1⟩
theorem pe_not (ha : PE X a ta) : PE X (.UnaryOp .Not a pos) (tNotV ta) := by
  intro pins s σ H Q I h
  refine UnaryOp_ (thn (ha pins s σ H _ I h) fun v s1 ⟨x, H1, I1, r1, q1⟩ => ?_)
  obtain ⟨c, rfl, q1⟩ := q1
  cases r1
  exact not_of (wpAny_truthy_bool ⟨.bl (!c), H1, I1, rfl, q1⟩)
def tIf (t : TT) (ta tb : TE) : TE := fun σ H Q => t σ H fun c H1 => if c = true then ta σ H1 Q else tb σ H1 Q
theorem pe_ifExp {c : Expr} (hc : PT X c tA) (ha : PE X a ta) (hb : PE X b tb) : PE X (.IfExp c a b pos) (tIf tA ta tb) := by
  intro pins s σ H Q I h
  refine wpAny_IfExp (thn (hc pins s σ H _ I h) fun d s1 ⟨H1, I1, q1⟩ => ?_)
  cases d with
  | true => exact ha pins s1 σ H1 Q I1 q1
  | false => exact hb pins s1 σ H1 Q I1 q1
end
end L2
namespace L2
open PySem PySem.Spec PyProof.Rows
def SqL (K : PySem.W.Frag) (H : Hp) (a : Addr) (xs : List V) : Prop :=
  Rd H a (.lst xs) ∨
    ∃ (o : Obj) (its : Array Value) (n : Nat), K.lookup a = some o ∧ o.cls = .type "list" ∧ o.dict = none ∧ o.data = .seq its n ∧ its.size ≤ sizeLine ∧ Vals xs its.toList
def SqT (K : PySem.W.Frag) (H : Hp) (a : Addr) (xs : List V) : Prop :=
  Rd H a (.tup xs) ∨
    ∃ (o : Obj) (its : Array Value) (n : Nat), K.lookup a = some o ∧ o.cls = .type "tuple" ∧ o.dict = none ∧ o.data = .seq its n ∧ its.size ≤ sizeLine ∧ Vals xs its.toList
def absV : Value → Option V
  | .none => some .non
  | .bool b => some (.bl b)
  | .int i _ => some (.int i)
  | .str x _ => some (.str x)
  | .bytes b _ => some (.byt b)
  | .float b _ => some (.flt b)
  | .ref a => some (.ref a)
  | .type n => some (.ty n)
  | _ => none
theorem RelV.abs {x : V} {u : Value} (r : RelV x u) : absV u = some x := by
  cases x with
  | non => cases r; rfl
  | bl _ => cases r; rfl
  | int _ => obtain ⟨t, rfl⟩ := r; rfl
  | str _ => obtain ⟨t, rfl⟩ := r; rfl
  | byt _ => obtain ⟨t, rfl⟩ := r; rfl
  | flt _ => obtain ⟨t, rfl⟩ := r; rfl
  | ref _ => cases r; rfl
  | ty _ => cases r; rfl
theorem RelV.inj {x y : V} {u : Value} (r : RelV x u) (q : RelV y u) : x = y := Option.some.inj (r.abs.symm.trans q.abs)
theorem Vals.inj : ∀ {xs ys : List V} {us : List Value}, Vals xs us → Vals ys us → xs = ys
  | _, _, _, .nil, .nil => rfl
  | _, _, _, .cons r t, .cons r' t' => by rw [r.inj r', Vals.inj t t']
section
variable {X : Cx} {pins : List (Addr × Obj)} {σ : St} {H : Hp} {s : Shared} {a : Addr} {xs ys : List V}
theorem SqL.of {K : PySem.W.Frag} (h : H a = some (.lst xs)) : SqL K H a xs := .inl (.inl h)
theorem SqT.of {K : PySem.W.Frag} (h : H a = some (.tup xs)) : SqT K H a xs := .inl (.inl h)
theorem Inv.list (I : Inv X pins σ H s) (h : SqL X.K H a xs) : ∃ its : List Value, Vals xs its ∧ PlainL s.heap a its.toArray ∧ xs.length ≤ sizeLine := by
  rcases h with h | ⟨o, its, n, hk, hc, hd, hs, hz, r⟩
  · obtain ⟨z, its, n, r, e⟩ := h.ok I.hok
    exact ⟨its, r, ⟨_, n, e, rfl, rfl, rfl⟩, z⟩
  · refine ⟨its.toList, r, ⟨o, n, I.kIn a o hk, hc, hd, by simpa using hs⟩, ?_⟩
    have e := r.length
    simp only [Array.length_toList] at e
    omega
theorem Inv.tupleO (I : Inv X pins σ H s) (h : SqT X.K H a xs) : ∃ its : List Value, Vals xs its ∧ TupO s.heap a its.toArray ∧ xs.length ≤ sizeLine := by
  rcases h with h | ⟨o, its, n, hk, hc, hd, hs, hz, r⟩
  · obtain ⟨z, its, r, p⟩ := h.ok I.hok
    exact ⟨its, r, p, z⟩
  · refine ⟨its.toList, r, ⟨o, I.kIn a o hk, hc, hd, n, by simpa using hs⟩, ?_⟩
    have e := r.length
    simp only [Array.length_toList] at e
    omega
theorem Inv.tuple (I : Inv X pins σ H s) (h : SqT X.K H a xs) : ∃ its : List Value, Vals xs its ∧ IsTup s.heap a its.toArray ∧ xs.length ≤ sizeLine :=
  let ⟨its, r, p, z⟩ := I.tupleO h
  ⟨its, r, p.tup, z⟩
theorem Inv.tuple_inj (I : Inv X pins σ H s) (h : SqT X.K H a xs) (h' : SqT X.K H a ys) : xs = ys := by
  obtain ⟨its, r, ⟨o, e, _, n, d⟩, _⟩ := I.tuple h
  obtain ⟨its', r', ⟨o', e', _, n', d'⟩, _⟩ := I.tuple h'
  rw [e] at e'; cases e'
  rw [d] at d'
  injection d' with d1 _
  have : its = its' := by simpa using congrArg Array.toList d1
  subst this
  exact r.inj r'
end
abbrev Cx.wish (X : Cx) (E : Value → Shared → Prop) : Cx := { X with xe := E }
abbrev Cx.nox (X : Cx) : Cx := X.wish fun _ _ => False
theorem Cx.Ok.wish {X : Cx} (ok : X.Ok) (E : Value → Shared → Prop) : (X.wish E).Ok :=
  ⟨ok.mod, ok.kind, ok.glob, ok.blt, ok.above, ok.inj, ok.has, ok.cab, ok.hd, ok.frames, ok.stk, ok.exf, ok.bs, ok.bsz, ok.noex, ok.exfs, ok.funs, ok.frf⟩
theorem Cx.Ok.unwish {X : Cx} {E : Value → Shared → Prop} (ok : (X.wish E).Ok) : X.Ok :=
  ⟨ok.mod, ok.kind, ok.glob, ok.blt, ok.above, ok.inj, ok.has, ok.cab, ok.hd, ok.frames, ok.stk, ok.exf, ok.bs, ok.bsz, ok.noex, ok.exfs, ok.funs, ok.frf⟩
section
variable {X : Cx} {pins : List (Addr × Obj)} {σ : St} {H : Hp} {s : Shared} {E : Value → Shared → Prop}
theorem Inv.wish (I : Inv X pins σ H s) (E : Value → Shared → Prop) : Inv (X.wish E) pins σ H s := ⟨I.ok.wish E, I.os, I.bare, I.base, I.loc, I.cell, I.free, I.freeC, I.pin, I.hok, I.len⟩
theorem Inv.unwish (I : Inv (X.wish E) pins σ H s) : Inv X pins σ H s := ⟨I.ok.unwish, I.os, I.bare, I.base, I.loc, I.cell, I.free, I.freeC, I.pin, I.hok, I.len⟩
theorem SP.unwish {D : Ends} {f : Flow} {s' : Shared} (h : SP (X.wish E) pins D f s') : SP X pins D f s' := by
  cases f with
  | next => obtain ⟨σ', H', I, q⟩ := h; exact ⟨σ', H', I.unwish, q⟩
  | brk => obtain ⟨σ', H', I, q⟩ := h; exact ⟨σ', H', I.unwish, q⟩
  | cont => obtain ⟨σ', H', I, q⟩ := h; exact ⟨σ', H', I.unwish, q⟩
  | ret u => obtain ⟨v, σ', H', I, r, q⟩ := h; exact ⟨v, σ', H', I.unwish, r, q⟩
theorem PE.nox {e : Expr} {t : TE} (h : PE X.nox e t) : PE X e t := fun pins s σ H Q I hw =>
  wpAny_mono (h pins s σ H Q (I.wish _) hw) (fun _ _ ⟨v, H', I', r, q⟩ => ⟨v, H', I'.unwish, r, q⟩) fun _ _ z => False.elim z
theorem PT.nox {e : Expr} {t : TT} (h : PT X.nox e t) : PT X e t := fun pins s σ H Q I hw =>
  wpAny_mono (h pins s σ H Q (I.wish _) hw) (fun _ _ ⟨H', I', q⟩ => ⟨H', I'.unwish, q⟩) fun _ _ z => False.elim z
theorem PSs.nox {st : List Stmt} {t : TS} (h : PSs X.nox st t) : PSs X st t := fun pins s σ H D I hw =>
  wpAny_mono (h pins s σ H D (I.wish _) hw) (fun _ _ q => q.unwish) fun _ _ z => False.elim z
end
section
variable {X : Cx} {st : Stmt} {rest : List Stmt} {t u : TS} {e : Expr} {te : TE} {pos : Pos}
def tNext : TS := fun D σ H => D.nx σ H
def tSeq (t u : TS) : TS := fun D σ H => t { D with nx := u D } σ H
theorem pss_nil : PSs X [] tNext := fun _ _ σ H _ I h => wpAny_execs_nil ⟨σ, H, I, h⟩
theorem pss_cons (h1 : PS X st t) (h2 : PSs X rest u) : PSs X (st :: rest) (tSeq t u) := by
  intro pins s σ H D I h
  refine wpAny_execs_cons (thn (h1 pins s σ H { D with nx := u D } I h) fun f s1 q => ?_)
  cases f with
  | next =>
    obtain ⟨σ', H', I', q⟩ := q
    exact h2 pins s1 σ' H' D I' q
  | ret v => exact q
  | brk => exact q
  | cont => exact q
theorem pss_one (h1 : PS X st t) : PSs X [st] t := by
  intro pins s σ H D I h
  refine wpAny_execs_cons (thn (h1 pins s σ H D I h) fun f s1 q => ?_)
  cases f with
  | next => exact wpAny_execs_nil q
  | ret v => exact q
  | brk => exact q
  | cont => exact q
theorem Inv.quiet {pins : List (Addr × Obj)} {σ : St} {H : Hp} {s : Shared} (I : Inv X pins σ H s) : interactive X.env = false := by simp [interactive, I.ok.kind]
def tDrop (te : TE) : TS := fun D σ H => te σ H fun _ H1 => D.nx σ H1
theorem ps_expr (he : PE X e te) (hs : swapsWith e none pos.line X.env = pure false := by rfl) : PS X (.Expr e pos) (tDrop te) := by
  intro pins s σ H D I h
  exact wpAny_Expr_any (thn (he pins s σ H _ I h) fun v s1 ⟨x, H1, I1, r1, q1⟩ => ⟨σ, H1, I1, q1⟩) I.quiet hs
def tRet (te : TE) : TS := fun D σ H => te σ H D.rt
theorem ps_ret (he : PE X e te) : PS X (.Return (some e) pos) (tRet te) := by
  intro pins s σ H D I h
  exact wpAny_Return_some (thn (he pins s σ H _ I h) fun v s1 ⟨x, H1, I1, r1, q1⟩ => ⟨x, σ, H1, I1, r1, q1⟩)
def tIfS (c : TT) (t u : TS) : TS := fun D σ H => c σ H fun b H1 => if b = true then t D σ H1 else u D σ H1
theorem ps_if {c : Expr} {a b : List Stmt} {tc : TT} (hc : PT X c tc) (ha : PSs X a t) (hb : PSs X b u) : PS X (.If c a b pos) (tIfS tc t u) := by
  intro pins s σ H D I h
  refine wpAny_If (thn (hc pins s σ H _ I h) fun d s1 ⟨H1, I1, q1⟩ => ?_)
  cases d with
  | true => exact ha pins s1 σ H1 D I1 q1
  | false => exact hb pins s1 σ H1 D I1 q1
def tNever : TS := fun _ _ _ => False
theorem pss_never {sts : List Stmt} : PSs X sts tNever := fun _ _ _ _ _ _ h => h.elim
end
abbrev TG := V → St → Hp → (St → Hp → Prop) → Prop
def PG (X : Cx) (target : Expr) (t : TG) : Prop :=
  ∀ (pins : List (Addr × Obj)) (s : Shared) (σ : St) (H : Hp) (v : V) (u : Value) (Q : St → Hp → Prop), Inv X pins σ H s → RelV v u → t v σ H Q →
    wpAny (model X.prog X.w) X.A (assign target X.env u) (fun _ s' => ∃ σ' H', Inv X pins σ' H' s' ∧ Q σ' H') X.xe s
abbrev TSet := V → V → V → Hp → (Hp → Prop) → Prop
def PSet (X : Cx) (t : TSet) : Prop :=
  ∀ (pins : List (Addr × Obj)) (s : Shared) (σ : St) (H : Hp) (o i v : V) (ov iv u : Value) (Q : Hp → Prop), Inv X pins σ H s → RelV o ov → RelV i iv → RelV v u → t o i v H Q →
    wpAny (model X.prog X.w) X.A (setItem ov iv u) (fun _ s' => ∃ H', Inv X pins σ H' s' ∧ Q H') X.xe s
section
variable {X : Cx} {pos : Pos}
def gName (i : Nat) : TG := fun v σ H Q => Q (σ.set i (some v)) H
theorem pg_name {i : Nat} {x : Str} (hN : X.N.Nodup) (hi : X.N[i]? = some x) (hx : Loc X.env.scope x) (hf : X.fn x = true ∨ X.env.scope.names.lookup x = some .local := by first | exact .inl rfl | exact .inr rfl | assumption) : PG X (.Name x pos) (gName i) := by
  intro pins s σ H v u Q I r h
  exact wpAny_assign_Name (store_ok I hN hi hx r (fun s' I' => ⟨_, H, I', h⟩) hf)
def gSub (to ti : TE) (t : TSet) : TG := fun v σ H Q => to σ H fun o H1 => ti σ H1 fun i H2 => t o i v H2 fun H3 => Q σ H3
theorem pg_sub {o i : Expr} {to ti : TE} {t : TSet} (ho : PE X o to) (hi : PE X i ti) (hs : PSet X t)
    (ha : ∀ v, assign (.Subscript o i pos) X.env v = (do
      let ov ← holding [v] (eval o X.env)
      let iv ← holding [v, ov] (eval i X.env)
      standAt pos
      holding [v, ov, iv] (setItem ov iv v)
      release [v, ov, iv] []) := by intro _; rfl) : PG X (.Subscript o i pos) (gSub to ti t) := by
  intro pins s σ H v u Q I r h
  rw [ha]
  refine wpAny_bind (wpAny_holding (thn (ho pins s σ H _ I h) fun ov s1 ⟨x, H1, I1, r1, q1⟩ => ?_))
  refine wpAny_bind (wpAny_holding (thn (hi pins s1 σ H1 _ I1 q1) fun iv s2 ⟨y, H2, I2, r2, q2⟩ => ?_))
  refine wpAny_bind (wpAny_standAt (wpAny_bind (wpAny_holding (thn (hs pins s2 σ H2 x y v ov iv u _ I2 r1 r2 r q2) fun _ s3 ⟨H3, I3, q3⟩ => ?_))))
  exact wpAny_release ⟨σ, H3, I3, q3⟩
def tAsg (te : TE) (g : TG) : TS := fun D σ H => te σ H fun x H1 => g x σ H1 D.nx
theorem ps_asg {tg e : Expr} {te : TE} {g : TG} (he : PE X e te) (hg : PG X tg g) (hs : swapsWithSole [tg] e pos.line X.env = pure false := by rfl) (hw : swappedStores [tg] e X.env = pure none := by rfl)
    (h1 : (assignEach [tg] X.env).map (·.2) = [assign tg X.env] := by rfl) : PS X (.Assign [tg] e pos) (tAsg te g) := by
  intro pins s σ H D I h
  refine wpAny_Assign_stores (thn (he pins s σ H _ I h) fun v s1 ⟨x, H1, I1, r1, q1⟩ => ?_) hs hw
  rw [h1]
  exact thn (hg pins s1 σ H1 x v _ I1 r1 q1) fun _ s2 q => q
theorem ps_set {i : Nat} {x : Str} {e : Expr} {te : TE} {pos' : Pos} (hN : X.N.Nodup) (hi : X.N[i]? = some x) (hx : Loc X.env.scope x) (he : PE X e te) (hs : swapsWith e (some (.Name x pos')) pos.line X.env = pure false := by rfl) (hf : X.fn x = true ∨ X.env.scope.names.lookup x = some .local := by first | exact .inl rfl | exact .inr rfl | assumption) :
    PS X (.Assign [.Name x pos'] e pos) (tAsg te (gName i)) := by
  intro pins s σ H D I h
  refine wpAny_Assign_Name (thn (he pins s σ H _ I h) fun v s1 ⟨y, H1, I1, r1, q1⟩ => ?_) hs
  exact store_ok I1 hN hi hx r1 (fun s2 I2 => ⟨_, H1, I2, q1⟩) hf
end
section
variable {X : Cx} {pos : Pos}
def tWhile (c : TT) (tb : TS) : TS := fun D σ H => ∃ W : Nat → St → Hp → Prop, (∃ m, W m σ H) ∧ ∀ m σ H, W m σ H →
  c σ H fun b H1 => if b = true then ∃ N : St → Hp → Prop, (∀ σ' H', N σ' H' → ∃ m', m' < m ∧ W m' σ' H') ∧ tb { D with nx := N, ct := N, bk := D.nx } σ H1 else D.nx σ H1
theorem ps_while {c : Expr} {body : List Stmt} {tc : TT} {tb : TS} (hp : PassesOwn (model X.prog X.w) X.A X.env X.xe) (hc : PT X c tc) (hb : PSs X body tb) : PS X (.While c body [] pos) (tWhile tc tb) := by
  intro pins s σ H D I h
  obtain ⟨W, ⟨m0, w0⟩, turn⟩ := h
  refine wpAny_While (codeAny_whileLoop (fun n s' => ∃ σ' H', Inv X pins σ' H' s' ∧ W n σ' H') ?_ m0 ⟨σ, H, I, w0⟩)
  rintro n s1 ⟨σ1, H1, I1, w1⟩
  refine wpAny_passesOwn hp (thn (hc pins s1 σ1 H1 _ I1 (turn n σ1 H1 w1)) fun b s2 ⟨H2, I2, q2⟩ => ?_)
  cases b with
  | true =>
    obtain ⟨N, hN, q2⟩ := q2
    rw [if_pos rfl]
    refine wpAny_passesOwn hp (thn (hb pins s2 σ1 H2 _ I2 q2) fun f s3 q3 => ?_)
    cases f with
    | next =>
      obtain ⟨σ3, H3, I3, n3⟩ := q3
      obtain ⟨m', hm, w3⟩ := hN σ3 H3 n3
      exact ⟨m', hm, σ3, H3, I3, w3⟩
    | cont =>
      obtain ⟨σ3, H3, I3, n3⟩ := q3
      obtain ⟨m', hm, w3⟩ := hN σ3 H3 n3
      exact ⟨m', hm, σ3, H3, I3, w3⟩
    | brk => exact q3
    | ret v => exact q3
  | false =>
    rw [if_neg Bool.false_ne_true]
    exact wpAny_execs_nil ⟨σ1, H2, I2, q2⟩
end
structure It where
  go : Nat → Hp → Prop
  yld : Nat → Hp → V → Hp → Prop
  stop : Nat → Hp → Prop
def FpOk (X : Cx) (pins : List (Addr × Obj)) (H : Hp) (b : Addr) : Prop :=
  H b = none ∧ b ≠ X.env.locals ∧ b ∉ X.fs ∧ (b ∈ X.ex ∨ X.s₀.heap.objs.size ≤ b) ∧ (∀ x c, X.env.cells.lookup x = some c → c ≠ b) ∧ ∀ p ∈ X.pn ++ pins, p.1 ≠ b
theorem Inv.fpOk {X : Cx} {pins : List (Addr × Obj)} {σ : St} {H H' : Hp} {s : Shared} {b : Addr} (I : Inv X pins σ H s) (hb : s.heap.objs.size ≤ b) (hn : H' b = none) : FpOk X pins H' b := by
  refine ⟨hn, Nat.ne_of_gt (Nat.lt_of_lt_of_le I.lt hb), I.nofs hb, .inr (Nat.le_trans I.sz hb), fun x c e z => ?_, fun p hp z => ?_⟩
  · obtain ⟨v, q⟩ := I.cell x c e
    exact absurd (Nat.lt_of_lt_of_le q.lt (by rw [z]; exact hb)) (Nat.lt_irrefl _)
  · exact absurd (Nat.lt_of_lt_of_le (Heap.lt_size (I.pin p hp).1) (by rw [z]; exact hb)) (Nat.lt_irrefl _)
structure Turn (P : Program) (w : World) (K : PySem.W.Frag) (tg : Expr) (J : It) (fp : List Addr) (it : Addr) (tn : Nat → Heap → Prop) : Prop where
  mem : it ∈ fp
  obj : ∀ i h, tn i h → ∀ b ∈ fp, ∃ o, h.get? b = some o ∧ ∀ v, o.data ≠ .cell v
  keep : ∀ i h h', tn i h → (∀ b ∈ fp, ∀ o, h.get? b = some o → h'.get? b = some o) → tn i h'
  item : ∀ (X : Cx), X.prog = P → X.w = w → X.K = K → X.calm = true → ∀ (i : Nat) (pins : List (Addr × Obj)) (s : Shared) (σ : St) (H : Hp) (E : Value → Shared → Prop), Inv X pins σ H s → (∀ b ∈ fp, FpOk X pins H b) → tn i s.heap → J.go i H →
    wpAny (model P w) X.A (pyNext (.ref it)) (fun r s1 => ∃ u, r = some u ∧
      wpAny (model P w) X.A (letOwnedTupleGo tg (.ref it) u) (fun _ s2 => ∃ x H', Inv X pins σ H' s2 ∧ RelV x u ∧ J.yld i H x H' ∧ tn (i + 1) s2.heap ∧ ∀ b ∈ fp, H' b = none) E s1) E s
  done : ∀ (X : Cx), X.prog = P → X.w = w → X.K = K → X.calm = true → ∀ (i : Nat) (pins : List (Addr × Obj)) (s : Shared) (σ : St) (H : Hp) (E : Value → Shared → Prop), Inv X pins σ H s → (∀ b ∈ fp, FpOk X pins H b) → tn i s.heap → J.stop i H →
    wpAny (model P w) X.A (pyNext (.ref it)) (fun r s1 => r = none ∧ Inv X pins σ H s1) E s
  self : ∀ (A : Around) (i : Nat) (s : Shared) (Q : Value → Shared → Prop) (E : Value → Shared → Prop), tn i s.heap → Q (.ref it) s → wpAny (model P w) A (pyIter (.ref it)) Q E s
abbrev TI := St → Hp → (It → Hp → Prop) → Prop
def PIE (X : Cx) (pins : List (Addr × Obj)) (σ : St) (tg : Expr) (R : It → Hp → Prop) (itv : Value) (s2 : Shared) : Prop :=
  ∃ (it : Addr) (fp : List Addr) (tn : Nat → Heap → Prop) (J : It) (H' : Hp), itv = .ref it ∧ Inv X pins σ H' s2 ∧ Turn X.prog X.w X.K tg J fp it tn ∧ tn 0 s2.heap ∧ (∀ b ∈ fp, FpOk X pins H' b) ∧ R J H'
def PI (X : Cx) (tg iter : Expr) (wi : TI) : Prop :=
  ∀ (pins : List (Addr × Obj)) (s : Shared) (σ : St) (H : Hp) (R : It → Hp → Prop), Inv X pins σ H s → wi σ H R →
    wpAny (model X.prog X.w) X.A (eval iter X.env) (fun v s1 => wpAny (model X.prog X.w) X.A (pyIter v) (PIE X pins σ tg R) X.xe s1) X.xe s
theorem go_of {M : Model} {A : Around} {E : Value → Shared → Prop} {s : Shared} {tg : Expr} {it : Addr} {u : Value} {o : Obj} {n : String} {vs : Array Value} {Q : Unit → Shared → Prop} (ho : s.heap.get? it = some o) (hc : o.cls = .type n) (hd : o.data = .fields vs)
    (hn : ["enumerate", "zip", "dict_itemiterator", "dict_reverseitemiterator", "odict_iterator", "itertools.zip_longest", "itertools.pairwise"].contains n = false) (hQ : Q () s) : wpAny M A (letOwnedTupleGo tg (.ref it) u) Q E s := by
  unfold letOwnedTupleGo
  cases tg <;> first
    | exact wpAny_pure hQ
    | (cases u <;> first
        | exact wpAny_pure hQ
        | (refine wpAny_bind (wpAny_load ho ?_)
           rw [hc, hd]
           show wpAny M A (if (["enumerate", "zip", "dict_itemiterator", "dict_reverseitemiterator", "odict_iterator", "itertools.zip_longest", "itertools.pairwise"].contains n && vs[0]? == some (rawInt _)) = true then _ else _) Q E s
           rw [if_neg (by intro h; rw [hn, Bool.false_and] at h; cases h)]
           exact wpAny_pure hQ))
def Itt (K : PySem.W.Frag) (a : Addr) : It :=
  ⟨fun i H => ∃ xs x, SqT K H a xs ∧ xs[i]? = some x, fun i H x H' => H' = H ∧ ∀ xs, SqT K H a xs → xs[i]? = some x, fun i H => ∃ xs, SqT K H a xs ∧ xs.length ≤ i⟩
def Itr (lo : Int) (n : Nat) : It := ⟨fun i _ => i < n, fun i H x H' => H' = H ∧ x = .int (lo + i), fun i _ => n ≤ i⟩
theorem turn_tuple {P : Program} {w : World} {K : PySem.W.Frag} {tg : Expr} (a it : Addr) : Turn P w K tg (Itt K a) [it] it (fun i h => h.IsTupleIter it a i) where
  mem := by simp
  obj := fun i h st b hb => by
    have e : b = it := by simpa using hb
    subst e
    obtain ⟨o, e, c, d⟩ := st
    exact ⟨o, e, fun v z => by rw [d] at z; cases z⟩
  keep := fun i h h' st k => st.at fun o e => k it (by simp) o e
  item := by
    intro X hP hw hK hc i pins s σ H E I hf st hg
    subst hP hw hK
    obtain ⟨xs, x, hq, hx⟩ := hg
    obtain ⟨its, rv, p, hz⟩ := I.tuple hq
    obtain ⟨u, hu, ru⟩ := rv.get hx
    obtain ⟨f0, f1, f2, f3, f4, f5⟩ := hf it (by simp)
    refine wpAny_pyNext_tuple_item st (show s.heap.IsTuple a its.toArray from p) (x := u) (by simpa using hu) fun h' st' sb => ?_
    have I1 : Inv X pins σ H { s with heap := h' } := I.turned (t' := s.toks) (fun b o hb e => (sb.2 b hb).trans e) f0 f1 f3 f4 f5
    obtain ⟨o, e, c, d⟩ := id st'
    exact ⟨u, rfl, go_of (s := { s with heap := h' }) e c d (by decide) ⟨x, H, I1, ru, ⟨rfl, fun ys hy => by rw [I.tuple_inj hy hq]; exact hx⟩, st', fun b hb => (hf b hb).1⟩⟩
  done := by
    intro X hP hw hK hc i pins s σ H E I hf st hg
    subst hP hw hK
    obtain ⟨xs, hq, hx⟩ := hg
    obtain ⟨its, rv, p, hz⟩ := I.tuple hq
    obtain ⟨f0, f1, f2, f3, f4, f5⟩ := hf it (by simp)
    have hl := rv.length
    exact wpAny_pyNext_tuple_end (I.ok.hd hc) st (show s.heap.IsTuple a its.toArray from p) (by simp; omega) fun h' eb => ⟨rfl, I.turned (t' := s.toks) (fun b o hb e => eb b o hb e) f0 f1 f3 f4 f5⟩
  self := fun _ _ _ _ _ st h => wpAny_pyIter_tupleiter st h
theorem turn_range {P : Program} {w : World} {K : PySem.W.Frag} {tg : Expr} (it : Addr) (lo : Int) (n : Nat) : Turn P w K tg (Itr lo n) [it] it (fun i h => IsRangeIter h it (lo + (i : Nat) * 1) ((n : Int) - (i : Nat)) 1) where
  mem := by simp
  obj := fun i h st b hb => by
    have e : b = it := by simpa using hb
    subst e
    exact ⟨_, st, fun v z => by
      have z' : Data.fields _ = Data.cell v := z
      cases z'⟩
  keep := fun i h h' st k => k it (by simp) _ st
  item := by
    intro X hP hw hK hc i pins s σ H E I hf st hg
    subst hP hw hK
    obtain ⟨f0, f1, f2, f3, f4, f5⟩ := hf it (by simp)
    have W := Walks.range (prog := X.prog) (w := X.w) (I.ok.hd hc) it lo 1 n
    refine W.item i s _ _ hg st fun v h' tk hv st' kk => ?_
    obtain ⟨t, rfl⟩ := hv
    have I1 : Inv X pins σ H { s with heap := h', toks := tk } := I.turned (fun b o hb e => kk b o (by simpa using hb) e) f0 f1 f3 f4 f5
    refine ⟨_, rfl, go_of (s := { s with heap := h', toks := tk }) (n := "range_iterator") st' rfl rfl (by decide) ⟨.int (lo + i), H, I1, ⟨t, ?_⟩, ⟨rfl, rfl⟩, st', fun b hb => (hf b hb).1⟩⟩
    rw [Int.mul_one]
  done := by
    intro X hP hw hK hc i pins s σ H E I hf st hg
    subst hP hw hK
    obtain ⟨f0, f1, f2, f3, f4, f5⟩ := hf it (by simp)
    exact wpAny_pyNext_range_end (I.ok.hd hc) st (by have : n ≤ i := hg; omega) fun h' eb => ⟨rfl, I.turned (t' := s.toks) (fun b o hb e => eb b o hb e) f0 f1 f3 f4 f5⟩
  self := fun _ _ _ _ _ st h => wpAny_pyIter_rangeiter st h
end L2
namespace L2
open PySem PySem.Spec PyProof.Rows
section
variable {X : Cx} {tg : Expr}
def iTup (K : PySem.W.Frag) (tl : TE) : TI := fun σ H R => tl σ H fun x H1 => ∃ a, x = .ref a ∧ (∃ xs, SqT K H1 a xs) ∧ R (Itt K a) H1
theorem pi_tup {l : Expr} {tl : TE} (hl : PE X l tl) : PI X tg l (iTup X.K tl) := by
  intro pins s σ H R I h
  refine thn (hl pins s σ H _ I h) fun v s1 ⟨x, H1, I1, r1, q1⟩ => ?_
  obtain ⟨a, e, ⟨xs, hq⟩, q⟩ := q1
  subst e
  cases r1
  obtain ⟨its, rv, p, hz⟩ := I1.tuple hq
  refine wpAny_pyIter_tuple (show s1.heap.IsTuple a its.toArray from p) ?_
  refine ⟨s1.heap.objs.size, [s1.heap.objs.size], _, _, H1, rfl, I1.kept (t' := s1.toks) fun b o e => Heap.get?_push_of_some _ e, turn_tuple a _, ⟨_, Heap.get?_push_size _ rfl, rfl, rfl⟩, fun b hb => ?_, q⟩
  have e : b = s1.heap.objs.size := by simpa using hb
  subst e
  exact I1.fpOk (Nat.le_refl _) (I1.hok.fresh (Nat.le_refl _))
theorem range_it {pins : List (Addr × Obj)} {σ : St} {H : Hp} {s : Shared} {R : It → Hp → Prop} {E : Value → Shared → Prop} {lo hi : Int} {t u v : Tok} {tk : Nat} (I : Inv X pins σ H s) (h1 : -(2 ^ 62) ≤ lo) (h2 : lo < 2 ^ 62) (h3 : -(2 ^ 62) ≤ hi) (h4 : hi < 2 ^ 62)
    (q : R (Itr lo (hi - lo).toNat) H) : wpAny (model X.prog X.w) X.A (pyIter (.ref s.heap.objs.size)) (PIE X pins σ tg R) E { s with heap := s.heap.push { cls := .type "range", data := .fields #[.int lo t, .int hi u, .int 1 v] }, toks := tk } := by
  refine wpAny_pyIter_range (IsRange.new ..) (small_one h1 h2 h3 h4) ?_
  have I1 : Inv X pins σ H { s with heap := s.heap.push { cls := .type "range", data := .fields #[.int lo t, .int hi u, .int 1 v] }, toks := tk } := I.kept fun b o e => Heap.get?_push_of_some _ e
  refine ⟨(s.heap.push { cls := .type "range", data := .fields #[.int lo t, .int hi u, .int 1 v] }).objs.size, [(s.heap.push { cls := .type "range", data := .fields #[.int lo t, .int hi u, .int 1 v] }).objs.size], _, _, H, rfl,
    I1.kept (t' := tk) fun b o e => Heap.get?_push_of_some _ e, turn_range _ lo (hi - lo).toNat, ?_, fun b hb => ?_, q⟩
  · have e1 : lo + ((0 : Nat) : Int) * 1 = lo := by simp
    have e2 : (((hi - lo).toNat : Nat) : Int) - ((0 : Nat) : Int) = Builtin.Range.rangeSize lo hi 1 := by rw [rangeSize_one]; split <;> omega
    show IsRangeIter _ _ (lo + ((0 : Nat) : Int) * 1) ((((hi - lo).toNat : Nat) : Int) - ((0 : Nat) : Int)) 1
    rw [e1, e2]
    exact Heap.get?_push_size _ rfl
  · have e : b = (s.heap.push { cls := .type "range", data := .fields #[.int lo t, .int hi u, .int 1 v] }).objs.size := by simpa using hb
    subst e
    exact I1.fpOk (Nat.le_refl _) (I1.hok.fresh (Nat.le_refl _))
def iRng1 (ta : TA) : TI := fun σ H R => ta σ H fun vs H1 => ∃ j : Int, vs = [.int j] ∧ -(2 ^ 62) ≤ j ∧ j < 2 ^ 62 ∧ R (Itr 0 j.toNat) H1
def iRng2 (ta : TA) : TI := fun σ H R => ta σ H fun vs H1 => ∃ i j : Int, vs = [.int i, .int j] ∧ (-(2 ^ 62) ≤ i ∧ i < 2 ^ 62 ∧ -(2 ^ 62) ≤ j ∧ j < 2 ^ 62) ∧ R (Itr i (j - i).toNat) H1
theorem pi_range1 {a : Expr} {ta : TA} {p pos : Pos} (hg : Gl X "range") (hm : X.mg "range" = none) (ha : PA X [a] ta) (hs : starEach [a] X.env = [(false, eval a X.env)] := by rfl) : PI X tg (.Call (.Name "range" p) [a] [] pos) (iRng1 ta) := by
  intro pins s σ H R I h
  refine Call_ (ld_blt I hg hm boot_range (PyProof.Rows.callWith_type1 (thn (ha pos pins s σ H _ I h) fun us s1 ⟨vs, H1, I1, r1, q1⟩ => ?_) hs rfl))
  obtain ⟨j, e, q1, q2, q⟩ := q1
  subst e
  cases r1 with
  | cons r rr =>
    cases rr
    obtain ⟨t, rfl⟩ := r
    exact call_range_1 (range_it I1 (by omega) (by omega) q1 q2 (by simpa using q))
theorem pi_range2 {a b : Expr} {ta : TA} {p pos : Pos} (hg : Gl X "range") (hm : X.mg "range" = none) (ha : PA X [a, b] ta) (hs : starEach [a, b] X.env = [(false, eval a X.env), (false, eval b X.env)] := by rfl) (hs2 : starEach [b] X.env = [(false, eval b X.env)] := by rfl) :
    PI X tg (.Call (.Name "range" p) [a, b] [] pos) (iRng2 ta) := by
  intro pins s σ H R I h
  refine Call_ (ld_blt I hg hm boot_range (PyProof.Rows.callWith_type1 (thn (ha pos pins s σ H _ I h) fun us s1 ⟨vs, H1, I1, r1, q1⟩ => ?_) (by rw [hs, hs2]) (by rw [hs2]; rfl)))
  obtain ⟨i, j, e, ⟨q1, q2, q3, q4⟩, q⟩ := q1
  subst e
  cases r1 with
  | cons r rr =>
    cases rr with
    | cons r' rr =>
      cases rr
      obtain ⟨t, rfl⟩ := r
      obtain ⟨t', rfl⟩ := r'
      exact call_range_2 (range_it I1 q1 q2 q3 q4 q)
def tFor (wi : TI) (g : TG) (tb : TS) : TS := fun D σ H => wi σ H fun J H1 => ∃ W : Nat → Nat → St → Hp → Prop, (∃ m, W 0 m σ H1) ∧ ∀ i m σ H, W i m σ H →
  (J.stop i H ∧ D.nx σ H) ∨ (J.go i H ∧ ∃ N : St → Hp → Prop, (∀ σ' H', N σ' H' → ∃ m', m' < m ∧ W (i + 1) m' σ' H') ∧ ∀ x H', J.yld i H x H' → g x σ H' fun σ2 H2 => tb { D with nx := N, ct := N, bk := D.nx } σ2 H2)
def pinsAt (fp : List Addr) (h : Heap) : List (Addr × Obj) := fp.filterMap fun b => (h.get? b).map fun o => (b, o)
theorem mem_pinsAt {fp : List Addr} {h : Heap} {b : Addr} {o : Obj} (hb : b ∈ fp) (e : h.get? b = some o) : (b, o) ∈ pinsAt fp h := List.mem_filterMap.mpr ⟨b, hb, by rw [e]; rfl⟩
theorem of_pinsAt {fp : List Addr} {h : Heap} {p : Addr × Obj} (hp : p ∈ pinsAt fp h) : p.1 ∈ fp ∧ h.get? p.1 = some p.2 := by
  obtain ⟨b, hb, e⟩ := List.mem_filterMap.mp hp
  cases q : h.get? b with
  | none => rw [q] at e; cases e
  | some o =>
    rw [q] at e
    have e' : (b, o) = p := Option.some.inj e
    subst e'
    exact ⟨hb, q⟩
theorem Inv.pinned {pins : List (Addr × Obj)} {σ : St} {H : Hp} {s : Shared} {fp : List Addr} (I : Inv X pins σ H s) (hf : ∀ b ∈ fp, FpOk X pins H b) (ho : ∀ b ∈ fp, ∃ o, s.heap.get? b = some o ∧ ∀ v, o.data ≠ .cell v) : Inv X (pins ++ pinsAt fp s.heap) σ H s :=
  I.pins_of fun p hp => (List.mem_append.mp hp).elim (fun z => I.pin p (List.mem_append_right _ z)) fun z => by
    obtain ⟨hb, e⟩ := of_pinsAt z
    obtain ⟨f0, f1, f2, _⟩ := hf p.1 hb
    obtain ⟨o, e', d⟩ := ho p.1 hb
    rw [e] at e'; cases e'
    exact ⟨e, f0, f1, f2, d⟩
theorem Inv.unpinned {pins pl : List (Addr × Obj)} {σ : St} {H : Hp} {s : Shared} (I : Inv X (pins ++ pl) σ H s) : Inv X pins σ H s := I.pins_of fun p hp => I.pin p (List.mem_append_right _ (List.mem_append_left _ hp))
theorem ps_for {iter : Expr} {body : List Stmt} {wi : TI} {g : TG} {tb : TS} {pos : Pos} (hp : PassesOwn (model X.prog X.w) X.A X.env X.xe) (hc : X.calm = true) (hi : PI X tg iter wi) (hg : PG X tg g) (hb : PSs X body tb)
    (hs : ∀ x, foldedSetIterable iter X.env x = pure x := by intro _; rfl) : PS X (.For tg iter body [] pos) (tFor wi g tb) := by
  intro pins s σ H D I h
  refine wpAny_For (thn (hi pins s σ H _ I h) fun v s1 h1 => thn h1 fun itv s2 h2 => ?_) hs
  obtain ⟨it, fp, tn, J, H2, e, I2, T, st2, f2, W, ⟨m0, w0⟩, turn⟩ := h2
  subst e
  have stat : ∀ {H' : Hp}, (∀ b ∈ fp, H' b = none) → ∀ b ∈ fp, FpOk X pins H' b := fun hn b hb => ⟨hn b hb, (f2 b hb).2⟩
  refine codeAny_forLoop_any (fun n s' => ∃ i σ' H', Inv X pins σ' H' s' ∧ tn i s'.heap ∧ (∀ b ∈ fp, H' b = none) ∧ W i n σ' H') ?_ m0 ⟨0, σ, H2, I2, st2, fun b hb => (f2 b hb).1, w0⟩
  rintro n s3 ⟨i, σ3, H3, I3, st3, fr3, w3⟩
  rcases turn i n σ3 H3 w3 with ⟨stop, qn⟩ | ⟨go, N, hN, step⟩
  · refine wpAny_passesOwn hp (thn (T.done X rfl rfl rfl hc i pins s3 σ3 H3 X.xe I3 (stat fr3) st3 stop) fun r s4 ⟨hr, I4⟩ => ?_)
    subst hr
    exact wpAny_execs_nil ⟨σ3, H3, I4, qn⟩
  · refine wpAny_passesOwn hp (thn (T.item X rfl rfl rfl hc i pins s3 σ3 H3 X.xe I3 (stat fr3) st3 go) fun r s4 ⟨u, hr, h4⟩ => ?_)
    subst hr
    refine wpAny_passesOwn hp (thn h4 fun _ s5 ⟨x, H5, I5, r5, y5, st5, fr5⟩ => ?_)
    have I5' := I5.pinned (stat fr5) (T.obj _ _ st5)
    refine wpAny_passesOwn hp (thn (hg _ s5 σ3 H5 x u _ I5' r5 (step x H5 y5)) fun _ s6 ⟨σ6, H6, I6, q6⟩ => ?_)
    refine wpAny_passesOwn hp (thn (hb _ s6 σ6 H6 _ I6 q6) fun f s7 q7 => ?_)
    have again : ∀ {σ7 : St} {H7 : Hp}, Inv X (pins ++ pinsAt fp s5.heap) σ7 H7 s7 → N σ7 H7 → ∃ m, m < n ∧ ∃ i σ' H', Inv X pins σ' H' s7 ∧ tn i s7.heap ∧ (∀ b ∈ fp, H' b = none) ∧ W i m σ' H' := fun {σ7 H7} I7 n7 => by
      obtain ⟨m', hm, w7⟩ := hN σ7 H7 n7
      refine ⟨m', hm, i + 1, σ7, H7, I7.unpinned, T.keep _ _ _ st5 fun b hb o e => (I7.pin (b, o) (List.mem_append_right _ (List.mem_append_right _ (mem_pinsAt hb e)))).1, fun b hb => ?_, w7⟩
      obtain ⟨o, e, d⟩ := T.obj _ _ st5 b hb
      exact (I7.pin (b, o) (List.mem_append_right _ (List.mem_append_right _ (mem_pinsAt hb e)))).2.1
    cases f with
    | next => obtain ⟨σ7, H7, I7, n7⟩ := q7; exact again I7 n7
    | cont => obtain ⟨σ7, H7, I7, n7⟩ := q7; exact again I7 n7
    | brk => obtain ⟨σ7, H7, I7, q7⟩ := q7; exact ⟨σ7, H7, I7.unpinned, q7⟩
    | ret v => obtain ⟨x7, σ7, H7, I7, r7, q7⟩ := q7; exact ⟨x7, σ7, H7, I7.unpinned, r7, q7⟩
end
theorem for_range {lo : Int} {n : Nat} {g : TG} {tb : TS} {D : Ends} {σ : St} {H : Hp} (Pv : Nat → St → Hp → Prop) (h0 : Pv 0 σ H)
    (hs : ∀ i σ H, i < n → Pv i σ H → g (.int (lo + i)) σ H fun σ2 H2 => tb { D with nx := Pv (i + 1), ct := Pv (i + 1), bk := D.nx } σ2 H2) (hd : ∀ σ H, Pv n σ H → D.nx σ H) :
    ∃ W : Nat → Nat → St → Hp → Prop, (∃ m, W 0 m σ H) ∧ ∀ i m σ H, W i m σ H →
      ((Itr lo n).stop i H ∧ D.nx σ H) ∨ ((Itr lo n).go i H ∧ ∃ N : St → Hp → Prop, (∀ σ' H', N σ' H' → ∃ m', m' < m ∧ W (i + 1) m' σ' H') ∧ ∀ x H', (Itr lo n).yld i H x H' → g x σ H' fun σ2 H2 => tb { D with nx := N, ct := N, bk := D.nx } σ2 H2) := by
  refine ⟨fun i m σ H => m = n - i ∧ i ≤ n ∧ Pv i σ H, ⟨n, by simp, Nat.zero_le _, h0⟩, ?_⟩
  rintro i m σ H ⟨rfl, hi, p⟩
  by_cases hlt : i < n
  · refine .inr ⟨hlt, Pv (i + 1), fun σ' H' p' => ⟨n - (i + 1), by omega, rfl, hlt, p'⟩, fun x H' y => ?_⟩
    obtain ⟨e, y⟩ := y
    subst e y
    exact hs i σ _ hlt p
  · have e : i = n := by omega
    subst e
    exact .inl ⟨Nat.le_refl _, hd σ H p⟩
theorem while_by {c : TT} {tb : TS} {D : Ends} {σ : St} {H : Hp} (Pv : St → Hp → Prop) (μ : St → Hp → Nat) (h0 : Pv σ H)
    (hs : ∀ σ H, Pv σ H → c σ H fun b H1 => if b = true then tb { D with nx := fun σ' H' => Pv σ' H' ∧ μ σ' H' < μ σ H, ct := fun σ' H' => Pv σ' H' ∧ μ σ' H' < μ σ H, bk := D.nx } σ H1 else D.nx σ H1)
    (mono : ∀ σ H Q Q', (∀ b H1, Q b H1 → Q' b H1) → c σ H Q → c σ H Q') : tWhile c tb D σ H := by
  refine ⟨fun m σ H => m = μ σ H ∧ Pv σ H, ⟨_, rfl, h0⟩, ?_⟩
  rintro m σ H ⟨rfl, p⟩
  refine mono σ H _ _ (fun b H1 q => ?_) (hs σ H p)
  cases b with
  | true => exact ⟨_, fun σ' H' ⟨p', l⟩ => ⟨_, l, rfl, p'⟩, q⟩
  | false => exact q
end L2
namespace L2
open PySem PySem.Spec PyProof.Rows
abbrev R2 := V → V → Hp → VK → Prop
def OpR (X : Cx) (f : Value → Value → Sem Value) (r : R2) : Prop :=
  ∀ (pins : List (Addr × Obj)) (s : Shared) (σ : St) (H : Hp) (x y : V) (v u : Value) (Q : VK), Inv X pins σ H s → RelV x v → RelV y u → r x y H Q →
    wpAny (model X.prog X.w) X.A (f v u) (EP X pins σ Q) X.xe s
def UnR (X : Cx) (f : Value → Sem Value) (r : V → Hp → VK → Prop) : Prop :=
  ∀ (pins : List (Addr × Obj)) (s : Shared) (σ : St) (H : Hp) (x : V) (v : Value) (Q : VK), Inv X pins σ H s → RelV x v → r x H Q →
    wpAny (model X.prog X.w) X.A (f v) (EP X pins σ Q) X.xe s
def CallR (X : Cx) (f : Value) (r : List V → Hp → VK → Prop) : Prop :=
  ∀ (pins : List (Addr × Obj)) (s : Shared) (σ : St) (H : Hp) (xs : List V) (us : List Value) (Q : VK), Inv X pins σ H s → Vals xs us → r xs H Q →
    wpAny (model X.prog X.w) X.A (call f us) (EP X pins σ Q) X.xe s
def tOp (r : R2) (ta tb : TE) : TE := fun σ H Q => ta σ H fun x H1 => tb σ H1 fun y H2 => r x y H2 Q
def tUn (r : V → Hp → VK → Prop) (ta : TE) : TE := fun σ H Q => ta σ H fun x H1 => r x H1 Q
def rI (C : Int → Int → Prop) (g : Int → Int → V) : R2 := fun x y H Q => ∃ i j, x = .int i ∧ y = .int j ∧ C i j ∧ Q (g i j) H
def rI0 (g : Int → Int → V) : R2 := fun x y H Q => ∃ i j, x = .int i ∧ y = .int j ∧ Q (g i j) H
def rU (g : Int → V) : V → Hp → VK → Prop := fun x H Q => ∃ i, x = .int i ∧ Q (g i) H
section
variable {X : Cx} {a b c : Expr} {ta tb tc : TE} {pos : Pos}
theorem binT (ha : PE X a ta) (hb : PE X b tb) {pins : List (Addr × Obj)} {s : Shared} {σ : St} {H : Hp} {R : V → V → Hp → Prop} (I : Inv X pins σ H s)
    (h : ta σ H fun x H1 => tb σ H1 fun y H2 => R x y H2) {Q : Value → Shared → Prop} {f : Value → Value → Sem Value}
    (hf : ∀ v u s2 x y H2, Inv X pins σ H2 s2 → RelV x v → RelV y u → R x y H2 → wpAny (model X.prog X.w) X.A (f v u) Q X.xe s2) :
    wpAny (model X.prog X.w) X.A (eval a X.env) (fun v s₁ => wpAny (model X.prog X.w) X.A (eval b X.env) (fun u s₂ => wpAny (model X.prog X.w) X.A (f v u) Q X.xe s₂) X.xe s₁) X.xe s := by
  refine thn (ha pins s σ H _ I h) fun v s1 ⟨x, H1, I1, r1, q1⟩ => ?_
  refine thn (hb pins s1 σ H1 _ I1 q1) fun u s2 ⟨y, H2, I2, r2, q2⟩ => ?_
  exact hf v u s2 x y H2 I2 r1 r2 q2
theorem pe_op {op : Operator} {r : R2} (ho : OpR X (binaryOp op) r) (ha : PE X a ta) (hb : PE X b tb) : PE X (.BinOp a op b pos) (tOp r ta tb) := by
  intro pins s σ H Q I h
  exact wpAny_BinOp (binT ha hb I h fun v u s2 x y H2 I2 rx ry q => ho pins s2 σ H2 x y v u Q I2 rx ry q)
theorem pe_un {op : UnaryOp} {r : V → Hp → VK → Prop} (ho : UnR X (unaryOp op) r) (ha : PE X a ta) : PE X (.UnaryOp op a pos) (tUn r ta) := by
  intro pins s σ H Q I h
  exact UnaryOp_ (thn (ha pins s σ H _ I h) fun v s1 ⟨x, H1, I1, r1, q1⟩ => ho pins s1 σ H1 x v Q I1 r1 q1)
theorem opI {f : Value → Value → Sem Value} {C : Int → Int → Prop} {g : Int → Int → Int}
    (rule : ∀ (i j : Int) (t u : Tok) (s : Shared) (Q : Value → Shared → Prop) (E : Value → Shared → Prop), C i j → Q (.int (g i j) s.toks) { s with toks := s.toks + 1 } → wpAny (model X.prog X.w) X.A (f (.int i t) (.int j u)) Q E s) :
    OpR X f (rI C fun i j => .int (g i j)) := by
  intro pins s σ H x y v u Q I rx ry h
  obtain ⟨i, j, rfl, rfl, hc, q⟩ := h
  obtain ⟨t, rfl⟩ := rx
  obtain ⟨t', rfl⟩ := ry
  exact rule i j t t' s _ _ hc ⟨.int (g i j), H, I.tok _, ⟨_, rfl⟩, q⟩
theorem opI0 {f : Value → Value → Sem Value} {g : Int → Int → Int}
    (rule : ∀ (i j : Int) (t u : Tok) (s : Shared) (Q : Value → Shared → Prop) (E : Value → Shared → Prop), Q (.int (g i j) s.toks) { s with toks := s.toks + 1 } → wpAny (model X.prog X.w) X.A (f (.int i t) (.int j u)) Q E s) :
    OpR X f (rI0 fun i j => .int (g i j)) := by
  intro pins s σ H x y v u Q I rx ry h
  obtain ⟨i, j, rfl, rfl, q⟩ := h
  obtain ⟨t, rfl⟩ := rx
  obtain ⟨t', rfl⟩ := ry
  exact rule i j t t' s _ _ ⟨.int (g i j), H, I.tok _, ⟨_, rfl⟩, q⟩
theorem opB0 {f : Value → Value → Sem Value} {g : Int → Int → Bool}
    (rule : ∀ (i j : Int) (t u : Tok) (s : Shared) (Q : Value → Shared → Prop) (E : Value → Shared → Prop), Q (.bool (g i j)) s → wpAny (model X.prog X.w) X.A (f (.int i t) (.int j u)) Q E s) :
    OpR X f (rI0 fun i j => .bl (g i j)) := by
  intro pins s σ H x y v u Q I rx ry h
  obtain ⟨i, j, rfl, rfl, q⟩ := h
  obtain ⟨t, rfl⟩ := rx
  obtain ⟨t', rfl⟩ := ry
  exact rule i j t t' s _ _ ⟨.bl (g i j), H, I, rfl, q⟩
def CDiv (i j : Int) : Prop := 0 < j ∧ j < 1073741824
def CPow (i j : Int) : Prop := 0 ≤ j ∧ j ≤ 1000000 ∧ i.natAbs < 2 ^ 64
def CMul (i j : Int) : Prop := (-(2 ^ 64) < i ∧ i < 2 ^ 64) ∨ (-(2 ^ 64) < j ∧ j < 2 ^ 64)
theorem CMul.ok {i j : Int} (h : CMul i j) : IntMulOk i j := by
  rcases h with ⟨h1, h2⟩ | ⟨h1, h2⟩
  · exact .of_left (intBits_le_64 h1 h2)
  · exact .of_right (intBits_le_64 h1 h2)
theorem op_add : OpR X (binaryOp .Add) (rI0 fun i j => .int (i + j)) := opI0 fun _ _ _ _ _ _ _ q => add_int q
theorem op_sub : OpR X (binaryOp .Sub) (rI0 fun i j => .int (i - j)) := opI0 fun _ _ _ _ _ _ _ q => sub_int q
theorem op_mul : OpR X (binaryOp .Mult) (rI CMul fun i j => .int (i * j)) := opI fun _ _ _ _ _ _ _ hc q => mul_int q hc.ok
theorem op_fdiv : OpR X (binaryOp .FloorDiv) (rI CDiv fun i j => .int (i / j)) := opI fun i j _ _ _ _ _ hc q => by
  have h1 : (0 : Int) < j := hc.1
  have h2 : j < 1073741824 := hc.2
  exact floordiv_int (by omega) (by rw [Int.fdiv_eq_ediv_of_nonneg i (by omega)]; exact q) (.inl (PyProof.noPylong_small (by omega)))
theorem op_mod : OpR X (binaryOp .Mod) (rI (fun _ j => 0 < j) fun i j => .int (i % j)) := opI fun i j _ _ _ _ _ hc q => by
  have h1 : (0 : Int) < j := hc
  exact mod_int' (by omega) (by rw [Int.fmod_eq_emod_of_nonneg i (by omega)]; exact q)
theorem op_pow : OpR X (binaryOp .Pow) (rI CPow fun i j => .int (i ^ j.toNat)) := opI fun _ _ _ _ _ _ _ hc q => pow_int_small hc.1 hc.2.1 hc.2.2 q
theorem unI {f : Value → Sem Value} {g : Int → Int}
    (rule : ∀ (i : Int) (t : Tok) (s : Shared) (Q : Value → Shared → Prop) (E : Value → Shared → Prop), Q (.int (g i) s.toks) { s with toks := s.toks + 1 } → wpAny (model X.prog X.w) X.A (f (.int i t)) Q E s) :
    UnR X f (rU fun i => .int (g i)) := by
  intro pins s σ H x v Q I rx h
  obtain ⟨i, rfl, q⟩ := h
  obtain ⟨t, rfl⟩ := rx
  exact rule i t s _ _ ⟨.int (g i), H, I.tok _, ⟨_, rfl⟩, q⟩
theorem un_neg : UnR X (unaryOp .USub) (rU fun i => .int (-i)) := unI fun _ _ _ _ _ q => neg_int q
end
def scal : V → V → Bool
  | .non, .non => true | .non, .int _ => true | .int _, .non => true | .non, .bl _ => true | .bl _, .non => true | .non, .str _ => true | .str _, .non => true
  | .int _, .int _ => true | .bl _, .bl _ => true | .str _, .str _ => true | .byt _, .byt _ => true
  | .int _, .str _ => true | .str _, .int _ => true | .bl _, .str _ => true | .str _, .bl _ => true
  | _, _ => false
def rEq : R2 := fun x y H Q => scal x y = true ∧ Q (.bl (decide (x = y))) H
def rNe : R2 := fun x y H Q => scal x y = true ∧ Q (.bl (!decide (x = y))) H
theorem dec_int {i j : Int} : decide (V.int i = V.int j) = (i == j) := by
  rw [Bool.eq_iff_iff]
  simp
theorem dec_bl {i j : Bool} : decide (V.bl i = V.bl j) = (i == j) := by
  rw [Bool.eq_iff_iff]
  simp
theorem dec_str {i j : Str} : decide (V.str i = V.str j) = (i == j) := by
  rw [Bool.eq_iff_iff]
  simp
theorem dec_byt {i j : Array UInt8} : decide (V.byt i = V.byt j) = (i.toList == j.toList) := by
  rw [Bool.eq_iff_iff]
  cases i
  cases j
  simp
section
variable {X : Cx} {a b c : Expr} {ta tb tc : TE} {pos : Pos}
theorem fin_bl {pins : List (Addr × Obj)} {σ : St} {H : Hp} {s : Shared} {Q : VK} {k k' : Bool} (I : Inv X pins σ H s) (q : Q (.bl k) H) (e : k = k') : EP X pins σ Q (.bool k') s := by
  subst e
  exact ⟨.bl k, H, I, rfl, q⟩
theorem op_eq : OpR X (compareOp .Eq) rEq := by
  intro pins s σ H x y v u Q I rx ry h
  obtain ⟨hs, q⟩ := h
  cases x with
  | non =>
    cases rx
    cases y with
    | non => cases ry; exact PySem.EqNone.eq_none_none (fin_bl I q (by simp))
    | bl j => cases ry; exact PySem.EqNone.eq_none_bool (fin_bl I q (by simp))
    | int j => obtain ⟨t', rfl⟩ := ry; exact PySem.EqNone.eq_none_int (fin_bl I q (by simp))
    | str j => obtain ⟨t', rfl⟩ := ry; exact PySem.EqNone.eq_none_str (fin_bl I q (by simp))
    | _ => exact absurd (show false = true from hs) Bool.false_ne_true
  | bl i =>
    cases rx
    cases y with
    | non => cases ry; exact PySem.EqNone.eq_bool_none (fin_bl I q (by simp))
    | bl j => cases ry; exact eq_bool (fin_bl I q dec_bl)
    | str j => obtain ⟨t', rfl⟩ := ry; exact PySem.EqMixed.eq_bool_str (fin_bl I q (by simp))
    | _ => exact absurd (show false = true from hs) Bool.false_ne_true
  | int i =>
    obtain ⟨t, rfl⟩ := rx
    cases y with
    | non => cases ry; exact PySem.EqNone.eq_int_none (fin_bl I q (by simp))
    | int j => obtain ⟨t', rfl⟩ := ry; exact eq_int (fin_bl I q dec_int)
    | str j => obtain ⟨t', rfl⟩ := ry; exact PySem.EqMixed.eq_int_str (fin_bl I q (by simp))
    | _ => exact absurd (show false = true from hs) Bool.false_ne_true
  | str i =>
    obtain ⟨t, rfl⟩ := rx
    cases y with
    | non => cases ry; exact PySem.EqNone.eq_str_none (fin_bl I q (by simp))
    | bl j => cases ry; exact PySem.EqMixed.eq_str_bool (fin_bl I q (by simp))
    | int j => obtain ⟨t', rfl⟩ := ry; exact PySem.EqMixed.eq_str_int (fin_bl I q (by simp))
    | str j => obtain ⟨t', rfl⟩ := ry; exact eq_str (fin_bl I q dec_str)
    | _ => exact absurd (show false = true from hs) Bool.false_ne_true
  | byt i =>
    obtain ⟨t, rfl⟩ := rx
    cases y with
    | byt j => obtain ⟨t', rfl⟩ := ry; exact PySem.W.eq_bytes (fin_bl I q dec_byt)
    | _ => exact absurd (show false = true from hs) Bool.false_ne_true
  | _ => cases y <;> exact absurd (show false = true from hs) Bool.false_ne_true
theorem op_ne : OpR X (compareOp .NotEq) rNe := by
  intro pins s σ H x y v u Q I rx ry h
  obtain ⟨hs, q⟩ := h
  cases x with
  | non =>
    cases rx
    cases y with
    | non => cases ry; exact PySem.EqNone.ne_none_none (fin_bl I q (by simp))
    | bl j => cases ry; exact PySem.EqNone.ne_none_bool (fin_bl I q (by simp))
    | int j => obtain ⟨t', rfl⟩ := ry; exact PySem.EqNone.ne_none_int (fin_bl I q (by simp))
    | str j => obtain ⟨t', rfl⟩ := ry; exact PySem.EqNone.ne_none_str (fin_bl I q (by simp))
    | _ => exact absurd (show false = true from hs) Bool.false_ne_true
  | bl i =>
    cases rx
    cases y with
    | non => cases ry; exact PySem.EqNone.ne_bool_none (fin_bl I q (by simp))
    | bl j => cases ry; exact ne_bool (fin_bl I q (congrArg not dec_bl))
    | str j => obtain ⟨t', rfl⟩ := ry; exact PySem.EqMixed.ne_bool_str (fin_bl I q (by simp))
    | _ => exact absurd (show false = true from hs) Bool.false_ne_true
  | int i =>
    obtain ⟨t, rfl⟩ := rx
    cases y with
    | non => cases ry; exact PySem.EqNone.ne_int_none (fin_bl I q (by simp))
    | int j => obtain ⟨t', rfl⟩ := ry; exact ne_int (fin_bl I q (congrArg not dec_int))
    | str j => obtain ⟨t', rfl⟩ := ry; exact PySem.EqMixed.ne_int_str (fin_bl I q (by simp))
    | _ => exact absurd (show false = true from hs) Bool.false_ne_true
  | str i =>
    obtain ⟨t, rfl⟩ := rx
    cases y with
    | non => cases ry; exact PySem.EqNone.ne_str_none (fin_bl I q (by simp))
    | bl j => cases ry; exact PySem.EqMixed.ne_str_bool (fin_bl I q (by simp))
    | int j => obtain ⟨t', rfl⟩ := ry; exact PySem.EqMixed.ne_str_int (fin_bl I q (by simp))
    | str j => obtain ⟨t', rfl⟩ := ry; exact ne_str (fin_bl I q (congrArg not dec_str))
    | _ => exact absurd (show false = true from hs) Bool.false_ne_true
  | byt i =>
    obtain ⟨t, rfl⟩ := rx
    cases y with
    | byt j => obtain ⟨t', rfl⟩ := ry; exact PySem.W.ne_bytes (fin_bl I q (congrArg not dec_byt))
    | _ => exact absurd (show false = true from hs) Bool.false_ne_true
  | _ => cases y <;> exact absurd (show false = true from hs) Bool.false_ne_true
theorem op_lt : OpR X (compareOp .Lt) (rI0 fun i j => .bl (decide (i < j))) := opB0 fun _ _ _ _ _ _ _ q => lt_int q
theorem op_le : OpR X (compareOp .LtE) (rI0 fun i j => .bl (decide (i ≤ j))) := opB0 fun _ _ _ _ _ _ _ q => le_int q
theorem op_gt : OpR X (compareOp .Gt) (rI0 fun i j => .bl (decide (j < i))) := opB0 fun _ _ _ _ _ _ _ q => gt_int q
theorem op_ge : OpR X (compareOp .GtE) (rI0 fun i j => .bl (decide (j ≤ i))) := opB0 fun _ _ _ _ _ _ _ q => ge_int q
theorem op_isN : OpR X (compareOp .Is) (fun x y H Q => y = .non ∧ Q (.bl (decide (x = .non))) H) := by
  intro pins s σ H x y v u Q I rx ry h
  obtain ⟨rfl, q⟩ := h
  cases ry
  refine is_none_gen (fin_bl I q ?_)
  cases x <;> first
    | (cases rx; rfl)
    | (obtain ⟨t, rfl⟩ := rx; rfl)
theorem op_notN : OpR X (compareOp .IsNot) (fun x y H Q => y = .non ∧ Q (.bl (!decide (x = .non))) H) := by
  intro pins s σ H x y v u Q I rx ry h
  obtain ⟨rfl, q⟩ := h
  cases ry
  refine isnot_none_gen (fin_bl I q ?_)
  cases x <;> first
    | (cases rx; rfl)
    | (obtain ⟨t, rfl⟩ := rx; rfl)
theorem OpR.or {f : Value → Value → Sem Value} {r r' : R2} (h : OpR X f r) (h' : OpR X f r') : OpR X f (fun x y H Q => r x y H Q ∨ r' x y H Q) := by
  intro pins s σ H x y v u Q I rx ry q
  rcases q with q | q
  · exact h pins s σ H x y v u Q I rx ry q
  · exact h' pins s σ H x y v u Q I rx ry q
theorem nomark (b : Expr) {op : CmpOp} (h : op ≠ .In := by decide) (h2 : op ≠ .NotIn := by decide) : behindInMarks op b = false := by
  have e1 : (op == CmpOp.In) = false := by cases op <;> first | rfl | exact absurd rfl h
  have e2 : (op == CmpOp.NotIn) = false := by cases op <;> first | rfl | exact absurd rfl h2
  cases b <;> simp [behindInMarks, e1, e2]
theorem pe_cmpR {op : CmpOp} {r : R2} (ho : OpR X (compareOp op) r) (ha : PE X a ta) (hb : PE X b tb) (hm : behindInMarks op b = false) : PE X (.Compare a [op] [b] pos) (tOp r ta tb) := by
  intro pins s σ H Q I h
  exact wpAny_Compare1 (binT ha hb I h fun v u s2 x y H2 I2 rx ry q => ho pins s2 σ H2 x y v u Q I2 rx ry q) hm
def tTest (t : TE) : TT := fun σ H Q => t σ H fun x H' => ∃ k, x = .bl k ∧ Q k H'
theorem pt_cmpR {op : CmpOp} {r : R2} (ho : OpR X (compareOp op) r) (ha : PE X a ta) (hb : PE X b tb) (hm : behindInMarks op b = false) : PT X (.Compare a [op] [b] pos) (tTest (tOp r ta tb)) := by
  intro pins s σ H Q I h
  refine wpAny_isTrue_Compare1 (thn (ha pins s σ H _ I h) fun v s1 ⟨x, H1, I1, r1, q1⟩ => thn (hb pins s1 σ H1 _ I1 q1) fun u s2 ⟨y, H2, I2, r2, q2⟩ =>
    thn (ho pins s2 σ H2 x y v u _ I2 r1 r2 q2) fun c s3 ⟨z, H3, I3, r3, k, e, q3⟩ => ?_) hm
  subst e
  cases r3
  exact wpAny_truthy_bool ⟨H3, I3, q3⟩
def tChain (r r' : R2) (ta tb tc : TE) : TE := fun σ H Q => ta σ H fun x H1 => tb σ H1 fun y H2 => r x y H2 fun z H3 => ∃ k, z = .bl k ∧
  (if k = true then tc σ H3 fun w' H4 => r' y w' H4 Q else Q (.bl false) H3)
theorem pt_chain {op op' : CmpOp} {r r' : R2} (ho : OpR X (compareOp op) r) (ho' : OpR X (compareOp op') r') (ha : PE X a ta) (hb : PE X b tb) (hc : PE X c tc)
    (hm : lastMarks [op, op'] [b, c] = false := by with_unfolding_all rfl) : PT X (.Compare a [op, op'] [b, c] pos) (tTest (tChain r r' ta tb tc)) := by
  intro pins s σ H Q I h
  refine isTrue_chain (thn (ha pins s σ H _ I h) fun v s1 ⟨x, H1, I1, r1, q1⟩ => test_link (thn (hb pins s1 σ H1 _ I1 q1) fun u s2 ⟨y, H2, I2, r2, q2⟩ =>
    thn (ho pins s2 σ H2 x y v u _ I2 r1 r2 q2) fun d s3 ⟨z, H3, I3, r3, k, e, q3⟩ => ?_)) hm
  subst e
  cases r3
  refine wpAny_truthy_bool ?_
  cases k with
  | false =>
    obtain ⟨k', e', q'⟩ := q3
    cases e'
    exact ite_ff ⟨H3, I3, q'⟩
  | true =>
    refine ite_tt (test_last (thn (hc pins s3 σ H3 _ I3 q3) fun w' s4 ⟨z', H4, I4, r4, q4⟩ => thn (ho' pins s4 σ H4 y z' u w' _ I4 r2 r4 q4) fun d' s5 ⟨z2, H5, I5, r5, k2, e2, q5⟩ => ?_))
    subst e2
    cases r5
    exact wpAny_truthy_bool ⟨H5, I5, q5⟩
theorem line63 : (sizeLine : Nat) < 2 ^ 63 := by rw [sizeLine_eq]; decide
theorem vals1 {x : V} {us : List Value} (r : Vals [x] us) : ∃ u, us = [u] ∧ RelV x u := by
  cases r with
  | cons r1 r2 => cases r2; exact ⟨_, rfl, r1⟩
theorem vals2 {x y : V} {us : List Value} (r : Vals [x, y] us) : ∃ u w', us = [u, w'] ∧ RelV x u ∧ RelV y w' := by
  cases r with
  | cons r1 r2 =>
    cases r2 with
    | cons r3 r4 => cases r4; exact ⟨_, _, rfl, r1, r3⟩
theorem call_abs : CallR X (.builtin "abs") (fun xs H Q => ∃ i, xs = [.int i] ∧ Q (.int (if i < 0 then -i else i)) H) := by
  intro pins s σ H xs us Q I r h
  obtain ⟨i, rfl, q⟩ := h
  obtain ⟨u, rfl, t, rfl⟩ := vals1 r
  exact call_abs_int fun u tk => ⟨.int (if i < 0 then -i else i), H, I.tok _, ⟨_, rfl⟩, q⟩
theorem call_max2 (hc : X.calm = true) : CallR X (.builtin "max") (fun xs H Q => ∃ i j, xs = [.int i, .int j] ∧ Q (.int (if j > i then j else i)) H) := by
  intro pins s σ H xs us Q I r h
  obtain ⟨i, j, rfl, q⟩ := h
  obtain ⟨u, w', rfl, ⟨t, rfl⟩, ⟨t', rfl⟩⟩ := vals2 r
  refine max_two_ints (I.ok.hd hc) fun h' tk k => ⟨_, H, I.kept k, ?_, q⟩
  by_cases hj : j > i
  · rw [if_pos hj, if_pos hj]; exact ⟨_, rfl⟩
  · rw [if_neg hj, if_neg hj]; exact ⟨_, rfl⟩
theorem call_int1 : CallR X (.type "int") (fun xs H Q => (∃ i, xs = [.int i] ∧ Q (.int i) H) ∨ ∃ k, xs = [.bl k] ∧ Q (.int (if k then 1 else 0)) H) := by
  intro pins s σ H xs us Q I r h
  rcases h with ⟨i, rfl, q⟩ | ⟨k, rfl, q⟩
  · obtain ⟨u, rfl, t, rfl⟩ := vals1 r
    exact call_int_int ⟨.int i, H, I, ⟨_, rfl⟩, q⟩
  · obtain ⟨u, rfl, r1⟩ := vals1 r
    cases r1
    exact call_int_bool ⟨.int (if k then 1 else 0), H, I.tok _, ⟨_, rfl⟩, q⟩
theorem call_str_int : CallR X (.type "str") (fun xs H Q => ∃ i, xs = [.int i] ∧ i.natAbs.log2 < 1920 ∧ Q (.str (toString i)) H) := by
  intro pins s σ H xs us Q I r h
  obtain ⟨i, rfl, hz, q⟩ := h
  obtain ⟨u, rfl, t, rfl⟩ := vals1 r
  exact PySem.P.str_of_int hz ⟨.str _, H, I.tok _, ⟨_, rfl⟩, q⟩
end
end L2
namespace L2
open PySem PySem.Spec PyProof.Rows
structure ObjM (h : Heap) (x dx C : Addr) (mA : Str → Option Value) : Prop where
  obj : h.get? x = some (PySem.W.instObj C dx)
  ns : h.Ns1 dx mA
  ne : dx ≠ x
theorem lookIn_ns {h : Heap} {dx : Addr} {mA : Str → Option Value} (n : h.Ns1 dx mA) : ∃ od, h.get? dx = some od ∧ ∀ name, PySem.W.lookIn name od = some (mA name) := by
  obtain ⟨o, es, ep, ho, hd, hk, _, hm⟩ := n
  refine ⟨o, ho, fun name => ?_⟩
  have e := hm name
  unfold nsFind findBy at e
  rw [← Array.find?_toList] at e
  unfold PySem.W.lookIn
  rw [hd]
  dsimp only
  split
  · rename_i y q
    rw [q] at e
    exact congrArg some e
  · rename_i q
    rw [q] at e
    have a : es.toList.any (·.refKey) = false := by
      rw [List.any_eq_false]
      intro y hy
      obtain ⟨z, t, hkey⟩ := hk y (Array.mem_toList_iff.mp hy)
      simp [DictEntry.refKey, hkey]
    have a' : ¬ es.toList.any (·.refKey) = true := by rw [a]; exact Bool.false_ne_true
    rw [if_neg a']
    exact congrArg some e
theorem ObjM.look {h : Heap} {x dx C : Addr} {mA : Str → Option Value} (I : ObjM h x dx C mA) : ∃ od, PySem.W.InstAt h x (PySem.W.instObj C dx) C (some od) ∧ ∀ name, PySem.W.lookIn name od = some (mA name) :=
  let ⟨od, ho, hl⟩ := lookIn_ns I.ns
  ⟨od, ⟨I.obj, rfl, rfl, ho⟩, hl⟩
section
variable {prog : Program} {w : World} {A : Around} {E : Value → Shared → Prop} {s : Shared} {K : PySem.W.Frag} {x dx C f : Addr} {mA : Str → Option Value} {name : Str} {v : Value}
theorem get_map {expr : Bool} {Q : Value → Shared → Prop} (X : K.In s.heap) (I : ObjM s.heap x dx C mA) (hg : PySem.W.plainGet K C name = true) (hh : PySem.W.hasDictIn K C = true)
    (ha : PySem.W.findIn K (.ref C) name = some none) (hv : mA name = some v) (hv' : PySem.W.handedIn v = true) (h : Q v { s with toks := s.toks + 1 }) :
    wpAny (model prog w) A (getAttr (.ref x) name expr) Q E s := by
  obtain ⟨od, J, hl⟩ := I.look
  exact PySem.W.get_value X J (PySem.W.plainGet_of hg).1 (PySem.W.findObj_own hh ha rfl (by rw [hl, hv])) hv' h
theorem get_meth {pl : Sem Bool} {Q : Value × List Value → Shared → Prop} (X : K.In s.heap) (I : ObjM s.heap x dx C mA) (hg : PySem.W.plainGet K C name = true)
    (hf : PySem.W.findIn K (.ref C) name = some (some (.ref f))) (ht : PySem.W.isFn K (.ref f) = true) (hv : mA name = none) (h : Q (.ref f, [.ref x]) s) :
    wpAny (model prog w) A (getMethod (.ref x) name pl) Q E s := by
  obtain ⟨od, J, hl⟩ := I.look
  exact PySem.W.method_fn X J (PySem.W.plainGet_of hg).1 (PySem.W.plainGet_of hg).2 hf (beq_iff_eq.mp ht) (by show (PySem.W.lookIn name od).map (·.isSome) = some false; rw [hl, hv]; rfl) h
theorem set_map {ns : List Str} {Q : Unit → Shared → Prop} (X : K.In s.heap) (I : ObjM s.heap x dx C mA)
    (hs : PySem.W.findIn K (.ref C) "__setattr__" = some (some (.builtin "object.__setattr__"))) (hp : PySem.W.plainOver K C = true) (ht : PySem.W.takerIn K C name = some none) (hh : PySem.W.hasDictIn K C = true)
    (hw : PySem.Within mA ns) (hsz : ns.length ≤ sizeLine)
    (h : ∀ h', ObjM h' x dx C (fun y => if y = name then some v else mA y) → Heap.SameBut dx s.heap h' → Q () { s with heap := h', toks := s.toks + 2 }) :
    wpAny (model prog w) A (setAttr (.ref x) name v) Q E s := by
  obtain ⟨od, J, hl⟩ := I.look
  refine PySem.W.set_plain X J hs (PySem.W.osa_open (s := { s with toks := s.toks + 1 }) (r := none) X J hp ht fun b => ?_)
  obtain ⟨cd, hc, hd'⟩ := PySem.W.any_some hh
  have hx : s.heap.get? x = some ⟨.ref C, some dx, .plain, #[]⟩ := I.obj
  refine wpAny_bind (wpAny_pure (wpAny_bind (wpAny_bind (wpAny_loadPart hx (wpAny_bind (PySem.W.Looks.here (s := { s with toks := s.toks + 1 }) (PySem.W.looks_clsIn X hc) ?_))))))
  rw [hd']
  refine wpAny_pure (a := some dx) (wpAny_bind (wpAny_pure (wpAny_bind ?_)))
  refine wpAny_nsSet1 (s := { s with toks := s.toks + 1 }) I.ns fun h' hn2 hs2 => ?_
  obtain ⟨oD, esD, epD, hoD, hdD, hcD⟩ := hn2.count (PySem.Within.cons name v hw)
  refine wpAny_bind (wpAny_lookBehind hoD (by rw [hdD]; exact pastItsLine_dict (Nat.le_trans hcD (by rw [List.length_cons]; omega))) ?_)
  exact wpAny_pure (h _ ⟨(hs2.2 _ (Ne.symm I.ne)).trans I.obj, hn2, I.ne⟩ hs2)
theorem make_map {R : Result → Shared → Prop} {vs : List Value} {kw : List (Str × Value)} (X : K.In s.heap) (hm : PySem.W.makesIn K C = true)
    (hi : PySem.W.findIn K (.ref C) "__init__" = some (some (.ref f))) (hf : PySem.W.typeIn K (.ref f) = some (.type "function"))
    (h : codeAny (model prog w) (A.under (.builtin "type.__call__" ⟨.ref C :: vs, kw⟩)) (.call (.ref f) ⟨.ref (s.heap.objs.size + 1) :: vs, kw⟩) (PySem.W.InitBack (s.heap.objs.size + 1) R)
      { s with heap := (s.heap.push PySem.W.emptyDict).push (PySem.W.instObj C s.heap.objs.size) }) :
    codeAny (model prog w) A (.call (.ref C) ⟨vs, kw⟩) R s := by
  obtain ⟨hh, g, d, t, os⟩ := s
  exact PySem.W.make_core (PySem.W.makes_of X hm) (PySem.W.looks_findIn X hi) (fun self => PySem.W.bind_fn X self hf) (.inl rfl) h
end
def putF (f : Str) (v : V) : List (Str × V) → List (Str × V)
  | [] => [(f, v)]
  | (g, x) :: r => if g = f then (g, v) :: r else (g, x) :: putF f v r
theorem lookup_putF (f g : Str) (v : V) : ∀ fs : List (Str × V), (putF f v fs).lookup g = if g = f then some v else fs.lookup g
  | [] => by
    show List.lookup g [(f, v)] = _
    by_cases h : g = f
    · have hb : (g == f) = true := beq_iff_eq.mpr h
      simp only [List.lookup, hb, if_pos h]
    · have hb : (g == f) = false := beq_eq_false_iff_ne.mpr h
      simp only [List.lookup, hb, if_neg h]
  | (k, x) :: r => by
    have ih := lookup_putF f g v r
    rw [show putF f v ((k, x) :: r) = (if k = f then (k, v) :: r else (k, x) :: putF f v r) from rfl]
    by_cases hk : k = f
    · rw [if_pos hk]
      by_cases h : g = k
      · have hb : (g == k) = true := beq_iff_eq.mpr h
        simp only [List.lookup, hb, if_pos (h.trans hk)]
      · have hb : (g == k) = false := beq_eq_false_iff_ne.mpr h
        simp only [List.lookup, hb, if_neg (fun e : g = f => h (e.trans hk.symm))]
    · rw [if_neg hk]
      by_cases h : g = k
      · have hb : (g == k) = true := beq_iff_eq.mpr h
        simp only [List.lookup, hb, if_neg (fun e : g = f => hk (h.symm.trans e))]
      · have hb : (g == k) = false := beq_eq_false_iff_ne.mpr h
        simp only [List.lookup, hb]
        exact ih
theorem keys_putF (f : Str) (v : V) : ∀ fs : List (Str × V), f ∈ (putF f v fs).map (·.1) ∧ ∀ g, g ∈ fs.map (·.1) → g ∈ (putF f v fs).map (·.1)
  | [] => ⟨by simp [putF], fun g h => by simp at h⟩
  | (k, x) :: r => by
    obtain ⟨i1, i2⟩ := keys_putF f v r
    rw [show putF f v ((k, x) :: r) = (if k = f then (k, v) :: r else (k, x) :: putF f v r) from rfl]
    by_cases hk : k = f
    · rw [if_pos hk]
      subst hk
      exact ⟨by simp, fun g h => by simpa using h⟩
    · rw [if_neg hk]
      refine ⟨?_, fun g h => ?_⟩
      · rw [List.map_cons]
        exact List.mem_cons_of_mem _ i1
      · rw [List.map_cons] at h ⊢
        rcases List.mem_cons.mp h with e | e
        · exact List.mem_cons.mpr (.inl e)
        · exact List.mem_cons_of_mem _ (i2 g e)
theorem length_putF (f : Str) (v : V) : ∀ fs : List (Str × V), (putF f v fs).length ≤ fs.length + 1
  | [] => by simp [putF]
  | (k, x) :: r => by
    have ih := length_putF f v r
    rw [show putF f v ((k, x) :: r) = (if k = f then (k, v) :: r else (k, x) :: putF f v r) from rfl]
    by_cases hk : k = f
    · rw [if_pos hk, List.length_cons, List.length_cons]; omega
    · rw [if_neg hk, List.length_cons, List.length_cons]; omega
theorem RelO.some_of {v : V} {o : Option Value} (r : RelO (some v) o) : ∃ u, o = some u ∧ RelV v u := by
  cases o with
  | none => exact (show False from r).elim
  | some u => exact ⟨u, rfl, r⟩
theorem RelO.none_of {o : Option Value} (r : RelO none o) : o = none := by
  cases o with
  | none => rfl
  | some u => exact (show False from r).elim
theorem handed_of {v : V} {u : Value} (r : RelV v u) : PySem.W.handedIn u = true := by
  cases v with
  | non => cases (show u = Value.none from r); rfl
  | bl b => cases (show u = Value.bool b from r); rfl
  | int i => obtain ⟨t, e⟩ := (show ∃ t, u = Value.int i t from r); cases e; rfl
  | str x => obtain ⟨t, e⟩ := (show ∃ t, u = Value.str x t from r); cases e; rfl
  | byt b => obtain ⟨t, e⟩ := (show ∃ t, u = Value.bytes b t from r); cases e; rfl
  | flt b => obtain ⟨t, e⟩ := (show ∃ t, u = Value.float b t from r); cases e; rfl
  | ref a => cases (show u = Value.ref a from r); rfl
  | ty n => cases (show u = Value.type n from r); rfl
section
variable {P : Program} {w : World} {H H' : Hp} {h h' : Heap} {a C dx : Addr} {fs fs' : List (Str × V)}
theorem ins_get (hok : HOk P w H h) (e : H a = some (.ins C dx fs)) : ∃ mA, ObjM h a dx C mA ∧ (∀ f, RelO (fs.lookup f) (mA f)) ∧ PySem.Within mA (fs.map (·.1)) ∧ fs.length ≤ 1000 ∧ H dx = some (.own a) := by
  obtain ⟨d, z, ne, ob, mA, n, r, q⟩ := (show ObjOk P w H h a (.ins C dx fs) from hok a _ e)
  exact ⟨mA, ⟨ob, n, ne⟩, r, q, z, d⟩
end
structure Cls (K : PySem.W.Frag) (C : Addr) : Prop where
  pg : PySem.W.plainGet K C Str.empty = true
  hd : PySem.W.hasDictIn K C = true
  po : PySem.W.plainOver K C = true
  sa : PySem.W.findIn K (.ref C) "__setattr__" = some (some (.builtin "object.__setattr__"))
theorem Cls.get {K : PySem.W.Frag} {C : Addr} (c : Cls K C) (f : Str) : PySem.W.plainGet K C f = true := c.pg
def NoAttr (K : PySem.W.Frag) (C : Addr) (f : Str) : Prop := PySem.W.findIn K (.ref C) f = some none
theorem NoAttr.taker {K : PySem.W.Frag} {C : Addr} {f : Str} (n : NoAttr K C f) : PySem.W.takerIn K C f = some none := by
  unfold PySem.W.takerIn
  rw [show PySem.W.findIn K (.ref C) f = some none from n]
  rfl
structure Con (K : PySem.W.Frag) (C : Addr) (f : Str) (v : V) (u : Value) : Prop where
  at_ : PySem.W.findIn K (.ref C) f = some (some u)
  rel : RelV v u
  get : PySem.W.specialIn K u "__get__" = some none
  cp : PySem.W.copiedNames.contains f = false
structure Meth (K : PySem.W.Frag) (C : Addr) (m : Str) (f : Addr) : Prop where
  at_ : PySem.W.findIn K (.ref C) m = some (some (.ref f))
  fn : PySem.W.isFn K (.ref f) = true
  kp : PySem.W.keepIn K (.ref f) = true
section
variable {X : Cx} {pins : List (Addr × Obj)} {σ : St} {H : Hp} {s : Shared} {a C dx : Addr} {fs : List (Str × V)} {f : Str} {v : V} {A : Around} {E : Value → Shared → Prop}
theorem getattr_ok {b : Bool} {Q : Value → Shared → Prop} (I : Inv X pins σ H s) (e : H a = some (.ins C dx fs)) (c : Cls X.K C) (n : NoAttr X.K C f) (l : fs.lookup f = some v)
    (h : ∀ u s', Inv X pins σ H s' → RelV v u → Q u s') : wpAny (model X.prog X.w) A (getAttr (.ref a) f b) Q E s := by
  obtain ⟨mA, O, r, _, _, _⟩ := ins_get I.hok e
  obtain ⟨u, hu, ru⟩ := RelO.some_of (v := v) (o := mA f) (by rw [← l]; exact r f)
  exact get_map I.kIn O (c.get f) c.hd n hu (handed_of ru) (h u _ (I.tok _) ru)
theorem getmeth_ok {m : Str} {g : Addr} {pl : Sem Bool} {Q : Value × List Value → Shared → Prop} (I : Inv X pins σ H s) (e : H a = some (.ins C dx fs)) (c : Cls X.K C) (k : Meth X.K C m g) (l : fs.lookup m = none)
    (h : Q (.ref g, [.ref a]) s) : wpAny (model X.prog X.w) A (getMethod (.ref a) m pl) Q E s := by
  obtain ⟨mA, O, r, _, _, _⟩ := ins_get I.hok e
  have hn : mA m = none := RelO.none_of (by rw [← l]; exact r m)
  exact get_meth I.kIn O (c.get m) k.at_ k.fn hn h
theorem setattr_ok {y : V} {u : Value} {Q : Unit → Shared → Prop} (I : Inv X pins σ H s) (e : H a = some (.ins C dx fs)) (c : Cls X.K C) (n : NoAttr X.K C f) (hl : fs.length < 1000) (ry : RelV y u)
    (h : ∀ s', Inv X pins σ (upd H a (.ins C dx (putF f y fs))) s' → Q () s') : wpAny (model X.prog X.w) A (setAttr (.ref a) f u) Q E s := by
  obtain ⟨mA, O, r, wi, _, ho⟩ := ins_get I.hok e
  have hz : (fs.map (·.1)).length ≤ sizeLine := by rw [List.length_map, sizeLine_eq]; omega
  refine set_map I.kIn O c.sa c.po n.taker c.hd wi hz fun h' O' sb => h _ ?_
  have hd : ∃ o, h'.get? dx = some o := let ⟨o, _, _, e', _⟩ := O'.ns; ⟨o, e'⟩
  refine I.write (x := a) (e := dx) (by rw [e]; exact True.intro) (.inr ho) (fun b q hb z => (sb.2 b hb).trans z) hd ?_
  refine ⟨by rw [upd_ne O.ne]; exact ho, ?_, O.ne, O'.obj, _, O'.ns, fun g => ?_, fun g hg => ?_⟩
  · have := length_putF f y fs; omega
  · show RelO ((putF f y fs).lookup g) (if g = f then some u else mA g)
    rw [lookup_putF]
    by_cases q : g = f
    · rw [if_pos q, if_pos q]; exact ry
    · rw [if_neg q, if_neg q]; exact r g
  · by_cases q : g = f
    · rw [q]; exact (keys_putF f y fs).1
    · refine (keys_putF f y fs).2 g (wi g fun z => hg ?_)
      show (if g = f then some u else mA g) = none
      rw [if_neg q]; exact z
theorem Inv.made (I : Inv X pins σ H s) : Inv X pins σ (upd (upd H s.heap.objs.size (.own (s.heap.objs.size + 1))) (s.heap.objs.size + 1) (.ins C s.heap.objs.size []))
    { s with heap := (s.heap.push PySem.W.emptyDict).push (PySem.W.instObj C s.heap.objs.size) } := by
  have e1 : (s.heap.push PySem.W.emptyDict).get? s.heap.objs.size = some PySem.W.emptyDict := Heap.get?_push_size s.heap rfl
  have e2 : ((s.heap.push PySem.W.emptyDict).push (PySem.W.instObj C s.heap.objs.size)).get? (s.heap.objs.size + 1) = some (PySem.W.instObj C s.heap.objs.size) := by
    have := Heap.get?_push_size (s.heap.push PySem.W.emptyDict) (o := PySem.W.instObj C s.heap.objs.size) rfl
    rwa [Heap.size_push] at this
  have e3 : (s.heap.push PySem.W.emptyDict).Ns s.heap.objs.size (fun _ => none) := ⟨PySem.W.emptyDict, #[], _, e1, rfl, (fun e he => absurd he (by simp)), fun _ => rfl⟩
  have I1 := I.laid (a := s.heap.objs.size) (o := .own (s.heap.objs.size + 1)) (h' := s.heap.push PySem.W.emptyDict) (t' := s.toks) (fun b u q => Heap.get?_push_of_some _ q) (Nat.le_refl _) ⟨_, e1⟩
  refine I1.laid (a := s.heap.objs.size + 1) (o := .ins C s.heap.objs.size []) (t' := s.toks) (fun b u q => Heap.get?_push_of_some _ q) (Nat.le_of_eq (Heap.size_push _ _)) ?_
  have ne : s.heap.objs.size ≠ s.heap.objs.size + 1 := Nat.ne_of_lt (Nat.lt_succ_self _)
  refine ⟨by rw [upd_ne ne, upd_same], Nat.zero_le _, ne, e2, fun _ => none, (Heap.Ns1.of_empty e3).at fun o q => Heap.get?_push_of_some _ q, fun _ => True.intro, fun y hy => absurd rfl hy⟩
theorem attr_of {prog : Program} {w : World} {env : Env} {e : Expr} {f : Str} {pos : Pos} {s : Shared} {Q : Value → Shared → Prop} (hb : attributeBase e f env (eval e env) = eval e env)
    (h : wpAny (model prog w) A (eval e env) (fun o s₁ => wpAny (model prog w) A (getAttr o f true) Q E s₁) E s) : wpAny (model prog w) A (eval (.Attribute e f pos) env) Q E s :=
  Attribute_any_ h (by rw [arm_eval_Attribute, hb])
end
def tFld (K : PySem.W.Frag) (ta : TE) (f : Str) : TE := fun σ H Q => ta σ H fun x H1 => ∃ a C dx fs v, x = .ref a ∧ H1 a = some (.ins C dx fs) ∧ Cls K C ∧ NoAttr K C f ∧ fs.lookup f = some v ∧ Q v H1
def sFld (K : PySem.W.Frag) (ta tv : TE) (f : Str) : TS := fun D σ H => tv σ H fun y H1 => ta σ H1 fun x H2 => ∃ a C dx fs, x = .ref a ∧ H2 a = some (.ins C dx fs) ∧ Cls K C ∧ NoAttr K C f ∧ fs.length < 1000 ∧
  D.nx σ (upd H2 a (.ins C dx (putF f y fs)))
section
variable {X : Cx} {o e value : Expr} {f : Str} {pos pos' tpos : Pos} {ta tv : TE}
theorem pe_fld (he : PE X e ta) (hb : attributeBase e f X.env (eval e X.env) = eval e X.env) : PE X (.Attribute e f pos) (tFld X.K ta f) := by
  intro pins s σ H Q I h
  refine attr_of hb (thn (he pins s σ H _ I h) fun u s1 ⟨x, H1, I1, rx, a, C, dx, fs, v, ex, ea, c, n, l, q⟩ => ?_)
  subst ex
  obtain rfl : u = Value.ref a := rx
  exact getattr_ok I1 ea c n l fun u' s2 I2 ru => ⟨v, H1, I2, ru, q⟩
theorem ps_fld (ha : PE X o ta) (hv : PE X value tv) (hs : swapsWith value (some (.Attribute o f pos')) pos.line X.env = pure false) : PS X (.Assign [.Attribute o f pos'] value pos) (sFld X.K ta tv f) := by
  intro pins s σ H D I h
  refine plainObj_wpAny_Assign_Attribute (thn (hv pins s σ H _ I h) fun u s1 ⟨y, H1, I1, ry, q⟩ => thn (ha pins s1 σ H1 _ I1 q) fun ov s2 ⟨x, H2, I2, rx, a, C, dx, fs, ex, ea, c, n, l, q2⟩ => ?_) hs
  subst ex
  obtain rfl : ov = Value.ref a := rx
  exact setattr_ok I2 ea c n l ry fun s3 I3 => ⟨σ, _, I3, q2⟩
end
section
variable {X : Cx} {pins : List (Addr × Obj)} {σ : St} {H : Hp} {s : Shared} {A : Around} {E : Value → Shared → Prop} {Q : Value → Shared → Prop} {c : Value} {b : Bool}
inductive TyOf (K : PySem.W.Frag) (H : Hp) : V → Value → Prop where
  | non : TyOf K H .non (.type "NoneType")
  | bl (x : Bool) : TyOf K H (.bl x) (.type "bool")
  | int (i : Int) : TyOf K H (.int i) (.type "int")
  | str (x : Str) : TyOf K H (.str x) (.type "str")
  | flt (x : UInt64) : TyOf K H (.flt x) (.type "float")
  | lst {a : Addr} {xs : List V} (e : H a = some (.lst xs)) : TyOf K H (.ref a) (.type "list")
  | frz {a : Addr} {o : Obj} {xs : List V} (e : H a = some (.frz o (.lst xs))) : TyOf K H (.ref a) (.type "list")
  | tup {a : Addr} {xs : List V} (e : H a = some (.tup xs)) : TyOf K H (.ref a) (.type "tuple")
  | dK {a : Addr} {kvs : List (Key × V)} (e : H a = some (.dK kvs)) : TyOf K H (.ref a) (.type "dict")
  | dT {a : Addr} {kvs : List (List Key × V)} (e : H a = some (.dT kvs)) : TyOf K H (.ref a) (.type "dict")
  | ins {a C dx : Addr} {fs : List (Str × V)} (e : H a = some (.ins C dx fs)) (cl : Cls K C) (ha : PySem.W.findIn K (.ref C) "__class__" = some (some (.builtin "object.__class__")))
      (hn : PySem.W.specialIn K (.builtin "object.__class__") "__get__" = some (some (.builtin "getset_descriptor.__get__"))) (htk : PySem.W.takesIn K (.builtin "object.__class__") = some true)
      (hm : PySem.W.mroIn K C (.type "object") = some true) : TyOf K H (.ref a) (.ref C)
end
end L2
namespace L2
open PySem PySem.Spec PyProof.Rows
structure Room (k : Nat) (A : Around) : Prop where
  hd : A.handled = none
  dp : A.depth + 3 * k + 5 < recursionLimit
  un : A.units + 16 * k + 200 < cLine
theorem Room.mono {j k : Nat} {A : Around} (r : Room k A) (h : j ≤ k) : Room j A := ⟨r.hd, by have := r.dp; omega, by have := r.un; omega⟩
theorem Room.deeper {k : Nat} {A : Around} (r : Room (k + 1) A) (env : Env) : Room k (A.deeper env) :=
  ⟨r.hd, by have := r.dp; show A.depth + 1 + 3 * k + 5 < _; omega, by have := r.un; show A.units + 3 + 16 * k + 200 < _; omega⟩
theorem Room.in1 {k : Nat} {A : Around} (r : Room (k + 1) A) : Room k A.in1 :=
  ⟨r.hd, by have := r.dp; show A.depth + 3 * k + 5 < _; omega, by have := r.un; show A.units + 1 + 16 * k + 200 < _; omega⟩
theorem make_depth {A : Around} {C : Addr} {us : List Value} {kw : List (Str × Value)} : (A.under (.builtin "type.__call__" ⟨.ref C :: us, kw⟩)).depth = A.depth + 1 := by
  first | rfl | simp [Around.under, Code.weight, Code.isCreation, Code.isGuard, Code.isCaller, Code.frames, Code.isFrame, guardIds]
theorem make_units {A : Around} {C : Addr} {us : List Value} {kw : List (Str × Value)} : (A.under (.builtin "type.__call__" ⟨.ref C :: us, kw⟩)).units = A.units + 1 := by
  first | rfl | simp [Around.under, Code.cUnits, Code.frames, Code.isFrame]
theorem Room.make {k : Nat} {A : Around} (r : Room (k + 1) A) (C : Addr) (us : List Value) (kw : List (Str × Value)) : Room k (A.under (.builtin "type.__call__" ⟨.ref C :: us, kw⟩)) :=
  ⟨r.hd, by have := r.dp; rw [make_depth]; omega, by have := r.un; rw [make_units]; omega⟩
theorem Room.depth {k : Nat} {A : Around} (r : Room k A) : A.depth < recursionLimit := by have := r.dp; omega
theorem Room.units {k : Nat} {A : Around} (r : Room k A) : A.units + 64 < cLine := by have := r.un; omega
def tNil : TA := fun _ H Q => Q [] H
def tCons (ta : TE) (tr : TA) : TA := fun σ H Q => ta σ H fun x H1 => tr σ H1 fun xs H2 => Q (x :: xs) H2
section
variable {X : Cx} {e : Expr} {es : List Expr} {te : TE} {t : TA} {pos : Pos}
theorem pa_nil : PA X [] tNil := fun _ _ _ _ H Q I h => Calls.spliced_nil ⟨[], H, I, .nil, h⟩
theorem pa_cons (ha : PE X e te) (hr : PA X es t) (hs : starEach (e :: es) X.env = (false, eval e X.env) :: starEach es X.env := by rfl) : PA X (e :: es) (tCons te t) := by
  intro pos pins s σ H Q I h
  rw [hs]
  show wpAny _ _ (spliced ((false, eval e X.env) :: backTo pos (starEach es X.env))) _ _ s
  refine Calls.spliced_cons (thn (ha pins s σ H _ I h) fun u s1 ⟨x, H1, I1, r1, q1⟩ => ?_)
  exact thn (hr pos pins s1 σ H1 _ I1 q1) fun us s2 ⟨xs, H2, I2, r2, q2⟩ => ⟨x :: xs, H2, I2, .cons r1 r2, q2⟩
def tTup (t : TA) : TE := fun σ H Q => t σ H fun xs H1 => xs.length ≤ sizeLine ∧ ∀ p, H1 p = none → Q (.ref p) (upd H1 p (.tup xs))
def tLst (t : TA) : TE := fun σ H Q => t σ H fun xs H1 => xs.length ≤ sizeLine ∧ ∀ p, H1 p = none → Q (.ref p) (upd H1 p (.lst xs))
theorem pe_tup {x1} (h : PA X es t) : PE X (.Tuple es x1 pos) (tTup t) := by
  intro pins s σ H Q I hq
  refine wpAny_Tuple_spliced (thn (h pos pins s σ H _ I hq) fun us s1 ⟨xs, H1, I1, r, z, q⟩ => ⟨by rw [← r.length]; exact z, ?_⟩)
  have hf : H1 s1.heap.objs.size = none := I1.hok.fresh (Nat.le_refl _)
  refine ⟨.ref s1.heap.objs.size, upd H1 s1.heap.objs.size (.tup xs), I1.laid (t' := s1.toks) (fun b u e => Heap.get?_push_of_some _ e) (Nat.le_refl _) ?_, rfl, q _ hf⟩
  exact ⟨z, us, r, ⟨_, Heap.get?_push_size _ rfl, rfl, rfl, _, rfl⟩⟩
theorem pe_lst (h : PA X es t) : PE X (.List es pos) (tLst t) := by
  intro pins s σ H Q I hq
  refine wpAny_List_spliced (thn (h pos pins s σ H _ I hq) fun us s1 ⟨xs, H1, I1, r, z, q⟩ => ⟨by rw [← r.length]; exact z, ?_⟩)
  have hf : H1 s1.heap.objs.size = none := I1.hok.fresh (Nat.le_refl _)
  refine ⟨.ref s1.heap.objs.size, upd H1 s1.heap.objs.size (.lst xs), I1.laid (t' := s1.toks) (fun b u e => Heap.get?_push_of_some _ e) (Nat.le_refl _) ?_, rfl, q _ hf⟩
  exact ⟨z, us, 0, r, Heap.get?_push_size _ rfl⟩
end
abbrev Sp := List V → Hp → VK → XK → Prop
abbrev CXT := List Env → Hp → Shared → XK → Value → Shared → Prop
structure Env0 (P : Program) (w : World) (K : PySem.W.Frag) (mg : Str → Option Value) (base : Heap) (A : Around) (outer : List Env) (s : Shared) (H : Hp) : Prop where
  frames : A.frames = some outer
  mod : Mod K mg base
  bs : ∀ b o, base.get? b = some o → s.heap.get? b = some o ∧ H b = none
  bsz : base.objs.size ≤ s.heap.objs.size
  funs : s.heap.FunFrames base outer
  frf : ∀ b ∈ frs outer, H b = none
  hok : HOk P w H s.heap
  bare : AllBare s.gens
def CE (outer : List Env) (P : Program) (w : World) (H : Hp) (s : Shared) (Q : VK) (u : Value) (s' : Shared) : Prop :=
  ∃ v H', s'.os = s.os ∧ AllBare s'.gens ∧ Un (frs outer) [] H H' s.heap s'.heap ∧ HOk P w H' s'.heap ∧ RelV v u ∧ Q v H'
def CR (CX : CXT) (outer : List Env) (P : Program) (w : World) (H : Hp) (s : Shared) (Q : VK) (E : XK) (r : Result) (s' : Shared) : Prop :=
  match r with
  | .ok (.ret u) => CE outer P w H s Q u s'
  | .ok _ => False
  | .error e => CX outer H s E e s'
structure FnOk (P : Program) (w : World) (K : PySem.W.Frag) (mg : Str → Option Value) (base : Heap) (CX : CXT) (k : Nat) (f : Addr) (fd : FuncData) (ps : List Str) (sp : Sp) : Prop where
  len : ∀ vs H Q E, sp vs H Q E → vs.length = ps.length
  run : ∀ (A : Around) (outer : List Env) (s : Shared) (H : Hp) (args : Args) (us : List Value) (vs : List V) (Q : VK) (E : XK), Room k A → Env0 P w K mg base A outer s H → BindsTo s fd args (ps.zip us) → Vals vs us → sp vs H Q E →
    codeAny (model P w) A (.call (.ref f) args) (CR CX outer P w H s Q E) s
theorem FnOk.mono {P : Program} {w : World} {K : PySem.W.Frag} {mg : Str → Option Value} {base : Heap} {CX : CXT} {j k : Nat} {f : Addr} {fd : FuncData} {ps : List Str} {sp : Sp} (F : FnOk P w K mg base CX j f fd ps sp) (h : j ≤ k) :
    FnOk P w K mg base CX k f fd ps sp := ⟨F.len, fun A outer s H args us vs Q E hr => F.run A outer s H args us vs Q E (hr.mono h)⟩
theorem FnOk.imp {P : Program} {w : World} {K : PySem.W.Frag} {mg : Str → Option Value} {base : Heap} {CX : CXT} {k : Nat} {f : Addr} {fd : FuncData} {ps : List Str} {sp sp' : Sp} (F : FnOk P w K mg base CX k f fd ps sp)
    (h : ∀ vs H Q E, sp' vs H Q E → sp vs H Q E) : FnOk P w K mg base CX k f fd ps sp' :=
  ⟨fun vs H Q E q => F.len vs H Q E (h _ _ _ _ q), fun A outer s H args us vs Q E hr he hb hv hs => F.run A outer s H args us vs Q E hr he hb hv (h _ _ _ _ hs)⟩
theorem Env0.make {P : Program} {w : World} {K : PySem.W.Frag} {mg : Str → Option Value} {base : Heap} {A : Around} {outer : List Env} {s : Shared} {H : Hp} (e : Env0 P w K mg base A outer s H) (C : Addr) (us : List Value) (kw : List (Str × Value)) :
    Env0 P w K mg base (A.under (.builtin "type.__call__" ⟨.ref C :: us, kw⟩)) outer s H := ⟨by first | exact e.frames | (simpa [Around.under, Code.envs, Code.isFrame, pushEnvs] using e.frames), e.mod, e.bs, e.bsz, e.funs, e.frf, e.hok, e.bare⟩
theorem Env0.in1 {P : Program} {w : World} {K : PySem.W.Frag} {mg : Str → Option Value} {base : Heap} {A : Around} {outer : List Env} {s : Shared} {H : Hp} (e : Env0 P w K mg base A outer s H) :
    Env0 P w K mg base A.in1 outer s H := ⟨e.frames, e.mod, e.bs, e.bsz, e.funs, e.frf, e.hok, e.bare⟩
section
variable {X : Cx} {pins : List (Addr × Obj)} {σ : St} {H : Hp} {s s' : Shared}
theorem Inv.env0 (I : Inv X pins σ H s) : Env0 X.prog X.w X.K X.mg X.base X.A X.stack s H :=
  ⟨I.ok.frames, I.ok.mod, I.bs, Nat.le_trans I.ok.bsz I.sz, I.stack, I.stkFree, I.hok, I.bare⟩
theorem Inv.after {Q : VK} {u : Value} (I : Inv X pins σ H s) (h : CE X.stack X.prog X.w H s Q u s') : EP X pins σ Q u s' := by
  obtain ⟨v, H', os, bare, un, hok, r, q⟩ := h
  obtain ⟨hh, g, d, t, os'⟩ := s'
  obtain rfl : os' = s.os := os
  exact ⟨v, H', I.call (h' := hh) (g' := g) (d' := d) (t' := t) (ch := []) un hok bare (fun b z => absurd z (by simp)), r, q⟩
end
def tCall (sp : Sp) (dvs : List V) (E : XK) (t : TA) : TE := fun σ H Q => t σ H fun vs H1 => sp (vs ++ dvs) H1 Q E
def tMeth (C : Addr) (m : Str) (sp : Sp) (dvs : List V) (E : XK) (ta : TE) (t : TA) : TE := fun σ H Q => ta σ H fun x H1 => ∃ a dx fs, x = .ref a ∧ H1 a = some (.ins C dx fs) ∧ fs.lookup m = none ∧
  t σ H1 fun vs H2 => sp (x :: (vs ++ dvs)) H2 Q E
def tMake (C : Addr) (sp : Sp) (dvs : List V) (E : XK) (t : TA) : TE := fun σ H Q => t σ H fun vs H1 => ∀ x dx, H1 x = none → H1 dx = none → dx ≠ x →
  sp (.ref x :: (vs ++ dvs)) (upd (upd H1 dx (.own x)) x (.ins C dx [])) (fun v H2 => v = .non ∧ Q (.ref x) H2) E
def Binds (K : PySem.W.Frag) (fd : FuncData) (ps : List Str) (ds : List Value) : Prop :=
  ∀ (s : Shared) (us : List Value), K.In s.heap → (us ++ ds).length = ps.length → BindsTo s fd ⟨us, []⟩ (ps.zip (us ++ ds))
theorem Binds.all {K : PySem.W.Frag} {fd : FuncData} {ps : List Str} (h : ∀ us : List Value, us.length = ps.length → bindArgs fd ⟨us, []⟩ = pure (ps.zip us)) : Binds K fd ps [] := fun s us _ hl => by
  rw [List.append_nil] at hl ⊢
  exact .of_eq (h us hl)
def Passes (CX : CXT) (X : Cx) (E : XK) : Prop := ∀ (pins : List (Addr × Obj)) (σ : St) (H : Hp) (s : Shared) (e : Value) (s' : Shared), Inv X pins σ H s → CX X.stack H s E e s' → X.xe e s'
section
variable {X : Cx} {CX : CXT} {k : Nat} {f C : Addr} {fd : FuncData} {ps : List Str} {sp : Sp} {dvs : List V} {ds : List Value} {E : XK} {x m : Str} {p pos apos : Pos} {e o : Expr} {es : List Expr} {ta : TE} {t : TA}
theorem run_fn {pins : List (Addr × Obj)} {σ : St} {H : Hp} {s : Shared} {Q : VK} {us : List Value} {vs : List V} (F : FnOk X.prog X.w X.K X.mg X.base CX k f fd ps sp) (hr : Room k X.A) (hb : Binds X.K fd ps ds) (hd : Vals dvs ds) (hx : Passes CX X E)
    (I : Inv X pins σ H s) (r : Vals vs us) (h : sp (vs ++ dvs) H Q E) : wpAny (model X.prog X.w) X.A (call (.ref f) us) (EP X pins σ Q) X.xe s := by
  have r2 : Vals (vs ++ dvs) (us ++ ds) := r.append hd
  have hl : (us ++ ds).length = ps.length := by rw [← r2.length]; exact F.len _ _ _ _ h
  refine wpAny_call (codeAny_mono (F.run X.A X.stack s H ⟨us, []⟩ (us ++ ds) (vs ++ dvs) Q E hr I.env0 (hb s us I.kIn hl) r2 h) fun r s' hq => ?_)
  cases r with
  | error e => exact hx pins σ H s e s' I hq
  | ok fl =>
    cases fl with
    | ret u => exact I.after hq
    | next => exact False.elim hq
    | brk => exact False.elim hq
    | cont => exact False.elim hq
theorem pe_call (F : FnOk X.prog X.w X.K X.mg X.base CX k f fd ps sp) (hr : Room k X.A) (hg : Gl X x) (hm : X.mg x = some (.ref f)) (hk : PySem.W.keepIn X.K (.ref f) = true) (hb : Binds X.K fd ps ds) (hd : Vals dvs ds) (hx : Passes CX X E)
    (ha : PA X (e :: es) t) (hdb : (x == ("__debug__" : Str)) = false := by decide) (he : starEach (e :: es) X.env = (false, eval e X.env) :: starEach es X.env := by rfl) (hpl : (backTo pos (starEach es X.env)).any (·.1) = false := by rfl) :
    PE X (.Call (.Name x p) (e :: es) [] pos) (tCall sp dvs E t) := by
  intro pins s σ H Q I h
  refine wpAny_Call_Name_kw (ld_glob I hg hm ?_ hdb)
  refine PySem.W.callWith_K (h₀ := X.base) I.ok.mod.kin hk (thn (ha pos pins s σ H _ I h) fun us s1 ⟨vs, H1, I1, r, q⟩ => ⟨I1.kIn, ?_⟩) he hpl
  exact run_fn F hr hb hd hx I1 r q
theorem pe_meth {pl : Sem Bool} (he : PE X o ta) (c : Cls X.K C) (hm : Meth X.K C m f) (F : FnOk X.prog X.w X.K X.mg X.base CX k f fd ps sp) (hr : Room k X.A) (hb : Binds X.K fd ps ds) (hd : Vals dvs ds) (hx : Passes CX X E) (ha : PA X (e :: es) t)
    (hst : starEach (e :: es) X.env = (false, eval e X.env) :: starEach es X.env := by rfl) (hpl : (backTo pos (starEach es X.env)).any (·.1) = false := by rfl)
    (ht : eval (.Call (.Attribute o m apos) (e :: es) [] pos) X.env = (do
      let ov ← eval o X.env
      standAt apos.atName
      let (f, first) ← holding [ov] (getMethod ov m pl)
      callWith pos f first (backTo pos (starEach (e :: es) X.env)) (backToKw pos (keywordEach [] X.env))) := by rfl) :
    PE X (.Call (.Attribute o m apos) (e :: es) [] pos) (tMeth C m sp dvs E ta t) := by
  intro pins s σ H Q I h
  refine PySem.W.methodCall_KW (pl := pl) (thn (he pins s σ H _ I h) fun u s1 ⟨x, H1, I1, rx, a, dx, fs, ex, ea, l, q⟩ => ?_) ht
  subst ex
  obtain rfl : u = Value.ref a := rx
  refine getmeth_ok I1 ea c hm l ?_
  refine PySem.W.callWith_K (first := [.ref a]) (h₀ := X.base) I.ok.mod.kin hm.kp (thn (ha pos pins s1 σ H1 _ I1 q) fun us s2 ⟨vs, H2, I2, r, q2⟩ => ⟨I2.kIn, ?_⟩) hst hpl
  exact run_fn (us := .ref a :: us) (vs := .ref a :: vs) F hr hb hd hx I2 (.cons rfl r) q2
theorem pe_meth0 {pl : Sem Bool} (he : PE X o ta) (c : Cls X.K C) (hm : Meth X.K C m f) (F : FnOk X.prog X.w X.K X.mg X.base CX k f fd ps sp) (hr : Room k X.A) (hb : Binds X.K fd ps ds) (hd : Vals dvs ds) (hx : Passes CX X E)
    (ht : eval (.Call (.Attribute o m apos) [] [] pos) X.env = (do
      let ov ← eval o X.env
      standAt apos.atName
      let (f, first) ← holding [ov] (getMethod ov m pl)
      callWith pos f first (backTo pos (starEach [] X.env)) (backToKw pos (keywordEach [] X.env))) := by rfl) :
    PE X (.Call (.Attribute o m apos) [] [] pos) (tMeth C m sp dvs E ta tNil) := by
  intro pins s σ H Q I h
  refine PySem.W.methodCall_KW (pl := pl) (thn (he pins s σ H _ I h) fun u s1 ⟨x, H1, I1, rx, a, dx, fs, ex, ea, l, q⟩ => ?_) ht
  subst ex
  obtain rfl : u = Value.ref a := rx
  refine getmeth_ok I1 ea c hm l ?_
  exact PySem.W.callWith_K0 (first := [.ref a]) I1.kIn hm.kp (run_fn (us := [.ref a]) (vs := [.ref a]) F hr hb hd hx I1 (.cons rfl .nil) q)
structure Mk (K : PySem.W.Frag) (C f : Addr) : Prop where
  makes : PySem.W.makesIn K C = true
  init : PySem.W.findIn K (.ref C) "__init__" = some (some (.ref f))
  fn : PySem.W.isFn K (.ref f) = true
  kp : PySem.W.keepIn K (.ref C) = true
theorem run_make {pins : List (Addr × Obj)} {σ : St} {H : Hp} {s : Shared} {Q : VK} {us : List Value} {vs : List V} (M : Mk X.K C f) (F : FnOk X.prog X.w X.K X.mg X.base CX k f fd ps sp) (hr : Room (k + 1) X.A) (hb : Binds X.K fd ps ds) (hd : Vals dvs ds)
    (hx : Passes CX X E) (I : Inv X pins σ H s) (r : Vals vs us)
    (h : ∀ x dx, H x = none → H dx = none → dx ≠ x → sp (.ref x :: (vs ++ dvs)) (upd (upd H dx (.own x)) x (.ins C dx [])) (fun v H2 => v = .non ∧ Q (.ref x) H2) E) :
    wpAny (model X.prog X.w) X.A (call (.ref C) us) (EP X pins σ Q) X.xe s := by
  have hq := h (s.heap.objs.size + 1) s.heap.objs.size (I.hok.fresh (Nat.le_succ _)) (I.hok.fresh (Nat.le_refl _)) (Nat.ne_of_lt (Nat.lt_succ_self _))
  have I2 := Inv.made (C := C) I
  have r2 : Vals (V.ref (s.heap.objs.size + 1) :: (vs ++ dvs)) (Value.ref (s.heap.objs.size + 1) :: (us ++ ds)) := .cons rfl (r.append hd)
  have hl : (Value.ref (s.heap.objs.size + 1) :: us ++ ds).length = ps.length := by
    have e := r2.length
    rw [F.len _ _ _ _ hq] at e
    exact e.symm
  refine wpAny_call (make_map (f := f) I.kIn M.makes M.init (beq_iff_eq.mp M.fn) (codeAny_mono (F.run _ X.stack _ _ ⟨Value.ref (s.heap.objs.size + 1) :: us, []⟩ (Value.ref (s.heap.objs.size + 1) :: (us ++ ds)) _ _ E (hr.make C us [])
    (I2.env0.make C us []) (hb _ (Value.ref (s.heap.objs.size + 1) :: us) I2.kIn hl) r2 hq) fun r s' hq' => ?_))
  cases r with
  | error e => exact hx pins σ _ _ e s' I2 hq'
  | ok fl =>
    cases fl with
    | ret u =>
      obtain ⟨v, H', I3, rv, ev, q3⟩ := I2.after hq'
      subst ev
      exact ⟨rv, ⟨V.ref (s.heap.objs.size + 1), H', I3, rfl, q3⟩⟩
    | next => exact False.elim hq'
    | brk => exact False.elim hq'
    | cont => exact False.elim hq'
theorem pe_make (M : Mk X.K C f) (F : FnOk X.prog X.w X.K X.mg X.base CX k f fd ps sp) (hr : Room (k + 1) X.A) (hg : Gl X x) (hm : X.mg x = some (.ref C)) (hb : Binds X.K fd ps ds) (hd : Vals dvs ds) (hx : Passes CX X E)
    (ha : PA X (e :: es) t) (hdb : (x == ("__debug__" : Str)) = false := by decide) (he : starEach (e :: es) X.env = (false, eval e X.env) :: starEach es X.env := by rfl) (hpl : (backTo pos (starEach es X.env)).any (·.1) = false := by rfl) :
    PE X (.Call (.Name x p) (e :: es) [] pos) (tMake C sp dvs E t) := by
  intro pins s σ H Q I h
  refine wpAny_Call_Name_kw (ld_glob I hg hm ?_ hdb)
  refine PySem.W.callWith_K (h₀ := X.base) I.ok.mod.kin M.kp (thn (ha pos pins s σ H _ I h) fun us s1 ⟨vs, H1, I1, r, q⟩ => ⟨I1.kIn, ?_⟩) he hpl
  exact run_make M F hr hb hd hx I1 r q
end
section
variable {X : Cx} {CX : CXT} {k : Nat} {f C : Addr} {fd : FuncData} {ps ks : List Str} {sp : Sp} {E : XK} {x m : Str} {p pos apos kpos : Pos} {e o : Expr} {es : List Expr} {kws : List Keyword} {te ta : TE} {t tk : TA} {nm : Option Str}
structure KBinds (K : PySem.W.Frag) (fd : FuncData) (ps ks : List Str) (g : List Value → List Value → List Value) (gV : List V → List V → List V) : Prop where
  to : ∀ (s : Shared) (us ws : List Value), K.In s.heap → (g us ws).length = ps.length → BindsTo s fd ⟨us, ks.zip ws⟩ (ps.zip (g us ws))
  rel : ∀ {vs : List V} {us : List Value} {zs : List V} {ws : List Value}, Vals vs us → Vals zs ws → Vals (gV vs zs) (g us ws)
variable {g : List Value → List Value → List Value} {gV : List V → List V → List V}
end
structure FnScope (N P : List Str) (sc : Scope) : Prop where
  kind : sc.kind = .function
  co : sc.isCoroutine = false
  gen : sc.isGenerator = false
  nd : N.Nodup
  pre : N.take P.length = P
  par : ∀ x ∈ P, sc.names.lookup x = some .local ∨ sc.names.lookup x = some .cell
  nofree : ∀ y ∈ sc.names, y.2 ≠ .free
theorem bindL_out {kindOf : Str → Option NameKind} {x : Str} : ∀ {binds : List (Str × Value)} {m : Str → Option Value}, (∀ v, (x, v) ∉ binds) → bindL kindOf binds m x = m x
  | [], _, _ => rfl
  | (n, v) :: r, m, h => by
    unfold bindL
    rw [bindL_out fun w hw => h w (List.mem_cons_of_mem _ hw)]
    split
    · have : x ≠ n := by rintro rfl; exact h v List.mem_cons_self
      simp [this]
    · rfl
theorem bindC_out {kindOf : Str → Option NameKind} {x : Str} : ∀ {binds : List (Str × Value)} {m : Str → Option Value}, (∀ v, (x, v) ∉ binds) → bindC kindOf binds m x = m x
  | [], _, _ => rfl
  | (n, v) :: r, m, h => by
    unfold bindC
    rw [bindC_out fun w hw => h w (List.mem_cons_of_mem _ hw)]
    split
    · rfl
    · have : x ≠ n := by rintro rfl; exact h v List.mem_cons_self
      simp [this]
theorem bindL_get {kindOf : Str → Option NameKind} {x : Str} {v : Value} : ∀ {P : List Str} {vs : List Value} {i : Nat} {m : Str → Option Value}, P.Nodup → P[i]? = some x → vs[i]? = some v → kindOf x = some .local →
    bindL kindOf (P.zip vs) m x = some v
  | [], _, _, _, _, h, _, _ => by simp at h
  | _ :: _, [], _, _, _, _, h, _ => by simp at h
  | p :: P, w :: vs, 0, m, nd, h1, h2, hk => by
    simp at h1 h2; subst h1; subst h2
    show bindL kindOf ((p, w) :: P.zip vs) m p = _
    unfold bindL
    rw [bindL_out fun v hv => (List.nodup_cons.mp nd).1 (List.of_mem_zip hv).1, if_pos hk]
    simp
  | p :: P, w :: vs, i + 1, m, nd, h1, h2, hk => by
    show bindL kindOf ((p, w) :: P.zip vs) m x = _
    unfold bindL
    exact bindL_get (i := i) (List.nodup_cons.mp nd).2 (by simpa using h1) (by simpa using h2) hk
theorem bindC_get {kindOf : Str → Option NameKind} {x : Str} {v : Value} : ∀ {P : List Str} {vs : List Value} {i : Nat} {m : Str → Option Value}, P.Nodup → P[i]? = some x → vs[i]? = some v → kindOf x ≠ some .local →
    bindC kindOf (P.zip vs) m x = some v
  | [], _, _, _, _, h, _, _ => by simp at h
  | _ :: _, [], _, _, _, _, h, _ => by simp at h
  | p :: P, w :: vs, 0, m, nd, h1, h2, hk => by
    simp at h1 h2; subst h1; subst h2
    show bindC kindOf ((p, w) :: P.zip vs) m p = _
    unfold bindC
    rw [bindC_out fun v hv => (List.nodup_cons.mp nd).1 (List.of_mem_zip hv).1, if_neg hk]
    simp
  | p :: P, w :: vs, i + 1, m, nd, h1, h2, hk => by
    show bindC kindOf ((p, w) :: P.zip vs) m x = _
    unfold bindC
    exact bindC_get (i := i) (List.nodup_cons.mp nd).2 (by simpa using h1) (by simpa using h2) hk
def start (N : List Str) (vs : List V) : St := vs.map some ++ List.replicate (N.length - vs.length) none
def cxOf (CX : CXT) (P : Program) (w : World) (K : PySem.W.Frag) (mg : Str → Option Value) (base : Heap) (N : List Str) (qual : Str) (scope : Scope) (f : Addr) (cd : Value) (A : Around) (outer : List Env) (s : Shared) (H : Hp) (E : XK) : Cx where
  prog := P
  w := w
  K := K
  mg := mg
  base := base
  A := A.deeper (envOfC qual scope s.heap.objs.size f cd)
  N := N
  s₀ := s
  H₀ := H
  env := envOfC qual scope s.heap.objs.size f cd
  outer := outer
  stack := envOfC qual scope s.heap.objs.size f cd :: outer
  ex := []
  calm := true
  fn := fun _ => true
  pn := []
  xe := fun e s' => wpAny (model P w) (A.deeper (envOfC qual scope s.heap.objs.size f cd)) (leaving (envOfC qual scope s.heap.objs.size f cd) e) (fun _ s'' => CX outer H s E e s'') (fun e' s'' => CX outer H s E e' s'') s'
theorem cell_has {sc : Scope} {n : Nat} {x : Str} (h : sc.names.lookup x = some .cell) : ∃ c, (cellsFrom n sc.names []).lookup x = some c := by
  have q := PySem.W.cellsFrom_some sc.names n [] (.inl h)
  exact Option.isSome_iff_exists.mp q
theorem inv_start {CX : CXT} {P : Program} {w : World} {K : PySem.W.Frag} {mg : Str → Option Value} {base : Heap} {N ps : List Str} {qual : Str} {scope : Scope} {f : Addr} {cd : Value} {A : Around} {outer : List Env} {s s1 : Shared} {H : Hp} {E : XK} {us : List Value} {vs : List V}
    (S : FnScope N ps scope) (hd : A.handled = none) (e0 : Env0 P w K mg base A outer s H) (hl : vs.length = ps.length) (r : Vals vs us)
    (x : InCallC s s.heap.objs.size (bindL (envOfC qual scope s.heap.objs.size f cd).kindOf (ps.zip us) fun _ => none) (cellsFrom (s.heap.objs.size + 1) scope.names []) (bindC (envOfC qual scope s.heap.objs.size f cd).kindOf (ps.zip us) fun _ => none) s1) :
    Inv (cxOf CX P w K mg base N qual scope f cd A outer s H E) [] (start N vs) H s1 := by
  have hpl : ps.length ≤ N.length := by have := congrArg List.length S.pre; rw [List.length_take] at this; omega
  obtain ⟨h1, tk, rfl, hk⟩ := x.done
  have noA : ∀ b : Addr, b ∉ (cxOf CX P w K mg base N qual scope f cd A outer s H E).ex := fun b z => absurd (show b ∈ ([] : List Addr) from z) (by simp)
  refine ⟨⟨e0.mod, S.kind, rfl, rfl, Nat.le_refl _, fun y z c h1 h2 => ?_, fun y hy => ?_, fun y c _ h => ?_, fun _ => hd, Around.frames_deeper e0.frames, .inr ⟨rfl, rfl⟩, fun b z => absurd z (noA b), e0.bs, e0.bsz, fun b _ _ => noA b, fun b z => absurd z (noA b), e0.funs, e0.frf⟩,
    rfl, e0.bare, Un.kept hk, ⟨_, x.toInCall.ns, fun i y v h1 h2 h3 => ?_⟩, fun y c h => ⟨_, x.cell y c h⟩, e0.hok.fresh (Nat.le_refl _), fun y c h => ?_, fun p hp => absurd (show p ∈ ([] : List (Addr × Obj)) from hp) (by simp), e0.hok.kept hk, ?_⟩
  · exact name_of_addr x.apart (PySem.mem_of_lookup h1) (PySem.mem_of_lookup h2)
  · have hy : scope.names.lookup y = some .cell ∨ scope.names.lookup y = some .free := hy
    rcases hy with hy | hy
    · exact cell_has hy
    · exact absurd rfl (S.nofree _ (PySem.mem_of_lookup hy))
  · exact Nat.le_of_lt (x.above y c (PySem.mem_of_lookup h))
  · have hi : i < vs.length := by
      unfold start at h2
      by_cases hi : i < vs.length
      · exact hi
      · rw [List.getElem?_append_right (by simpa using hi)] at h2
        rw [List.getElem?_replicate] at h2
        split at h2 <;> cases h2
    have ha : vs[i]? = some v := by
      unfold start at h2
      rw [List.getElem?_append_left (by simpa using hi), List.getElem?_map] at h2
      cases e : vs[i]? with
      | none => rw [e] at h2; cases h2
      | some a => rw [e] at h2; cases h2; rfl
    obtain ⟨u, hu, rv⟩ := r.get ha
    have hp : ps[i]? = some y := by
      rw [← S.pre, List.getElem?_take_of_lt (by omega)]; exact h1
    have ndP : ps.Nodup := by rw [← S.pre]; exact S.nd.sublist (List.take_sublist _ _)
    refine ⟨u, rv, ?_⟩
    rcases S.par y (List.mem_of_getElem? hp) with k | k
    · exact .inl ⟨k, bindL_get ndP hp hu k⟩
    · obtain ⟨c, e⟩ := cell_has (n := s.heap.objs.size + 1) k
      refine .inr ⟨.inl k, c, e, ?_⟩
      have q := x.cell y c e
      rw [bindC_get ndP hp hu (by show scope.names.lookup y ≠ _; rw [k]; decide)] at q
      exact q
  · exact e0.hok.fresh (Nat.le_of_lt (x.above y c (PySem.mem_of_lookup h)))
  · unfold start
    show _ = N.length
    rw [List.length_append, List.length_map, List.length_replicate]
    omega
theorem fn_of {CX : CXT} {P : Program} {w : World} {K : PySem.W.Frag} {mg : Str → Option Value} {base : Heap} {k : Nat} {f : Addr} {name qual : Str} {params : Arguments} {body : List Stmt} {scope : Scope} {dV kV doc pm cdv ct oc : Value} {an od : Option Addr}
    {osl : Array (Option Value)} {N ps : List Str} {sp : Sp} (lk : K.lookup f = some ⟨oc, od, .func (PySem.W.fnOf name qual params body scope dV kV doc pm an cdv ct), osl⟩) (hcd : PySem.W.codeIn K cdv qual = true) (S : FnScope N ps scope)
    (len : ∀ vs H Q E, sp vs H Q E → vs.length = ps.length)
    (hbody : ∀ (A : Around) (outer : List Env) (s : Shared) (H : Hp) (vs : List V) (Q : VK) (E : XK), Room k (A.deeper (envOfC qual scope s.heap.objs.size f cdv)) → sp vs H Q E →
      ∃ t, PSs (cxOf CX P w K mg base N qual scope f cdv A outer s H E) body t ∧ t { nx := fun _ H' => Q .non H', rt := Q } (start N vs) H) :
    FnOk P w K mg base CX (k + 1) f (PySem.W.fnOf name qual params body scope dV kV doc pm an cdv ct) ps sp := by
  refine ⟨len, fun A outer s H args us vs Q E hr e0 hb r hsp => ?_⟩
  have hl := len _ _ _ _ hsp
  have KX : K.In s.heap := e0.mod.kin.keeps fun b o e => (e0.bs b o e).1
  have lim : s.heap.NoLimit := e0.mod.nolimit.keeps fun b o e => (e0.bs b o e).1
  have hkind : ∀ y ∈ ps.zip us, scope.names.lookup y.1 = some .local ∨ (scope.names.lookup y.1 = some .cell ∧ ((cellsFrom (s.heap.objs.size + 1) scope.names []).lookup y.1).isSome = true) := fun ⟨n, v⟩ hy => by
    rcases S.par n (List.of_mem_zip hy).1 with q | q
    · exact .inl q
    · exact .inr ⟨q, PySem.W.cellsFrom_some _ _ _ (.inl q)⟩
  refine codeAny_call_function hr.depth (KX _ _ lk) rfl S.co S.gen rfl (PySem.W.codeRec_of KX hcd) (hb _ _ _ _ ?_)
  refine wpAny_newFunctionEnv_cells S.kind hkind fun env he s1 x => ?_
  subst he
  refine ⟨lim.keeps x.toInCall.keep, codeAny_func ?_⟩
  obtain ⟨t, ht, hq⟩ := hbody A outer s H vs Q E (hr.deeper _) hsp
  have I : Inv (cxOf CX P w K mg base N qual scope f cdv A outer s H E) [] (start N vs) H s1 := inv_start S hr.hd e0 hl r x
  refine wpAny_mono (ht [] s1 (start N vs) H _ I hq) (fun fl s' hs => ?_) fun e s' hs => hs
  have fin : ∀ {σ' : St} {H' : Hp} {v : V} {u : Value}, Inv (cxOf CX P w K mg base N qual scope f cdv A outer s H E) [] σ' H' s' → RelV v u → Q v H' → CE outer P w H s Q u s' :=
    fun {σ' H' v u} J rv q => ⟨v, H', J.os, J.bare, J.base, J.hok, rv, q⟩
  cases fl with
  | ret u =>
    obtain ⟨v, σ', H', J, rv, q⟩ := hs
    exact fin J rv q
  | next =>
    obtain ⟨σ', H', J, q⟩ := hs
    exact fin (v := V.non) (u := Value.none) J rfl q
  | brk =>
    obtain ⟨_, _, _, q⟩ := hs
    exact False.elim q
  | cont =>
    obtain ⟨_, _, _, q⟩ := hs
    exact False.elim q
end L2
namespace L2
open PySem PySem.Spec PyProof.Rows
section
variable {X : Cx} {x : Str} {p pos : Pos} {e : Expr} {es : List Expr} {t : TA} {id T : String} {r : List V → Hp → VK → Prop}
def tCB (r : List V → Hp → VK → Prop) (t : TA) : TE := fun σ H Q => t σ H fun vs H1 => r vs H1 Q
theorem pe_callB (hc : CallR X (.builtin id) r) (hg : Gl X x) (hm : X.mg x = none) (hv : bootBuiltins x = some (.builtin id)) (ha : PA X (e :: es) t) (hn : x ≠ "__name__" := by decide) (hdb : (x == ("__debug__" : Str)) = false := by decide)
    (he : starEach (e :: es) X.env = (false, eval e X.env) :: starEach es X.env := by rfl) (hpl : (backTo pos (starEach es X.env)).any (·.1) = false := by rfl) : PE X (.Call (.Name x p) (e :: es) [] pos) (tCB r t) := by
  intro pins s σ H Q I h
  refine wpAny_Call_Name_kw (ld_blt I hg hm hv ?_ hn hdb)
  exact PyProof.Rows.callWith_builtin1 (thn (ha pos pins s σ H _ I h) fun us s1 ⟨vs, H1, I1, r1, q1⟩ => hc pins s1 σ H1 vs us Q I1 r1 q1) he hpl
theorem pe_callTy (hc : CallR X (.type T) r) (hg : Gl X x) (hm : X.mg x = none) (hv : bootBuiltins x = some (.type T)) (ha : PA X (e :: es) t) (hn : x ≠ "__name__" := by decide) (hdb : (x == ("__debug__" : Str)) = false := by decide)
    (he : starEach (e :: es) X.env = (false, eval e X.env) :: starEach es X.env := by rfl) (hpl : (backTo pos (starEach es X.env)).any (·.1) = false := by rfl) : PE X (.Call (.Name x p) (e :: es) [] pos) (tCB r t) := by
  intro pins s σ H Q I h
  refine wpAny_Call_Name_kw (ld_blt I hg hm hv ?_ hn hdb)
  exact PyProof.Rows.callWith_type1 (thn (ha pos pins s σ H _ I h) fun us s1 ⟨vs, H1, I1, r1, q1⟩ => hc pins s1 σ H1 vs us Q I1 r1 q1) he hpl
end
end L2
namespace HT
open PySem PyProof.Rows
section
open PySem.SeqAt
open PySem.AutoSeq1 (wpAny_loadPart')
open PySem.MeetsSeq PySem.MeetsSeq2 PySem.MeetsSeq3
end
section
variable {prog : Program} {w : World} {A : Around} {E : Value → Shared → Prop} {s : Shared}
end
end HT
namespace L2
open PySem PySem.Spec PyProof.Rows
abbrev TO := St → Hp → (Option Int → Hp → Prop) → Prop
section
variable {X : Cx} {e : Expr} {te : TE} {lo hi : Option Expr} {tl th : TO} {pos p2 : Pos}
def SlR (X : Cx) (r : V → Option Int → Option Int → Hp → VK → Prop) : Prop :=
  ∀ (pins : List (Addr × Obj)) (s : Shared) (σ : St) (H : Hp) (x : V) (v vl vu : Value) (lo hi : Option Int) (sl : Addr) (Q : VK), Inv X pins σ H s → RelV x v → s.heap.IsSliceOf sl vl vu .none → IsPart vl lo → IsPart vu hi → r x lo hi H Q →
    ∃ T id, typeLookup (.type T) "__getitem__" = pure (some (.builtin id)) ∧ s.TypeIs v T ∧ wpAny (model X.prog X.w) X.A (getItem v (.ref sl)) (EP X pins σ Q) X.xe s
theorem SlR.or {r r' : V → Option Int → Option Int → Hp → VK → Prop} (h : SlR X r) (h' : SlR X r') : SlR X (fun x lo hi H Q => r x lo hi H Q ∨ r' x lo hi H Q) := by
  intro pins s σ H x v vl vu lo hi sl Q I rx hs pl pu q
  rcases q with q | q
  · exact h pins s σ H x v vl vu lo hi sl Q I rx hs pl pu q
  · exact h' pins s σ H x v vl vu lo hi sl Q I rx hs pl pu q
end
end L2
namespace L2
open PySem PySem.Spec PyProof.Rows
def ixN (n : Nat) (i : Int) : Option Nat := if 0 ≤ i then (if i < n then some i.toNat else none) else if -(n : Int) ≤ i then some (i + n).toNat else none
def atI {α : Type} (xs : List α) (i : Int) : Option α := (ixN xs.length i).bind fun j => xs[j]?
theorem ixN_seq {n : Nat} {i : Int} {j : Nat} (h : ixN n i = some j) : seqIndex? i n = some j ∧ j < n ∧ -(n : Int) ≤ i ∧ i < n := by
  unfold ixN at h
  by_cases h0 : 0 ≤ i
  · rw [if_pos h0] at h
    by_cases h1 : i < n
    · rw [if_pos h1] at h
      have e : i.toNat = j := Option.some.inj h
      exact ⟨by rw [seqIndex_of h0 h1, e], by omega, by omega, h1⟩
    · rw [if_neg h1] at h; cases h
  · rw [if_neg h0] at h
    by_cases h1 : -(n : Int) ≤ i
    · rw [if_pos h1] at h
      have e : (i + n).toNat = j := Option.some.inj h
      exact ⟨by rw [seqIndex_neg (by omega) h1, e], by omega, h1, by omega⟩
    · rw [if_neg h1] at h; cases h
theorem atI_get {α : Type} {xs : List α} {i : Int} {v : α} (h : atI xs i = some v) : ∃ j, seqIndex? i xs.length = some j ∧ xs[j]? = some v ∧ j < xs.length ∧ -(xs.length : Int) ≤ i ∧ i < xs.length := by
  unfold atI at h
  cases e : ixN xs.length i with
  | none => rw [e] at h; cases h
  | some j =>
    rw [e] at h
    obtain ⟨h1, h2, h3, h4⟩ := ixN_seq e
    exact ⟨j, h1, h, h2, h3, h4⟩
def PlainIx (b : Expr) : Prop := ∀ o i, subscripted b false o i = operate [o, i] (getItem o i)
def IxR (X : Cx) (r : R2) : Prop :=
  ∀ (value slice : Expr) (pins : List (Addr × Obj)) (s : Shared) (σ : St) (H : Hp) (x y : V) (v u : Value) (Q : VK), Inv X pins σ H s → RelV x v → RelV y u → r x y H Q →
    subscripted slice false v u = operate [v, u] (getItem v u) → wpAny (model X.prog X.w) X.A (subscriptTail value slice v u) (EP X pins σ Q) X.xe s
def MtR (X : Cx) (id : String) (r : V → List V → Hp → VK → Prop) : Prop :=
  ∀ (pins : List (Addr × Obj)) (s : Shared) (σ : St) (H : Hp) (x : V) (xs : List V) (v : Value) (us : List Value) (Q : VK), Inv X pins σ H s → RelV x v → Vals xs us → r x xs H Q →
    wpAny (model X.prog X.w) X.A (call (.builtin id) (v :: us)) (EP X pins σ Q) X.xe s
section
variable {X : Cx} {a b : Expr} {ta tb : TE} {pos : Pos}
theorem IxR.or {r r' : R2} (h : IxR X r) (h' : IxR X r') : IxR X (fun x y H Q => r x y H Q ∨ r' x y H Q) := by
  intro value slice pins s σ H x y v u Q I rx ry q hs
  rcases q with q | q
  · exact h value slice pins s σ H x y v u Q I rx ry q hs
  · exact h' value slice pins s σ H x y v u Q I rx ry q hs
theorem MtR.or {id : String} {r r' : V → List V → Hp → VK → Prop} (h : MtR X id r) (h' : MtR X id r') : MtR X id (fun x xs H Q => r x xs H Q ∨ r' x xs H Q) := by
  intro pins s σ H x xs v us Q I rx rs q
  rcases q with q | q
  · exact h pins s σ H x xs v us Q I rx rs q
  · exact h' pins s σ H x xs v us Q I rx rs q
theorem pe_ix {r : R2} (hr : IxR X r) (ha : PE X a ta) (hb : PE X b tb) (hs : PlainIx b) : PE X (.Subscript a b pos) (tOp r ta tb) := by
  intro pins s σ H Q I h
  exact Subscript_ (binT ha hb I h fun v u s2 x y H2 I2 rx ry q => hr a b pins s2 σ H2 x y v u Q I2 rx ry q (hs _ _))
def rIxL (K : PySem.W.Frag) : R2 := fun x y H Q => ∃ p xs i v, x = .ref p ∧ y = .int i ∧ SqL K H p xs ∧ atI xs i = some v ∧ Q v H
def rIxT (K : PySem.W.Frag) : R2 := fun x y H Q => ∃ p xs i v, x = .ref p ∧ y = .int i ∧ SqT K H p xs ∧ atI xs i = some v ∧ Q v H
theorem ix_list : IxR X (rIxL X.K) := by
  intro value slice pins s σ H x y v u Q I rx ry h hs
  obtain ⟨p, xs, i, z, rfl, rfl, hq, he, q⟩ := h
  cases rx
  obtain ⟨t, rfl⟩ := ry
  obtain ⟨its, r, pl, hz⟩ := I.list hq
  obtain ⟨j, h1, h2, h3, h4, h5⟩ := atI_get he
  obtain ⟨w, ew, rw'⟩ := r.get h2
  have hl := r.length
  have hn := line63
  have fin : EP X pins σ Q w s := ⟨z, H, I, rw', q⟩
  by_cases h0 : 0 ≤ i
  · have hj : i.toNat = j := by
      rw [seqIndex_of h0 h5] at h1
      exact Option.some.inj h1
    exact item_listR pl.isList h0 (by omega) (by rw [hj]; simpa using ew) fin hs
  · have hj : (i + (its.toArray.size : Int)).toNat = j := by
      rw [seqIndex_neg (by omega) h4] at h1
      rw [List.size_toArray, ← hl]
      exact Option.some.inj h1
    exact subscriptTail_builtinR (x := w) pl.isList.typeIs slot_list_getitem.lookup
      (wpAny_getItem_list_neg (Q := fun r s' => r = w ∧ EP X pins σ Q r s') pl.isList (by omega) (by rw [List.size_toArray] <;> omega) (by omega) (by rw [hj]; simpa using ew) ⟨rfl, fin⟩) hs
theorem ix_tup : IxR X (rIxT X.K) := by
  intro value slice pins s σ H x y v u Q I rx ry h hs
  obtain ⟨p, xs, i, z, rfl, rfl, hq, he, q⟩ := h
  cases rx
  obtain ⟨t, rfl⟩ := ry
  obtain ⟨its, r, pl, hz⟩ := I.tuple hq
  obtain ⟨j, h1, h2, h3, h4, h5⟩ := atI_get he
  obtain ⟨w, ew, rw'⟩ := r.get h2
  have hl := r.length
  have hn := line63
  have fin : EP X pins σ Q w s := ⟨z, H, I, rw', q⟩
  exact subscriptTail_builtinR (x := w) pl.typeIs slot_tuple_getitem.lookup
    (getItem_tuple (j := j) (Q := fun r s' => r = w ∧ EP X pins σ Q r s') pl (by omega) (by omega) (by rw [List.size_toArray, ← hl]; exact h1) (by simpa using ew) ⟨rfl, fin⟩) hs
theorem mapSeq_set (its : List Value) (n j : Nat) (u : Value) : Obj.mapSeq (·.setIfInBounds j u) { cls := .type "list", data := .seq its.toArray n } = { cls := .type "list", data := .seq (its.set j u).toArray n } := by
  simp [Obj.mapSeq]
theorem Inv.lst {pins : List (Addr × Obj)} {σ : St} {H : Hp} {s : Shared} {p : Addr} {xs : List V} (I : Inv X pins σ H s) (h : H p = some (.lst xs)) :
    ∃ (its : List Value) (n : Nat), Vals xs its ∧ s.heap.get? p = some { cls := .type "list", data := .seq its.toArray n } ∧ xs.length ≤ sizeLine := by
  obtain ⟨z, its, n, r, e⟩ := I.hok p _ h
  exact ⟨its, n, r, e, z⟩
theorem Inv.lstUpd {pins : List (Addr × Obj)} {σ : St} {H : Hp} {s : Shared} {p : Addr} {xs ys : List V} {its its' : List Value} {n n' : Nat} {f : Obj → Obj} (I : Inv X pins σ H s) (h : H p = some (.lst xs))
    (ho : s.heap.get? p = some { cls := .type "list", data := .seq its.toArray n }) (hf : f { cls := .type "list", data := .seq its.toArray n } = { cls := .type "list", data := .seq its'.toArray n' }) (r : Vals ys its') (hz : ys.length ≤ sizeLine) (t : Nat) :
    Inv X pins σ (upd H p (.lst ys)) { s with heap := s.heap.update p f, toks := t } := by
  have e : (s.heap.update p f).get? p = some { cls := .type "list", data := .seq its'.toArray n' } := by
    rw [Heap.get?_update_self f ho (by rw [hf] <;> rfl), hf]
  refine I.write (x := p) (e := p) (by rw [h]; trivial) (.inl rfl) (fun b u hb q => (Heap.get?_update_other _ _ (Ne.symm hb)).trans q) ⟨_, e⟩ ?_
  exact ⟨hz, its', n', r, e⟩
def rSetL : V → V → V → Hp → (Hp → Prop) → Prop := fun o i v H Q => ∃ p xs k j, o = .ref p ∧ i = .int k ∧ H p = some (.lst xs) ∧ ixN xs.length k = some j ∧ Q (upd H p (.lst (xs.set j v)))
theorem set_list : PSet X rSetL := by
  intro pins s σ H o i v ov iv u Q I ro ri rv h
  obtain ⟨p, xs, k, j, rfl, rfl, hp, hj, q⟩ := h
  cases ro
  obtain ⟨t, rfl⟩ := ri
  obtain ⟨its, n, r, ho, hz⟩ := I.lst hp
  obtain ⟨h1, h2, h3, h4⟩ := ixN_seq hj
  have hl := r.length
  have hn := line63
  have I' : Inv X pins σ (upd H p (.lst (xs.set j v))) { s with heap := s.heap.update p (Obj.mapSeq (·.setIfInBounds j u)) } :=
    I.lstUpd hp ho (mapSeq_set its n j u) (r.set rv j) (by rw [List.length_set]; exact hz) s.toks
  by_cases h0 : 0 ≤ k
  · have hk : k.toNat = j := by
      rw [seqIndex_of h0 h4] at h1
      exact Option.some.inj h1
    exact PySem.W.ki_setAt ho h0 (by omega) (by rw [List.size_toArray, ← hl]; exact h4) (by rw [hk]; exact ⟨_, I', q⟩)
  · have hk : (k + (its.toArray.size : Int)).toNat = j := by
      rw [seqIndex_neg (by omega) h3] at h1
      rw [List.size_toArray, ← hl]
      exact Option.some.inj h1
    exact PySem.W.ki_setBack ho (by omega) (by rw [List.size_toArray, ← hl]; exact h3) (by omega) (by rw [hk]; exact ⟨_, I', q⟩)
def flatV : V → Bool
  | .non => true
  | .bl _ => true
  | .int _ => true
  | .str _ => true
  | _ => false
def eqV : V → V → Bool
  | .non, .non => true
  | .bl a, .bl b => a == b
  | .bl a, .int b => (if a then 1 else 0) == b
  | .int a, .bl b => a == (if b then 1 else 0)
  | .int a, .int b => a == b
  | .str a, .str b => a == b
  | _, _ => false
theorem eqAt_V {A : Around} {s : Shared} {y x : V} {u v : Value} (ry : RelV y u) (rx : RelV x v) (fy : flatV y = true) (fx : flatV x = true) : SeqAt.EqAt A s u v (eqV y x) := by
  cases y with
  | non =>
    cases ry
    cases x with
    | non => cases rx; exact SeqAt.EqAt.same _
    | bl b => cases rx; exact SeqAt.EqAt.none_bool b
    | int b => obtain ⟨t, rfl⟩ := rx; exact SeqAt.EqAt.none_int b t
    | str b => obtain ⟨t, rfl⟩ := rx; exact SeqAt.EqAt.none_str b t
    | _ => exact absurd (show false = true from fx) Bool.false_ne_true
  | bl a =>
    cases ry
    cases x with
    | non => cases rx; exact SeqAt.EqAt.bool_none a
    | bl b => cases rx; exact SeqAt.EqAt.bool_bool a b
    | int b => obtain ⟨t, rfl⟩ := rx; exact SeqAt.EqAt.bool_int a b t
    | str b => obtain ⟨t, rfl⟩ := rx; exact SeqAt.EqAt.bool_str a b t
    | _ => exact absurd (show false = true from fx) Bool.false_ne_true
  | int a =>
    obtain ⟨t', rfl⟩ := ry
    cases x with
    | non => cases rx; exact SeqAt.EqAt.int_none a t'
    | bl b => cases rx; exact SeqAt.EqAt.int_bool a t' b
    | int b => obtain ⟨t, rfl⟩ := rx; exact SeqAt.EqAt.int_int a t' b t
    | str b => obtain ⟨t, rfl⟩ := rx; exact SeqAt.EqAt.int_str a t' b t
    | _ => exact absurd (show false = true from fx) Bool.false_ne_true
  | str a =>
    obtain ⟨t', rfl⟩ := ry
    cases x with
    | non => cases rx; exact SeqAt.EqAt.str_none a t'
    | bl b => cases rx; exact SeqAt.EqAt.str_bool a t' b
    | int b => obtain ⟨t, rfl⟩ := rx; exact SeqAt.EqAt.str_int a t' b t
    | str b => obtain ⟨t, rfl⟩ := rx; exact SeqAt.EqAt.str_str a t' b t
    | _ => exact absurd (show false = true from fx) Bool.false_ne_true
  | _ => exact absurd (show false = true from fy) Bool.false_ne_true
def eqU (x : V) (u : Value) : Bool := match u with
  | .none => eqV .non x
  | .bool b => eqV (.bl b) x
  | .int i _ => eqV (.int i) x
  | .str z _ => eqV (.str z) x
  | _ => false
theorem eqU_of {x y : V} {u : Value} (r : RelV y u) (f : flatV y = true) : eqU x u = eqV y x := by
  cases y with
  | non => cases r; rfl
  | bl b => cases r; rfl
  | int i => obtain ⟨t, rfl⟩ := r; rfl
  | str z => obtain ⟨t, rfl⟩ := r; rfl
  | _ => exact absurd (show false = true from f) Bool.false_ne_true
theorem any_eqU {x : V} : ∀ {xs : List V} {us : List Value}, Vals xs us → xs.all flatV = true → us.any (eqU x) = xs.any fun y => eqV y x
  | _, _, .nil, _ => rfl
  | y :: xs, u :: us, .cons r t, f => by
    rw [List.all_cons, Bool.and_eq_true] at f
    rw [List.any_cons, List.any_cons, eqU_of r f.1, any_eqU t f.2]
theorem mem_eqAt {A : Around} {s : Shared} {x : V} {v : Value} (rx : RelV x v) (fx : flatV x = true) : ∀ {xs : List V} {us : List Value}, Vals xs us → xs.all flatV = true → ∀ u ∈ us, SeqAt.EqAt A s u v (eqU x u)
  | _, _, .nil, _ => fun u hu => by cases hu
  | y :: xs, u :: us, .cons r t, f => fun u' hu => by
    rw [List.all_cons, Bool.and_eq_true] at f
    rcases List.mem_cons.mp hu with rfl | hu
    · rw [eqU_of r f.1]; exact eqAt_V r rx f.1 fx
    · exact mem_eqAt rx fx t f.2 u' hu
def inV (x : V) (xs : List V) : Bool := xs.any fun y => eqV y x
def rIn (K : PySem.W.Frag) (neg : Bool) : R2 := fun x y H Q => ∃ p xs, y = .ref p ∧ (SqL K H p xs ∨ SqT K H p xs) ∧ flatV x = true ∧ xs.all flatV = true ∧ Q (.bl (if neg then !inV x xs else inV x xs)) H
theorem op_in_seq : OpR X (compareOp .In) (rIn X.K false) := by
  intro pins s σ H x y v u Q I rx ry h
  obtain ⟨p, xs, rfl, hq, fx, fs, q⟩ := h
  cases ry
  rcases hq with hq | hq
  · obtain ⟨its, r, pl, hz⟩ := I.list hq
    refine SeqAt.in_listAt (eqU x) pl.isList (fun w hw => mem_eqAt rx fx r fs w (by simpa using hw)) ⟨.bl _, H, I, rfl, ?_⟩
    rw [show its.toArray.any (eqU x) = its.any (eqU x) by simp, any_eqU r fs]
    exact q
  · obtain ⟨its, r, pl, hz⟩ := I.tuple hq
    refine SeqAt.in_tupleAt (eqU x) pl (fun w hw => mem_eqAt rx fx r fs w (by simpa using hw)) ⟨.bl _, H, I, rfl, ?_⟩
    rw [show its.toArray.any (eqU x) = its.any (eqU x) by simp, any_eqU r fs]
    exact q
theorem call_len_seq : CallR X (.builtin "len") (fun xs H Q => ∃ p ys, xs = [.ref p] ∧ (SqL X.K H p ys ∨ SqT X.K H p ys) ∧ Q (.int ys.length) H) := by
  intro pins s σ H xs us Q I r h
  obtain ⟨p, ys, rfl, hq, q⟩ := h
  obtain ⟨u, rfl, rx⟩ := vals1 r
  cases rx
  have hn := line63
  rcases hq with hq | hq
  · obtain ⟨its, r', pl, hz⟩ := I.list hq
    have hlen := r'.length
    exact Calls.call_len_list pl.isList (by simp only [List.size_toArray] <;> omega) ⟨.int ys.length, H, I.tok _, ⟨s.toks + 1, by rw [List.size_toArray, hlen]⟩, q⟩
  · obtain ⟨its, r', pl, hz⟩ := I.tuple hq
    have hlen := r'.length
    exact len_tuple pl (by simp only [List.size_toArray] <;> omega) ⟨.int ys.length, H, I.tok _, ⟨s.toks + 1, by rw [List.size_toArray, hlen]⟩, q⟩
theorem CallR.or {f : Value} {r r' : List V → Hp → VK → Prop} (h : CallR X f r) (h' : CallR X f r') : CallR X f (fun xs H Q => r xs H Q ∨ r' xs H Q) := by
  intro pins s σ H xs us Q I rs q
  rcases q with q | q
  · exact h pins s σ H xs us Q I rs q
  · exact h' pins s σ H xs us Q I rs q
theorem call_list_of : CallR X (.type "list") (fun xs H Q => ∃ p ys, xs = [.ref p] ∧ (SqL X.K H p ys ∨ SqT X.K H p ys) ∧ ∀ l, H l = none → Q (.ref l) (upd H l (.lst ys))) := by
  intro pins s σ H xs us Q I r h
  obtain ⟨p, ys, rfl, hq, q⟩ := h
  obtain ⟨u, rfl, rx⟩ := vals1 r
  cases rx
  have fin : ∀ (its : List Value), Vals ys its → ys.length ≤ sizeLine → ∀ (h' : Heap) (c' : Nat), (∀ b o', s.heap.get? b = some o' → h'.get? b = some o') →
      h'.get? s.heap.objs.size = some { cls := .type "list", dict := none, data := .seq its.toArray c', slots := #[] } → EP X pins σ Q (.ref s.heap.objs.size) { s with heap := h' } := fun its r' hz h' c' kp e =>
    ⟨.ref s.heap.objs.size, _, I.laid (t' := s.toks) kp (Nat.le_refl _) (show ObjOk X.prog X.w _ h' _ (.lst ys) from ⟨hz, its, c', r', e⟩), rfl, q _ (I.hok.fresh (Nat.le_refl _))⟩
  rcases hq with hq | hq
  · obtain ⟨its, r', pl, hz⟩ := I.list hq
    have hlen := r'.length
    obtain ⟨o, ho, hc, n, hd⟩ := pl.isList
    exact call_list_seq p (.inl rfl) ho hc hd (fun h' c' kp e => fin its r' hz h' c' kp e) (by simp only [List.size_toArray] <;> omega)
  · obtain ⟨its, r', pl, hz⟩ := I.tuple hq
    have hlen := r'.length
    obtain ⟨o, ho, hc, n, hd⟩ := pl
    exact call_list_seq p (.inr rfl) ho hc hd (fun h' c' kp e => fin its r' hz h' c' kp e) (by simp only [List.size_toArray] <;> omega)
theorem call_tuple_of : CallR X (.type "tuple") (fun xs H Q => ∃ p ys, xs = [.ref p] ∧ ((SqL X.K H p ys ∧ ∀ l, H l = none → Q (.ref l) (upd H l (.tup ys))) ∨ (SqT X.K H p ys ∧ Q (.ref p) H))) := by
  intro pins s σ H xs us Q I r h
  obtain ⟨p, ys, rfl, h⟩ := h
  obtain ⟨u, rfl, rx⟩ := vals1 r
  cases rx
  rcases h with ⟨hq, q⟩ | ⟨hq, q⟩
  · obtain ⟨its, r', pl, hz⟩ := I.list hq
    have hlen := r'.length
    refine call_tuple_list pl.isList (fun h' kp => ?_) (by simp only [List.size_toArray] <;> omega)
    have I1 : Inv X pins σ H { s with heap := h' } := I.kept (t' := s.toks) kp
    have I2 : Inv X pins σ (upd H h'.objs.size (.tup ys)) { s with heap := h'.push { cls := .type "tuple", data := .seq its.toArray } } :=
      I1.laid (t' := s.toks) (fun b o e => Heap.get?_push_of_some _ e) (Nat.le_refl _) (show ObjOk X.prog X.w _ _ _ (.tup ys) from ⟨hz, its, r', TupO.new _ _⟩)
    exact ⟨.ref h'.objs.size, _, I2, rfl, q _ (I1.hok.fresh (Nat.le_refl _))⟩
  · obtain ⟨its, r', pl, hz⟩ := I.tuple hq
    exact call_tuple_same pl ⟨.ref p, H, I, rfl, q⟩
def tyV (K : PySem.W.Frag) (T : String) (x : V) (H : Hp) : Prop := match x with
  | .str _ => T = "str"
  | .int _ => T = "int"
  | .ref p => (T = "list" ∧ ∃ xs, SqL K H p xs) ∨ (T = "tuple" ∧ ∃ xs, SqT K H p xs) ∨
      (T = "dict" ∧ ((∃ kvs, H p = some (.dK kvs)) ∨ ∃ kvs, H p = some (.dT kvs))) ∨ (T = "set" ∧ ∃ S n, H p = some (.set S n))
  | _ => False
theorem tyV_is {pins : List (Addr × Obj)} {σ : St} {H : Hp} {s : Shared} {T : String} {x : V} {v : Value} (I : Inv X pins σ H s) (r : RelV x v) (ty : tyV X.K T x H) :
    s.TypeIs v T ∧ ∀ a, v = .ref a → ∃ ob, s.heap.get? a = some ob ∧ ob.dict = none := by
  cases x with
  | str z =>
    obtain ⟨t, rfl⟩ := r
    cases (show T = "str" from ty)
    exact ⟨typeIs_str s z t, fun _ e => nomatch e⟩
  | int i =>
    obtain ⟨t, rfl⟩ := r
    cases (show T = "int" from ty)
    exact ⟨typeIs_int s i t, fun _ e => nomatch e⟩
  | ref p =>
    cases r
    rcases ty with ⟨rfl, xs, hq⟩ | ⟨rfl, xs, hq⟩ | ⟨rfl, hk⟩ | ⟨rfl, S, n, hk⟩
    · obtain ⟨its, _, pl, _⟩ := I.list hq
      refine ⟨pl.isList.typeIs, fun a e => ?_⟩
      cases e
      obtain ⟨o, n, e, c, hd, _⟩ := pl
      exact ⟨o, e, hd⟩
    · obtain ⟨its, _, ⟨o, e0, hc, hd, _⟩, _⟩ := I.tupleO hq
      refine ⟨⟨o, e0, hc⟩, fun a e => ?_⟩
      cases e
      exact ⟨o, e0, hd⟩
    · have z : ∃ o, s.heap.get? p = some o ∧ o.ExactDict := by
        rcases hk with ⟨kvs, hk⟩ | ⟨kvs, hk⟩
        · obtain ⟨_, _, _, _, o, _, _, e, ex, _⟩ := I.hok p _ hk
          exact ⟨o, e, ex⟩
        · obtain ⟨_, _, _, _, o, _, _, e, ex, _⟩ := I.hok p _ hk
          exact ⟨o, e, ex⟩
      obtain ⟨o, e, ex⟩ := z
      refine ⟨⟨o, e, ex.1⟩, fun a e2 => ?_⟩
      cases e2
      exact ⟨o, e, ex.2.1⟩
    · obtain ⟨o, _, _, _, e, ex, _⟩ := I.hok p _ hk
      refine ⟨⟨o, e, ex.1⟩, fun a e2 => ?_⟩
      cases e2
      exact ⟨o, e, ex.2.1⟩
  | _ => exact False.elim ty
def tBM0 (K : PySem.W.Frag) (T : String) (r : V → List V → Hp → VK → Prop) (to : TE) : TE := fun σ H Q => to σ H fun x H1 => tyV K T x H1 ∧ r x [] H1 Q
def tBM (K : PySem.W.Frag) (T : String) (r : V → List V → Hp → VK → Prop) (to : TE) (t : TA) : TE := fun σ H Q => to σ H fun x H1 => tyV K T x H1 ∧ t σ H1 fun xs H2 => r x xs H2 Q
variable {o e : Expr} {es : List Expr} {to : TE} {t : TA} {name : Str} {apos cpos : Pos} {T id : String} {r : V → List V → Hp → VK → Prop}
theorem pe_bm0 (pa : PlainAttrs T) (slot : Slot T name id) (hty : typeOf (.builtin id) = pure (.type "method_descriptor")) (hm : MtR X id r) (ho : PE X o to)
    (hbase : attributeBase o name X.env (eval o X.env) = eval o X.env := by rfl) (hline : (apos.endLine == cpos.line) = true := by rfl) : PE X (.Call (.Attribute o name apos) [] [] cpos) (tBM0 X.K T r to) := by
  intro pins s σ H Q I h
  refine wpAny_Call_method0_late hbase hline (thn (ho pins s σ H _ I h) fun v s1 ⟨x, H1, I1, r1, ty, q1⟩ => ?_)
  obtain ⟨h1, h2⟩ := tyV_is I1 r1 ty
  exact ⟨T, id, pa, slot, hty, h1, h2, Calls.callWith_builtin rfl (PySem.evalArgs_none (hm pins s1 σ H1 x [] v [] Q I1 r1 .nil q1))⟩
theorem pe_bm (pa : PlainAttrs T) (slot : Slot T name id) (hty : typeOf (.builtin id) = pure (.type "method_descriptor")) (hm : MtR X id r) (ho : PE X o to) (ha : PA X (e :: es) t)
    (hbase : attributeBase o name X.env (eval o X.env) = eval o X.env := by rfl)
    (hfew : ((backTo cpos (starEach (e :: es) X.env)).all (fun x => !x.1) && (backToKw cpos (keywordEach [] X.env)).all (fun x => x.1.isSome)
      && decide ((e :: es).length + ([] : List Keyword).length + (if ([] : List Keyword).isEmpty then 0 else 1) < 30)) = true := by rfl)
    (hline : (apos.endLine == cpos.line) = true := by rfl) (hs : starEach (e :: es) X.env = (false, eval e X.env) :: starEach es X.env := by rfl) (hplain : (backTo cpos (starEach es X.env)).any (·.1) = false := by rfl) :
    PE X (.Call (.Attribute o name apos) (e :: es) [] cpos) (tBM X.K T r to t) := by
  intro pins s σ H Q I h
  refine wpAny_Call_method_late hbase hfew hline rfl (thn (ho pins s σ H _ I h) fun v s1 ⟨x, H1, I1, r1, ty, q1⟩ => ?_)
  obtain ⟨h1, h2⟩ := tyV_is I1 r1 ty
  refine ⟨T, id, pa, slot, hty, h1, h2, ?_⟩
  have hA := ha cpos pins s1 σ H1 _ I1 q1
  rw [hs] at hA ⊢
  refine Calls.callWith_builtin (by show (false || (backTo cpos (starEach es X.env)).any (·.1)) = false; rw [hplain] <;> rfl) (Calls.evalArgs_plain ?_)
  exact thn hA fun us s2 ⟨vs, H2, I2, r2, q2⟩ => hm pins s2 σ H2 x vs v us Q I2 r1 r2 q2
end
end L2
namespace L2
open PySem PySem.Spec PyProof.Rows
def MtM (X : Cx) (id : String) (r : V → List V → Hp → VK → Prop) : Prop :=
  ∀ (pins : List (Addr × Obj)) (s : Shared) (σ : St) (H : Hp) (x : V) (xs : List V) (v : Value) (us : List Value) (Q : VK), Inv X pins σ H s → RelV x v → Vals xs us → r x xs H Q →
    wpAny (model X.prog X.w) X.A (call (.builtin id) (v :: us)) (EP X pins σ Q) X.xe s
theorem Vals.one : ∀ {x : V} {us : List Value}, Vals [x] us → ∃ u, us = [u] ∧ RelV x u
  | _, _, .cons r .nil => ⟨_, rfl, r⟩
theorem Vals.two : ∀ {x y : V} {us : List Value}, Vals [x, y] us → ∃ u v, us = [u, v] ∧ RelV x u ∧ RelV y v
  | _, _, _, .cons r (.cons q .nil) => ⟨_, _, rfl, r, q⟩
theorem Vals.zero : ∀ {us : List Value}, Vals [] us → us = []
  | _, .nil => rfl
theorem Vals.reverse {xs : List V} {us : List Value} (h : Vals xs us) : Vals xs.reverse us.reverse := by
  induction h with
  | nil => exact .nil
  | cons r t ih => rw [List.reverse_cons, List.reverse_cons]; exact Vals.append ih (.cons r .nil)
section
variable {X : Cx} {pins : List (Addr × Obj)} {σ : St} {H : Hp} {s : Shared} {l b : Addr} {xs ys zs : List V}
theorem Inv.lset {its its' : List Value} {n : Nat} {f : Array Value → Array Value} {t' : Nat} (I : Inv X pins σ H s) (hH : H l = some (.lst xs))
    (e : s.heap.get? l = some { cls := .type "list", data := .seq its.toArray n }) (hf : f its.toArray = its'.toArray) (hv : Vals ys its') (hz : ys.length ≤ sizeLine) :
    Inv X pins σ (upd H l (.lst ys)) { s with heap := s.heap.update l (Obj.mapSeq f), toks := t' } := by
  have q := PySem.IsL.update e f
  rw [hf] at q
  refine I.write (x := l) (e := l) (by rw [hH]; exact trivial) (.inl rfl) (fun b' u hb hu => (Heap.get?_update_other s.heap (Obj.mapSeq f) (Ne.symm hb)).trans hu) ⟨_, q⟩ ?_
  exact ⟨hz, its', _, hv, q⟩
theorem Inv.lnew {its : List Value} {t' : Nat} (I : Inv X pins σ H s) (hv : Vals ys its) (hz : ys.length ≤ sizeLine) :
    Inv X pins σ (upd H s.heap.objs.size (.lst ys)) { s with heap := s.heap.push { cls := .type "list", data := .seq its.toArray }, toks := t' } :=
  I.laid (fun _ _ q => Heap.get?_push_of_some _ q) (Nat.le_refl _) ⟨hz, its, 0, hv, Heap.get?_push_size _ rfl⟩
theorem Inv.fresh (I : Inv X pins σ H s) : H s.heap.objs.size = none := I.hok.fresh (Nat.le_refl _)
theorem Inv.lstM (I : Inv X pins σ H s) (hH : H l = some (.lst xs)) : xs.length ≤ sizeLine ∧ ∃ (its : List Value) (n : Nat), Vals xs its ∧ xs.length = its.length ∧ s.heap.get? l = some { cls := .type "list", data := .seq its.toArray n } := by
  obtain ⟨z, its, n, r, e⟩ := I.hok l _ hH
  exact ⟨z, its, n, r, r.length, e⟩
end
section
variable {X : Cx}
def rAppend : V → List V → Hp → VK → Prop := fun x vs H Q => ∃ l xs y, x = .ref l ∧ vs = [y] ∧ H l = some (.lst xs) ∧ xs.length < sizeLine ∧ Q .non (upd H l (.lst (xs ++ [y])))
theorem mt_append : MtM X "list.append" rAppend := by
  intro pins s σ H x vs v us Q I rx rv h
  obtain ⟨l, xs, y, rfl, rfl, hH, hz, q⟩ := h
  cases rx
  obtain ⟨u, rfl, ru⟩ := rv.one
  obtain ⟨z, its, n, r, hl, e⟩ := I.lstM hH
  refine call_meets F.slot_list_append ⟨_, e, rfl⟩ F.entry_list_append (F.args_list_append_2 _ _) (PySem.list_append l its.toArray n u (by rw [List.size_toArray]; omega)) ⟨e, ?_⟩
  refine ⟨.non, _, I.lset (its' := its ++ [u]) hH e (by simp) (r.append (.cons ru .nil)) ?_, rfl, q⟩
  rw [List.length_append, List.length_singleton]
  omega
def rReverse : V → List V → Hp → VK → Prop := fun x vs H Q => ∃ l xs, x = .ref l ∧ vs = [] ∧ H l = some (.lst xs) ∧ Q .non (upd H l (.lst xs.reverse))
theorem mt_reverse : MtM X "list.reverse" rReverse := by
  intro pins s σ H x vs v us Q I rx rv h
  obtain ⟨l, xs, rfl, rfl, hH, q⟩ := h
  cases rx
  have hus := rv.zero
  subst hus
  obtain ⟨z, its, n, r, hl, e⟩ := I.lstM hH
  refine call_meets F.slot_list_reverse ⟨_, e, rfl⟩ F.entry_list_reverse (F.args_list_reverse_1 _) (AutoSeq1.list_reverse_list_0 l its.toArray n (by rw [List.size_toArray]; omega)) ⟨e, ?_⟩
  refine ⟨.non, _, I.lset (its' := its.reverse) hH e (by simp) r.reverse ?_, rfl, q⟩
  rw [List.length_reverse]
  omega
def rCat : R2 := fun x y H Q => ∃ l b xs zs, x = .ref l ∧ y = .ref b ∧ H l = some (.lst xs) ∧ H b = some (.lst zs) ∧ xs.length + zs.length ≤ sizeLine ∧ ∀ p, H p = none → Q (.ref p) (upd H p (.lst (xs ++ zs)))
theorem op_cat : OpR X (binaryOp .Add) rCat := by
  intro pins s σ H x y v u Q I rx ry h
  obtain ⟨l, b, xs, zs, rfl, rfl, hH, hB, hz, q⟩ := h
  cases rx
  cases ry
  obtain ⟨z, its, n, r, hl, e⟩ := I.lstM hH
  obtain ⟨z2, its2, n2, r2, hl2, e2⟩ := I.lstM hB
  refine PySem.P.add_list e e2 ?_ (by rw [List.size_toArray, List.size_toArray]; omega)
  have ea : its.toArray ++ its2.toArray = (its ++ its2).toArray := by simp
  rw [ea]
  exact ⟨.ref _, _, I.lnew (t' := s.toks) (r.append r2) (by rw [List.length_append]; omega), rfl, q _ I.fresh⟩
end
section
variable {prog : Program} {w : World} {A : Around} {E : Value → Shared → Prop} {s : Shared}
set_option maxRecDepth 100000 in
end
section
variable {X : Cx}
end
end L2
namespace Att
open PySem PySem.W PySem.Calls PyProof.Rows
theorem ints_of_wellAll {P : Params} {h : Heap} : ∀ (ns : List Int) (vs : List Value), WellAll P h vs (ns.map WData.int) → IntsAre vs ns := by
  intro ns
  induction ns with
  | nil =>
    intro vs w
    rw [List.map_nil] at w
    cases w
    exact .nil
  | cons n ns ih =>
    intro vs w
    rw [List.map_cons] at w
    cases w with
    | cons a b =>
      cases a
      exact .cons _ _ (ih _ b)
theorem script_of {l : OpenLaw} {n : Nat} (hn : l.most = some n) {P : Params} {h : Heap} {args : List WData} {vals : List Value}
    (hpre : l.row.toRowW.claim.pre args = true) (hwl : WellAll P h vals args) :
    ∃ a vs ns, vals = [Value.ref a] ∧ args = [WData.list (ns.map WData.int)] ∧ h.get? a = some { cls := .type "list", data := .seq vs.toArray } ∧ IntsAre vs ns ∧ ns.length ≤ n := by
  have hsh : WShape.hasAll [] args [.list .int] = true := (pre_splitW hpre).1
  have hc : l.pre.holds [] { args := args } = true := (pre_splitW hpre).2
  obtain ⟨d, r, rfl, h1, h2⟩ := hasAllW_cons hsh
  obtain rfl := hasAllW_nil h2
  obtain ⟨xs, rfl, h3⟩ := hasW_list h1
  obtain ⟨ns, rfl⟩ := items_int h3
  have hlen : ns.length ≤ n := by
    unfold OpenLaw.pre at hc
    have h4 : (WTm.not (.lt (.lit (.int (n : Int))) (.len (.arg 0)))).holds [] { args := [.list (ns.map .int)] } = true := by
      have h4 := (holds_andW hc).1
      rw [hn] at h4
      exact h4
    have h5 := condW_of h4 (w_not (w_lt w_lit (w_len_list (w_arg rfl))))
    rw [List.length_map] at h5
    refine Nat.le_of_not_lt fun q => ?_
    have q' : (n : Int) < ((ns.length : Nat) : Int) := by omega
    first
      | (rw [decide_eq_true q'] at h5; exact absurd h5 (by decide))
      | (simp at h5; omega)
  cases hwl with
  | cons w1 w2 =>
    cases w2
    cases w1 with
    | list ho hall => exact ⟨_, _, ns, rfl, rfl, ho, ints_of_wellAll ns _ hall, hlen⟩
theorem post_true (l : OpenLaw) (args : List WData) : l.row.toRowW.claim.post args (.bool true) args = true :=
  postW_of (r := l.row.toRowW) (X := (true == true))
    (show WShape.has [] (.bool true) .bool = true by first | rfl | decide | simp [WShape.has, WShape.arms, WShape.armsAll])
    (show (WTm.eq .res (.lit (.bool true))).value [] { args := args, res := some (.bool true), after := args } = some (.bool (true == true)) from w_eq_bool (w_res rfl) w_lit) rfl
theorem attach_call {l : OpenLaw} {n : Nat} {q : Program} {loose : List Str} {XP : (Str → Option Value) → Heap → Prop} {YP : World → Heap → Prop} {d : DefRec}
    (hn : l.most = some n) (hdf : d.params.defaults = [])
    (call : ∀ (w : World) (s₀ s₁ : Shared) (mg mb : Str → Option Value) (fa : Addr) (o : Obj) (pm cd doc : Value) (a : Addr) (vs : List Value) (ns : List Int),
      Ground q loose [] XP w s₀ mg mb s₁.heap → YP w s₁.heap →
      s₁.heap.get? fa = some o → o.data = .func (docDef d.name d.params d.body d.scope pm cd doc) → s₁.heap.CodeRec cd d.name → mg d.name = some (.ref fa) →
      s₁.heap.get? a = some { cls := .type "list", data := .seq vs.toArray } → IntsAre vs ns → ns.length ≤ n → s₁.gens = #[] →
      codeAny (model l.prog w) callerA (.call (.ref fa) ⟨[.ref a], []⟩) (fun r s' => r = .ok (.ret (.bool true)) ∧ OldK s₁.heap s'.heap ∧ s'.os = s₁.os ∧ AllBare s'.gens) s₁) :
    WalkO q loose XP YP l.row.toRowW d [] (fun f vs => PySem.call f vs) := by
  intro w s₀ s₁ mg mb G Y fa o pm cd doc dV kV ho hd hcd hD hmg hg args vals as hpre hlay hrd hwl hlo
  obtain rfl : dV = .none := Dflts.none hD hdf
  obtain rfl : kV = .none := Dflts.noKw hD
  obtain ⟨a, vs, ns, rfl, rfl, hobj, hints, hlen⟩ := script_of hn hpre hwl
  refine enter_call (codeAny_mono (call w s₀ s₁ mg mb fa o pm cd doc a vs ns G Y ho (fd_plain hd) hcd hmg hobj hints hlen hg) fun r s' hq => ?_)
  obtain ⟨rfl, h2, h3, h4⟩ := hq
  exact ⟨.inl ⟨.bool true, .bool true, [], rfl, fun _ => rfl, .bool true, post_true l _, fun _ => ⟨List.Pairwise.nil, fun _ hm => (nomatch hm)⟩⟩, h2, h3, h4⟩
section
variable {prog : Program} {w : World} {A : Around} {E : Value → Shared → Prop} {s : Shared} {K : Frag}
end
end Att
namespace L2
open PySem PySem.Spec PyProof.Rows
theorem vals_ints : ∀ {vs : List Value} {ns : List Int}, IntsAre vs ns → Vals (ns.map V.int) vs
  | _, _, .nil => .nil
  | _, _, .cons n t h => .cons ⟨t, rfl⟩ (vals_ints h)
def Only (H : Hp) : Prop := ∀ b, H b = none ∨ ∃ o xs, H b = some (.frz o (.lst xs))
theorem law_call {P : Program} {w : World} {K : PySem.W.Frag} {mg mb : Str → Option Value} {CX : CXT} {k : Nat} {fa a : Addr} {fd : FuncData} {x : Str} {sp : Sp} {s₁ : Shared} {vs : List Value} {ns : List Int}
    (KX : K.In s₁.heap) (hns : s₁.heap.Ns mainGlobals mg) (hb : s₁.heap.Ns builtinsNs mb) (hbb : ∀ x : Str, x ≠ "__name__" → mb x = bootBuiltins x) (hlim : s₁.heap.NoLimit) (hg : s₁.gens = #[])
    (ha : s₁.heap.get? a = some { cls := .type "list", data := .seq vs.toArray }) (hi : IntsAre vs ns) (hl : ns.length ≤ sizeLine) (hr : Room k callerA)
    (F : ∀ base : Heap, K.In base → base.Ns mainGlobals mg → FnOk P w K mg base CX k fa fd [x] sp) (hbind : ∀ (s : Shared) (u : Value), BindsTo s fd ⟨[u], []⟩ [(x, u)])
    (hsp : ∀ H : Hp, Only H → SqL K H a (ns.map V.int) → sp [.ref a] H (fun v _ => v = .bl true) fun _ _ _ => False)
    (hCX : ∀ H e s', CX [] H s₁ (fun _ _ _ => False) e s' → False) :
    codeAny (model P w) callerA (.call (.ref fa) ⟨[.ref a], []⟩) (fun r s' => r = .ok (.ret (.bool true)) ∧ OldK s₁.heap s'.heap ∧ s'.os = s₁.os ∧ AllBare s'.gens) s₁ := by
  have rv := vals_ints hi
  have lenV := hi.length
  have core : ∀ H : Hp, Only H → SqL K H a (ns.map V.int) → HOk P w H s₁.heap → (∀ b, H b ≠ none → b = a) → (H a ≠ none → K.lookup a = none) →
      codeAny (model P w) callerA (.call (.ref fa) ⟨[.ref a], []⟩) (fun r s' => r = .ok (.ret (.bool true)) ∧ OldK s₁.heap s'.heap ∧ s'.os = s₁.os ∧ AllBare s'.gens) s₁ := by
    intro H hO hS hok hA hK
    have base_of : ∀ {b : Addr} {o : Obj}, s₁.heap.get? b = some o → H b = none → (hidT s₁.heap H).get? b = some o := fun e n => hidT_get e n
    have noA : ∀ {b : Addr} {o : Obj} {es : Array DictEntry} {ep : Nat}, s₁.heap.get? b = some o → o.data = .dict es ep → H b = none := fun {b o es ep} e d => by
      cases q : H b with
      | none => rfl
      | some u =>
        have e' : b = a := hA b (by rw [q]; simp)
        subst e'
        rw [ha] at e; cases e
        have d' : Data.seq vs.toArray _ = Data.dict es ep := d
        cases d'
    have nsK : ∀ {b : Addr} {m : Str → Option Value}, s₁.heap.Ns b m → (hidT s₁.heap H).Ns b m := fun {b m} ⟨o, es, ep, e, d, r⟩ => ⟨o, es, ep, base_of e (noA e d), d, r⟩
    have hKb : K.In (hidT s₁.heap H) := fun b o e => base_of (KX b o e) (by
      cases q : H b with
      | none => rfl
      | some u =>
        have e' : b = a := hA b (by rw [q]; simp)
        subst e'
        rw [hK (by rw [q]; simp)] at e; cases e)
    have hM : Mod K mg (hidT s₁.heap H) := ⟨hKb, nsK hns, ⟨mb, nsK hb, hbb⟩, let ⟨mc, h1, h2⟩ := hlim; ⟨mc, nsK h1, h2⟩⟩
    have e0 : Env0 P w K mg (hidT s₁.heap H) callerA [] s₁ H := ⟨rfl, hM, fun b o e => of_hidT e, Nat.le_of_eq (hidT_size _ _), trivial, fun b hb => absurd (show b ∈ ([] : List Addr) from hb) (by simp), hok, .of_eq hg⟩
    refine codeAny_mono ((F _ hKb (nsK hns)).run callerA [] s₁ H ⟨[.ref a], []⟩ [.ref a] [.ref a] _ _ hr e0 (hbind s₁ (.ref a)) (.cons rfl .nil) (hsp H hO hS)) fun r s' h => ?_
    cases r with
    | error e => exact (hCX H e s' h).elim
    | ok fl =>
      cases fl with
      | next => exact False.elim h
      | brk => exact False.elim h
      | cont => exact False.elim h
      | ret u =>
        obtain ⟨v, H', os, bare, un, hok', r', q⟩ := h
        have q' : v = .bl true := q
        subst q'
        obtain rfl : u = Value.bool true := r'
        refine ⟨rfl, OldK.of_keep fun b o e => ?_, os, bare⟩
        cases q : H b with
        | none => exact un.keep b o e q (by intro z; exact absurd (show b ∈ ([] : List Addr) from z) (by simp)) (by simp)
        | some u =>
          rcases hO b with z | ⟨ob, xs, z⟩
          · rw [q] at z; cases z
          · have z2 := un.frzs b ob _ z
            obtain ⟨e1, _⟩ := hok b _ z
            obtain ⟨e2, _⟩ := hok' b _ z2
            rw [e] at e1; cases e1
            exact e2
  cases hk : K.lookup a with
  | some o =>
    have e := KX a o hk
    rw [ha] at e
    cases e
    refine core (fun _ => none) (fun _ => .inl rfl) (.inr ⟨_, vs.toArray, _, hk, rfl, rfl, rfl, by rw [List.size_toArray, lenV]; exact hl, by simpa using rv⟩) (fun b u z => by have z' : (none : Option HO) = some u := z; cases z') (fun b z => absurd rfl z) fun z => absurd rfl z
  | none =>
    refine core (fun b => if b = a then some (.frz { cls := .type "list", data := .seq vs.toArray } (.lst (ns.map V.int))) else none) (fun b => ?_) (.inl (.inr ⟨{ cls := .type "list", data := .seq vs.toArray }, if_pos rfl⟩)) (fun b u z => ?_) (fun b z => ?_) fun _ => hk
    · by_cases hb : b = a
      · exact .inr ⟨_, _, if_pos hb⟩
      · exact .inl (if_neg hb)
    · by_cases hb : b = a
      · have z' := (if_pos hb).symm.trans z
        cases z'
        subst hb
        exact ⟨ha, by rw [List.length_map]; exact hl, vs, _, rv, ha⟩
      · have z' := (if_neg hb).symm.trans z
        cases z'
    · by_cases hb : b = a
      · exact hb
      · exact absurd (if_neg hb) z
end L2
namespace L2
open PySem PySem.Spec PyProof.Rows
abbrev KOf {K : PySem.W.Frag} {h : Heap} (_ : K.In h) : PySem.W.Frag := K
theorem walk_of {l : PySem.W.OpenLaw} {n k : Nat} {q : Program} {loose : List Str} {XP : (Str → Option Value) → Heap → Prop} {YP : World → Heap → Prop} {d : DefRec} {K : Params → PySem.W.Frag} {CX : World → CXT} {sp : World → Sp} {x : Str}
    (hn : l.most = some n) (hn2 : n ≤ sizeLine) (hdf : d.params.defaults = []) (hr : Room k callerA)
    (hY : ∀ (w : World) (h : Heap), YP w h → (K w.params).In h)
    (F : ∀ (w : World) (mg : Str → Option Value) (fa : Addr) (h : Heap), (K w.params).In h → h.Ns mainGlobals mg → mg d.name = some (.ref fa) →
      ∃ fd : FuncData, (∀ (s : Shared) (u : Value), BindsTo s fd ⟨[u], []⟩ [(x, u)]) ∧
        ∀ base : Heap, (K w.params).In base → base.Ns mainGlobals mg → FnOk l.prog w (K w.params) mg base (CX w) k fa fd [x] (sp w))
    (hsp : ∀ (w : World) (H : Hp) (a : Addr) (ns : List Int), ns.length ≤ n → Only H → SqL (K w.params) H a (ns.map V.int) → sp w [.ref a] H (fun v _ => v = .bl true) fun _ _ _ => False)
    (hCX : ∀ (w : World) (H : Hp) (s : Shared) (e : Value) (s' : Shared), CX w [] H s (fun _ _ _ => False) e s' → False) :
    PySem.W.WalkO q loose XP YP l.row.toRowW d [] (fun f vs => PySem.call f vs) := by
  refine Att.attach_call hn hdf fun w s₀ s₁ mg mb fa o pm cd doc a vs ns G Y ho hd hcd hmg hobj hints hlen hg => ?_
  have KX := hY w _ Y
  obtain ⟨fd, hb, hF⟩ := F w mg fa _ KX G.T.g hmg
  exact law_call KX G.T.g G.T.b G.T.builtins G.T.nolimit hg hobj hints (Nat.le_trans hlen hn2) hr hF hb (fun H hO hS => hsp w H a ns hlen hO hS) fun H e s' => hCX w H s₁ e s'
end L2
namespace L2
open PySem PySem.Spec PyProof.Rows
def inClass (s : Stmt) (j : Nat) : Stmt := match s with
  | .ClassDef _ _ _ body _ _ _ _ _ _ _ => body.getD j (.Pass ⟨0, 0, 0, 0⟩)
  | _ => .Pass ⟨0, 0, 0, 0⟩
def defArgs (s : Stmt) : Arguments := match s with
  | .FunctionDef _ a _ _ _ _ _ _ _ _ => a
  | _ => { posonlyargs := [], args := [], vararg := none, kwonlyargs := [], kw_defaults := [], kwarg := none, defaults := [] }
def defBody (s : Stmt) : List Stmt := match s with
  | .FunctionDef _ _ b _ _ _ _ _ _ _ => b
  | _ => []
def defScope (s : Stmt) : Scope := match s with
  | .FunctionDef _ _ _ _ _ _ sc _ _ _ => sc
  | _ => { kind := .function, names := [], isGenerator := false, isCoroutine := false }
abbrev CX0 : CXT := fun _ _ _ _ _ _ => False
abbrev E0 : XK := fun _ _ _ => False
theorem pass0 {X : Cx} : Passes CX0 X E0 := fun _ _ _ _ _ _ _ h => h.elim
structure Fun (K : PySem.W.Frag) (x qual : Str) (st : Stmt) (f : Addr) (fd : FuncData) : Prop where
  ex : ∃ (oc : Value) (od : Option Addr) (kV doc pm : Value) (an : Option Addr) (cdv ct : Value) (osl : Array (Option Value)),
    fd = PySem.W.fnOf x qual (defArgs st) (defBody st) (defScope st) .none kV doc pm an cdv ct ∧ K.lookup f = some ⟨oc, od, .func fd, osl⟩ ∧ PySem.W.codeIn K cdv qual = true
  kp : PySem.W.keepIn K (.ref f) = true
section
variable {P : Program} {w : World} {K : PySem.W.Frag} {mg : Str → Option Value} {base : Heap}
theorem Fun.ok {x qual : Str} {st : Stmt} {f : Addr} {fd : FuncData} {N ps : List Str} {k : Nat} {sp : Sp} (F : Fun K x qual st f fd) (S : FnScope N ps (defScope st)) (len : ∀ vs H Q E, sp vs H Q E → vs.length = ps.length)
    (hbody : ∀ (cdv : Value) (A : Around) (outer : List Env) (s : Shared) (H : Hp) (vs : List V) (Q : VK) (E : XK), Room k (A.deeper (envOfC qual (defScope st) s.heap.objs.size f cdv)) → sp vs H Q E →
      ∃ t, PSs (cxOf CX0 P w K mg base N qual (defScope st) f cdv A outer s H E).nox (defBody st) t ∧ t { nx := fun _ H' => Q .non H', rt := Q } (start N vs) H) : FnOk P w K mg base CX0 (k + 1) f fd ps sp := by
  obtain ⟨oc, od, kV, doc, pm, an, cdv, ct, osl, rfl, lk, hcd⟩ := F.ex
  refine fn_of lk hcd S len fun A outer s H vs Q E hr hsp => ?_
  obtain ⟨t, h, q⟩ := hbody cdv A outer s H vs Q E hr hsp
  exact ⟨t, h.nox, q⟩
theorem Fun.binds {x qual : Str} {st : Stmt} {f : Addr} {fd : FuncData} {ps : List Str} (F : Fun K x qual st f fd)
    (h : ∀ (kV doc pm : Value) (an : Option Addr) (cdv ct : Value) (us : List Value), us.length = ps.length → bindArgs (PySem.W.fnOf x qual (defArgs st) (defBody st) (defScope st) .none kV doc pm an cdv ct) ⟨us, []⟩ = pure (ps.zip us)) : Binds K fd ps [] := by
  obtain ⟨oc, od, kV, doc, pm, an, cdv, ct, osl, rfl, lk, hcd⟩ := F.ex
  exact .all (h kV doc pm an cdv ct)
theorem fun_mk {x qual : Str} {st : Stmt} {f : Addr} {oc : Value} {od an : Option Addr} {osl : Array (Option Value)} {kV doc pm cdv ct : Value} (l : K.lookup f = some ⟨oc, od, .func (PySem.W.fnOf x qual (defArgs st) (defBody st) (defScope st) .none kV doc pm an cdv ct), osl⟩)
    (c : PySem.W.codeIn K cdv qual = true) (k : PySem.W.keepIn K (.ref f) = true) : Fun K x qual st f (PySem.W.fnOf x qual (defArgs st) (defBody st) (defScope st) .none kV doc pm an cdv ct) := ⟨⟨oc, od, kV, doc, pm, an, cdv, ct, osl, rfl, l, c⟩, k⟩
end
theorem small1000 {n : Nat} (h : n ≤ 1000) : n < sizeLine := Nat.lt_of_le_of_lt h (by decide)
section
variable {X : Cx}
theorem pv (i : Nat) {x : Str} {pos : Pos} (hN : X.N[i]? = some x := by rfl) (hv : Vis X.env.scope x := by first | exact Or.inl rfl | exact Or.inr (Or.inl rfl) | exact Or.inr (Or.inr rfl)) (hd : (x == ("__debug__" : Str)) = false := by decide)
    (hcd : (x == ("__classdict__" : Str)) = false := by decide) : PE X (.Name x pos) (tVar i) := pe_var hN hv hd hcd
end
def Same (H H' : Hp) : Prop := ∀ b o, H b = some o → H' b = some o
theorem Same.refl (H : Hp) : Same H H := fun _ _ h => h
theorem Same.trans {H H1 H2 : Hp} (a : Same H H1) (b : Same H1 H2) : Same H H2 := fun c o h => b c o (a c o h)
theorem Same.free {H H' : Hp} (e : Same H H') {l : Addr} (h : H' l = Option.none) : H l = Option.none := by
  cases q : H l with
  | none => rfl
  | some o =>
    rw [e l o q] at h
    cases h
theorem Same.seq {K : PySem.W.Frag} {H H' : Hp} {a : Addr} {xs : List V} (e : Same H H') (h : SqL K H a xs) : SqL K H' a xs := by
  rcases h with (h | ⟨o, h⟩) | h
  · exact .inl (.inl (e _ _ h))
  · exact .inl (.inr ⟨o, e _ _ h⟩)
  · exact .inr h
end L2
set_option Elab.async false
set_option linter.all false
set_option maxRecDepth 100000
namespace L2
open PySem PySem.Spec PyProof.Rows
end L2
namespace L2
open PySem PySem.Spec PyProof.Rows
section
variable (P : Program) (w : World)
end
section
variable {P : Program} {w : World} {H H' : Hp} {h h' : Heap} {a : Addr} {o : HO}
end
section
variable {P : Program} {w : World} {H : Hp} {h h' : Heap} {x e : Addr} {o' : HO}
end
section
variable {fs fs' ex ex' : List Addr} {H H1 H2 : Hp} {h h1 h2 h' : Heap} {a x e : Addr} {o : HO}
end
end L2
namespace L2
open PySem PySem.Spec PyProof.Rows
section
variable {X : Cx} {pins : List (Addr × Obj)} {σ : List (Option V)} {H H' : Hp} {s : Shared} {h' : Heap}
end
end L2
namespace L2
open PySem PySem.Spec PyProof.Rows
section
variable {X : Cx}
variable {a b : Expr} {ta tb : TE} {pos : Pos}
variable {tA tB' : TT} {rest : List Expr}
end
end L2
namespace L2
open PySem PySem.Spec PyProof.Rows
section
variable {X : Cx} {pins : List (Addr × Obj)} {σ : St} {H : Hp} {s : Shared} {a : Addr} {xs ys : List V}
end
section
variable {X : Cx} {pins : List (Addr × Obj)} {σ : St} {H : Hp} {s : Shared} {E : Value → Shared → Prop}
end
section
variable {X : Cx} {st : Stmt} {rest : List Stmt} {t u : TS} {e : Expr} {te : TE} {pos : Pos}
end
section
variable {X : Cx} {pos : Pos}
end
section
variable {X : Cx} {pos : Pos}
end
end L2
namespace L2
open PySem PySem.Spec PyProof.Rows
section
variable {X : Cx} {tg : Expr}
end
end L2
namespace L2
open PySem PySem.Spec PyProof.Rows
section
variable {X : Cx} {a b c : Expr} {ta tb tc : TE} {pos : Pos}
end
section
variable {X : Cx} {a b c : Expr} {ta tb tc : TE} {pos : Pos}
end
end L2
namespace L2
open PySem PySem.Spec PyProof.Rows
section
variable {prog : Program} {w : World} {A : Around} {E : Value → Shared → Prop} {s : Shared} {K : PySem.W.Frag} {x dx C f : Addr} {mA : Str → Option Value} {name : Str} {v : Value}
end
section
variable {P : Program} {w : World} {H H' : Hp} {h h' : Heap} {a C dx : Addr} {fs fs' : List (Str × V)}
end
section
variable {X : Cx} {pins : List (Addr × Obj)} {σ : St} {H : Hp} {s : Shared} {a C dx : Addr} {fs : List (Str × V)} {f : Str} {v : V} {A : Around} {E : Value → Shared → Prop}
end
section
variable {X : Cx} {o e value : Expr} {f : Str} {pos pos' tpos : Pos} {ta tv : TE}
end
section
variable {X : Cx} {pins : List (Addr × Obj)} {σ : St} {H : Hp} {s : Shared} {A : Around} {E : Value → Shared → Prop} {Q : Value → Shared → Prop} {c : Value} {b : Bool}
end
end L2
namespace L2
open PySem PySem.Spec PyProof.Rows
section
variable {X : Cx} {e : Expr} {es : List Expr} {te : TE} {t : TA} {pos : Pos}
end
section
variable {X : Cx} {pins : List (Addr × Obj)} {σ : St} {H : Hp} {s s' : Shared}
end
section
variable {X : Cx} {CX : CXT} {k : Nat} {f C : Addr} {fd : FuncData} {ps : List Str} {sp : Sp} {dvs : List V} {ds : List Value} {E : XK} {x m : Str} {p pos apos : Pos} {e o : Expr} {es : List Expr} {ta : TE} {t : TA}
end
section
variable {X : Cx} {CX : CXT} {k : Nat} {f C : Addr} {fd : FuncData} {ps ks : List Str} {sp : Sp} {E : XK} {x m : Str} {p pos apos kpos : Pos} {e o : Expr} {es : List Expr} {kws : List Keyword} {te ta : TE} {t tk : TA} {nm : Option Str}
variable {g : List Value → List Value → List Value} {gV : List V → List V → List V}
end
end L2
namespace L2
open PySem PySem.Spec PyProof.Rows
section
variable {X : Cx} {x : Str} {p pos : Pos} {e : Expr} {es : List Expr} {t : TA} {id T : String} {r : List V → Hp → VK → Prop}
end
end L2
namespace L2
open PySem PySem.Spec PyProof.Rows
section
variable {κ : Type} [DecidableEq κ]
def valV (kvs : List (κ × V)) (k : κ) : Option V := (kvs.find? fun kv => decide (kv.1 = k)).map (·.2)
def putK (kvs : List (κ × V)) (k : κ) (v : V) : List (κ × V) :=
  if (kvs.any fun kv => decide (kv.1 = k)) = true then kvs.map (fun kv => if kv.1 = k then (kv.1, v) else kv) else kvs ++ [(k, v)]
def dropK (kvs : List (κ × V)) (k : κ) : List (κ × V) := kvs.filter fun kv => decide (kv.1 ≠ k)
theorem valV_pos {p : κ × V} {r : List (κ × V)} {k : κ} (e : p.1 = k) : valV (p :: r) k = some p.2 := by simp [valV, List.find?_cons, e]
theorem valV_neg {p : κ × V} {r : List (κ × V)} {k : κ} (e : ¬ p.1 = k) : valV (p :: r) k = valV r k := by simp [valV, List.find?_cons, e]
theorem valV_any (k : κ) : ∀ kvs : List (κ × V), (kvs.any fun kv => decide (kv.1 = k)) = (valV kvs k).isSome
  | [] => rfl
  | p :: r => by
    rw [List.any_cons]
    by_cases e : p.1 = k
    · simp only [valV_pos e, decide_eq_true e, Bool.true_or, Option.isSome_some]
    · rw [valV_neg e, decide_eq_false e, Bool.false_or]; exact valV_any k r
theorem valV_map (k j : κ) (y : V) : ∀ kvs : List (κ × V), valV (kvs.map fun kv => if kv.1 = k then (kv.1, y) else kv) j = (valV kvs j).map fun x => if j = k then y else x
  | [] => rfl
  | p :: r => by
    have ih := valV_map k j y r
    rw [List.map_cons]
    by_cases h : p.1 = k
    · rw [if_pos h]
      by_cases e : p.1 = j
      · rw [valV_pos (p := (p.1, y)) e, valV_pos e, Option.map_some, if_pos (e.symm.trans h)]
      · rw [valV_neg (p := (p.1, y)) e, valV_neg e, ih]
    · rw [if_neg h]
      by_cases e : p.1 = j
      · rw [valV_pos (p := p) e, valV_pos e, Option.map_some, if_neg (fun z => h (e.trans z))]
      · rw [valV_neg (p := p) e, valV_neg e, ih]
theorem valV_snoc (k j : κ) (y : V) : ∀ kvs : List (κ × V), valV kvs k = none → valV (kvs ++ [(k, y)]) j = if j = k then some y else valV kvs j
  | [], _ => by
    by_cases e : k = j
    · rw [if_pos e.symm]; exact valV_pos (p := (k, y)) e
    · rw [if_neg (fun z => e z.symm)]; exact valV_neg (p := (k, y)) e
  | p :: r, hn => by
    rw [List.cons_append]
    have hk : ¬ p.1 = k := fun z => by rw [valV_pos z] at hn; cases hn
    rw [valV_neg hk] at hn
    have ih := valV_snoc k j y r hn
    by_cases e : p.1 = j
    · rw [valV_pos e, valV_pos e, if_neg (fun z => hk (e.trans z))]
    · rw [valV_neg e, valV_neg e, ih]
theorem valV_put (kvs : List (κ × V)) (k j : κ) (y : V) : valV (putK kvs k y) j = if j = k then some y else valV kvs j := by
  unfold putK
  by_cases a : (kvs.any fun kv => decide (kv.1 = k)) = true
  · rw [if_pos a, valV_map]
    rw [valV_any] at a
    by_cases e : j = k
    · obtain ⟨x, hx⟩ := Option.isSome_iff_exists.mp a
      rw [if_pos e, e, hx, Option.map_some, if_pos rfl]
    · rw [if_neg e]
      cases valV kvs j with
      | none => rfl
      | some x => rw [Option.map_some, if_neg e]
  · rw [if_neg a]
    refine valV_snoc k j y kvs ?_
    rw [valV_any] at a
    cases q : valV kvs k with
    | none => rfl
    | some x => rw [q] at a; exact (a rfl).elim
theorem length_putK (kvs : List (κ × V)) (k : κ) (v : V) : (putK kvs k v).length ≤ kvs.length + 1 := by
  unfold putK
  split
  · rw [List.length_map]; omega
  · rw [List.length_append, List.length_cons, List.length_nil]; omega
theorem RelO.isSome_eq {o : Option V} {u : Option Value} (r : RelO o u) : o.isSome = u.isSome := by
  cases o with
  | none => cases u with
    | none => rfl
    | some _ => exact (show False from r).elim
  | some _ => cases u with
    | none => exact (show False from r).elim
    | some _ => rfl
theorem RelO.getD {o : Option V} {u : Option Value} {d : V} {d' : Value} (r : RelO o u) (rd : RelV d d') : RelV (o.getD d) (u.getD d') := by
  cases o with
  | none => cases u with
    | none => exact rd
    | some _ => exact (show False from r).elim
  | some _ => cases u with
    | none => exact (show False from r).elim
    | some _ => exact r
theorem KV.val {kvs : List (κ × V)} {vs : List (κ × Value)} (r : KV kvs vs) (k : κ) : RelO (valV kvs k) (valueAt vs k) := by
  unfold KV at r
  induction r with
  | nil => exact True.intro
  | @cons p q ps qs h t ih =>
    obtain ⟨h1, h2⟩ := h
    by_cases e : p.1 = k
    · have e' : q.1 = k := h1.symm.trans e
      have b : valueAt (q :: qs) k = some q.2 := by simp [valueAt, List.find?_cons, e']
      rw [valV_pos e, b]; exact h2
    · have e' : ¬ q.1 = k := fun z => e (h1.trans z)
      have b : valueAt (q :: qs) k = valueAt qs k := by simp [valueAt, List.find?_cons, e']
      rw [valV_neg e, b]; exact ih
theorem KV.any {kvs : List (κ × V)} {vs : List (κ × Value)} (r : KV kvs vs) (k : κ) : (kvs.any fun kv => decide (kv.1 = k)) = vs.any fun kv => decide (kv.1 = k) := by
  unfold KV at r
  induction r with
  | nil => rfl
  | cons h t ih => rw [List.any_cons, List.any_cons, ih, h.1]
theorem KV.repl {kvs : List (κ × V)} {vs : List (κ × Value)} (r : KV kvs vs) (k : κ) {y : V} {u : Value} (ry : RelV y u) :
    KV (kvs.map fun kv => if kv.1 = k then (kv.1, y) else kv) (vs.map fun kv => if kv.1 = k then (kv.1, u) else kv) := by
  unfold KV at r ⊢
  induction r with
  | nil => exact .nil
  | @cons p q ps qs h t ih =>
    rw [List.map_cons, List.map_cons]
    refine .cons ?_ ih
    obtain ⟨h1, h2⟩ := h
    by_cases e : p.1 = k
    · rw [if_pos e, if_pos (h1.symm.trans e)]; exact ⟨h1, ry⟩
    · rw [if_neg e, if_neg (fun z => e (h1.trans z))]; exact ⟨h1, h2⟩
theorem KV.put {kvs : List (κ × V)} {vs : List (κ × Value)} (r : KV kvs vs) (k : κ) {y : V} {u : Value} (ry : RelV y u) : KV (putK kvs k y) (stored vs k u) := by
  unfold putK stored
  rw [r.any k]
  by_cases e : (vs.any fun kv => decide (kv.1 = k)) = true
  · rw [if_pos e, if_pos e]; exact r.repl k ry
  · rw [if_neg e, if_neg e]; exact Paired.snoc r ⟨rfl, ry⟩
theorem KV.drop {kvs : List (κ × V)} {vs : List (κ × Value)} (r : KV kvs vs) (k : κ) : KV (dropK kvs k) (without vs k) := by
  unfold KV at r ⊢
  unfold dropK without
  induction r with
  | nil => exact .nil
  | @cons p q ps qs h t ih =>
    obtain ⟨h1, h2⟩ := h
    rw [List.filter_cons, List.filter_cons]
    by_cases e : p.1 = k
    · have a : ¬ decide (p.1 ≠ k) = true := by simp [e]
      have b : ¬ decide (q.1 ≠ k) = true := by simp [h1.symm.trans e]
      rw [if_neg a, if_neg b]; exact ih
    · have e' : ¬ q.1 = k := fun z => e (h1.trans z)
      have a : decide (p.1 ≠ k) = true := by simp [e]
      have b : decide (q.1 ≠ k) = true := by simp [e']
      rw [if_pos a, if_pos b]; exact .cons ⟨h1, h2⟩ ih
theorem KV.keys {kvs : List (κ × V)} {vs : List (κ × Value)} (r : KV kvs vs) : kvs.map (·.1) = vs.map (·.1) := by
  unfold KV at r
  induction r with
  | nil => rfl
  | cons h t ih => rw [List.map_cons, List.map_cons, ih, h.1]
theorem KV.length {kvs : List (κ × V)} {vs : List (κ × Value)} (r : KV kvs vs) : kvs.length = vs.length := Paired.length r
end
theorem kV_is {P : Program} {w : World} {k : Key} {u : Value} (r : RelV (kV k) u) : (mixKind P w).is k u = true := by
  cases k with
  | inl i => obtain ⟨t, e⟩ := (show ∃ t, u = Value.int i t from r); subst e; exact mixKind_int P w i t
  | inr x => obtain ⟨t, e⟩ := (show ∃ t, u = Value.str x t from r); subst e; exact mixKind_str P w x t
theorem items_are {P : Program} {w : World} : ∀ {ks : List Key} {us : List Value}, Vals (ks.map kV) us → ItemsAre (mixKind P w) ks us
  | [], _, r => by rw [List.map_nil] at r; cases r; exact .nil
  | k :: ks, _, r => by
    rw [List.map_cons] at r
    cases r with
    | cons h t => exact .cons (kV_is h) (items_are t)
abbrev KT (H : Hp) : List (List Key × V) → List (List Key × Addr × Value) → Prop := Paired fun p q => p.1 = q.1 ∧ H q.2.1 = some (.tup (p.1.map kV)) ∧ RelV p.2 q.2.2
theorem KT.val {H : Hp} {kvs : List (List Key × V)} {xs : List (List Key × Addr × Value)} (r : KT H kvs xs) (k : List Key) : RelO (valV kvs k) ((atKey xs k).map (·.2)) := by
  induction r with
  | nil => exact True.intro
  | @cons p q ps qs h t ih =>
    obtain ⟨h1, _, h2⟩ := h
    by_cases e : p.1 = k
    · have e' : q.1 = k := h1.symm.trans e
      have b : atKey (q :: qs) k = some q.2 := by simp [atKey, List.find?_cons, e']
      rw [valV_pos e, b]; exact h2
    · have e' : ¬ q.1 = k := fun z => e (h1.trans z)
      have b : atKey (q :: qs) k = atKey qs k := by simp [atKey, List.find?_cons, e']
      rw [valV_neg e, b]; exact ih
theorem KT.repl {H : Hp} {kvs : List (List Key × V)} {xs : List (List Key × Addr × Value)} (r : KT H kvs xs) (k : List Key) {y : V} {u : Value} (ry : RelV y u) :
    KT H (kvs.map fun kv => if kv.1 = k then (kv.1, y) else kv) (xs.map (putAt k u)) := by
  induction r with
  | nil => exact .nil
  | @cons p q ps qs h t ih =>
    rw [List.map_cons, List.map_cons]
    refine .cons ?_ ih
    obtain ⟨h1, h2, h3⟩ := h
    unfold putAt
    by_cases e : p.1 = k
    · rw [if_pos e, if_pos (h1.symm.trans e)]; exact ⟨h1, h2, ry⟩
    · rw [if_neg e, if_neg (fun z => e (h1.trans z))]; exact ⟨h1, h2, h3⟩
theorem KT.put {H : Hp} {kvs : List (List Key × V)} {xs : List (List Key × Addr × Value)} (r : KT H kvs xs) (k : List Key) {b : Addr} {y : V} {u : Value} (hb : H b = some (.tup (k.map kV))) (ry : RelV y u) :
    KT H (putK kvs k y) (storedH xs k b u) := by
  have e : (kvs.any fun kv => decide (kv.1 = k)) = (atKey xs k).isSome := by
    rw [valV_any, (r.val k).isSome_eq, Option.isSome_map]
  unfold putK storedH
  rw [e]
  by_cases q : (atKey xs k).isSome = true
  · rw [if_pos q, if_pos q]; exact r.repl k ry
  · rw [if_neg q, if_neg q]; exact Paired.snoc r ⟨rfl, hb, ry⟩
theorem KT.keeps {H H' : Hp} {kvs : List (List Key × V)} {xs : List (List Key × Addr × Value)} (r : KT H kvs xs) (ht : ∀ b ys, H b = some (.tup ys) → H' b = some (.tup ys)) : KT H' kvs xs :=
  Paired.mapP r fun _ _ z => ⟨z.1, ht _ _ z.2.1, z.2.2⟩
section
variable {P : Program} {w : World} {H : Hp} {h : Heap} {a : Addr}
theorem rd_of {u : HO} (ok : HOk P w H h) (e : Rd H a u) : ObjOk P w H h a u := e.ok ok
theorem dk_rd {kvs : List (Key × V)} (ok : HOk P w H h) (e : Rd H a (.dK kvs)) : kvs.length ≤ sizeLine ∧ (a == sysModules) = false ∧ ∃ vs, KV kvs vs ∧ h.DictOf (mixKind P w) a vs :=
  show ObjOk P w H h a (.dK kvs) from rd_of ok e
theorem dk_of {kvs : List (Key × V)} (ok : HOk P w H h) (e : H a = some (.dK kvs)) : kvs.length ≤ sizeLine ∧ (a == sysModules) = false ∧ ∃ vs, KV kvs vs ∧ h.DictOf (mixKind P w) a vs := dk_rd ok (.inl e)
theorem key_of {ks : List Key} (ok : HOk P w H h) (e : H a = some (.tup (ks.map kV))) : (tupleKind (mixKind P w)).is h ks a := by
  obtain ⟨_, its, r, o, h1, h2, _, n, h3⟩ := (show ObjOk P w H h a (.tup (ks.map kV)) from ok a _ e)
  exact ⟨o, its.toArray, n, h1, h2, h3, by simpa using items_are r⟩
theorem dt_rd {kvs : List (List Key × V)} (ok : HOk P w H h) (e : Rd H a (.dT kvs)) : kvs.length ≤ sizeLine ∧ (a == sysModules) = false ∧
    ∃ xs, KT H kvs xs ∧ h.DictOfH (tupleKind (mixKind P w)) a xs := by
  obtain ⟨z, y, xs, r, o, es, ep, h1, h2, h3, h4, h5⟩ := (show ObjOk P w H h a (.dT kvs) from rd_of ok e)
  refine ⟨z, y, xs, r, o, es, ep, h1, h2, h3, h4, fun x hx => ?_, h5⟩
  have all : ∀ {l : List (List Key × V)} {m : List (List Key × Addr × Value)}, KT H l m → ∀ x ∈ m, (tupleKind (mixKind P w)).is h x.1 x.2.1 := by
    intro l m q
    induction q with
    | nil => intro x hx; exact nomatch hx
    | @cons p q ps qs hq t ih =>
      intro x hx
      rcases List.mem_cons.mp hx with e | hx
      · subst e
        exact key_of ok (by rw [← hq.1]; exact hq.2.1)
      · exact ih x hx
  exact all r x hx
theorem dt_of {kvs : List (List Key × V)} (ok : HOk P w H h) (e : H a = some (.dT kvs)) : kvs.length ≤ sizeLine ∧ (a == sysModules) = false ∧
    ∃ xs, KT H kvs xs ∧ h.DictOfH (tupleKind (mixKind P w)) a xs := dt_rd ok (.inl e)
end
def DGet (H : Hp) (a : Addr) (y : V) (r : Option V) : Prop :=
  (∃ kvs k, Rd H a (.dK kvs) ∧ y = kV k ∧ r = valV kvs k) ∨ ∃ kvs k b, Rd H a (.dT kvs) ∧ y = .ref b ∧ H b = some (.tup (k.map kV)) ∧ r = valV kvs k
def DPut (H : Hp) (a : Addr) (y v : V) (H' : Hp) : Prop :=
  (∃ kvs k, H a = some (.dK kvs) ∧ y = kV k ∧ kvs.length < sizeLine ∧ H' = upd H a (.dK (putK kvs k v))) ∨
  ∃ kvs k b, H a = some (.dT kvs) ∧ y = .ref b ∧ H b = some (.tup (k.map kV)) ∧ kvs.length < sizeLine ∧ H' = upd H a (.dT (putK kvs k v))
theorem DGet.k {H : Hp} {a : Addr} {kvs : List (Key × V)} {k : Key} (e : H a = some (.dK kvs)) : DGet H a (kV k) (valV kvs k) := .inl ⟨kvs, k, .inl e, rfl, rfl⟩
theorem DGet.t {H : Hp} {a b : Addr} {kvs : List (List Key × V)} {k : List Key} (e : H a = some (.dT kvs)) (eb : H b = some (.tup (k.map kV))) : DGet H a (.ref b) (valV kvs k) := .inr ⟨kvs, k, b, .inl e, rfl, eb, rfl⟩
theorem DPut.k {H : Hp} {a : Addr} {kvs : List (Key × V)} {k : Key} {v : V} (e : H a = some (.dK kvs)) (hl : kvs.length < sizeLine) : DPut H a (kV k) v (upd H a (.dK (putK kvs k v))) := .inl ⟨kvs, k, e, rfl, hl, rfl⟩
theorem DPut.t {H : Hp} {a b : Addr} {kvs : List (List Key × V)} {k : List Key} {v : V} (e : H a = some (.dT kvs)) (eb : H b = some (.tup (k.map kV))) (hl : kvs.length < sizeLine) :
    DPut H a (.ref b) v (upd H a (.dT (putK kvs k v))) := .inr ⟨kvs, k, b, e, rfl, eb, hl, rfl⟩
section
variable {X : Cx} {pins : List (Addr × Obj)} {σ : St} {H : Hp} {s : Shared} {a : Addr} {y v : V} {u r : Value} {o : Option V} {A : Around} {E : Value → Shared → Prop}
theorem Inv.big (I : Inv X pins σ H s) : sysModules < s.heap.objs.size := by
  have h : mainGlobals < s.heap.objs.size := (I.mod.glob.keeps I.bk).lt
  exact Nat.lt_trans (by decide) h
theorem d_write {h' : Heap} {t' : Nat} {ob : HO} (I : Inv X pins σ H s) (mu : Mut (H a)) (hs : Heap.SameBut a s.heap h') (he : ∃ q, h'.get? a = some q) (new : ObjOk X.prog X.w (upd H a ob) h' a ob) :
    Inv X pins σ (upd H a ob) { s with heap := h', toks := t' } :=
  I.write (x := a) (e := a) mu (.inl rfl) (fun b q hb z => (hs.2 b hb).trans z) he new
theorem dk_new {P : Program} {w : World} {H' : Hp} {h' : Heap} {kvs : List (Key × V)} {vs : List (Key × Value)} (z : kvs.length ≤ sizeLine) (hd : (a == sysModules) = false) (rel : KV kvs vs) (dd : h'.DictOf (mixKind P w) a vs) :
    ObjOk P w H' h' a (.dK kvs) := ⟨z, hd, vs, rel, dd⟩
theorem d_setItem {H' : Hp} {Q : Unit → Shared → Prop} (hu : A.units + 1 < cLine) (I : Inv X pins σ H s) (g : DPut H a y v H') (ry : RelV y u) (rv : RelV v r) (h : ∀ s', Inv X pins σ H' s' → Q () s') :
    wpAny (model X.prog X.w) A (setItem (.ref a) u r) Q E s := by
  rcases g with ⟨kvs, k, e, ey, l, eH⟩ | ⟨kvs, k, b, e, ey, eb, l, eH⟩
  · subst ey eH
    obtain ⟨z, hd, vs, rel, dd⟩ := dk_of I.hok e
    have hz : vs.length ≤ sizeLine := by rw [← rel.length]; exact z
    have hl : (putK kvs k v).length ≤ sizeLine := by have := length_putK kvs k v; omega
    refine wpAny_setItem_pairs (hsz := hz) (kV_is ry) dd fun h' dd' hs => h _ ?_
    have he : ∃ q, h'.get? a = some q := let ⟨q, _, _, hq, _⟩ := dd'; ⟨q, hq⟩
    exact d_write I (by rw [e]; exact True.intro) hs he (dk_new hl hd (rel.put k rv) dd')
  · subst ey eH
    cases (show u = Value.ref b from ry)
    obtain ⟨z, hd, xs, rel, dd⟩ := dt_of I.hok e
    have hz : xs.length ≤ sizeLine := by rw [← Paired.length rel]; exact z
    have hl : (putK kvs k v).length ≤ sizeLine := by have := length_putK kvs k v; omega
    refine wpAny_setItem_heap (hsz := hz) (tupleKind_room_in1 hu) (key_of I.hok eb) dd fun h' dd' hs => h _ ?_
    obtain ⟨q, es, ep, hq, h2, h3, h4, _, h5⟩ := dd'
    refine d_write I (by rw [e]; exact True.intro) hs ⟨q, hq⟩ ⟨hl, hd, _, (rel.put k eb rv).keeps fun c ys ec => ?_, q, es, ep, hq, h2, h3, h4, h5⟩
    rw [upd_ne (ne_of ec e (fun z => nomatch z))]
    exact ec
end
section
variable {X : Cx} {pins : List (Addr × Obj)} {σ : St} {H : Hp} {s : Shared} {a : Addr} {kvs : List (Key × V)} {k : Key} {u : Value} {A : Around} {E : Value → Shared → Prop}
end
def NoSl (i : Expr) : Prop := ∀ ov iv, subscripted i false ov iv = operate [ov, iv] (getItem ov iv)
theorem subD_of {prog : Program} {w : World} {A : Around} {E : Value → Shared → Prop} {s : Shared} {env : Env} {value slice : Expr} {pos : Pos} {T id : String} {Q : Value → Shared → Prop}
    (hl : typeLookup (.type T) "__getitem__" = pure (some (.builtin id))) (hs : NoSl slice)
    (h : wpAny (model prog w) A (eval value env) (fun o s₁ => wpAny (model prog w) A (eval slice env) (fun i s₂ => s₂.TypeIs o T ∧ wpAny (model prog w) A (getItem o i) Q E s₂) E s₁) E s) :
    wpAny (model prog w) A (eval (.Subscript value slice pos) env) Q E s := by
  refine Subscript_ (wpAny_mono h (fun o s₁ h₁ => wpAny_mono h₁ (fun i s₂ h₂ => ?_) fun _ _ x => x) fun _ _ x => x)
  obtain ⟨hT, h₂⟩ := h₂
  unfold subscriptTail
  refine wpAny_bind ?_
  rw [getitemInPython_of_ne hT.not_modules]
  refine wpAny_bind (wpAny_specialOf hT hl ?_)
  have fin : wpAny (model prog w) A (subscripted slice false o i) (fun r s₃ => wpAny (model prog w) A (letTemporaryGo value o r >>= fun _ => pure r) Q E s₃) E s₂ := by
    rw [hs o i]
    exact wpAny_operating (wpAny_mono h₂ (fun r s₃ h₃ => wpAny_bind (wpAny_letTemporaryGo (wpAny_pure h₃))) fun _ _ x => x)
  first
    | exact wpAny_pure (wpAny_bind fin)
    | exact wpAny_bind (wpAny_pure (wpAny_bind fin))
    | exact wpAny_bind fin
def sDPut (td ty tv : TE) : TS := fun D σ H => tv σ H fun v H1 => td σ H1 fun x H2 => ty σ H2 fun y H3 => ∃ a H4, x = .ref a ∧ DPut H3 a y v H4 ∧ D.nx σ H4
section
variable {X : Cx} {o i e value : Expr} {pos pos' tpos : Pos} {td ty tv : TE}
theorem ps_dput (hu : X.A.units + 1 < cLine) (ho : PE X o td) (hi : PE X i ty) (hv : PE X value tv) (hs : swapsWith value (some (.Subscript o i pos')) pos.line X.env = pure false) :
    PS X (.Assign [.Subscript o i pos'] value pos) (sDPut td ty tv) := by
  intro pins s σ H D I h
  refine wpAny_Assign_Subscript (thn (hv pins s σ H _ I h) fun r s1 ⟨v, H1, I1, rv, q1⟩ => thn (ho pins s1 σ H1 _ I1 q1) fun u s2 ⟨x, H2, I2, rx, q2⟩ => thn (hi pins s2 σ H2 _ I2 q2) fun iv s3 ⟨y, H3, I3, ry, a, H4, ex, g, q3⟩ => ?_) hs
  subst ex
  obtain rfl : u = Value.ref a := rx
  exact d_setItem hu I3 g ry rv fun s4 I4 => ⟨σ, H4, I4, q3⟩
end
theorem dt_empty {P : Program} {w : World} {H : Hp} (h : Heap) (hb : sysModules < h.objs.size) : ObjOk P w H (h.push { cls := .type "dict", data := .dict #[] }) h.objs.size (.dT []) :=
  ⟨Nat.zero_le _, beq_eq_false_iff_ne.mpr (Ne.symm (Nat.ne_of_lt hb)), [], .nil, _, #[], 0, Heap.get?_push_size _ rfl, ⟨rfl, rfl, rfl⟩, rfl, rfl, List.nodup_nil⟩
section
variable {X : Cx} {pos : Pos}
end
def tPairs : List (TE × TE) → St → Hp → (List (V × V) → Hp → Prop) → Prop
  | [], _, H, Q => Q [] H
  | (tk, tv) :: r, σ, H, Q => tk σ H fun x H1 => tv σ H1 fun y H2 => tPairs r σ H2 fun ps H3 => Q ((x, y) :: ps) H3
abbrev VV : List (V × V) → List (Value × Value) → Prop := Paired fun p q => RelV p.1 q.1 ∧ RelV p.2 q.2
def PPs (X : Cx) (pos : Pos) (keys : List (Option Expr)) (values : List Expr) (trs : List (TE × TE)) : Prop :=
  ∀ (pins : List (Addr × Obj)) (s : Shared) (σ : St) (H : Hp) (Q : List (V × V) → Hp → Prop), Inv X pins σ H s → tPairs trs σ H Q →
    wpAny (model X.prog X.w) X.A (evalPairs (pairTrees keys values X.env pos)) (fun vs s' => ∃ ps H', Inv X pins σ H' s' ∧ VV ps vs ∧ Q ps H') X.xe s
theorem pps_nil {X : Cx} {pos : Pos} : PPs X pos [] [] [] := fun pins s σ H Q I h => pairTrees_nil_walk ⟨[], H, I, .nil, h⟩
theorem pps_cons {X : Cx} {pos : Pos} {k v : Expr} {ks : List (Option Expr)} {vs : List Expr} {tk tv : TE} {trs : List (TE × TE)} (hk : PE X k tk) (hv : PE X v tv) (hr : PPs X pos ks vs trs) :
    PPs X pos (some k :: ks) (v :: vs) ((tk, tv) :: trs) := fun pins s σ H Q I h =>
  pairTrees_cons_walk (thn (hk pins s σ H _ I h) fun u s1 ⟨x, H1, I1, rx, q1⟩ => thn (hv pins s1 σ H1 _ I1 q1) fun w2 s2 ⟨y, H2, I2, ry, q2⟩ =>
    thn (hr pins s2 σ H2 _ I2 q2) fun ws s3 ⟨ps, H3, I3, rel, q3⟩ => ⟨(x, y) :: ps, H3, I3, .cons ⟨rx, ry⟩ rel, q3⟩)
structure M1 (X : Cx) (o : Expr) (m : Str) (apos : Pos) (e : Expr) (cpos : Pos) : Prop where
  base : attributeBase o m X.env (eval o X.env) = eval o X.env
  few : ((backTo cpos (starEach [e] X.env)).all (fun x => !x.1) && (backToKw cpos (keywordEach [] X.env)).all (fun x => x.1.isSome)
    && decide (([e] : List Expr).length + ([] : List Keyword).length + (if ([] : List Keyword).isEmpty then 0 else 1) < 30)) = true
  line : (apos.endLine == cpos.line) = true
  trees : backTo cpos (starEach [e] X.env) = [(false, eval e X.env)]
structure M2 (X : Cx) (o : Expr) (m : Str) (apos : Pos) (e f : Expr) (cpos : Pos) : Prop where
  base : attributeBase o m X.env (eval o X.env) = eval o X.env
  few : ((backTo cpos (starEach [e, f] X.env)).all (fun x => !x.1) && (backToKw cpos (keywordEach [] X.env)).all (fun x => x.1.isSome)
    && decide (([e, f] : List Expr).length + ([] : List Keyword).length + (if ([] : List Keyword).isEmpty then 0 else 1) < 30)) = true
  line : (apos.endLine == cpos.line) = true
  trees : backTo cpos (starEach [e, f] X.env) = [(false, eval e X.env), (false, eval f X.env)]
section
variable {X : Cx} {pins : List (Addr × Obj)} {σ : St} {H : Hp} {s : Shared} {a : Addr} {y d : V} {u r : Value} {o : Option V} {A : Around} {E : Value → Shared → Prop}
end
section
variable {X : Cx} {o e f : Expr} {apos cpos : Pos} {td ty tx : TE}
end
section
variable {X : Cx} {pins : List (Addr × Obj)} {σ : St} {H : Hp} {s : Shared} {a : Addr} {kvs : List (Key × V)} {A : Around} {E : Value → Shared → Prop}
end
section
variable {X : Cx} {pins : List (Addr × Obj)} {σ : St} {H : Hp} {s : Shared} {a : Addr} {y : V} {u : Value} {A : Around} {E : Value → Shared → Prop}
end
end L2
namespace Att
open PySem PySem.W PySem.Calls PyProof.Rows
section
variable {prog : Program} {w : World} {A : Around} {E : Value → Shared → Prop} {s : Shared} {K : Frag}
end
end Att
namespace L2
open PySem PySem.Spec PyProof.Rows
end L2
namespace L2
open PySem PySem.Spec PyProof.Rows
end L2
namespace L2
open PySem PySem.Spec PyProof.Rows
section
variable {P : Program} {w : World} {K : PySem.W.Frag} {mg : Str → Option Value} {base : Heap}
end
section
variable {X : Cx}
end
section
variable {κ : Type} [DecidableEq κ]
end
end L2
set_option Elab.async false
set_option linter.all false
set_option maxRecDepth 100000
namespace PySem.SeqAt
open AutoSeq1 (wpAny_loadPart')
open MeetsSeq MeetsSeq2 MeetsSeq3 SeqRoads2
theorem tuple_index_pair (l : Addr) (v0 v1 x : Value) (n : Nat) (dd : Option Addr) (sl : Array (Option Value)) (b0 b1 : Bool) (hb : b0 = true ∨ b1 = true) :
    Meets (Builtin.«tuple.index» ⟨[.ref l, x], []⟩)
      (fun A R s => s.heap.get? l = some { cls := .type "tuple", dict := dd, data := .seq #[v0, v1] n, slots := sl } ∧ EqAt A.in1 s v0 x b0 ∧ EqAt A.in1 s v1 x b1 ∧
        R (.ok (.ret (.int (if b0 then 0 else 1) s.toks))) { s with toks := s.toks + 1 }) := by
  intro prog w A R s h
  obtain ⟨hp, g, d, tk, os⟩ := s; obtain ⟨hl, h0, h1, h⟩ := h
  unfold Builtin.«tuple.index»
  simp only [Std.Legacy.Range.forIn_eq_forIn_range']
  wp_walk using wpAny_loadPart' hl
  have e : List.range' 0 (Std.Legacy.Range.size [:min (#[v0, v1] : Array Value).size (#[v0, v1] : Array Value).size]) = [0, 1] := by
    show List.range' 0 (Std.Legacy.Range.size [:2]) = [0, 1]
    decide
  simp only [e]
  simp only [List.forIn'.loop]
  simp only [show (#[v0, v1] : Array Value)[0]? = some v0 from rfl, show (#[v0, v1] : Array Value)[1]? = some v1 from rfl]
  refine wpAny_bind (wpAny_bind (h0 prog w _ _ ?_))
  cases b0 with
  | true =>
    rw [if_pos rfl]
    wp_walk
    exact h
  | false =>
    rw [if_neg Bool.false_ne_true]
    have e1 : b1 = true := by simpa using hb
    subst e1
    refine wpAny_pure ?_
    refine wpAny_bind (wpAny_bind (h1 prog w _ _ ?_))
    rw [if_pos rfl]
    wp_walk
    exact h
end PySem.SeqAt
namespace L3
open PySem PySem.Spec PyProof.Rows L2
theorem sameT {K : PySem.W.Frag} {H H' : Hp} {a : Addr} {xs : List V} (e : Same H H') (h : SqT K H a xs) : SqT K H' a xs := by
  rcases h with (h | ⟨o, h⟩) | h
  · exact .inl (.inl (e _ _ h))
  · exact .inl (.inr ⟨o, e _ _ h⟩)
  · exact .inr h
theorem same_upd {H : Hp} {a : Addr} {o : HO} (h : H a = none) : Same H (upd H a o) := fun b u e => by rw [upd_ne (ne_of_none e h)]; exact e
inductive D where
  | non | bl (b : Bool) | int (i : Int) | str (x : Str) | tup (ds : List D) | lst (ds : List D) | obj (C : Addr) (fs : List (Str × V)) | ty (n : String) | adr (a : Addr) | exc (C : Addr) | ob (C : Addr) (ns : List Str) (ds : List D)
def excAt (p C : Addr) : Heap → Prop := fun h => ∃ vs, h.get? p = some { cls := .ref C, data := .fields vs }
mutual
inductive Is (K : PySem.W.Frag) (H : Hp) : D → V → Prop
  | non : Is K H .non .non
  | bl (b : Bool) : Is K H (.bl b) (.bl b)
  | int (i : Int) : Is K H (.int i) (.int i)
  | str (x : Str) : Is K H (.str x) (.str x)
  | ty (n : String) : Is K H (.ty n) (.ty n)
  | adr (a : Addr) : Is K H (.adr a) (.ref a)
  | tup {p : Addr} {xs : List V} {ds : List D} : SqT K H p xs → IsL K H ds xs → Is K H (.tup ds) (.ref p)
  | lst {p : Addr} {xs : List V} {ds : List D} : SqL K H p xs → IsL K H ds xs → Is K H (.lst ds) (.ref p)
  | obj {p C dx : Addr} {fs : List (Str × V)} : H p = some (.ins C dx fs) → Is K H (.obj C fs) (.ref p)
  | exc {p C : Addr} : H p = some (.ext (excAt p C)) → Is K H (.exc C) (.ref p)
  | ob {p C dx : Addr} {fs : List (Str × V)} {ns : List Str} {ds : List D} {vs : List V} : H p = some (.ins C dx fs) → ns.map (fun n => fs.lookup n) = vs.map some → (∀ m, m ∉ ns → fs.lookup m = none) → IsL K H ds vs → Is K H (.ob C ns ds) (.ref p)
inductive IsL (K : PySem.W.Frag) (H : Hp) : List D → List V → Prop
  | nil : IsL K H [] []
  | cons {d : D} {v : V} {ds : List D} {vs : List V} : Is K H d v → IsL K H ds vs → IsL K H (d :: ds) (v :: vs)
end
section
variable {K : PySem.W.Frag} {H H' : Hp}
mutual
theorem Is.mono (e : Same H H') : ∀ {d : D} {v : V}, Is K H d v → Is K H' d v
  | _, _, .non => .non
  | _, _, .bl b => .bl b
  | _, _, .int i => .int i
  | _, _, .str x => .str x
  | _, _, .ty n => .ty n
  | _, _, .adr a => .adr a
  | _, _, .tup h l => .tup (sameT e h) (IsL.mono e l)
  | _, _, .lst h l => .lst (e.seq h) (IsL.mono e l)
  | _, _, .obj h => .obj (e _ _ h)
  | _, _, .exc h => .exc (e _ _ h)
  | _, _, .ob h1 h2 h3 h4 => .ob (e _ _ h1) h2 h3 (IsL.mono e h4)
theorem IsL.mono (e : Same H H') : ∀ {ds : List D} {vs : List V}, IsL K H ds vs → IsL K H' ds vs
  | _, _, .nil => .nil
  | _, _, .cons h l => .cons (Is.mono e h) (IsL.mono e l)
end
theorem IsL.length : ∀ {ds : List D} {vs : List V}, IsL K H ds vs → ds.length = vs.length
  | _, _, .nil => rfl
  | _, _, .cons _ l => by rw [List.length_cons, List.length_cons, IsL.length l]
theorem IsL.get : ∀ {ds : List D} {vs : List V} {i : Nat} {d : D}, IsL K H ds vs → ds[i]? = some d → ∃ v, vs[i]? = some v ∧ Is K H d v
  | _, _, _, _, .nil, e => by simp at e
  | _, _, 0, _, .cons h _, e => by simp at e; subst e; exact ⟨_, rfl, h⟩
  | _, _, i + 1, d, .cons _ l, e => by
    obtain ⟨v, h1, h2⟩ := IsL.get (i := i) (d := d) l (by simpa using e)
    exact ⟨v, by simpa using h1, h2⟩
theorem IsL.get' : ∀ {ds : List D} {vs : List V} {i : Nat} {v : V}, IsL K H ds vs → vs[i]? = some v → ∃ d, ds[i]? = some d ∧ Is K H d v
  | _, _, _, _, .nil, e => by simp at e
  | _, _, 0, _, .cons h _, e => by simp at e; subst e; exact ⟨_, rfl, h⟩
  | _, _, i + 1, v, .cons _ l, e => by
    obtain ⟨d, h1, h2⟩ := IsL.get' (i := i) (v := v) l (by simpa using e)
    exact ⟨d, by simpa using h1, h2⟩
theorem IsL.append : ∀ {ds es : List D} {vs us : List V}, IsL K H ds vs → IsL K H es us → IsL K H (ds ++ es) (vs ++ us)
  | _, _, _, _, .nil, s => s
  | _, _, _, _, .cons h l, s => .cons h (IsL.append l s)
theorem IsL.ints : ∀ (ns : List Int), IsL K H (ns.map D.int) (ns.map V.int)
  | [] => .nil
  | _ :: ns => .cons (.int _) (IsL.ints ns)
theorem IsL.atI {ds : List D} {vs : List V} {i : Int} {d : D} (l : IsL K H ds vs) (h : L2.atI ds i = some d) : ∃ v, L2.atI vs i = some v ∧ Is K H d v := by
  unfold L2.atI at h ⊢
  rw [← l.length]
  cases e : ixN ds.length i with
  | none => rw [e] at h; cases h
  | some j =>
    rw [e] at h
    exact l.get h
end
mutual
def toPy : D → PyData
  | .bl b => .bool b
  | .int i => .int i
  | .str x => .str x
  | .tup ds => .tuple (toPys ds)
  | .lst ds => .list (toPys ds)
  | .non => .none
  | .obj _ _ => .none
  | .ty _ => .none
  | .adr _ => .none
  | .exc _ => .none
  | .ob _ _ _ => .none
def toPys : List D → List PyData
  | [] => []
  | d :: ds => toPy d :: toPys ds
end
mutual
def pyOk : D → Bool
  | .bl _ => true
  | .int _ => true
  | .str x => PyData.strOk x
  | .tup ds => pyOks ds
  | .lst ds => pyOks ds
  | .non => true
  | .obj _ _ => false
  | .ty _ => false
  | .adr _ => false
  | .exc _ => false
  | .ob _ _ _ => false
def pyOks : List D → Bool
  | [] => true
  | d :: ds => pyOk d && pyOks ds
end
mutual
theorem canLay_of : ∀ (d : D), pyOk d = true → (toPy d).canLay0 = true
  | .bl _, _ => rfl
  | .int _, _ => rfl
  | .str x, h => h
  | .tup ds, h => canLays_of ds h
  | .lst ds, h => canLays_of ds h
  | .non, _ => rfl
  | .obj _ _, h => nomatch h
  | .ty _, h => nomatch h
  | .adr _, h => nomatch h
  | .exc _, h => nomatch h
  | .ob _ _ _, h => nomatch h
theorem canLays_of : ∀ (ds : List D), pyOks ds = true → PyData.canLayAll0 (toPys ds) = true
  | [], _ => rfl
  | d :: ds, h => by
    have h' : pyOk d = true ∧ pyOks ds = true := by simpa [pyOks] using h
    show ((toPy d).canLay0 && PyData.canLayAll0 (toPys ds)) = true
    rw [canLay_of d h'.1, canLays_of ds h'.2]; rfl
end
def eqD (d e : D) : Bool := PyData.eqv (toPy d) (toPy e)
theorem eqD_refl (d : D) (h : pyOk d = true) : eqD d d = true := SeqAt.eqv_refl _ (canLay_of d h)
def depD (d : D) : Nat := (toPy d).depth
section
variable {X : Cx} {pins : List (Addr × Obj)} {σ : L2.St} {H : Hp} {s : Shared}
mutual
theorem reads_of (I : Inv X pins σ H s) : ∀ {d : D} {v : V} {u : Value}, Is X.K H d v → RelV v u → pyOk d = true → ∃ as, Reads s.heap u (toPy d) as
  | _, _, _, .non, r, _ => by cases r; exact ⟨_, .none⟩
  | _, _, _, .bl b, r, _ => by cases r; exact ⟨_, .bool b⟩
  | _, _, _, .int i, r, _ => by obtain ⟨t, rfl⟩ := r; exact ⟨_, .int i t⟩
  | _, _, _, .str x, r, _ => by obtain ⟨t, rfl⟩ := r; exact ⟨_, .str x t⟩
  | _, _, _, .ty _, _, h => nomatch h
  | _, _, _, .adr _, _, h => nomatch h
  | _, _, _, .obj _, _, h => nomatch h
  | _, _, _, .exc _, _, h => nomatch h
  | _, _, _, .ob _ _ _ _, _, h => nomatch h
  | _, _, _, .tup hq l, r, h => by
    cases r
    obtain ⟨its, rv, ⟨o, e, c, n, d⟩, _⟩ := I.tuple hq
    obtain ⟨as, ra⟩ := readsL_of I l rv h
    exact ⟨_, .tuple e c d (by simpa using ra)⟩
  | _, _, _, .lst hq l, r, h => by
    cases r
    obtain ⟨its, rv, ⟨o, n, e, c, _, d⟩, _⟩ := I.list hq
    obtain ⟨as, ra⟩ := readsL_of I l rv h
    exact ⟨_, .list e c d (by simpa using ra)⟩
theorem readsL_of (I : Inv X pins σ H s) : ∀ {ds : List D} {vs : List V} {us : List Value}, IsL X.K H ds vs → Vals vs us → pyOks ds = true → ∃ as, ReadsAll s.heap us (toPys ds) as
  | _, _, _, .nil, .nil, _ => ⟨_, .nil⟩
  | _, _, _, .cons h l, .cons r t, e => by
    have h' := e
    simp only [pyOks, Bool.and_eq_true] at h'
    obtain ⟨as, ra⟩ := reads_of I h r h'.1
    obtain ⟨bs, rb⟩ := readsL_of I l t h'.2
    exact ⟨_, .cons ra rb⟩
end
end
section
variable {X : Cx}
def rEqD (K : PySem.W.Frag) (f : Bool → Bool) : R2 := fun x y H Q => ∃ d e, Is K H d x ∧ Is K H e y ∧ pyOk d = true ∧ pyOk e = true ∧ depD d ≤ 60 ∧ Q (.bl (f (eqD d e))) H
theorem op_eqD (hu : X.A.units + 64 < cLine) : OpR X (compareOp .Eq) (rEqD X.K id) := by
  intro pins s σ H x y v u Q I rx ry h
  obtain ⟨d, e, hd, he, od, oe, dp, q⟩ := h
  obtain ⟨as, ra⟩ := reads_of I hd rx od
  obtain ⟨bs, rb⟩ := reads_of I he ry oe
  exact SeqAt.compareEq_reads ra rb (canLay_of _ od) (canLay_of _ oe) (by unfold depD at dp; omega) ⟨.bl _, H, I, rfl, q⟩
theorem op_neD (hu : X.A.units + 64 < cLine) : OpR X (compareOp .NotEq) (rEqD X.K not) := by
  intro pins s σ H x y v u Q I rx ry h
  obtain ⟨d, e, hd, he, od, oe, dp, q⟩ := h
  obtain ⟨as, ra⟩ := reads_of I hd rx od
  obtain ⟨bs, rb⟩ := reads_of I he ry oe
  exact SeqAt.compareNe_reads ra rb (canLay_of _ od) (canLay_of _ oe) (by unfold depD at dp; omega) ⟨.bl _, H, I, rfl, q⟩
theorem call_maxT (hc : X.calm = true) : CallR X (.builtin "max") (fun xs H Q => ∃ p i j, xs = [.ref p] ∧ SqT X.K H p [.int i, .int j] ∧ Q (.int (if j > i then j else i)) H) := by
  intro pins s σ H xs us Q I r h
  obtain ⟨p, i, j, rfl, hq, q⟩ := h
  obtain ⟨u, rfl, rx⟩ := vals1 r
  cases rx
  obtain ⟨its, rv, ht, _⟩ := I.tuple hq
  obtain ⟨v0, v1, rfl, ⟨t0, rfl⟩, ⟨t1, rfl⟩⟩ := Vals.two rv
  have hT : s.heap.IsTuple p (intItems #[(i, t0), (j, t1)]) := by
    have e : intItems #[(i, t0), (j, t1)] = [Value.int i t0, Value.int j t1].toArray := by simp [intItems]
    rw [e]; exact ht
  have hlt : p < s.heap.objs.size := ht.lt
  refine call_max_walk (wpAny_pyIter_tuple hT ?_)
  refine ⟨_, [_, p], [_], _, _, _, _, rfl, Walks.tuple (A := X.A.in1) (I.ok.hd hc) _ p (Nat.ne_of_lt hlt) (intItems #[(i, t0), (j, t1)]),
    ⟨⟨_, Heap.get?_push_size _ rfl, rfl, rfl⟩, hT.push _⟩, fun c hc' => ?_, by simp [intItems], CmpOf.ints_gt (numAt #[(i, t0), (j, t1)]) (fun _ _ => intItems_at), fun v h' tk hP hk => ?_⟩
  · show c < (s.heap.push _).objs.size
    rw [Heap.size_push]
    rcases List.mem_cons.mp hc' with rfl | hc'
    · exact Nat.lt_succ_self _
    · rcases List.mem_cons.mp hc' with rfl | hc'
      · exact Nat.lt_succ_of_lt hlt
      · cases hc'
  · have hold : ∀ c o, s.heap.get? c = some o → h'.get? c = some o := fun c o e => by
      refine hk c o (fun hm => ?_) (Heap.get?_push_of_some _ e)
      rcases List.mem_cons.mp hm with e1 | hm
      · have := Heap.lt_size e; rw [e1] at this; exact Nat.lt_irrefl _ this
      · cases hm
    have hP' : (intItems #[(i, t0), (j, t1)])[argBest (fun a b => decide (numAt #[(i, t0), (j, t1)] a > numAt #[(i, t0), (j, t1)] b)) 1]? = some v := by
      have hsz2 : (intItems #[(i, t0), (j, t1)]).size - 1 = 1 := by simp [intItems]
      rw [← hsz2]; exact hP
    refine ⟨_, H, I.kept hold, ?_, q⟩
    by_cases hba : j > i
    · have e : argBest (fun a b => decide (numAt #[(i, t0), (j, t1)] a > numAt #[(i, t0), (j, t1)] b)) 1 = 1 := by simp [argBest, numAt, hba]
      rw [e] at hP'
      have hv : Value.int j t1 = v := by simpa [intItems] using hP'
      rw [if_pos hba, ← hv]; exact ⟨_, rfl⟩
    · have e : argBest (fun a b => decide (numAt #[(i, t0), (j, t1)] a > numAt #[(i, t0), (j, t1)] b)) 1 = 0 := by simp [argBest, numAt, hba]
      rw [e] at hP'
      have hv : Value.int i t0 = v := by simpa [intItems] using hP'
      rw [if_neg hba, ← hv]; exact ⟨_, rfl⟩
theorem call_minT (hc : X.calm = true) : CallR X (.builtin "min") (fun xs H Q => ∃ p i j, xs = [.ref p] ∧ SqT X.K H p [.int i, .int j] ∧ Q (.int (if j < i then j else i)) H) := by
  intro pins s σ H xs us Q I r h
  obtain ⟨p, i, j, rfl, hq, q⟩ := h
  obtain ⟨u, rfl, rx⟩ := vals1 r
  cases rx
  obtain ⟨its, rv, ht, _⟩ := I.tuple hq
  obtain ⟨v0, v1, rfl, ⟨t0, rfl⟩, ⟨t1, rfl⟩⟩ := Vals.two rv
  have hT : s.heap.IsTuple p (intItems #[(i, t0), (j, t1)]) := by
    have e : intItems #[(i, t0), (j, t1)] = [Value.int i t0, Value.int j t1].toArray := by simp [intItems]
    rw [e]; exact ht
  have hlt : p < s.heap.objs.size := ht.lt
  refine call_min_walk (wpAny_pyIter_tuple hT ?_)
  refine ⟨_, [_, p], [_], _, _, _, _, rfl, Walks.tuple (A := X.A.in1) (I.ok.hd hc) _ p (Nat.ne_of_lt hlt) (intItems #[(i, t0), (j, t1)]),
    ⟨⟨_, Heap.get?_push_size _ rfl, rfl, rfl⟩, hT.push _⟩, fun c hc' => ?_, by simp [intItems], CmpOf.ints_lt (numAt #[(i, t0), (j, t1)]) (fun _ _ => intItems_at), fun v h' tk hP hk => ?_⟩
  · show c < (s.heap.push _).objs.size
    rw [Heap.size_push]
    rcases List.mem_cons.mp hc' with rfl | hc'
    · exact Nat.lt_succ_self _
    · rcases List.mem_cons.mp hc' with rfl | hc'
      · exact Nat.lt_succ_of_lt hlt
      · cases hc'
  · have hold : ∀ c o, s.heap.get? c = some o → h'.get? c = some o := fun c o e => by
      refine hk c o (fun hm => ?_) (Heap.get?_push_of_some _ e)
      rcases List.mem_cons.mp hm with e1 | hm
      · have := Heap.lt_size e; rw [e1] at this; exact Nat.lt_irrefl _ this
      · cases hm
    have hP' : (intItems #[(i, t0), (j, t1)])[argBest (fun a b => decide (numAt #[(i, t0), (j, t1)] a < numAt #[(i, t0), (j, t1)] b)) 1]? = some v := by
      have hsz2 : (intItems #[(i, t0), (j, t1)]).size - 1 = 1 := by simp [intItems]
      rw [← hsz2]; exact hP
    refine ⟨_, H, I.kept hold, ?_, q⟩
    by_cases hba : j < i
    · have e : argBest (fun a b => decide (numAt #[(i, t0), (j, t1)] a < numAt #[(i, t0), (j, t1)] b)) 1 = 1 := by simp [argBest, numAt, hba]
      rw [e] at hP'
      have hv : Value.int j t1 = v := by simpa [intItems] using hP'
      rw [if_pos hba, ← hv]; exact ⟨_, rfl⟩
    · have e : argBest (fun a b => decide (numAt #[(i, t0), (j, t1)] a < numAt #[(i, t0), (j, t1)] b)) 1 = 0 := by simp [argBest, numAt, hba]
      rw [e] at hP'
      have hv : Value.int i t0 = v := by simpa [intItems] using hP'
      rw [if_neg hba, ← hv]; exact ⟨_, rfl⟩
def rIndexT (K : PySem.W.Frag) : V → List V → Hp → VK → Prop := fun x vs H Q => ∃ p a b k, x = .ref p ∧ vs = [.int k] ∧ SqT K H p [.int a, .int b] ∧ (a = k ∨ b = k) ∧ Q (.int (if a = k then 0 else 1)) H
theorem mt_indexT : MtR X "tuple.index" (rIndexT X.K) := by
  intro pins s σ H x vs v us Q I rx rv h
  obtain ⟨p, a, b, k, rfl, rfl, hq, hk, q⟩ := h
  cases rx
  obtain ⟨u, rfl, t, rfl⟩ := rv.one
  obtain ⟨its, r, ⟨⟨cl, dd, dt, sl⟩, e, hc, hd, n, hs⟩, _⟩ := I.tupleO hq
  obtain ⟨v0, v1, rfl, ⟨t0, rfl⟩, ⟨t1, rfl⟩⟩ := Vals.two r
  dsimp only at hc hd hs
  subst hc; subst hd; subst hs
  refine call_meets F.slot_tuple_index ⟨_, e, rfl⟩ F.entry_tuple_index (F.args_tuple_index_2 _ _) (SeqAt.tuple_index_pair p (.int a t0) (.int b t1) (.int k t) n none sl (a == k) (b == k) (by simpa using hk))
    ⟨e, SeqAt.EqAt.int_int a t0 k t, SeqAt.EqAt.int_int b t1 k t, ?_⟩
  have ei : (if (a == k) = true then (0 : Int) else 1) = if a = k then 0 else 1 := by
    by_cases h : a = k <;> simp [h]
  rw [ei]
  exact ⟨.int (if a = k then 0 else 1), H, I.tok _, ⟨_, rfl⟩, q⟩
end
end L3
set_option Elab.async false
set_option linter.all false
set_option maxRecDepth 100000
namespace L3
open PySem PySem.Spec PyProof.Rows L2
def tD (K : PySem.W.Frag) (σ : L2.St) (H : Hp) (d : D) : TE := fun σ' H1 Q => σ' = σ ∧ Same H H1 ∧ ∀ v H2, Same H1 H2 → Is K H2 d v → Q v H2
def tDA (K : PySem.W.Frag) (σ : L2.St) (H : Hp) (ds : List D) : TA := fun σ' H1 Q => σ' = σ ∧ Same H H1 ∧ ∀ vs H2, Same H1 H2 → IsL K H2 ds vs → Q vs H2
def tDT (σ : L2.St) (H : Hp) (b : Bool) : TT := fun σ' H1 Q => σ' = σ ∧ Same H H1 ∧ ∀ H2, Same H1 H2 → Q b H2
def PD (X : Cx) (e : Expr) (σ : L2.St) (H : Hp) (d : D) : Prop := PE X e (tD X.K σ H d)
def PDA (X : Cx) (es : List Expr) (σ : L2.St) (H : Hp) (ds : List D) : Prop := PA X es (tDA X.K σ H ds)
def PDT (X : Cx) (e : Expr) (σ : L2.St) (H : Hp) (b : Bool) : Prop := PT X e (tDT σ H b)
def PDW (X : Cx) (e : Expr) (σ : L2.St) (H : Hp) (b : Bool) : Prop := PW X e (tDT σ H b)
section
variable {X : Cx} {e a b c : Expr} {es : List Expr} {σ : L2.St} {H H' : Hp} {d d' : D} {ds : List D} {pos : Pos} {i j : Int} {k k' : Bool}
theorem PE.imp {t t' : TE} (h : PE X e t) (f : ∀ σ H Q, t' σ H Q → t σ H Q) : PE X e t' := fun pins s σ H Q I q => h pins s σ H Q I (f _ _ _ q)
theorem PA.imp {t t' : TA} (h : PA X es t) (f : ∀ σ H Q, t' σ H Q → t σ H Q) : PA X es t' := fun p pins s σ H Q I q => h p pins s σ H Q I (f _ _ _ q)
theorem PT.imp {t t' : TT} (h : PT X e t) (f : ∀ σ H Q, t' σ H Q → t σ H Q) : PT X e t' := fun pins s σ H Q I q => h pins s σ H Q I (f _ _ _ q)
theorem PW.imp {t t' : TT} (h : PW X e t) (f : ∀ σ H Q, t' σ H Q → t σ H Q) : PW X e t' := fun w pins s σ H Q I q => h w pins s σ H Q I (f _ _ _ q)
theorem PE.guard {p : Prop} {t : TE} (h : p → PE X e t) : PE X e (fun σ H Q => p ∧ t σ H Q) := fun pins s σ H Q I q => h q.1 pins s σ H Q I q.2
theorem PT.guard {p : Prop} {t : TT} (h : p → PT X e t) : PT X e (fun σ H Q => p ∧ t σ H Q) := fun pins s σ H Q I q => h q.1 pins s σ H Q I q.2
theorem PW.guard {p : Prop} {t : TT} (h : p → PW X e t) : PW X e (fun σ H Q => p ∧ t σ H Q) := fun w pins s σ H Q I q => h q.1 w pins s σ H Q I q.2
theorem PD.of {t : TE} (h : PE X e t) (f : ∀ H1 Q, Same H H1 → (∀ v H2, Same H1 H2 → Is X.K H2 d v → Q v H2) → t σ H1 Q) : PD X e σ H d :=
  PE.imp h fun σ' H1 Q ⟨hs, e1, q⟩ => by subst hs; exact f H1 Q e1 q
theorem PDT.of {t : TT} (h : PT X e t) (f : ∀ H1 Q, Same H H1 → (∀ H2, Same H1 H2 → Q k H2) → t σ H1 Q) : PDT X e σ H k :=
  PT.imp h fun σ' H1 Q ⟨hs, e1, q⟩ => by subst hs; exact f H1 Q e1 q
theorem PD.mono (e1 : Same H H') (h : PD X e σ H d) : PD X e σ H' d := PE.imp h fun _ _ _ ⟨hs, e2, q⟩ => ⟨hs, e1.trans e2, q⟩
theorem PDT.mono (e1 : Same H H') (h : PDT X e σ H k) : PDT X e σ H' k := PT.imp h fun _ _ _ ⟨hs, e2, q⟩ => ⟨hs, e1.trans e2, q⟩
theorem PDW.pt (h : PDW X e σ H k) : PDT X e σ H k := L2.PW.pt h
theorem PD.cast (h : PD X e σ H d) (q : d = d') : PD X e σ H d' := q ▸ h
theorem PDT.cast (h : PDT X e σ H k) (q : k = k') : PDT X e σ H k' := q ▸ h
theorem PDW.cast (h : PDW X e σ H k) (q : k = k') : PDW X e σ H k' := q ▸ h
theorem pd_pe {v : V} (h : PE X e (tC v)) (r : Is X.K H d v) : PD X e σ H d := PD.of h fun _ _ e1 q => q _ _ (Same.refl _) (r.mono e1)
theorem pd_var (n : Nat) {x : Str} {v : V} (hs : σ[n]? = some (some v)) (r : Is X.K H d v) (hN : X.N[n]? = some x := by rfl)
    (hv : Vis X.env.scope x := by first | exact Or.inl rfl | exact Or.inr (Or.inl rfl) | exact Or.inr (Or.inr rfl)) (hd : (x == ("__debug__" : Str)) = false := by decide)
    (hcd : (x == ("__classdict__" : Str)) = false := by decide) : PD X (.Name x pos) σ H d :=
  PD.of (pe_var hN hv hd hcd) fun _ _ e1 q => ⟨v, hs, q _ _ (Same.refl _) (r.mono e1)⟩
theorem pd_int {i : Int} {n : Nat} : PD X (.Constant (.int i) n pos) σ H (.int i) := pd_pe pe_int (.int i)
theorem pd_bl {k : Bool} {n : Nat} : PD X (.Constant (.bool k) n pos) σ H (.bl k) := pd_pe pe_bl (.bl k)
theorem pd_non {n : Nat} : PD X (.Constant .none n pos) σ H .non := pd_pe pe_non .non
theorem pd_str {x : Str} {n : Nat} : PD X (.Constant (.str x) n pos) σ H (.str x) := pd_pe pe_str (.str x)
theorem pd_glob {x : Str} {v : V} {u : Value} (hm : X.mg x = some u) (r : RelV v u) (hd : Is X.K H d v) (hg : Gl X x := by rfl) (hdb : (x == ("__debug__" : Str)) = false := by decide) : PD X (.Name x pos) σ H d :=
  pd_pe (pe_glob hg hm r hdb) hd
theorem pd_ty {x : Str} {T : String} (hm : X.mg x = none) (hv : bootBuiltins x = some (.type T) := by first | rfl | decide +kernel) (hg : Gl X x := by rfl) (hn : x ≠ "__name__" := by decide) (hd : (x == ("__debug__" : Str)) = false := by decide) :
    PD X (.Name x pos) σ H (.ty T) := pd_pe (v := .ty T) (pe_bltn hg hm hv rfl hn hd) (.ty T)
theorem pd_op2 {op : Operator} {r : R2} (ho : OpR X (binaryOp op) r) (ha : PD X a σ H d) (hb : PD X b σ H d')
    {z : D} (f : ∀ x y H1 Q, Same H H1 → Is X.K H1 d x → Is X.K H1 d' y → (∀ v H2, Same H1 H2 → Is X.K H2 z v → Q v H2) → r x y H1 Q) : PD X (.BinOp a op b pos) σ H z :=
  PD.of (pe_op ho ha hb) fun H1 Q e1 q => ⟨rfl, e1, fun x H2 e2 hx => ⟨rfl, e1.trans e2, fun y H3 e3 hy =>
    f x y H3 Q ((e1.trans e2).trans e3) (hx.mono e3) hy fun v H4 e4 hv => q v H4 ((e2.trans e3).trans e4) hv⟩⟩
theorem pd_cmp2 {op : CmpOp} {r : R2} (ho : OpR X (compareOp op) r) (ha : PD X a σ H d) (hb : PD X b σ H d') (hm : behindInMarks op b = false)
    {z : D} (f : ∀ x y H1 Q, Same H H1 → Is X.K H1 d x → Is X.K H1 d' y → (∀ v H2, Same H1 H2 → Is X.K H2 z v → Q v H2) → r x y H1 Q) : PD X (.Compare a [op] [b] pos) σ H z :=
  PD.of (pe_cmpR ho ha hb hm) fun H1 Q e1 q => ⟨rfl, e1, fun x H2 e2 hx => ⟨rfl, e1.trans e2, fun y H3 e3 hy =>
    f x y H3 Q ((e1.trans e2).trans e3) (hx.mono e3) hy fun v H4 e4 hv => q v H4 ((e2.trans e3).trans e4) hv⟩⟩
theorem pdt_cmp2 {op : CmpOp} {r : R2} (ho : OpR X (compareOp op) r) (ha : PD X a σ H d) (hb : PD X b σ H d') (hm : behindInMarks op b = false)
    (f : ∀ x y H1 Q, Same H H1 → Is X.K H1 d x → Is X.K H1 d' y → (∀ v H2, Same H1 H2 → Is X.K H2 (.bl k) v → Q v H2) → r x y H1 Q) : PDT X (.Compare a [op] [b] pos) σ H k :=
  PDT.of (pt_cmpR ho ha hb hm) fun H1 Q e1 q => ⟨rfl, e1, fun x H2 e2 hx => ⟨rfl, e1.trans e2, fun y H3 e3 hy =>
    f x y H3 _ ((e1.trans e2).trans e3) (hx.mono e3) hy fun v H4 e4 hv => by cases hv; exact ⟨k, rfl, q H4 ((e2.trans e3).trans e4)⟩⟩⟩
theorem nm {op : CmpOp} (b : Expr) (h1 : op ≠ .In := by decide) (h2 : op ≠ .NotIn := by decide) : behindInMarks op b = false := nobehind _ h1 h2
theorem pd_add (ha : PD X a σ H (.int i)) (hb : PD X b σ H (.int j)) : PD X (.BinOp a .Add b pos) σ H (.int (i + j)) :=
  pd_op2 op_add ha hb fun _ _ _ _ _ hx hy q => by cases hx; cases hy; exact ⟨i, j, rfl, rfl, q _ _ (Same.refl _) (.int _)⟩
theorem pd_sub (ha : PD X a σ H (.int i)) (hb : PD X b σ H (.int j)) : PD X (.BinOp a .Sub b pos) σ H (.int (i - j)) :=
  pd_op2 op_sub ha hb fun _ _ _ _ _ hx hy q => by cases hx; cases hy; exact ⟨i, j, rfl, rfl, q _ _ (Same.refl _) (.int _)⟩
theorem pd_mul (ha : PD X a σ H (.int i)) (hb : PD X b σ H (.int j)) (hc : CMul i j) : PD X (.BinOp a .Mult b pos) σ H (.int (i * j)) :=
  pd_op2 op_mul ha hb fun _ _ _ _ _ hx hy q => by cases hx; cases hy; exact ⟨i, j, rfl, rfl, hc, q _ _ (Same.refl _) (.int _)⟩
theorem pd_div (ha : PD X a σ H (.int i)) (hb : PD X b σ H (.int j)) (hc : CDiv i j) : PD X (.BinOp a .FloorDiv b pos) σ H (.int (i / j)) :=
  pd_op2 op_fdiv ha hb fun _ _ _ _ _ hx hy q => by cases hx; cases hy; exact ⟨i, j, rfl, rfl, hc, q _ _ (Same.refl _) (.int _)⟩
theorem pd_mod (ha : PD X a σ H (.int i)) (hb : PD X b σ H (.int j)) (hc : 0 < j) : PD X (.BinOp a .Mod b pos) σ H (.int (i % j)) :=
  pd_op2 op_mod ha hb fun _ _ _ _ _ hx hy q => by cases hx; cases hy; exact ⟨i, j, rfl, rfl, hc, q _ _ (Same.refl _) (.int _)⟩
theorem pd_neg (ha : PD X a σ H (.int i)) : PD X (.UnaryOp .USub a pos) σ H (.int (-i)) :=
  PD.of (pe_un un_neg ha) fun H1 Q e1 q => ⟨rfl, e1, fun x H2 e2 hx => by cases hx; exact ⟨i, rfl, q _ _ e2 (.int _)⟩⟩
theorem pd_lt (ha : PD X a σ H (.int i)) (hb : PD X b σ H (.int j)) : PD X (.Compare a [.Lt] [b] pos) σ H (.bl (decide (i < j))) :=
  pd_cmp2 op_lt ha hb (nm _) fun _ _ _ _ _ hx hy q => by cases hx; cases hy; exact ⟨i, j, rfl, rfl, q _ _ (Same.refl _) (.bl _)⟩
theorem pd_gt (ha : PD X a σ H (.int i)) (hb : PD X b σ H (.int j)) : PD X (.Compare a [.Gt] [b] pos) σ H (.bl (decide (j < i))) :=
  pd_cmp2 op_gt ha hb (nm _) fun _ _ _ _ _ hx hy q => by cases hx; cases hy; exact ⟨i, j, rfl, rfl, q _ _ (Same.refl _) (.bl _)⟩
theorem pd_ge (ha : PD X a σ H (.int i)) (hb : PD X b σ H (.int j)) : PD X (.Compare a [.GtE] [b] pos) σ H (.bl (decide (j ≤ i))) :=
  pd_cmp2 op_ge ha hb (nm _) fun _ _ _ _ _ hx hy q => by cases hx; cases hy; exact ⟨i, j, rfl, rfl, q _ _ (Same.refl _) (.bl _)⟩
theorem pd_eqI (ha : PD X a σ H (.int i)) (hb : PD X b σ H (.int j)) : PD X (.Compare a [.Eq] [b] pos) σ H (.bl (decide (i = j))) :=
  (pd_cmp2 op_eq ha hb (nm _) fun _ _ _ _ _ hx hy q => by cases hx; cases hy; exact ⟨rfl, q _ _ (Same.refl _) (.bl _)⟩ : PD X _ σ H (.bl (decide (V.int i = V.int j)))).cast (by simp)
theorem pd_eqD (hu : X.A.units + 64 < cLine) (ha : PD X a σ H d) (hb : PD X b σ H d') (o1 : pyOk d = true) (o2 : pyOk d' = true) (dp : depD d ≤ 60) : PD X (.Compare a [.Eq] [b] pos) σ H (.bl (eqD d d')) :=
  pd_cmp2 (op_eqD hu) ha hb (nm _) fun _ _ _ _ _ hx hy q => ⟨d, d', hx, hy, o1, o2, dp, q _ _ (Same.refl _) (.bl _)⟩
def isNon : D → Bool
  | .non => true
  | _ => false
theorem isNon_of {K : PySem.W.Frag} {v : V} (h : Is K H d v) : decide (v = .non) = isNon d := by
  cases h <;> simp [isNon]
theorem pdt_lt (ha : PD X a σ H (.int i)) (hb : PD X b σ H (.int j)) : PDT X (.Compare a [.Lt] [b] pos) σ H (decide (i < j)) :=
  pdt_cmp2 op_lt ha hb (nm _) fun _ _ _ _ _ hx hy q => by cases hx; cases hy; exact ⟨i, j, rfl, rfl, q _ _ (Same.refl _) (.bl _)⟩
theorem pdt_gt (ha : PD X a σ H (.int i)) (hb : PD X b σ H (.int j)) : PDT X (.Compare a [.Gt] [b] pos) σ H (decide (j < i)) :=
  pdt_cmp2 op_gt ha hb (nm _) fun _ _ _ _ _ hx hy q => by cases hx; cases hy; exact ⟨i, j, rfl, rfl, q _ _ (Same.refl _) (.bl _)⟩
theorem pdt_ge (ha : PD X a σ H (.int i)) (hb : PD X b σ H (.int j)) : PDT X (.Compare a [.GtE] [b] pos) σ H (decide (j ≤ i)) :=
  pdt_cmp2 op_ge ha hb (nm _) fun _ _ _ _ _ hx hy q => by cases hx; cases hy; exact ⟨i, j, rfl, rfl, q _ _ (Same.refl _) (.bl _)⟩
theorem pdt_eqI (ha : PD X a σ H (.int i)) (hb : PD X b σ H (.int j)) : PDT X (.Compare a [.Eq] [b] pos) σ H (decide (i = j)) :=
  (pdt_cmp2 op_eq ha hb (nm _) fun _ _ _ _ _ hx hy q => by cases hx; cases hy; exact ⟨rfl, q _ _ (Same.refl _) (.bl _)⟩ : PDT X _ σ H (decide (V.int i = V.int j))).cast (by simp)
theorem pdt_neI (ha : PD X a σ H (.int i)) (hb : PD X b σ H (.int j)) : PDT X (.Compare a [.NotEq] [b] pos) σ H (!decide (i = j)) :=
  (pdt_cmp2 op_ne ha hb (nm _) fun _ _ _ _ _ hx hy q => by cases hx; cases hy; exact ⟨rfl, q _ _ (Same.refl _) (.bl _)⟩ : PDT X _ σ H (!decide (V.int i = V.int j))).cast (by simp)
theorem pdt_neD (hu : X.A.units + 64 < cLine) (ha : PD X a σ H d) (hb : PD X b σ H d') (o1 : pyOk d = true) (o2 : pyOk d' = true) (dp : depD d ≤ 60) : PDT X (.Compare a [.NotEq] [b] pos) σ H (!eqD d d') :=
  pdt_cmp2 (op_neD hu) ha hb (nm _) fun _ _ _ _ _ hx hy q => ⟨d, d', hx, hy, o1, o2, dp, q _ _ (Same.refl _) (.bl _)⟩
theorem pdt_isN {n : Nat} {p' : Pos} (ha : PD X a σ H d) : PDT X (.Compare a [.Is] [.Constant .none n p'] pos) σ H (isNon d) :=
  pdt_cmp2 op_isN ha pd_non (nm _) fun x y H1 Q e1 hx hy q => by
    cases hy
    refine ⟨rfl, ?_⟩
    rw [isNon_of hx]
    exact q _ _ (Same.refl _) (.bl _)
theorem pdt_notN {n : Nat} {p' : Pos} (ha : PD X a σ H d) : PDT X (.Compare a [.IsNot] [.Constant .none n p'] pos) σ H (!isNon d) :=
  pdt_cmp2 op_notN ha pd_non (nm _) fun x y H1 Q e1 hx hy q => by
    cases hy
    refine ⟨rfl, ?_⟩
    rw [isNon_of hx]
    exact q _ _ (Same.refl _) (.bl _)
theorem pdt_val (h : PD X e σ H (.bl k)) (he : ∀ whole, isTrue e X.env whole = (do let v ← whole; standAt e.pos; holding [v] (truthy v)) := by intro _; rfl) : PDT X e σ H k :=
  PDT.of (pt_val h he) fun H1 Q e1 q => ⟨rfl, e1, fun v H2 e2 hv => by cases hv; exact ⟨k, rfl, q _ e2⟩⟩
variable {rest : List Expr}
theorem pdw_and1 (ha : PDT X a σ H k) : PDW X (.BoolOp .And [a] pos) σ H k := pw_and1 ha
theorem pdw_or1 (ha : PDT X a σ H k) : PDW X (.BoolOp .Or [a] pos) σ H k := pw_or1 ha
theorem pdw_and (ha : PDT X a σ H k) (hb : k = true → PDW X (.BoolOp .And (b :: rest) pos) σ H k') : PDW X (.BoolOp .And (a :: b :: rest) pos) σ H (k && k') :=
  PW.imp (pw_and ha (PW.guard hb)) fun σ' H1 Q ⟨hs, e1, q⟩ => ⟨hs, e1, fun H2 e2 => by
    cases k with
    | true => exact ⟨rfl, hs, e1.trans e2, fun H3 e3 => q H3 (e2.trans e3)⟩
    | false => exact q H2 e2⟩
theorem pdw_or (ha : PDT X a σ H k) (hb : k = false → PDW X (.BoolOp .Or (b :: rest) pos) σ H k') : PDW X (.BoolOp .Or (a :: b :: rest) pos) σ H (k || k') :=
  PW.imp (pw_or ha (PW.guard hb)) fun σ' H1 Q ⟨hs, e1, q⟩ => ⟨hs, e1, fun H2 e2 => by
    cases k with
    | true => exact q H2 e2
    | false => exact ⟨rfl, hs, e1.trans e2, fun H3 e3 => q H3 (e2.trans e3)⟩⟩
theorem pdt_not (ha : PDT X a σ H k) : PDT X (.UnaryOp .Not a pos) σ H (!k) := PT.imp (pt_not ha) fun _ _ _ ⟨hs, e1, q⟩ => ⟨hs, e1, q⟩
theorem pd_one {op : BoolOp} (h : PD X a σ H d) : PD X (.BoolOp op [a] pos) σ H d := pe_one h
theorem pd_and (ha : PD X a σ H (.bl k)) (hb : k = true → PD X (.BoolOp .And (b :: rest) pos) σ H (.bl k')) : PD X (.BoolOp .And (a :: b :: rest) pos) σ H (.bl (k && k')) :=
  PD.of (pe_and ha (PE.guard hb)) fun H1 Q e1 q => ⟨rfl, e1, fun v H2 e2 hv => by
    cases hv
    refine ⟨k, rfl, ?_⟩
    cases k with
    | true => exact ⟨rfl, rfl, e1.trans e2, fun v H3 e3 hv => q _ _ (e2.trans e3) hv⟩
    | false => exact q _ _ e2 (.bl false)⟩
theorem pd_or (ha : PD X a σ H (.bl k)) (hb : k = false → PD X (.BoolOp .Or (b :: rest) pos) σ H (.bl k')) : PD X (.BoolOp .Or (a :: b :: rest) pos) σ H (.bl (k || k')) :=
  PD.of (pe_or ha (PE.guard hb)) fun H1 Q e1 q => ⟨rfl, e1, fun v H2 e2 hv => by
    cases hv
    refine ⟨k, rfl, ?_⟩
    cases k with
    | true => exact q _ _ e2 (.bl true)
    | false => exact ⟨rfl, rfl, e1.trans e2, fun v H3 e3 hv => q _ _ (e2.trans e3) hv⟩⟩
theorem pd_not (ha : PD X a σ H (.bl k)) : PD X (.UnaryOp .Not a pos) σ H (.bl (!k)) :=
  PD.of (pe_not ha) fun H1 Q e1 q => ⟨rfl, e1, fun v H2 e2 hv => by cases hv; exact ⟨k, rfl, q _ _ e2 (.bl _)⟩⟩
theorem pd_ifExp (hc : PDT X c σ H k) (ha : k = true → PD X a σ H d) (hb : k = false → PD X b σ H d') : PD X (.IfExp c a b pos) σ H (if k = true then d else d') :=
  PD.of (pe_ifExp hc (PE.guard ha) (PE.guard hb)) fun H1 Q e1 q => ⟨rfl, e1, fun H2 e2 => by
    cases k with
    | true => exact ⟨rfl, rfl, e1.trans e2, fun v H3 e3 hv => q _ _ (e2.trans e3) hv⟩
    | false => exact ⟨rfl, rfl, e1.trans e2, fun v H3 e3 hv => q _ _ (e2.trans e3) hv⟩⟩
theorem pda_nil : PDA X [] σ H [] := PA.imp pa_nil fun _ _ _ ⟨_, _, q⟩ => q _ _ (Same.refl _) .nil
theorem pda_cons (ha : PD X e σ H d) (hr : PDA X es σ H ds) (hs : starEach (e :: es) X.env = (false, eval e X.env) :: starEach es X.env := by rfl) : PDA X (e :: es) σ H (d :: ds) :=
  PA.imp (pa_cons ha hr hs) fun σ' H1 Q ⟨hs, e1, q⟩ => ⟨hs, e1, fun v H2 e2 hv => ⟨hs, e1.trans e2, fun vs H3 e3 hvs => q _ _ (e2.trans e3) (.cons (hv.mono e3) hvs)⟩⟩
end
end L3
set_option Elab.async false
set_option linter.all false
set_option maxRecDepth 100000
namespace L3
open PySem PySem.Spec PyProof.Rows L2
section
variable {X : Cx} {e a b c o : Expr} {es : List Expr} {σ : L2.St} {H H' : Hp} {d d' : D} {ds : List D} {pos : Pos} {i j : Int} {k k' : Bool}
theorem pd_globI {x : Str} {t : Tok} (hm : X.mg x = some (.int i t)) (hg : Gl X x := by rfl) (hdb : (x == ("__debug__" : Str)) = false := by decide) : PD X (.Name x pos) σ H (.int i) :=
  pd_glob (v := .int i) hm ⟨t, rfl⟩ (.int i) hg hdb
theorem pd_globR {x : Str} {q : Addr} (hm : X.mg x = some (.ref q)) (hd : Is X.K H d (.ref q)) (hg : Gl X x := by rfl) (hdb : (x == ("__debug__" : Str)) = false := by decide) : PD X (.Name x pos) σ H d :=
  pd_glob (v := .ref q) hm rfl hd hg hdb
theorem pd_tup {x1 : Nat} (h : PDA X es σ H ds) (hl : ds.length ≤ 1000 := by simp) : PD X (.Tuple es x1 pos) σ H (.tup ds) :=
  PD.of (pe_tup h) fun H1 Q e1 q => ⟨rfl, e1, fun vs H2 e2 hvs => ⟨Nat.le_of_lt (small1000 (by rw [← hvs.length]; exact hl)), fun p hp =>
    q _ _ (e2.trans (same_upd hp)) (.tup (SqT.of upd_same) (hvs.mono (same_upd hp)))⟩⟩
theorem pd_lst (h : PDA X es σ H ds) (hl : ds.length ≤ 1000 := by simp) : PD X (.List es pos) σ H (.lst ds) :=
  PD.of (pe_lst h) fun H1 Q e1 q => ⟨rfl, e1, fun vs H2 e2 hvs => ⟨Nat.le_of_lt (small1000 (by rw [← hvs.length]; exact hl)), fun p hp =>
    q _ _ (e2.trans (same_upd hp)) (.lst (SqL.of upd_same) (hvs.mono (same_upd hp)))⟩⟩
theorem pd_ixT (ha : PD X a σ H (.tup ds)) (hb : PD X b σ H (.int i)) (hi : atI ds i = some d := by rfl) (hs : PlainIx b := by intro _ _; rfl) : PD X (.Subscript a b pos) σ H d :=
  PD.of (pe_ix ix_tup ha hb hs) fun H1 Q e1 q => ⟨rfl, e1, fun x H2 e2 hx => ⟨rfl, e1.trans e2, fun y H3 e3 hy => by
    cases hy
    cases hx with
    | tup hq l =>
      obtain ⟨v, hv, hd⟩ := IsL.atI l hi
      exact ⟨_, _, i, v, rfl, rfl, sameT e3 hq, hv, q _ _ (e2.trans e3) (hd.mono e3)⟩⟩⟩
theorem pd_ixL (ha : PD X a σ H (.lst ds)) (hb : PD X b σ H (.int i)) (hi : atI ds i = some d := by rfl) (hs : PlainIx b := by intro _ _; rfl) : PD X (.Subscript a b pos) σ H d :=
  PD.of (pe_ix ix_list ha hb hs) fun H1 Q e1 q => ⟨rfl, e1, fun x H2 e2 hx => ⟨rfl, e1.trans e2, fun y H3 e3 hy => by
    cases hy
    cases hx with
    | lst hq l =>
      obtain ⟨v, hv, hd⟩ := IsL.atI l hi
      exact ⟨_, _, i, v, rfl, rfl, e3.seq hq, hv, q _ _ (e2.trans e3) (hd.mono e3)⟩⟩⟩
theorem pd_B {id : String} {x : Str} {p : Pos} {r : List V → Hp → VK → Prop} (hc : CallR X (.builtin id) r) (hm : X.mg x = none) (hv : bootBuiltins x = some (.builtin id)) (ha : PDA X (e :: es) σ H ds)
    (f : ∀ vs H1 Q, Same H H1 → IsL X.K H1 ds vs → (∀ v H2, Same H1 H2 → Is X.K H2 d v → Q v H2) → r vs H1 Q)
    (hg : Gl X x := by rfl) (hn : x ≠ "__name__" := by decide) (hdb : (x == ("__debug__" : Str)) = false := by decide)
    (he : starEach (e :: es) X.env = (false, eval e X.env) :: starEach es X.env := by rfl) (hpl : (backTo pos (starEach es X.env)).any (·.1) = false := by rfl) : PD X (.Call (.Name x p) (e :: es) [] pos) σ H d :=
  PD.of (pe_callB hc hg hm hv ha hn hdb he hpl) fun H1 Q e1 q => ⟨rfl, e1, fun vs H2 e2 hvs => f vs H2 Q (e1.trans e2) hvs fun v H3 e3 hv => q _ _ (e2.trans e3) hv⟩
theorem pd_T {T : String} {x : Str} {p : Pos} {r : List V → Hp → VK → Prop} (hc : CallR X (.type T) r) (hm : X.mg x = none) (hv : bootBuiltins x = some (.type T)) (ha : PDA X (e :: es) σ H ds)
    (f : ∀ vs H1 Q, Same H H1 → IsL X.K H1 ds vs → (∀ v H2, Same H1 H2 → Is X.K H2 d v → Q v H2) → r vs H1 Q)
    (hg : Gl X x := by rfl) (hn : x ≠ "__name__" := by decide) (hdb : (x == ("__debug__" : Str)) = false := by decide)
    (he : starEach (e :: es) X.env = (false, eval e X.env) :: starEach es X.env := by rfl) (hpl : (backTo pos (starEach es X.env)).any (·.1) = false := by rfl) : PD X (.Call (.Name x p) (e :: es) [] pos) σ H d :=
  PD.of (pe_callTy hc hg hm hv ha hn hdb he hpl) fun H1 Q e1 q => ⟨rfl, e1, fun vs H2 e2 hvs => f vs H2 Q (e1.trans e2) hvs fun v H3 e3 hv => q _ _ (e2.trans e3) hv⟩
variable {p : Pos}
def absI (i : Int) : Int := if i < 0 then -i else i
theorem pd_abs (hm : X.mg "abs" = none) (ha : PD X a σ H (.int i)) (hg : Gl X "abs" := by rfl) (he : starEach [a] X.env = (false, eval a X.env) :: starEach [] X.env := by rfl) : PD X (.Call (.Name "abs" p) [a] [] pos) σ H (.int (absI i)) :=
  pd_B call_abs hm (by decide +kernel) (pda_cons ha pda_nil he) (fun vs H1 Q e1 hvs q => by
    cases hvs with | cons h l => cases h; cases l; exact ⟨i, rfl, q _ _ (Same.refl _) (.int _)⟩) hg (by decide) (by decide) he rfl
def dP (q : Int × Int) : D := .tup [.int q.1, .int q.2]
def mxP (q : Int × Int) : Int := if q.2 > q.1 then q.2 else q.1
def mnP (q : Int × Int) : Int := if q.2 < q.1 then q.2 else q.1
theorem dP_inv {K : PySem.W.Frag} {q : Int × Int} {v : V} (h : Is K H (dP q) v) : ∃ a, v = .ref a ∧ SqT K H a [.int q.1, .int q.2] := by
  cases h with
  | tup hq l =>
    cases l with | cons h1 l => cases l with | cons h2 l => cases l; cases h1; cases h2; exact ⟨_, rfl, hq⟩
theorem pd_max {q : Int × Int} (hc : X.calm = true) (hm : X.mg "max" = none) (ha : PD X a σ H (dP q)) (hg : Gl X "max" := by rfl) (he : starEach [a] X.env = (false, eval a X.env) :: starEach [] X.env := by rfl) : PD X (.Call (.Name "max" p) [a] [] pos) σ H (.int (mxP q)) :=
  pd_B (call_maxT hc) hm (by decide +kernel) (pda_cons ha pda_nil he) (fun vs H1 Q e1 hvs k => by
    cases hvs with
    | cons h l =>
      cases l
      obtain ⟨a, rfl, hq⟩ := dP_inv h
      exact ⟨a, q.1, q.2, rfl, hq, k _ _ (Same.refl _) (.int _)⟩) hg (by decide) (by decide) he rfl
theorem pd_min {q : Int × Int} (hc : X.calm = true) (hm : X.mg "min" = none) (ha : PD X a σ H (dP q)) (hg : Gl X "min" := by rfl) (he : starEach [a] X.env = (false, eval a X.env) :: starEach [] X.env := by rfl) : PD X (.Call (.Name "min" p) [a] [] pos) σ H (.int (mnP q)) :=
  pd_B (call_minT hc) hm (by decide +kernel) (pda_cons ha pda_nil he) (fun vs H1 Q e1 hvs k => by
    cases hvs with
    | cons h l =>
      cases l
      obtain ⟨a, rfl, hq⟩ := dP_inv h
      exact ⟨a, q.1, q.2, rfl, hq, k _ _ (Same.refl _) (.int _)⟩) hg (by decide) (by decide) he rfl
theorem pd_lenL (hm : X.mg "len" = none) (ha : PD X a σ H (.lst ds)) (hg : Gl X "len" := by rfl) (he : starEach [a] X.env = (false, eval a X.env) :: starEach [] X.env := by rfl) : PD X (.Call (.Name "len" p) [a] [] pos) σ H (.int ds.length) :=
  pd_B call_len_seq hm PySem.boot_len (pda_cons ha pda_nil he) (fun vs H1 Q e1 hvs k => by
    cases hvs with
    | cons h l =>
      cases l
      cases h with
      | lst hq l => exact ⟨_, _, rfl, .inl hq, by rw [← l.length]; exact k _ _ (Same.refl _) (.int _)⟩) hg (by decide) (by decide) he rfl
theorem pd_intB (hm : X.mg "int" = none) (ha : PD X a σ H (.bl k)) (hg : Gl X "int" := by rfl) (he : starEach [a] X.env = (false, eval a X.env) :: starEach [] X.env := by rfl) : PD X (.Call (.Name "int" p) [a] [] pos) σ H (.int (if k then 1 else 0)) :=
  pd_T call_int1 hm (by decide +kernel) (pda_cons ha pda_nil he) (fun vs H1 Q e1 hvs q => by
    cases hvs with | cons h l => cases h; cases l; exact .inr ⟨k, rfl, q _ _ (Same.refl _) (.int _)⟩) hg (by decide) (by decide) he rfl
theorem pd_tupL (hm : X.mg "tuple" = none) (ha : PD X a σ H (.lst ds)) (hg : Gl X "tuple" := by rfl) (he : starEach [a] X.env = (false, eval a X.env) :: starEach [] X.env := by rfl) : PD X (.Call (.Name "tuple" p) [a] [] pos) σ H (.tup ds) :=
  pd_T call_tuple_of hm (by decide +kernel) (pda_cons ha pda_nil he) (fun vs H1 Q e1 hvs q => by
    cases hvs with
    | cons h l =>
      cases l
      cases h with
      | lst hq l => exact ⟨_, _, rfl, .inl ⟨hq, fun p hp => q _ _ (same_upd hp) (.tup (SqT.of upd_same) (l.mono (same_upd hp)))⟩⟩) hg (by decide) (by decide) he rfl
theorem pd_indexT {q : Int × Int} {apos : Pos} (ho : PD X o σ H (dP q)) (ha : PD X a σ H (.int i)) (hi : q.1 = i ∨ q.2 = i)
    (hbase : attributeBase o "index" X.env (eval o X.env) = eval o X.env := by rfl)
    (hfew : ((backTo pos (starEach [a] X.env)).all (fun x => !x.1) && (backToKw pos (keywordEach [] X.env)).all (fun x => x.1.isSome)
      && decide ([a].length + ([] : List Keyword).length + (if ([] : List Keyword).isEmpty then 0 else 1) < 30)) = true := by rfl)
    (hline : (apos.endLine == pos.line) = true := by rfl) (hs : starEach [a] X.env = (false, eval a X.env) :: starEach [] X.env := by rfl) (hplain : (backTo pos (starEach [] X.env)).any (·.1) = false := by rfl) :
    PD X (.Call (.Attribute o "index" apos) [a] [] pos) σ H (.int (if q.1 = i then 0 else 1)) :=
  PD.of (pe_bm PySem.F.plainAttrs_tuple PySem.F.slot_tuple_index PySem.F.type_tuple_index mt_indexT ho (pda_cons ha pda_nil hs) hbase hfew hline hs hplain) fun H1 Q e1 k => ⟨rfl, e1, fun v H2 e2 hv => by
    obtain ⟨a', rfl, hq⟩ := dP_inv hv
    refine ⟨.inr (.inl ⟨rfl, _, hq⟩), rfl, e1.trans e2, fun vs H3 e3 hvs => ?_⟩
    cases hvs with
    | cons h l =>
      cases l; cases h
      exact ⟨a', q.1, q.2, i, rfl, rfl, sameT e3 hq, hi, k _ _ (e2.trans e3) (.int _)⟩⟩
def spD (K : PySem.W.Frag) (R : List D → D → Prop) : Sp := fun vs H Q _ => ∃ ds r, IsL K H ds vs ∧ R ds r ∧ ∀ v H', Same H H' → Is K H' r v → Q v H'
theorem pd_call {CX : CXT} {n : Nat} {f : Addr} {fd : FuncData} {ps : List Str} {R : List D → D → Prop} {x : Str} (F : FnOk X.prog X.w X.K X.mg X.base CX n f fd ps (spD X.K R)) (hr : Room n X.A) (hm : X.mg x = some (.ref f))
    (hk : PySem.W.keepIn X.K (.ref f) = true) (hb : Binds X.K fd ps []) (hx : Passes CX X E0) (ha : PDA X (e :: es) σ H ds) (hR : R ds d) (hg : Gl X x := by rfl) (hdb : (x == ("__debug__" : Str)) = false := by decide)
    (he : starEach (e :: es) X.env = (false, eval e X.env) :: starEach es X.env := by rfl) (hpl : (backTo pos (starEach es X.env)).any (·.1) = false := by rfl) : PD X (.Call (.Name x p) (e :: es) [] pos) σ H d :=
  PD.of (pe_call (dvs := []) F hr hg hm hk hb .nil hx ha hdb he hpl) fun H1 Q e1 q => ⟨rfl, e1, fun vs H2 e2 hvs => ⟨ds, d, by rw [List.append_nil]; exact hvs, hR, fun v H3 e3 hv => q _ _ (e2.trans e3) hv⟩⟩
theorem pd_meth0 {CX : CXT} {n : Nat} {f C : Addr} {fd : FuncData} {ps : List Str} {R : List D → D → Prop} {m : Str} {apos : Pos} {fs : List (Str × V)} {pl : Sem Bool} (ho : PD X o σ H (.obj C fs)) (hc : Cls X.K C) (hm : Meth X.K C m f)
    (F : FnOk X.prog X.w X.K X.mg X.base CX n f fd ps (spD X.K R)) (hr : Room n X.A) (hb : Binds X.K fd ps []) (hx : Passes CX X E0) (hl : fs.lookup m = none) (hR : R [.obj C fs] d)
    (ht : eval (.Call (.Attribute o m apos) [] [] pos) X.env = (do
      let ov ← eval o X.env
      standAt apos.atName
      let (f, first) ← holding [ov] (getMethod ov m pl)
      callWith pos f first (backTo pos (starEach [] X.env)) (backToKw pos (keywordEach [] X.env))) := by rfl) : PD X (.Call (.Attribute o m apos) [] [] pos) σ H d :=
  PD.of (pe_meth0 (dvs := []) ho hc hm F hr hb .nil hx ht) fun H1 Q e1 q => ⟨rfl, e1, fun v H2 e2 hv => by
    cases hv with
    | obj h => exact ⟨_, _, fs, rfl, h, hl, [.obj C fs], d, .cons (.obj h) .nil, hR, fun v H3 e3 hv => q _ _ (e2.trans e3) hv⟩⟩
theorem pd_fld {C : Addr} {f : Str} {fs : List (Str × V)} {v : V} (ho : PD X o σ H (.obj C fs)) (hc : Cls X.K C) (hn : NoAttr X.K C f) (hl : fs.lookup f = some v) (hd : ∀ H, Is X.K H d v)
    (hb : attributeBase o f X.env (eval o X.env) = eval o X.env := by rfl) : PD X (.Attribute o f pos) σ H d :=
  PD.of (pe_fld ho hb) fun H1 Q e1 q => ⟨rfl, e1, fun x H2 e2 hx => by
    cases hx with
    | obj h => exact ⟨_, C, _, fs, v, rfl, h, hc, hn, hl, q _ _ e2 (hd _)⟩⟩
end
def tR (K : PySem.W.Frag) (σ : L2.St) (H : Hp) (r : D) : TS := fun E σ' H1 => σ' = σ ∧ Same H H1 ∧ ∀ v H2, Same H1 H2 → Is K H2 r v → E.rt v H2
def PR (X : Cx) (st : List Stmt) (σ : L2.St) (H : Hp) (r : D) : Prop := PSs X st (tR X.K σ H r)
def tF (K : PySem.W.Frag) (σ : L2.St) (H : Hp) : TS := fun E σ' H1 => σ' = σ ∧ Same H H1 ∧ ∀ σ2 H2, Same H1 H2 → E.nx σ2 H2
def PF (X : Cx) (st : List Stmt) (σ : L2.St) (H : Hp) : Prop := PSs X st (tF X.K σ H)
def tN (σ : L2.St) (H : Hp) (Post : L2.St → Hp → Prop) : TS := fun E σ' H1 => σ' = σ ∧ Same H H1 ∧ ∀ σ2 H2, Same H1 H2 → Post σ2 H2 → E.nx σ2 H2
def PN1 (X : Cx) (st : Stmt) (σ : L2.St) (H : Hp) (Post : L2.St → Hp → Prop) : Prop := PS X st (tN σ H Post)
def PN (X : Cx) (st : List Stmt) (σ : L2.St) (H : Hp) (Post : L2.St → Hp → Prop) : Prop := PSs X st (tN σ H Post)
section
variable {X : Cx} {e c : Expr} {σ : L2.St} {H H' : Hp} {d r r' : D} {k : Bool} {pos : Pos} {st : Stmt} {sts rest els : List Stmt} {Post : L2.St → Hp → Prop}
theorem PS.imp {t t' : TS} (h : PS X st t) (f : ∀ D σ H, t' D σ H → t D σ H) : PS X st t' := fun pins s σ H D I q => h pins s σ H D I (f _ _ _ q)
theorem PSs.imp {t t' : TS} (h : PSs X sts t) (f : ∀ D σ H, t' D σ H → t D σ H) : PSs X sts t' := fun pins s σ H D I q => h pins s σ H D I (f _ _ _ q)
theorem PSs.guard {p : Prop} {t : TS} (h : p → PSs X sts t) : PSs X sts (fun D σ H => p ∧ t D σ H) := fun pins s σ H D I q => h q.1 pins s σ H D I q.2
theorem PR.mono (e1 : Same H H') (h : PR X sts σ H r) : PR X sts σ H' r := PSs.imp h fun _ _ _ ⟨hs, e2, q⟩ => ⟨hs, e1.trans e2, q⟩
theorem PR.cast (h : PR X sts σ H r) (q : r = r') : PR X sts σ H r' := q ▸ h
def tAfter (K : PySem.W.Frag) (H : Hp) (P : L2.St → Hp → Prop) (r : D) : TS := fun E σ' H1 => P σ' H1 ∧ Same H H1 ∧ ∀ v H2, Same H1 H2 → Is K H2 r v → E.rt v H2
theorem pr_after {P : L2.St → Hp → Prop} (h : ∀ σ' H', Same H H' → P σ' H' → PR X rest σ' H' r) : PSs X rest (tAfter X.K H P r) := fun pins s σ' H1 D I ⟨p, e1, q⟩ =>
  h σ' H1 e1 p pins s σ' H1 D I ⟨rfl, Same.refl _, q⟩
theorem pr_ret (h : PD X e σ H d) : PR X (.Return (some e) pos :: rest) σ H d :=
  PSs.imp (pss_cons (ps_ret h) pss_never) fun D σ' H1 ⟨hs, e1, q⟩ => ⟨hs, e1, fun v H2 e2 hv => q v H2 e2 hv⟩
theorem pr_set (i : Nat) {x : Str} {pos' : Pos} (hN : X.N.Nodup) (he : PD X e σ H d) (h : ∀ v H', Same H H' → Is X.K H' d v → PR X rest (σ.set i (some v)) H' r) (hi : X.N[i]? = some x := by rfl)
    (hx : Loc X.env.scope x := by first | exact Or.inl rfl | exact Or.inr rfl) (hs : swapsWith e (some (.Name x pos')) pos.line X.env = pure false := by rfl)
    (hf : X.fn x = true ∨ X.env.scope.names.lookup x = some .local := by first | exact .inl rfl | exact .inr rfl | assumption) : PR X (.Assign [.Name x pos'] e pos :: rest) σ H r :=
  PSs.imp (pss_cons (ps_set hN hi hx he hs hf) (pr_after (H := H) (P := fun σ' H' => ∃ v, σ' = σ.set i (some v) ∧ Is X.K H' d v) fun σ' H' e1 ⟨v, e2, hv⟩ => by subst e2; exact h v H' e1 hv)) fun D σ' H1 ⟨hs, e1, q⟩ => by
    subst hs
    exact ⟨rfl, e1, fun v H2 e2 hv => ⟨⟨v, rfl, hv⟩, e1.trans e2, fun v H3 e3 hv => q v H3 (e2.trans e3) hv⟩⟩
theorem pr_if (hc : PDT X c σ H k) (ha : k = true → PR X sts σ H r) (hb : k = false → PR X rest σ H r) : PR X (.If c sts [] pos :: rest) σ H r :=
  PSs.imp (pss_cons (ps_if hc (PSs.guard ha) pss_nil) (PSs.guard hb)) fun D σ' H1 ⟨hs, e1, q⟩ => ⟨hs, e1, fun H2 e2 => by
    subst hs
    cases k with
    | true => exact ⟨rfl, rfl, e1.trans e2, fun v H3 e3 hv => q v H3 (e2.trans e3) hv⟩
    | false => exact ⟨rfl, rfl, e1.trans e2, fun v H3 e3 hv => q v H3 (e2.trans e3) hv⟩⟩
theorem pr_cons (h1 : PN1 X st σ H Post) (h : ∀ σ' H', Same H H' → Post σ' H' → PR X rest σ' H' r) : PR X (st :: rest) σ H r :=
  PSs.imp (pss_cons h1 (pr_after h)) fun D σ' H1 ⟨hs, e1, q⟩ => ⟨hs, e1, fun σ2 H2 e2 p => ⟨p, e1.trans e2, fun v H3 e3 hv => q v H3 (e2.trans e3) hv⟩⟩
theorem pn1_if (hc : PDT X c σ H k) (ha : k = true → PN X sts σ H Post) (hb : k = false → PN X els σ H Post) : PN1 X (.If c sts els pos) σ H Post :=
  PS.imp (ps_if hc (PSs.guard ha) (PSs.guard hb)) fun D σ' H1 ⟨hs, e1, q⟩ => ⟨hs, e1, fun H2 e2 => by
    subst hs
    cases k with
    | true => exact ⟨rfl, rfl, e1.trans e2, fun σ3 H3 e3 p => q σ3 H3 (e2.trans e3) p⟩
    | false => exact ⟨rfl, rfl, e1.trans e2, fun σ3 H3 e3 p => q σ3 H3 (e2.trans e3) p⟩⟩
theorem pn_nil (h : ∀ H', Same H H' → Post σ H') : PN X [] σ H Post :=
  PSs.imp pss_nil fun D σ' H1 ⟨hs, e1, q⟩ => by subst hs; exact q _ _ (Same.refl _) (h H1 e1)
def tAfterN (H : Hp) (P Post : L2.St → Hp → Prop) : TS := fun E σ' H1 => P σ' H1 ∧ Same H H1 ∧ ∀ σ2 H2, Same H1 H2 → Post σ2 H2 → E.nx σ2 H2
theorem pn_after {P : L2.St → Hp → Prop} (h : ∀ σ' H', Same H H' → P σ' H' → PN X rest σ' H' Post) : PSs X rest (tAfterN H P Post) := fun pins s σ' H1 D I ⟨p, e1, q⟩ =>
  h σ' H1 e1 p pins s σ' H1 D I ⟨rfl, Same.refl _, q⟩
theorem pn_cons {P : L2.St → Hp → Prop} (h1 : PN1 X st σ H P) (h : ∀ σ' H', Same H H' → P σ' H' → PN X rest σ' H' Post) : PN X (st :: rest) σ H Post :=
  PSs.imp (pss_cons h1 (pn_after h)) fun D σ' H1 ⟨hs, e1, q⟩ => ⟨hs, e1, fun σ2 H2 e2 p => ⟨p, e1.trans e2, fun σ3 H3 e3 hv => q σ3 H3 (e2.trans e3) hv⟩⟩
theorem pn_one (h1 : PN1 X st σ H Post) : PN X [st] σ H Post := pss_one h1
theorem pn1_set (i : Nat) {x : Str} {pos' : Pos} (hN : X.N.Nodup) (he : PD X e σ H d) (h : ∀ v H', Same H H' → Is X.K H' d v → Post (σ.set i (some v)) H') (hi : X.N[i]? = some x := by rfl)
    (hx : Loc X.env.scope x := by first | exact Or.inl rfl | exact Or.inr rfl) (hs : swapsWith e (some (.Name x pos')) pos.line X.env = pure false := by rfl)
    (hf : X.fn x = true ∨ X.env.scope.names.lookup x = some .local := by first | exact .inl rfl | exact .inr rfl | assumption) : PN1 X (.Assign [.Name x pos'] e pos) σ H Post :=
  PS.imp (ps_set hN hi hx he hs hf) fun D σ' H1 ⟨hs, e1, q⟩ => by
    subst hs
    exact ⟨rfl, e1, fun v H2 e2 hv => q _ _ e2 (h v H2 (e1.trans e2) hv)⟩
theorem pn1_expr (he : PD X e σ H d) (h : ∀ H', Same H H' → Post σ H') (hs : swapsWith e none pos.line X.env = pure false := by rfl) : PN1 X (.Expr e pos) σ H Post :=
  PS.imp (ps_expr he hs) fun D σ' H1 ⟨hs, e1, q⟩ => by
    subst hs
    exact ⟨rfl, e1, fun v H2 e2 hv => q _ _ e2 (h H2 (e1.trans e2))⟩
theorem pf_of (h : PN X sts σ H fun _ _ => True) : PF X sts σ H := PSs.imp h fun D σ' H1 ⟨hs, e1, q⟩ => ⟨hs, e1, fun σ2 H2 e2 _ => q σ2 H2 e2⟩
variable {body : List Stmt} {iter : Expr} {ds : List D}
def tTurn (K : PySem.W.Frag) (H : Hp) (n : Nat) (at' : Nat → D → Prop) (P : Nat → L2.St → Hp → Prop) : TS := fun E σ' H1 => ∃ i d v σ1, at' i d ∧ Same H H1 ∧ P i σ1 H1 ∧ Is K H1 d v ∧ σ' = σ1.set n (some v) ∧ ∀ σ2 H2, Same H1 H2 → P (i + 1) σ2 H2 → E.nx σ2 H2
theorem turn_of {n : Nat} {at' : Nat → D → Prop} {P : Nat → L2.St → Hp → Prop} (h : ∀ i d v σ1 H1, at' i d → Same H H1 → P i σ1 H1 → Is X.K H1 d v → PN X body (σ1.set n (some v)) H1 (P (i + 1))) : PSs X body (tTurn X.K H n at' P) :=
  fun pins s σ' H1 D I ⟨i, d, v, σ1, ha, e1, p, hv, hs, q⟩ => by
    subst hs
    exact h i d v σ1 H1 ha e1 p hv pins s _ H1 D I ⟨rfl, Same.refl _, q⟩
theorem pn1_forR {j : Int} {a : Expr} {p pos1 : Pos} (n : Nat) {x : Str} {px : Pos} (P : Nat → L2.St → Hp → Prop) (hp : PassesOwn (model X.prog X.w) X.A X.env X.xe) (hc : X.calm = true) (hN : X.N.Nodup) (hm : X.mg "range" = none) (he : PD X a σ H (.int j)) (hj : -(2 ^ 62) ≤ j ∧ j < 2 ^ 62)
    (h0 : ∀ H', Same H H' → P 0 σ H') (hs : ∀ (i : Nat) σ1 H1, i < j.toNat → Same H H1 → P i σ1 H1 → PN X body (σ1.set n (some (.int i))) H1 (P (i + 1)))
    (hd : ∀ σ1 H1, Same H H1 → P j.toNat σ1 H1 → Post σ1 H1) (hi : X.N[n]? = some x := by rfl) (hx : Loc X.env.scope x := by first | exact Or.inl rfl | exact Or.inr rfl)
    (hf : X.fn x = true ∨ X.env.scope.names.lookup x = some .local := by first | exact .inl rfl | exact .inr rfl | assumption) (hg : Gl X "range" := by rfl)
    (hst : starEach [a] X.env = [(false, eval a X.env)] := by rfl) (hfs : ∀ x, foldedSetIterable (.Call (.Name "range" p) [a] [] pos1) X.env x = pure x := by intro _; rfl) :
    PN1 X (.For (.Name x px) (.Call (.Name "range" p) [a] [] pos1) body [] pos) σ H Post :=
  PS.imp (ps_for hp hc (pi_range1 hg hm (pda_cons he pda_nil hst) hst) (pg_name hN hi hx hf) (turn_of (H := H) (at' := fun i d => i < j.toNat ∧ d = .int i) (P := P) fun i d v σ1 H1 ha e1 p hv => by
      obtain ⟨hlt, hd⟩ := ha
      subst hd; cases hv
      exact hs i σ1 H1 hlt e1 p) hfs) fun E σ' H1 ⟨hss, e1, q⟩ => ⟨hss, e1, fun vs H2 e2 hvs => by
    subst hss
    cases hvs with
    | cons h l =>
      cases h; cases l
      refine ⟨j, rfl, hj.1, hj.2, for_range (fun i σ1 H3 => Same H2 H3 ∧ P i σ1 H3) ⟨Same.refl _, h0 _ (e1.trans e2)⟩ (fun i σ1 H3 hlt ⟨e3, p⟩ => ?_) (fun σ1 H3 ⟨e3, p⟩ => ?_)⟩
      · exact ⟨i, .int i, _, σ1, ⟨hlt, rfl⟩, (e1.trans e2).trans e3, p, .int i, by rw [Int.zero_add], fun σ2 H4 e4 p4 => ⟨e3.trans e4, p4⟩⟩
      · exact q σ1 H3 (e2.trans e3) (hd σ1 H3 ((e1.trans e2).trans e3) p)⟩
end
def Has (K : PySem.W.Frag) (mg : Str → Option Value) (x : Str) (st : Stmt) (ps : List Str) : Prop := ∃ f fd, Fun K x x st f fd ∧ mg x = some (.ref f) ∧ Binds K fd ps []
def Does (P : Program) (w : World) (K : PySem.W.Frag) (mg : Str → Option Value) (base : Heap) (n : Nat) (x : Str) (ps : List Str) (R : List D → D → Prop) : Prop :=
  ∃ f fd, FnOk P w K mg base CX0 n f fd ps (spD K R) ∧ mg x = some (.ref f) ∧ PySem.W.keepIn K (.ref f) = true ∧ Binds K fd ps []
abbrev cx0 (P : Program) (w : World) (K : PySem.W.Frag) (mg : Str → Option Value) (base : Heap) (N : List Str) (qual : Str) (st : Stmt) (f : Addr) (cdv : Value) (A : Around) (outer : List Env) (s : Shared) (H : Hp) (E : XK) : Cx :=
  (cxOf CX0 P w K mg base N qual (defScope st) f cdv A outer s H E).nox
section
variable {P : Program} {w : World} {K : PySem.W.Frag} {mg : Str → Option Value} {base : Heap}
theorem fun_ok {x qual : Str} {st : Stmt} {f : Addr} {fd : FuncData} {N ps : List Str} {n : Nat} {R : List D → D → Prop} (F : Fun K x qual st f fd) (S : FnScope N ps (defScope st)) (len : ∀ ds r, R ds r → ds.length = ps.length)
    (hb : ∀ (cdv : Value) (A : Around) (outer : List Env) (s : Shared) (H : Hp) (E : XK) (vs : List V) (ds : List D) (r : D), Room n (cx0 P w K mg base N qual st f cdv A outer s H E).A → IsL K H ds vs → R ds r →
      PR (cx0 P w K mg base N qual st f cdv A outer s H E) (defBody st) (start N vs) H r ∨ (r = .non ∧ PF (cx0 P w K mg base N qual st f cdv A outer s H E) (defBody st) (start N vs) H)) :
    FnOk P w K mg base CX0 (n + 1) f fd ps (spD K R) := by
  refine F.ok S (fun vs H Q E ⟨ds, r, hl, hR, _⟩ => by rw [← hl.length]; exact len ds r hR) fun cdv A outer s H vs Q E hr ⟨ds, r, hl, hR, q⟩ => ?_
  rcases hb cdv A outer s H E vs ds r hr hl hR with h | ⟨rfl, h⟩
  · exact ⟨_, h, rfl, Same.refl _, fun v H2 e2 hv => q v H2 e2 hv⟩
  · exact ⟨_, h, rfl, Same.refl _, fun σ2 H2 e2 => q _ H2 e2 .non⟩
theorem Has.does {x : Str} {st : Stmt} {N ps : List Str} {n : Nat} {R : List D → D → Prop} (h : Has K mg x st ps) (S : FnScope N ps (defScope st)) (len : ∀ ds r, R ds r → ds.length = ps.length)
    (hb : ∀ (f : Addr) (cdv : Value) (A : Around) (outer : List Env) (s : Shared) (H : Hp) (E : XK) (vs : List V) (ds : List D) (r : D), Room n (cx0 P w K mg base N x st f cdv A outer s H E).A → IsL K H ds vs → R ds r →
      PR (cx0 P w K mg base N x st f cdv A outer s H E) (defBody st) (start N vs) H r) : Does P w K mg base (n + 1) x ps R := by
  obtain ⟨f, fd, F, hm, hbd⟩ := h
  exact ⟨f, fd, fun_ok F S len fun cdv A outer s H E vs ds r hr hl hR => .inl (hb f cdv A outer s H E vs ds r hr hl hR), hm, F.kp, hbd⟩
theorem Has.doesF {x : Str} {st : Stmt} {N ps : List Str} {n : Nat} {R : List D → D → Prop} (h : Has K mg x st ps) (S : FnScope N ps (defScope st)) (len : ∀ ds r, R ds r → ds.length = ps.length) (non : ∀ ds r, R ds r → r = .non)
    (hb : ∀ (f : Addr) (cdv : Value) (A : Around) (outer : List Env) (s : Shared) (H : Hp) (E : XK) (vs : List V) (ds : List D), Room n (cx0 P w K mg base N x st f cdv A outer s H E).A → IsL K H ds vs → R ds .non →
      PF (cx0 P w K mg base N x st f cdv A outer s H E) (defBody st) (start N vs) H) : Does P w K mg base (n + 1) x ps R := by
  obtain ⟨f, fd, F, hm, hbd⟩ := h
  exact ⟨f, fd, fun_ok F S len fun cdv A outer s H E vs ds r hr hl hR => .inr ⟨non ds r hR, by obtain rfl := non ds r hR; exact hb f cdv A outer s H E vs ds hr hl hR⟩, hm, F.kp, hbd⟩
theorem Does.mono {x : Str} {ps : List Str} {n m : Nat} {R : List D → D → Prop} (h : Does P w K mg base n x ps R) (hl : n ≤ m) : Does P w K mg base m x ps R :=
  let ⟨f, fd, F, r⟩ := h
  ⟨f, fd, F.mono hl, r⟩
end
section
variable {X : Cx} {e : Expr} {es : List Expr} {σ : L2.St} {H : Hp} {d : D} {ds : List D} {p pos : Pos}
theorem pd_does {n : Nat} {x : Str} {ps : List Str} {R : List D → D → Prop} (h : Does X.prog X.w X.K X.mg X.base n x ps R) (hr : Room n X.A) (ha : PDA X (e :: es) σ H ds) (hR : R ds d) (hg : Gl X x := by rfl) (hdb : (x == ("__debug__" : Str)) = false := by decide)
    (he : starEach (e :: es) X.env = (false, eval e X.env) :: starEach es X.env := by rfl) (hpl : (backTo pos (starEach es X.env)).any (·.1) = false := by rfl) : PD X (.Call (.Name x p) (e :: es) [] pos) σ H d := by
  obtain ⟨f, fd, F, hm, hk, hb⟩ := h
  exact pd_call F hr hm hk hb pass0 ha hR hg hdb he hpl
end
theorem has_mk {K : PySem.W.Frag} {h : Heap} {mg : Str → Option Value} {x : Str} {st : Stmt} {ps : List Str} {f : Addr} {oc : Value} {od an : Option Addr} {osl : Array (Option Value)} {kV doc pm cdv ct : Value} (X : K.In h) (G : h.Ns mainGlobals mg)
    (a : PySem.W.nsIn K mainGlobals x = some (some (.ref f))) (l : K.lookup f = some ⟨oc, od, .func (PySem.W.fnOf x x (defArgs st) (defBody st) (defScope st) .none kV doc pm an cdv ct), osl⟩) (c : PySem.W.codeIn K cdv x = true) (k : PySem.W.keepIn K (.ref f) = true)
    (hb : ∀ (kV doc pm : Value) (an : Option Addr) (cdv ct : Value) (us : List Value), us.length = ps.length → bindArgs (PySem.W.fnOf x x (defArgs st) (defBody st) (defScope st) .none kV doc pm an cdv ct) ⟨us, []⟩ = pure (ps.zip us)) : Has K mg x st ps :=
  let F := fun_mk (st := st) l c k
  ⟨f, _, F, PySem.W.mg_of X G a, F.binds hb⟩
end L3
set_option Elab.async false
set_option linter.all false
set_option maxRecDepth 100000
namespace L3
open PySem PySem.Spec PyProof.Rows L2
section
variable {K : PySem.W.Frag} {H : Hp} {a b c d : D} {vs : List V}
theorem isL0 (h : IsL K H [] vs) : vs = [] := by cases h; rfl
theorem isL1 (h : IsL K H [a] vs) : ∃ v0, vs = [v0] ∧ Is K H a v0 := by cases h with | cons h1 l => cases l; exact ⟨_, rfl, h1⟩
theorem isL2 (h : IsL K H [a, b] vs) : ∃ v0 v1, vs = [v0, v1] ∧ Is K H a v0 ∧ Is K H b v1 := by
  cases h with | cons h1 l => obtain ⟨v1, rfl, h2⟩ := isL1 l; exact ⟨_, _, rfl, h1, h2⟩
theorem isL3 (h : IsL K H [a, b, c] vs) : ∃ v0 v1 v2, vs = [v0, v1, v2] ∧ Is K H a v0 ∧ Is K H b v1 ∧ Is K H c v2 := by
  cases h with | cons h1 l => obtain ⟨v1, v2, rfl, h2⟩ := isL2 l; exact ⟨_, _, _, rfl, h1, h2⟩
theorem isL4 (h : IsL K H [a, b, c, d] vs) : ∃ v0 v1 v2 v3, vs = [v0, v1, v2, v3] ∧ Is K H a v0 ∧ Is K H b v1 ∧ Is K H c v2 ∧ Is K H d v3 := by
  cases h with | cons h1 l => obtain ⟨v1, v2, v3, rfl, h2⟩ := isL3 l; exact ⟨_, _, _, _, rfl, h1, h2⟩
end
def PQ1 (X : Cx) (st : Stmt) (Pre Nx : L2.St → Hp → Prop) : Prop := PS X st (fun E σ H => Pre σ H ∧ ∀ σ' H', Nx σ' H' → E.nx σ' H')
def PQ (X : Cx) (sts : List Stmt) (Pre Nx : L2.St → Hp → Prop) : Prop := PSs X sts (fun E σ H => Pre σ H ∧ ∀ σ' H', Nx σ' H' → E.nx σ' H')
def PQR (X : Cx) (sts : List Stmt) (Pre : L2.St → Hp → Prop) (Rt : V → Hp → Prop) : Prop := PSs X sts (fun E σ H => Pre σ H ∧ ∀ v H', Rt v H' → E.rt v H')
section
variable {X : Cx} {e c o a i' : Expr} {σ : L2.St} {H H' : Hp} {d r : D} {k : Bool} {pos : Pos} {st : Stmt} {sts rest els body : List Stmt} {Pre Nx Mid : L2.St → Hp → Prop} {Rt : V → Hp → Prop}
theorem pq_nil (h : ∀ σ H, Pre σ H → Nx σ H) : PQ X [] Pre Nx := PSs.imp pss_nil fun E σ H ⟨p, q⟩ => q σ H (h σ H p)
theorem pq_cons (h1 : PQ1 X st Pre Mid) (h2 : PQ X rest Mid Nx) : PQ X (st :: rest) Pre Nx := PSs.imp (pss_cons h1 h2) fun E σ H ⟨p, q⟩ => ⟨p, fun σ' H' m => ⟨m, q⟩⟩
theorem pq_one (h1 : PQ1 X st Pre Nx) : PQ X [st] Pre Nx := pss_one h1
theorem pqr_cons (h1 : PQ1 X st Pre Mid) (h2 : PQR X rest Mid Rt) : PQR X (st :: rest) Pre Rt := PSs.imp (pss_cons h1 h2) fun E σ H ⟨p, q⟩ => ⟨p, fun σ' H' m => ⟨m, q⟩⟩
theorem pqr_pr (h : ∀ σ H, Pre σ H → ∃ r, PR X sts σ H r ∧ ∀ v H', Same H H' → Is X.K H' r v → Rt v H') : PQR X sts Pre Rt := fun pins s σ H D I ⟨p, q⟩ => by
  obtain ⟨r, h1, h2⟩ := h σ H p
  exact h1 pins s σ H D I ⟨rfl, Same.refl _, fun v H2 e2 hv => q v H2 (h2 v H2 e2 hv)⟩
theorem pr_pqr (h : ∀ H1, Same H H1 → PQR X sts (fun σ' H' => σ' = σ ∧ H' = H1) (fun v H2 => Same H1 H2 ∧ Is X.K H2 r v)) : PR X sts σ H r := fun pins s σ' H1 D I ⟨hs, e1, q⟩ =>
  h H1 e1 pins s σ' H1 D I ⟨⟨hs, rfl⟩, fun v H2 ⟨e2, hv⟩ => q v H2 e2 hv⟩
theorem pq1_pn {Post : L2.St → Hp → L2.St → Hp → Prop} (h : ∀ σ H, Pre σ H → PN1 X st σ H (Post σ H)) (f : ∀ σ H σ' H', Pre σ H → Same H H' → Post σ H σ' H' → Nx σ' H') : PQ1 X st Pre Nx := fun pins s σ H D I ⟨p, q⟩ =>
  h σ H p pins s σ H D I ⟨rfl, Same.refl _, fun σ2 H2 e2 p2 => q _ _ (f σ H σ2 H2 p e2 p2)⟩
theorem pq1_set (i : Nat) {x : Str} {pos' : Pos} (hN : X.N.Nodup) (h : ∀ σ H, Pre σ H → ∃ d, PD X e σ H d ∧ ∀ v H', Same H H' → Is X.K H' d v → Nx (σ.set i (some v)) H') (hi : X.N[i]? = some x := by rfl)
    (hx : Loc X.env.scope x := by first | exact Or.inl rfl | exact Or.inr rfl) (hs : swapsWith e (some (.Name x pos')) pos.line X.env = pure false := by rfl)
    (hf : X.fn x = true ∨ X.env.scope.names.lookup x = some .local := by first | exact .inl rfl | exact .inr rfl | assumption) : PQ1 X (.Assign [.Name x pos'] e pos) Pre Nx := fun pins s σ H D I ⟨p, q⟩ => by
  obtain ⟨d, h1, h2⟩ := h σ H p
  exact ps_set hN hi hx h1 hs hf pins s σ H D I ⟨rfl, Same.refl _, fun v H2 e2 hv => q _ _ (h2 v H2 e2 hv)⟩
theorem pq1_if (hc : ∀ σ H, Pre σ H → ∃ k, PDT X c σ H k ∧ (k = true → PQ X sts (fun σ' H' => σ' = σ ∧ Same H H') Nx) ∧ (k = false → PQ X els (fun σ' H' => σ' = σ ∧ Same H H') Nx)) : PQ1 X (.If c sts els pos) Pre Nx := fun pins s σ H D I ⟨p, q⟩ => by
  obtain ⟨k, h1, h2, h3⟩ := hc σ H p
  refine ps_if h1 (PSs.guard h2) (PSs.guard h3) pins s σ H D I ⟨rfl, Same.refl _, fun H2 e2 => ?_⟩
  cases k with
  | true => exact ⟨rfl, ⟨rfl, e2⟩, q⟩
  | false => exact ⟨rfl, ⟨rfl, e2⟩, q⟩
def tTurnQ (n m : Nat) (P : Nat → L2.St → Hp → Prop) : TS := fun E σ' H' => ∃ i : Nat, i < m ∧ (∃ σ1, σ' = List.set σ1 n (some (V.int i)) ∧ P i σ1 H') ∧ ∀ σ2 H2, P (i + 1) σ2 H2 → E.nx σ2 H2
theorem pq1_forR {j : Int} {a : Expr} {p pos1 : Pos} (n : Nat) {x : Str} {px : Pos} (P : Nat → L2.St → Hp → Prop) (hp : PassesOwn (model X.prog X.w) X.A X.env X.xe) (hc : X.calm = true) (hN : X.N.Nodup) (hm : X.mg "range" = none)
    (he : ∀ σ H, Pre σ H → PD X a σ H (.int j)) (hj : -(2 ^ 62) ≤ j ∧ j < 2 ^ 62)
    (h0 : ∀ σ H H', Pre σ H → Same H H' → P 0 σ H') (hs : ∀ (i : Nat), i < j.toNat → PQ X body (fun σ' H' => ∃ σ1, σ' = σ1.set n (some (.int i)) ∧ P i σ1 H') (P (i + 1)))
    (hd : ∀ σ1 H1, P j.toNat σ1 H1 → Nx σ1 H1) (hi : X.N[n]? = some x := by rfl) (hx : Loc X.env.scope x := by first | exact Or.inl rfl | exact Or.inr rfl)
    (hf : X.fn x = true ∨ X.env.scope.names.lookup x = some .local := by first | exact .inl rfl | exact .inr rfl | assumption) (hg : Gl X "range" := by rfl)
    (hst : starEach [a] X.env = [(false, eval a X.env)] := by rfl) (hfs : ∀ x, foldedSetIterable (.Call (.Name "range" p) [a] [] pos1) X.env x = pure x := by intro _; rfl) :
    PQ1 X (.For (.Name x px) (.Call (.Name "range" p) [a] [] pos1) body [] pos) Pre Nx := fun pins s σ H D I ⟨pre, q⟩ => by
  have hb : PSs X body (tTurnQ n j.toNat P) := fun pins s σ' H' D I ⟨i, hlt, p, q⟩ => hs i hlt pins s σ' H' D I ⟨p, q⟩
  refine ps_for hp hc (pi_range1 hg hm (pda_cons (he σ H pre) pda_nil hst) hst) (pg_name hN hi hx hf) hb hfs pins s σ H D I ⟨rfl, Same.refl _, fun vs H2 e2 hvs => ?_⟩
  cases hvs with
  | cons h l =>
    cases h; cases l
    refine ⟨j, rfl, hj.1, hj.2, ?_⟩
    refine for_range (lo := 0) (g := gName n) (tb := tTurnQ n j.toNat P) P (h0 σ H H2 pre e2) (fun i σ1 H3 hlt p => ?_) (fun σ1 H3 p => q _ _ (hd σ1 H3 p))
    exact ⟨i, hlt, ⟨σ1, by rw [Int.zero_add], p⟩, fun σ2 H4 p4 => p4⟩
theorem pq1_append {apos cpos : Pos} (h : ∀ σ H, Pre σ H → ∃ l xs d, PD X o σ H (.adr l) ∧ H l = some (.lst xs) ∧ xs.length < sizeLine ∧ PD X a σ H d ∧ ∀ v H', Same H H' → Is X.K H' d v → Nx σ (upd H' l (.lst (xs ++ [v]))))
    (hbase : attributeBase o "append" X.env (eval o X.env) = eval o X.env := by rfl)
    (hfew : ((backTo cpos (starEach [a] X.env)).all (fun x => !x.1) && (backToKw cpos (keywordEach [] X.env)).all (fun x => x.1.isSome)
      && decide ([a].length + ([] : List Keyword).length + (if ([] : List Keyword).isEmpty then 0 else 1) < 30)) = true := by rfl)
    (hline : (apos.endLine == cpos.line) = true := by rfl) (hs : starEach [a] X.env = (false, eval a X.env) :: starEach [] X.env := by rfl) (hplain : (backTo cpos (starEach [] X.env)).any (·.1) = false := by rfl)
    (hsw : swapsWith (.Call (.Attribute o "append" apos) [a] [] cpos) none pos.line X.env = pure false := by rfl) :
    PQ1 X (.Expr (.Call (.Attribute o "append" apos) [a] [] cpos) pos) Pre Nx := fun pins s σ H D I ⟨p, q⟩ => by
  obtain ⟨l, xs, d, ho, hl, hz, ha, f⟩ := h σ H p
  refine ps_expr (pe_bm PySem.F.plainAttrs_list PySem.F.slot_list_append PySem.F.type_list_append mt_append ho (pda_cons ha pda_nil hs) hbase hfew hline hs hplain) hsw pins s σ H D I ⟨rfl, Same.refl _, fun v H2 e2 hv => ?_⟩
  cases hv
  refine ⟨.inl ⟨rfl, xs, SqL.of (e2 _ _ hl)⟩, rfl, e2, fun vs H3 e3 hvs => ?_⟩
  cases hvs with
  | cons h l' =>
    cases l'
    exact ⟨l, xs, _, rfl, rfl, (e2.trans e3) _ _ hl, hz, q _ _ (f _ H3 (e2.trans e3) h)⟩
theorem pq1_setL {p1 : Pos} (h : ∀ σ H, Pre σ H → ∃ l xs j m d, PD X o σ H (.adr l) ∧ H l = some (.lst xs) ∧ PD X i' σ H (.int j) ∧ ixN xs.length j = some m ∧ PD X e σ H d ∧ ∀ v H', Same H H' → Is X.K H' d v → Nx σ (upd H' l (.lst (xs.set m v))))
    (ha : ∀ v, assign (.Subscript o i' p1) X.env v = (do
      let ov ← holding [v] (eval o X.env)
      let iv ← holding [v, ov] (eval i' X.env)
      standAt p1
      holding [v, ov, iv] (setItem ov iv v)
      release [v, ov, iv] []) := by intro _; rfl)
    (hs : swapsWithSole [.Subscript o i' p1] e pos.line X.env = pure false := by rfl) (hw : swappedStores [.Subscript o i' p1] e X.env = pure none := by rfl)
    (h1 : (assignEach [.Subscript o i' p1] X.env).map (·.2) = [assign (.Subscript o i' p1) X.env] := by rfl) :
    PQ1 X (.Assign [.Subscript o i' p1] e pos) Pre Nx := fun pins s σ H D I ⟨p, q⟩ => by
  obtain ⟨l, xs, j, m, d, ho, hl, hi, hm, he, f⟩ := h σ H p
  refine ps_asg he (pg_sub ho hi set_list ha) hs hw h1 pins s σ H D I ⟨rfl, Same.refl _, fun v H2 e2 hv => ⟨rfl, e2, fun x H3 e3 hx => ?_⟩⟩
  cases hx
  refine ⟨rfl, e2.trans e3, fun y H4 e4 hy => ?_⟩
  cases hy
  have e24 := (e2.trans e3).trans e4
  exact ⟨l, xs, j, m, rfl, rfl, e24 _ _ hl, hm, q _ _ (f v H4 e24 (hv.mono (e3.trans e4)))⟩
end
def tL (K : PySem.W.Frag) (σ : L2.St) (H : Hp) (ds : List D) : TE := fun σ' H1 Q => σ' = σ ∧ Same H H1 ∧ ∀ l vs H2, Same H1 H2 → H1 l = none → H2 l = some (.lst vs) → IsL K H2 ds vs → Q (.ref l) H2
def PL (X : Cx) (e : Expr) (σ : L2.St) (H : Hp) (ds : List D) : Prop := PE X e (tL X.K σ H ds)
section
variable {X : Cx} {e a : Expr} {es : List Expr} {σ : L2.St} {H : Hp} {ds : List D} {pos p : Pos} {Pre Nx : L2.St → Hp → Prop}
theorem PL.pd (h : PL X e σ H ds) : PD X e σ H (.lst ds) := PE.imp h fun σ' H1 Q ⟨hs, e1, q⟩ => ⟨hs, e1, fun l vs H2 e2 hn hl hv => q _ _ e2 (.lst (SqL.of hl) hv)⟩
theorem pl_lst (h : PDA X es σ H ds) (hl : ds.length ≤ 1000 := by simp) : PL X (.List es pos) σ H ds :=
  PE.imp (pe_lst h) fun σ' H1 Q ⟨hs, e1, q⟩ => ⟨hs, e1, fun vs H2 e2 hvs => ⟨Nat.le_of_lt (small1000 (by rw [← hvs.length]; exact hl)), fun p hp => q p vs _ (e2.trans (same_upd hp)) (e2.free hp) upd_same (hvs.mono (same_upd hp))⟩⟩
theorem pl_listT (hm : X.mg "list" = none) (ha : PD X a σ H (.tup ds)) (hg : Gl X "list" := by rfl) (he : starEach [a] X.env = (false, eval a X.env) :: starEach [] X.env := by rfl) : PL X (.Call (.Name "list" p) [a] [] pos) σ H ds :=
  PE.imp (pe_callTy call_list_of hg hm (by decide +kernel) (pda_cons ha pda_nil he) (by decide) (by decide) he rfl) fun σ' H1 Q ⟨hs, e1, q⟩ => ⟨hs, e1, fun vs H2 e2 hvs => by
    cases hvs with
    | cons h l =>
      cases l
      cases h with
      | tup hq l => exact ⟨_, _, rfl, .inr hq, fun p hp => q p _ _ (e2.trans (same_upd hp)) (e2.free hp) upd_same (l.mono (same_upd hp))⟩⟩
theorem pq1_new (i : Nat) {x : Str} {pos' : Pos} (hN : X.N.Nodup) (h : ∀ σ H, Pre σ H → ∃ ds, PL X e σ H ds ∧ ∀ l vs H', Same H H' → H l = none → H' l = some (.lst vs) → IsL X.K H' ds vs → Nx (σ.set i (some (.ref l))) H') (hi : X.N[i]? = some x := by rfl)
    (hx : Loc X.env.scope x := by first | exact Or.inl rfl | exact Or.inr rfl) (hs : swapsWith e (some (.Name x pos')) pos.line X.env = pure false := by rfl)
    (hf : X.fn x = true ∨ X.env.scope.names.lookup x = some .local := by first | exact .inl rfl | exact .inr rfl | assumption) : PQ1 X (.Assign [.Name x pos'] e pos) Pre Nx := fun pins s σ H D I ⟨p, q⟩ => by
  obtain ⟨ds, h1, h2⟩ := h σ H p
  exact ps_set hN hi hx h1 hs hf pins s σ H D I ⟨rfl, Same.refl _, fun l vs H2 e2 hn hl hv => q _ _ (h2 l vs H2 e2 hn hl hv)⟩
end
theorem putF_len (f : Str) (v : V) : ∀ fs : List (Str × V), (putF f v fs).length ≤ fs.length + 1
  | [] => Nat.le_refl _
  | (g, u) :: r => by
    unfold putF
    split
    · simp
    · have := putF_len f v r
      simp only [List.length_cons]; omega
section
variable {X : Cx} {e o : Expr} {pos : Pos} {Pre Nx : L2.St → Hp → Prop}
theorem pq1_fld {f : Str} {pos' : Pos} (h : ∀ σ H, Pre σ H → ∃ a C dx fs d, PD X o σ H (.adr a) ∧ H a = some (.ins C dx fs) ∧ Cls X.K C ∧ NoAttr X.K C f ∧ fs.length < 1000 ∧ PD X e σ H d ∧ ∀ v H', Same H H' → Is X.K H' d v → Nx σ (upd H' a (.ins C dx (putF f v fs))))
    (hs : swapsWith e (some (.Attribute o f pos')) pos.line X.env = pure false := by rfl) : PQ1 X (.Assign [.Attribute o f pos'] e pos) Pre Nx := fun pins s σ H D I ⟨p, q⟩ => by
  obtain ⟨a, C, dx, fs, d, ho, ha, hc, hn, hl, he, k⟩ := h σ H p
  refine ps_fld ho he hs pins s σ H D I ⟨rfl, Same.refl _, fun v H2 e2 hv => ⟨rfl, e2, fun x H3 e3 hx => ?_⟩⟩
  cases hx
  exact ⟨a, C, dx, fs, rfl, (e2.trans e3) _ _ ha, hc, hn, hl, q _ _ (k v H3 (e2.trans e3) (hv.mono e3))⟩
end
mutual
def noL : D → Bool
  | .tup ds => noLs ds
  | .lst _ => false
  | .obj _ _ => true
  | .non => true
  | .bl _ => true
  | .int _ => true
  | .str _ => true
  | .ty _ => true
  | .adr _ => true
  | .exc _ => true
  | .ob _ _ ds => noLs ds
def noLs : List D → Bool
  | [] => true
  | d :: ds => noL d && noLs ds
end
section
variable {K : PySem.W.Frag} {H : Hp} {l : Addr} {xs : List V} {o : HO}
theorem sqT_upd {p : Addr} {ys : List V} (hl : H l = some (.lst xs)) (h : SqT K H p ys) : SqT K (upd H l o) p ys := by
  rcases h with (h | ⟨b, h⟩) | h
  · exact .inl (.inl (by rw [upd_ne (ne_of h hl (by intro z; cases z))]; exact h))
  · exact .inl (.inr ⟨b, by rw [upd_ne (ne_of h hl (by intro z; cases z))]; exact h⟩)
  · exact .inr h
mutual
theorem Is.updL (hl : H l = some (.lst xs)) : ∀ {d : D} {v : V}, Is K H d v → noL d = true → Is K (upd H l o) d v
  | _, _, .non, _ => .non
  | _, _, .bl b, _ => .bl b
  | _, _, .int i, _ => .int i
  | _, _, .str x, _ => .str x
  | _, _, .ty n, _ => .ty n
  | _, _, .adr a, _ => .adr a
  | _, _, .tup h q, n => .tup (sqT_upd hl h) (IsL.updL hl q n)
  | _, _, .lst _ _, n => absurd n (by simp [noL])
  | _, _, .obj h, n => .obj (by rw [upd_ne (ne_of h hl (by intro z; cases z))]; exact h)
  | _, _, .exc h, _ => .exc (by rw [upd_ne (ne_of h hl (by intro z; cases z))]; exact h)
  | _, _, .ob h1 h2 h3 h4, n => .ob (by rw [upd_ne (ne_of h1 hl (by intro z; cases z))]; exact h1) h2 h3 (IsL.updL hl h4 n)
theorem IsL.updL (hl : H l = some (.lst xs)) : ∀ {ds : List D} {vs : List V}, IsL K H ds vs → noLs ds = true → IsL K (upd H l o) ds vs
  | _, _, .nil, _ => .nil
  | _, _, .cons h q, n => by
    have n' := n
    simp only [noLs, Bool.and_eq_true] at n'
    exact .cons (Is.updL hl h n'.1) (IsL.updL hl q n'.2)
end
end
def DoesM (P : Program) (w : World) (K : PySem.W.Frag) (mg : Str → Option Value) (base : Heap) (n : Nat) (C : Addr) (m : Str) (ps : List Str) (R : List D → D → Prop) : Prop :=
  ∃ f fd, FnOk P w K mg base CX0 n f fd ps (spD K R) ∧ Meth K C m f ∧ Binds K fd ps []
def HasM (K : PySem.W.Frag) (C : Addr) (m qual : Str) (st : Stmt) (ps : List Str) : Prop := ∃ f fd, Fun K m qual st f fd ∧ Meth K C m f ∧ Binds K fd ps []
section
variable {P : Program} {w : World} {K : PySem.W.Frag} {mg : Str → Option Value} {base : Heap}
theorem HasM.does {C : Addr} {m qual : Str} {st : Stmt} {N ps : List Str} {n : Nat} {R : List D → D → Prop} (h : HasM K C m qual st ps) (S : FnScope N ps (defScope st)) (len : ∀ ds r, R ds r → ds.length = ps.length)
    (hb : ∀ (f : Addr) (cdv : Value) (A : Around) (outer : List Env) (s : Shared) (H : Hp) (E : XK) (vs : List V) (ds : List D) (r : D), Room n (cx0 P w K mg base N qual st f cdv A outer s H E).A → IsL K H ds vs → R ds r →
      PR (cx0 P w K mg base N qual st f cdv A outer s H E) (defBody st) (start N vs) H r) : DoesM P w K mg base (n + 1) C m ps R := by
  obtain ⟨f, fd, F, hm, hbd⟩ := h
  exact ⟨f, fd, fun_ok F S len fun cdv A outer s H E vs ds r hr hl hR => .inl (hb f cdv A outer s H E vs ds r hr hl hR), hm, hbd⟩
theorem DoesM.mono {C : Addr} {m : Str} {ps : List Str} {n k : Nat} {R : List D → D → Prop} (h : DoesM P w K mg base n C m ps R) (hl : n ≤ k) : DoesM P w K mg base k C m ps R :=
  let ⟨f, fd, F, r⟩ := h
  ⟨f, fd, F.mono hl, r⟩
theorem hasM_mk {C : Addr} {m qual : Str} {st : Stmt} {ps : List Str} {f : Addr} {oc : Value} {od an : Option Addr} {osl : Array (Option Value)} {kV doc pm cdv ct : Value}
    (a : PySem.W.findIn K (.ref C) m = some (some (.ref f))) (i : PySem.W.isFn K (.ref f) = true) (l : K.lookup f = some ⟨oc, od, .func (PySem.W.fnOf m qual (defArgs st) (defBody st) (defScope st) .none kV doc pm an cdv ct), osl⟩) (c : PySem.W.codeIn K cdv qual = true) (k : PySem.W.keepIn K (.ref f) = true)
    (hb : ∀ (kV doc pm : Value) (an : Option Addr) (cdv ct : Value) (us : List Value), us.length = ps.length → bindArgs (PySem.W.fnOf m qual (defArgs st) (defBody st) (defScope st) .none kV doc pm an cdv ct) ⟨us, []⟩ = pure (ps.zip us)) : HasM K C m qual st ps :=
  let F := fun_mk (st := st) l c k
  ⟨f, _, F, ⟨a, i, k⟩, F.binds hb⟩
end
section
variable {X : Cx} {e o : Expr} {es : List Expr} {σ : L2.St} {H : Hp} {d : D} {ds : List D} {p pos apos : Pos} {C : Addr} {fs : List (Str × V)}
theorem pd_doesM0 {n : Nat} {m : Str} {ps : List Str} {R : List D → D → Prop} {pl : Sem Bool} (h : DoesM X.prog X.w X.K X.mg X.base n C m ps R) (hc : Cls X.K C) (hr : Room n X.A) (ho : PD X o σ H (.obj C fs)) (hl : fs.lookup m = none) (hR : R [.obj C fs] d)
    (ht : eval (.Call (.Attribute o m apos) [] [] pos) X.env = (do
      let ov ← eval o X.env
      standAt apos.atName
      let (f, first) ← holding [ov] (getMethod ov m pl)
      callWith pos f first (backTo pos (starEach [] X.env)) (backToKw pos (keywordEach [] X.env))) := by rfl) : PD X (.Call (.Attribute o m apos) [] [] pos) σ H d := by
  obtain ⟨f, fd, F, hm, hb⟩ := h
  exact pd_meth0 ho hc hm F hr hb pass0 hl hR ht
def spMake (K : PySem.W.Frag) (C : Addr) (R : List D → List (Str × V) → Prop) : Sp := fun vs H Q _ => ∃ p dx us ds fs, vs = .ref p :: us ∧ IsL K H ds us ∧ R ds fs ∧ H p = some (.ins C dx []) ∧
  ∀ H', (∀ b o, H b = some o → b ≠ p → H' b = some o) → H' p = some (.ins C dx fs) → Q .non H'
def Makes (P : Program) (w : World) (K : PySem.W.Frag) (mg : Str → Option Value) (base : Heap) (n : Nat) (C : Addr) (x : Str) (ps : List Str) (R : List D → List (Str × V) → Prop) : Prop :=
  ∃ f fd, FnOk P w K mg base CX0 n f fd ps (spMake K C R) ∧ Mk K C f ∧ mg x = some (.ref C) ∧ Binds K fd ps []
theorem pd_makes {n : Nat} {x : Str} {ps : List Str} {R : List D → List (Str × V) → Prop} (h : Makes X.prog X.w X.K X.mg X.base n C x ps R) (hr : Room (n + 1) X.A) (ha : PDA X (e :: es) σ H ds) (hR : R ds fs) (hg : Gl X x := by rfl) (hdb : (x == ("__debug__" : Str)) = false := by decide)
    (he : starEach (e :: es) X.env = (false, eval e X.env) :: starEach es X.env := by rfl) (hpl : (backTo pos (starEach es X.env)).any (·.1) = false := by rfl) : PD X (.Call (.Name x p) (e :: es) [] pos) σ H (.obj C fs) := by
  obtain ⟨f, fd, F, M, hm, hb⟩ := h
  refine PD.of (pe_make (dvs := []) M F hr hg hm hb .nil pass0 ha hdb he hpl) fun H1 Q e1 q => ⟨rfl, e1, fun vs H2 e2 hvs x' dx hx hdx hne => ?_⟩
  have s0 : Same H2 (upd (upd H2 dx (.own x')) x' (.ins C dx [])) := fun b o e => by
    rw [upd_ne (ne_of_none e hx), upd_ne (ne_of_none e hdx)]
    exact e
  refine ⟨x', dx, vs, ds, fs, by rw [List.append_nil], hvs.mono s0, hR, upd_same, fun H' k1 k2 => ⟨rfl, ?_⟩⟩
  exact q _ _ (e2.trans fun b o e => k1 b o (s0 b o e) (ne_of_none e hx)) (.obj k2)
end
end L3
set_option Elab.async false
set_option linter.all false
namespace M
open L3
abbrev Pr := Int × Int
abbrev Stg := Pr × Pr × Pr
def won (q : Pr) (g : Int) : Bool := decide (g ≤ mxP q) && decide (2 ≤ absI (q.1 - q.2))
def wonL (q : Pr) (g l : Int) : Bool := decide (g ≤ mxP q) && decide (l ≤ absI (q.1 - q.2))
def more (q : Pr) (w : Int) : Pr := if w = 0 then (q.1 + 1, q.2) else (q.1, q.2 + 1)
def aft (g1 g2 : Int) (s : Stg) (w : Int) : Stg :=
  if won (more s.2.2 w) g1 = true then
    if won (more s.2.1 w) g2 = true then (more s.1 w, (0, 0), (0, 0)) else (s.1, more s.2.1 w, (0, 0))
  else (s.1, s.2.1, more s.2.2 w)
def onB (q : Pr) (g : Int) : Bool := decide (0 ≤ mnP q) && !won q g
def outB (g3 : Int) (q : Pr) : Bool := decide (mnP q < 0) || (decide (g3 ≤ mnP q) || decide (g3 < mxP q))
def reached (g1 g2 g3 : Int) (s : Stg) : Bool :=
  if outB g3 s.1 = true then false
  else if mxP s.1 = g3 then decide (s.2.1 = (0, 0)) && decide (s.2.2 = (0, 0))
  else onB s.2.1 g2 && onB s.2.2 g1
def over (g3 : Int) (s : Stg) : Bool := decide (mxP s.1 = g3)
def st0 : Stg := ((0, 0), (0, 0), (0, 0))
def Good (g1 g2 g3 : Int) : Prop := 1 ≤ g1 ∧ g1 ≤ 5 ∧ 1 ≤ g2 ∧ g2 ≤ 6 ∧ 1 ≤ g3 ∧ g3 ≤ 3
theorem mn_more {q : Pr} {w : Int} : mnP q ≤ mnP (more q w) := by
  unfold more mnP
  by_cases h : w = 0 <;> simp only [h, if_true, if_false] <;> split <;> split <;> omega
def wnr (g3 : Int) (s : Stg) : D := if s.1.1 = g3 then .int 0 else if s.1.2 = g3 then .int 1 else .non
theorem wnr_non {g1 g2 g3 : Int} {s : Stg} (h : reached g1 g2 g3 s = true) (ho : over g3 s = false) : wnr g3 s = .non := by
  obtain ⟨sp, gp, pp⟩ := s
  have ho' : ¬ mxP sp = g3 := by simpa [over] using ho
  unfold reached at h
  by_cases hb : outB g3 sp = true
  · rw [if_pos hb] at h; exact absurd h Bool.false_ne_true
  · have hb' : ¬ mnP sp < 0 ∧ ¬ g3 ≤ mnP sp ∧ ¬ g3 < mxP sp := by simpa [outB] using hb
    unfold wnr
    unfold mxP mnP at *
    have e1 : ¬ sp.1 = g3 := by split at ho' <;> split at hb' <;> omega
    have e2 : ¬ sp.2 = g3 := by split at ho' <;> split at hb' <;> omega
    rw [if_neg e1, if_neg e2]
theorem wnr_over {g1 g2 g3 : Int} {s : Stg} (h : reached g1 g2 g3 s = true) (ho : over g3 s = true) : wnr g3 s = .int (if s.1.1 = g3 then 0 else 1) ∧ (s.1.1 = g3 ∨ s.1.2 = g3) := by
  obtain ⟨sp, gp, pp⟩ := s
  have ho' : mxP sp = g3 := by simpa [over] using ho
  unfold wnr
  unfold mxP at ho'
  by_cases e1 : sp.1 = g3
  · simp [e1]
  · have e2 : sp.2 = g3 := by split at ho' <;> omega
    simp [e1, e2]
def run (g1 g2 : Int) : Stg → List Int → Stg
  | s, [] => s
  | s, w :: ws => run g1 g2 (aft g1 g2 s w) ws
def Legal (g1 g2 g3 : Int) : Stg → List Int → Prop
  | _, [] => True
  | s, w :: ws => over g3 s = false ∧ Legal g1 g2 g3 (aft g1 g2 s w) ws
theorem run_append (g1 g2 : Int) : ∀ (s : Stg) (a b : List Int), run g1 g2 s (a ++ b) = run g1 g2 (run g1 g2 s a) b
  | _, [], _ => rfl
  | s, w :: a, b => run_append g1 g2 (aft g1 g2 s w) a b
theorem legal_append {g1 g2 g3 : Int} : ∀ {s : Stg} {a b : List Int}, Legal g1 g2 g3 s (a ++ b) ↔ Legal g1 g2 g3 s a ∧ Legal g1 g2 g3 (run g1 g2 s a) b
  | _, [], _ => by simp [Legal, run]
  | s, w :: a, b => by
    have := legal_append (g1 := g1) (g2 := g2) (g3 := g3) (s := aft g1 g2 s w) (a := a) (b := b)
    simp only [List.cons_append, Legal, run, this, and_assoc]
end M
set_option Elab.async false
set_option linter.all false
namespace M
open L3 L2
def cellF (ns : List Int) (k : Int) : Int := (ns[k.toNat]?).getD 0
def divs : Nat → Int → Int
  | 0, c => c
  | n + 1, c => divs n c / 1000003
def drawF (ns : List Int) (k : Int) : Int :=
  if cellF ns 61 % 2 = 0 then divs (k / 61).toNat (cellF ns (k % 61)) % 1000003
  else
    ((((cellF ns (k % 61) + 7919 * k + 104729) * 48271 % 2147483647) * ((cellF ns (k % 61) + 7919 * k + 104729) * 48271 % 2147483647) % 2147483647) * 16807 % 2147483647) / 8
theorem atI_cell {ns : List Int} {k : Int} (h0 : 0 ≤ k) (h1 : k < ns.length) : atI (ns.map D.int) k = some (.int (cellF ns k)) := by
  unfold atI ixN cellF
  rw [List.length_map, if_pos h0, if_pos h1]
  show (ns.map D.int)[k.toNat]? = _
  rw [List.getElem?_map]
  have : k.toNat < ns.length := by omega
  rw [List.getElem?_eq_getElem this]
  rfl
theorem cell_out {ns : List Int} {k : Int} (h0 : 0 ≤ k) (h1 : ¬ k < ns.length) : cellF ns k = 0 := by
  unfold cellF
  rw [List.getElem?_eq_none (by omega)]
  rfl
def rulesF (ns : List Int) : Int × Int × Int :=
  if drawF ns 1 % 8 = 7 then (1 + drawF ns 2 % 5, 1 + drawF ns 3 % 6, 1)
  else if drawF ns 1 % 8 = 6 then (1 + drawF ns 2 % 2, 1 + drawF ns 3 % 2, 1 + drawF ns 4 % 3)
  else if drawF ns 1 % 8 = 5 then (1 + drawF ns 2 % 2, 3 + drawF ns 3 % 4, 2 + drawF ns 4 % 2)
  else (1 + drawF ns 2 % 3, 1 + drawF ns 3 % 2, 1 + drawF ns 4 % 2)
theorem rulesF_good (ns : List Int) : Good (rulesF ns).1 (rulesF ns).2.1 (rulesF ns).2.2 := by
  unfold rulesF Good
  split
  · simp only []; omega
  · split
    · simp only []; omega
    · split <;> simp only [] <;> omega
def whoF (ns : List Int) (mode j : Int) (s : Stg) : Int :=
  if (decide (mode = 1) && (decide (0 < drawF ns j % 3) && !decide (s.2.2.1 = s.2.2.2))) = true then (if decide (s.2.2.2 < s.2.2.1) = true then 1 else 0) else drawF ns j % 2
theorem whoF_01 (ns : List Int) (mode j : Int) (s : Stg) : whoF ns mode j s = 0 ∨ whoF ns mode j s = 1 := by
  unfold whoF
  split
  · split <;> simp
  · omega
def stepF (ns : List Int) (g1 g2 g3 mode a : Int) (k : Nat) (z : List Int × Stg) : List Int × Stg :=
  if over g3 z.2 = true then z else (z.1 ++ [whoF ns mode (a + k) z.2], aft g1 g2 z.2 (whoF ns mode (a + k) z.2))
def walkF (ns : List Int) (g1 g2 g3 mode a : Int) : Nat → List Int × Stg
  | 0 => ([], st0)
  | k + 1 => stepF ns g1 g2 g3 mode a k (walkF ns g1 g2 g3 mode a k)
structure Walked (g1 g2 g3 : Int) (n : Nat) (z : List Int × Stg) : Prop where
  st : z.2 = run g1 g2 st0 z.1
  leg : Legal g1 g2 g3 st0 z.1
  w01 : ∀ w ∈ z.1, w = 0 ∨ w = 1
  len : z.1.length ≤ n
theorem walked (ns : List Int) (g1 g2 g3 mode a : Int) : ∀ n : Nat, Walked g1 g2 g3 n (walkF ns g1 g2 g3 mode a n)
  | 0 => ⟨rfl, trivial, fun _ h => (by cases h), Nat.le_refl _⟩
  | n + 1 => by
    have ih := walked ns g1 g2 g3 mode a n
    unfold walkF stepF
    by_cases h : over g3 (walkF ns g1 g2 g3 mode a n).2 = true
    · rw [if_pos h]; exact ⟨ih.st, ih.leg, ih.w01, Nat.le_succ_of_le ih.len⟩
    · rw [if_neg h]
      have h' : over g3 (walkF ns g1 g2 g3 mode a n).2 = false := by simpa using h
      refine ⟨?_, ?_, ?_, ?_⟩
      · show aft _ _ _ _ = run g1 g2 st0 (_ ++ [_])
        rw [run_append, ← ih.st]; rfl
      · show Legal g1 g2 g3 st0 (_ ++ [_])
        rw [legal_append, ← ih.st]
        exact ⟨ih.leg, h', trivial⟩
      · intro w hw
        rcases List.mem_append.mp hw with hw | hw
        · exact ih.w01 w hw
        · rw [List.mem_singleton] at hw; subst hw; exact whoF_01 _ _ _ _
      · show (_ ++ [_]).length ≤ _
        have := ih.len
        simp only [List.length_append, List.length_singleton]; omega
end M
set_option Elab.async false
set_option linter.all false
namespace M
open L3 L2
structure Told (g1 g2 g3 : Int) (ws : List Int) (z : Stg × Bool) : Prop where
  ok : z.2 = false → Legal g1 g2 g3 st0 ws ∧ z.1 = run g1 g2 st0 ws
  no : z.2 = true → ∃ m, m < ws.length ∧ Legal g1 g2 g3 st0 (ws.take m) ∧ over g3 (run g1 g2 st0 (ws.take m)) = true ∧ z.1 = run g1 g2 st0 (ws.take m)
end M
set_option Elab.async false
set_option linter.all false
set_option maxRecDepth 100000
namespace L3
open PySem PySem.Spec PyProof.Rows L2
section
variable {prog : Program} {w : World} {A : Around} {R : Result → Shared → Prop} {s : Shared}
theorem compLoop_list {elt target iter : Expr} {scope : Scope} {pos : Pos} {it acc : Value} {env : Env} (I : Nat → Shared → Prop)
    (turn : ∀ n s, I n s → wpAny (model prog w) A (pyNext it) (fun r s₁ => match r with
      | none => R (.ok .next) s₁
      | some v => wpAny (model prog w) A (letOwnedTupleGo target it v) (fun _ s₁ => wpAny (model prog w) A (assign target env v) (fun _ s₂ => wpAny (model prog w) A (eval elt env) (fun x s₃ =>
          wpAny (model prog w) A (call (.builtin "list.append") [acc, x]) (fun _ s₄ => ∃ m, m < n ∧ I m s₄) (notedBy (model prog w) A env fun e s' => R (.error e) s') s₃)
          (notedBy (model prog w) A env fun e s' => R (.error e) s') s₂) (notedBy (model prog w) A env fun e s' => R (.error e) s') s₁) (notedBy (model prog w) A env fun e s' => R (.error e) s') s₁)
      (notedBy (model prog w) A env fun e s' => R (.error e) s') s)
    (n : Nat) (h : I n s) : codeAny (model prog w) A (.compLoop (.ListComp elt [⟨target, iter, [], 0⟩] scope pos) 0 it acc env) R s := by
  refine codeAny_loop rfl I (fun n s hI => ?_) n h
  show wpAny _ _ ((compTurn (.ListComp elt [⟨target, iter, [], 0⟩] scope pos) 0 it acc env).onRaise (fun x => do noteFrame x env; theTreesLotGoes x)) _ _ s
  refine wpAny_noted ?_
  rw [compTurn_list1]
  refine wpAny_bind (wpAny_standAt (wpAny_bind (wpAny_mono (turn n s hI) (fun r s₁ h₁ => ?_) fun _ _ h' => h')))
  cases r with
  | none => exact wpAny_pure h₁
  | some v =>
    refine wpAny_bind (wpAny_mono h₁ (fun _ s₁ h₁ => ?_) fun _ _ h' => h')
    exact wpAny_bind (wpAny_mono h₁ (fun _ s₂ h₂ => wpAny_bind (wpAny_bind (wpAny_mono h₂ (fun x s₃ h₃ => wpAny_bind (wpAny_mono h₃
      (fun _ s₄ h₄ => wpAny_pure (wpAny_pure ⟨rfl, h₄⟩)) fun _ _ h' => h')) fun _ _ h' => h'))) fun _ _ h' => h')
end
abbrev cxComp (X : Cx) (scope : Scope) (cl : List (Str × Addr)) (N : List Str) (C : Addr) (s2 : Shared) (H2 : Hp) (fp : List Addr) : Cx where
  prog := X.prog
  w := X.w
  K := X.K
  mg := X.mg
  base := X.base
  A := X.A
  N := N
  s₀ := s2
  H₀ := H2
  env := compEnvC scope cl C X.env
  outer := X.stack
  stack := X.stack
  ex := fp
  fn := fun _ => false
  calm := X.calm
  pn := []
  xe := fun _ _ => False
def Feeds (K : PySem.W.Frag) (J : It) (H : Hp) (n : Nat) (din : Nat → D) : Prop := ∀ H3, Same H H3 → (∀ i, i < n → J.go i H3 ∧ ∀ v H', J.yld i H3 v H' → H' = H3 ∧ Is K H3 (din i) v) ∧ J.stop n H3
def Gives (X : Cx) (tg iter : Expr) (σ : L2.St) (H : Hp) (n : Nat) (din : Nat → D) : Prop := ∃ wi, PI X tg iter wi ∧ ∀ H1 R, Same H H1 → (∀ J H2, Same H1 H2 → Feeds X.K J H2 n din → R J H2) → wi σ H1 R
structure Takes (X : Cx) (σ : L2.St) (scope : Scope) (cl : List (Str × Addr)) (N : List Str) (σc : L2.St) (x : Str) : Prop where
  clos : closureFor scope X.env = pure cl
  cell : ∀ y ∈ scope.names, y.2 ≠ .cell
  kind : scope.kind = .function
  names : ∀ y ∈ scope.names, y.2 = .local → scope.names.lookup y.1 = some .local
  loc : scope.names.lookup x = some .local
  nd : N.Nodup
  first : N[0]? = some x
  len : σc.length = N.length
  sub : ∀ y c, cl.lookup y = some c → X.env.cells.lookup y = some c
  has : ∀ y, ((relabel scope X.env).names.lookup y = some .cell ∨ (relabel scope X.env).names.lookup y = some .free) → ∃ c, cl.lookup y = some c
  cap : ∀ (i : Nat) (y : Str) (v : V), N[i]? = some y → σc[i]? = some (some v) → ∃ j : Nat, X.N[j]? = some y ∧ σ[j]? = some (some v) ∧ X.env.kindOf y = some .cell ∧ (∃ c, cl.lookup y = some c) ∧
    ((relabel scope X.env).names.lookup y = some .cell ∨ (relabel scope X.env).names.lookup y = some .free)
section
variable {X : Cx} {pins : List (Addr × Obj)} {σ σc : L2.St} {H2 : Hp} {s2 : Shared} {scope : Scope} {cl : List (Str × Addr)} {N : List Str} {x : Str} {px pos : Pos} {elt iter : Expr} {J : It} {fp : List Addr} {it : Addr} {tn : Nat → Heap → Prop} {n : Nat} {din dout : Nat → D}
theorem comp_ok (I : Inv X pins σ H2 s2) (t : Takes X σ scope cl N σc x) (fo : ∀ b ∈ fp, FpOk X pins H2 b) (fl : ∀ b ∈ fp, b < s2.heap.objs.size) {C : Addr} (hC : s2.heap.objs.size ≤ C) : (cxComp X scope cl N C s2 H2 fp).Ok where
  mod := I.mod
  kind := t.kind
  glob := I.ok.glob
  blt := I.ok.blt
  above := hC
  inj := fun y z c h1 h2 => I.ok.inj y z c (t.sub _ _ h1) (t.sub _ _ h2)
  has := fun y hy => t.has y hy
  cab := fun _ _ h => nomatch h
  hd := I.ok.hd
  frames := I.ok.frames
  stk := .inl rfl
  exf := fun b hb => ⟨Nat.ne_of_lt (Nat.lt_of_lt_of_le (fl b hb) hC), fun y c h => (fo b hb).2.2.2.2.1 y c (t.sub _ _ h)⟩
  bs := I.bs
  bsz := Nat.le_trans I.ok.bsz I.sz
  noex := fun b o e hb => by
    rcases (fo b hb).2.2.2.1 with z | z
    · exact I.ok.noex b o e z
    · exact absurd (Nat.lt_of_lt_of_le (Heap.lt_size e) (Nat.le_trans I.ok.bsz z)) (Nat.lt_irrefl _)
  exfs := fun b hb hb2 => by
    rcases List.mem_cons.mp (I.stkSub b hb2) with e | e
    · exact (fo b hb).2.1 e
    · exact (fo b hb).2.2.1 e
  funs := I.stack
  frf := I.stkFree
theorem comp_block (I : Inv X pins σ H2 s2) (hc : X.calm = true) (t : Takes X σ scope cl N σc x) (T : Turn X.prog X.w X.K (.Name x px) J fp it tn) (st : tn 0 s2.heap) (fo : ∀ b ∈ fp, FpOk X pins H2 b) (fd : Feeds X.K J H2 n din) (hn : n ≤ 1000)
    (hno : ∀ i, noL (dout i) = true)
    (helt : ∀ (C : Addr) (i : Nat) (v : V) (H3 : Hp), i < n → Same H2 H3 → Is X.K H3 (din i) v → PD (cxComp X scope cl N C s2 H2 fp) elt (σc.set 0 (some v)) H3 (dout i))
    {RR : Value → Addr → Result → Shared → Prop} {E : Value → Shared → Prop}
    (hRR : ∀ (L C : Addr) (s' : Shared) (He : Hp) (vs : List V) (m : Str → Option Value), s2.heap.objs.size ≤ C → s'.os = s2.os → AllBare s'.gens → Un (frs X.stack) fp H2 He s2.heap s'.heap → HOk X.prog X.w He s'.heap → s'.heap.Ns C m → He C = none →
      Same H2 He → H2 L = none → He L = some (.lst vs) → IsL X.K He ((List.range n).map dout) vs → RR (.ref L) C (.ok .next) s') :
    wpAny (model X.prog X.w) X.A (newList []) (fun acc s₃ => wpAny (model X.prog X.w) X.A (newFunctionEnv scope X.env.globals cl [] X.env.qual none .none (some X.env)) (fun cenv s₄ =>
      codeAny (model X.prog X.w) X.A (.compStart (.ListComp elt [⟨.Name x px, iter, [], 0⟩] scope pos) 0 (.ref it) acc { cenv with scope := relabel scope X.env }) (RR acc cenv.locals) s₄) E s₃) E s2 := by
  have fl : ∀ b ∈ fp, b < s2.heap.objs.size := fun b hb => by obtain ⟨o, e, _⟩ := T.obj 0 _ st b hb; exact Heap.lt_size e
  refine wpAny_newObj_type (wpAny_newFunctionEnv t.cell (by intro y hy; simp at hy) (fun h₁ hns₁ hsb₁ => ?_) t.kind)
  dsimp only at hns₁ hsb₁ ⊢
  generalize hG2 : s2.heap.push { cls := .type "list", dict := none, data := .seq ([] : List Value).toArray } = G2 at hns₁ hsb₁ ⊢
  have hC : G2.objs.size = s2.heap.objs.size + 1 := by rw [← hG2, Heap.size_push]
  have hDC : s2.heap.objs.size ≠ G2.objs.size := by rw [hC]; exact Nat.ne_of_lt (Nat.lt_succ_self _)
  have hCle : s2.heap.objs.size ≤ G2.objs.size := by rw [hC]; exact Nat.le_succ _
  have old : ∀ b o, s2.heap.get? b = some o → h₁.get? b = some o := fun b o e => hsb₁.extBut b o (by rw [hC]; exact Nat.ne_of_lt (Nat.lt_succ_of_lt (Heap.lt_size e))) (Heap.get?_push_of_some _ (hG2 ▸ Heap.get?_push_of_some _ e))
  have hL : h₁.get? s2.heap.objs.size = some { cls := .type "list", dict := none, data := .seq ([] : List Value).toArray } := hsb₁.extBut _ _ hDC (Heap.get?_push_of_some _ (hG2 ▸ Heap.get?_push_size _ rfl))
  have fr0 : H2 s2.heap.objs.size = none := I.hok.fresh (Nat.le_refl _)
  have frC : H2 G2.objs.size = none := I.hok.fresh hCle
  have ok := comp_ok I t fo fl hCle
  have I0 : ∀ s₃ : Shared, s₃ = { s2 with heap := h₁, toks := s2.toks + ([] : List (Str × Value)).length } →
      Inv (cxComp X scope cl N G2.objs.size s2 H2 fp) [] σc (upd H2 s2.heap.objs.size (.lst [])) s₃ := by
    rintro s₃ rfl
    refine ⟨ok, rfl, I.bare, Un.laid old (Nat.le_refl _) fr0, ⟨_, hns₁, fun i y v e1 e2 e3 => ?_⟩, fun y c h => ?_, ?_, fun y c h => ?_, fun p hp => absurd (show p ∈ ([] : List (Addr × Obj)) from hp) (by simp), ?_, t.len⟩
    · obtain ⟨j, j1, j2, j3, ⟨c, j4⟩, j5⟩ := t.cap i y v e1 e2
      obtain ⟨m, _, hl⟩ := I.loc
      obtain ⟨u, ru, lk⟩ := hl j y v j1 j2 (.inr (.inl j3))
      refine ⟨u, ru, .inr ⟨j5, c, j4, ?_⟩⟩
      rcases lk with ⟨k1, _⟩ | ⟨_, c', k2, o, ho, hd⟩
      · rw [j3] at k1; cases k1
      · rw [t.sub _ _ j4] at k2; cases k2
        exact ⟨o, old _ _ ho, hd⟩
    · obtain ⟨v, o, ho, hd⟩ := I.cell y c (t.sub _ _ h)
      exact ⟨v, o, old _ _ ho, hd⟩
    · show upd H2 s2.heap.objs.size (.lst []) G2.objs.size = none
      rw [upd_ne (Ne.symm hDC)]; exact frC
    · obtain ⟨v, o, ho, hd⟩ := I.cell y c (t.sub _ _ h)
      rw [upd_ne (Nat.ne_of_lt (Heap.lt_size ho))]; exact I.freeC y c (t.sub _ _ h)
    · exact I.hok.laid old (Nat.le_refl _) ⟨Nat.zero_le _, [], 0, .nil, hL⟩
  have loop : ∀ s₃ : Shared, s₃ = { s2 with heap := h₁, toks := s2.toks + ([] : List (Str × Value)).length } →
      codeAny (model X.prog X.w) X.A (.compLoop (.ListComp elt [⟨.Name x px, iter, [], 0⟩] scope pos) 0 (.ref it) (.ref s2.heap.objs.size) (compEnvC scope cl G2.objs.size X.env))
        (RR (.ref s2.heap.objs.size) G2.objs.size) s₃ := by
    intro s₃ hs₃
    refine compLoop_list (fun k s' => ∃ i a He vs, k = n - i ∧ i ≤ n ∧ Inv (cxComp X scope cl N G2.objs.size s2 H2 fp) [] (σc.set 0 a) He s' ∧ tn i s'.heap ∧ (∀ b ∈ fp, He b = none) ∧ Same H2 He ∧
      He s2.heap.objs.size = some (.lst vs) ∧ IsL X.K He ((List.range i).map dout) vs) ?_ n ?_
    · rintro k s' ⟨i, a, He, vs, rfl, hi, I3, st3, f3, e3, hl3, hv3⟩
      have fpk : ∀ b ∈ fp, FpOk (cxComp X scope cl N G2.objs.size s2 H2 fp) [] He b := fun b hb =>
        ⟨f3 b hb, (ok.exf b hb).1, ok.exfs b hb, .inl hb, (ok.exf b hb).2, fun p hp => absurd (show p ∈ ([] : List (Addr × Obj)) from hp) (by simp)⟩
      by_cases hlt : i < n
      · obtain ⟨go, yl⟩ := (fd He e3).1 i hlt
        refine thn (T.item (cxComp X scope cl N G2.objs.size s2 H2 fp) rfl rfl rfl hc i [] s' _ He _ I3 fpk st3 go) fun r s4 ⟨u, hr, h4⟩ => ?_
        subst hr
        refine thn h4 fun _ s5 ⟨v, H5, I5, r5, y5, st5, f5⟩ => ?_
        obtain ⟨rfl, hv⟩ := yl v H5 y5
        have I5' := I5.pinned (fun b hb => ⟨f5 b hb, (fpk b hb).2⟩) (T.obj _ _ st5)
        refine wpAny_mono (pg_name (X := cxComp X scope cl N G2.objs.size s2 H2 fp) (i := 0) t.nd t.first (.inl (lookup_relabel_local t.loc)) (.inr (lookup_relabel_local t.loc)) _ s5 _ H5 v u (fun σ' H' => σ' = σc.set 0 (some v) ∧ H' = H5) I5' r5 ⟨by rw [List.set_set], rfl⟩)
          (fun _ s6 ⟨σ6, H6, I6, e6, e6'⟩ => ?_) fun _ _ z => z.elim
        subst e6; subst e6'
        refine wpAny_mono (helt G2.objs.size i v H6 hlt e3 hv _ s6 _ H6 (fun y H7 => Same H6 H7 ∧ Is X.K H7 (dout i) y) I6 ⟨rfl, Same.refl _, fun y H7 e7 hy => ⟨e7, hy⟩⟩) (fun y s7 ⟨z, H7, I7, r7, e7, hz⟩ => ?_) fun _ _ z => z.elim
        have hl7 := e7 _ _ hl3
        have hlen : vs.length < sizeLine := small1000 (by rw [← hv3.length, List.length_map, List.length_range]; omega)
        refine wpAny_mono (mt_append (X := cxComp X scope cl N G2.objs.size s2 H2 fp) _ s7 _ H7 (.ref s2.heap.objs.size) [z] (.ref s2.heap.objs.size) [y] (fun _ H8 => H8 = upd H7 s2.heap.objs.size (.lst (vs ++ [z]))) I7 rfl (.cons r7 .nil)
          ⟨_, vs, z, rfl, rfl, hl7, hlen, rfl⟩) (fun _ s8 ⟨_, H8, I8, _, e8⟩ => ?_) fun _ _ z => z.elim
        subst e8
        refine ⟨n - (i + 1), by omega, i + 1, some v, _, vs ++ [z], rfl, hlt, I8.unpinned, ?_, ?_, ?_, upd_same, ?_⟩
        · exact T.keep _ _ _ st5 fun b hb o e => (I8.pin (b, o) (List.mem_append_right _ (List.mem_append_right _ (mem_pinsAt hb e)))).1
        · intro b hb
          obtain ⟨o, e, d⟩ := T.obj _ _ st5 b hb
          exact (I8.pin (b, o) (List.mem_append_right _ (List.mem_append_right _ (mem_pinsAt hb e)))).2.1
        · intro b o e
          rw [upd_ne (ne_of_none e fr0)]; exact e7 _ _ (e3 _ _ e)
        · rw [List.range_succ, List.map_append]
          refine IsL.append ((hv3.mono e7).updL hl7 ?_) (.cons (hz.updL hl7 (hno i)) .nil)
          clear hv3 hlt hi st3 go yl
          generalize List.range i = l
          induction l with
          | nil => rfl
          | cons a l ih => show (noL (dout a) && noLs (l.map dout)) = true; rw [hno a, ih]; rfl
      · obtain rfl : i = n := by omega
        refine wpAny_mono (T.done (cxComp X scope cl N G2.objs.size s2 H2 fp) rfl rfl rfl hc i [] s' _ He (fun _ _ => False) I3 fpk st3 (fd He e3).2) (fun r s4 ⟨hr, I4⟩ => ?_) fun _ _ z => z.elim
        subst hr
        obtain ⟨m, hm, _⟩ := I4.loc
        exact hRR _ _ s4 He vs m hCle I4.os I4.bare I4.base I4.hok hm I4.free e3 fr0 hl3 hv3
    · refine ⟨0, σc[0]?.getD none, _, [], by omega, Nat.zero_le _, ?_, ?_, fun b hb => ?_, same_upd fr0, upd_same, .nil⟩
      · have e : σc.set 0 (σc[0]?.getD none) = σc := by
          cases σc with
          | nil => rfl
          | cons a l => rfl
        rw [e]; exact I0 s₃ hs₃
      · rw [hs₃]; exact T.keep _ _ _ st fun b hb o e => old b o e
      · rw [upd_ne (Nat.ne_of_lt (fl b hb))]; exact (fo b hb).1
  exact codeAny_compStart_list (loop _ rfl) (T.self _ 0 _ _ _ (T.keep _ _ _ st fun b hb o e => old b o e) (loop _ rfl))
theorem comp_after (I : Inv X pins σ H2 s2) (fo : ∀ b ∈ fp, FpOk X pins H2 b) {He : Hp} {s' : Shared} (os : s'.os = s2.os) (bare : AllBare s'.gens) (un : Un (frs X.stack) fp H2 He s2.heap s'.heap) (hok : HOk X.prog X.w He s'.heap) : Inv X pins σ He s' :=
  I.call' os un hok bare fun b hb => ⟨(fo b hb).2.2.2.1, (fo b hb).2.1, (fo b hb).2.2.2.2.1, (fo b hb).2.2.2.2.2⟩
theorem comp_gone {σ : L2.St} {He : Hp} {s' : Shared} {C : Addr} {h' : Heap} (I : Inv X pins σ He s') (hC : X.s₀.heap.objs.size ≤ C) (hCL : C ≠ X.env.locals) (hcells : ∀ x c, X.env.cells.lookup x = some c → c ≠ C) (hpins : ∀ p ∈ X.pn ++ pins, p.1 ≠ C) (hn : He C = none)
    (hs : Heap.SameBut C s'.heap h') : Inv X pins σ He { s' with heap := h' } :=
  I.turned (t' := s'.toks) (fun b o hb e => (hs.2 b hb).trans e) hn hCL (.inr hC) hcells hpins
variable {H : Hp}
theorem pl_comp (hc : X.calm = true) (t : Takes X σ scope cl N σc x) (hG : Gives X (.Name x px) iter σ H n din) (hn : n ≤ 1000) (hno : ∀ i, noL (dout i) = true)
    (helt : ∀ (C : Addr) (s2 : Shared) (H2 : Hp) (fp : List Addr) (i : Nat) (v : V) (H3 : Hp), i < n → Same H H3 → Is X.K H3 (din i) v → PD (cxComp X scope cl N C s2 H2 fp) elt (σc.set 0 (some v)) H3 (dout i))
    (hfs : ∀ x, foldedSetIterable iter X.env x = pure x := by intro _; rfl) : PL X (.ListComp elt [⟨.Name x px, iter, [], 0⟩] scope pos) σ H ((List.range n).map dout) := by
  intro pins s σ' H1 Q I ⟨hs, e1, q⟩
  subst hs
  obtain ⟨wi, hPI, hwi⟩ := hG
  rw [eval_ListComp]
  refine wpAny_comprehension_free (use := none) rfl hfs t.clos t.kind t.names (thn (hPI pins s σ' H1 (fun J H2 => Same H1 H2 ∧ Feeds X.K J H2 n din) I (hwi H1 _ e1 fun J H2 e2 fd => ⟨e2, fd⟩)) fun v s1 h1 => thn h1 fun itv s2 h2 => ?_)
  obtain ⟨it, fp, tn, J, H2, rfl, I2, T, st, fo, e2, fd⟩ := h2
  refine comp_block I2 hc t T st fo fd hn hno (fun C i v H3 hi e3 hv => helt C s2 H2 fp i v H3 hi ((e1.trans e2).trans e3) hv) (RR := fun acc C => compPost (model X.prog X.w) X.A X.xe none (EP X pins σ' Q) acc C) ?_
  intro L C s' He vs m hC os bare un hok hm hCn e3 hLn hl hv
  refine ⟨m, hm, fun h' hs' => ?_⟩
  have I3 := comp_after I2 fo os bare un hok
  have I4 := comp_gone I3 (Nat.le_trans I2.sz hC) (Nat.ne_of_gt (Nat.lt_of_lt_of_le I2.lt hC)) (fun y c e z => by obtain ⟨w', o, ho, _⟩ := I2.cell y c e; exact absurd (Nat.lt_of_lt_of_le (Heap.lt_size ho) (z ▸ hC)) (Nat.lt_irrefl _))
    (fun p hp z => absurd (Nat.lt_of_lt_of_le (Heap.lt_size (I2.pin p hp).1) (z ▸ hC)) (Nat.lt_irrefl _)) hCn hs'
  exact ⟨.ref L, He, I4, rfl, q L vs He (e2.trans e3) (e2.free hLn) hl hv⟩
theorem ps_comp {i : Nat} {y : Str} {py spos : Pos} (hN : X.N.Nodup) (hi : X.N[i]? = some y) (hy : Loc X.env.scope y) (hf : X.fn y = true ∨ X.env.scope.names.lookup y = some .local) (hsw : swapsWith (.ListComp elt [⟨.Name x px, iter, [], 0⟩] scope pos) (some (.Name y py)) spos.line X.env = pure true)
    (hc : X.calm = true) (t : Takes X σ scope cl N σc x) (hG : Gives X (.Name x px) iter σ H n din) (hn : n ≤ 1000) (hno : ∀ i, noL (dout i) = true)
    (helt : ∀ (C : Addr) (s2 : Shared) (H2 : Hp) (fp : List Addr) (i : Nat) (v : V) (H3 : Hp), i < n → Same H H3 → Is X.K H3 (din i) v → PD (cxComp X scope cl N C s2 H2 fp) elt (σc.set 0 (some v)) H3 (dout i))
    (hfs : ∀ x, foldedSetIterable iter X.env x = pure x := by intro _; rfl) : PS X (.Assign [.Name y py] (.ListComp elt [⟨.Name x px, iter, [], 0⟩] scope pos) spos) (tAsg (tL X.K σ H ((List.range n).map dout)) (gName i)) := by
  intro pins s σ' H1 D I ⟨hs, e1, q⟩
  subst hs
  obtain ⟨wi, hPI, hwi⟩ := hG
  rw [exec_Assign_Name_used _ _ _ _ hsw]
  refine wpAny_bind (wpAny_standAt (wpAny_bind ?_))
  show wpAny _ X.A (do let _ ← comprehension (.ListComp elt [⟨.Name x px, iter, [], 0⟩] scope pos) scope X.env _ (newList []) false (eval iter X.env) (some (assign (.Name y py) X.env))) _ _ s
  refine wpAny_bind (wpAny_mono (wpAny_comprehension_free (use := some (assign (.Name y py) X.env)) (Q := fun _ s' => SP X pins D .next s') rfl hfs t.clos t.kind t.names
    (thn (hPI pins s σ' H1 (fun J H2 => Same H1 H2 ∧ Feeds X.K J H2 n din) I (hwi H1 _ e1 fun J H2 e2 fd => ⟨e2, fd⟩)) fun v s1 h1 => thn h1 fun itv s2 h2 => ?_)) (fun _ s' hq => wpAny_pure (wpAny_pure hq)) fun _ _ e => e)
  obtain ⟨it, fp, tn, J, H2, rfl, I2, T, st, fo, e2, fd⟩ := h2
  refine comp_block I2 hc t T st fo fd hn hno (fun C i v H3 hi e3 hv => helt C s2 H2 fp i v H3 hi ((e1.trans e2).trans e3) hv) (RR := fun acc C => compPost (model X.prog X.w) X.A X.xe (some (assign (.Name y py) X.env)) (fun _ s' => SP X pins D .next s') acc C) ?_
  intro L C s' He vs m hC os bare un hok hm hCn e3 hLn hl hv
  have hCL : C ≠ X.env.locals := Nat.ne_of_gt (Nat.lt_of_lt_of_le I2.lt hC)
  have hCc : ∀ x c, X.env.cells.lookup x = some c → c ≠ C := fun y c e z => by obtain ⟨w', o, ho, _⟩ := I2.cell y c e; exact absurd (Nat.lt_of_lt_of_le (Heap.lt_size ho) (z ▸ hC)) (Nat.lt_irrefl _)
  have I3 := comp_after I2 fo os bare un hok
  show wpAny _ X.A (assign (.Name y py) X.env (.ref L)) _ _ s'
  refine wpAny_assign_Name (store_ok2 (v := .ref L) I3 hN hi hy rfl (fun s5 I5 ⟨a, sb, ha⟩ => ?_) hf)
  have haC : C ≠ a := by
    rcases ha with rfl | ha
    · exact hCL
    · exact fun z => hCc _ _ ha z.symm
  refine ⟨m, hm.sameBut sb haC, fun h' hs' => ?_⟩
  have I6 := comp_gone I5 (Nat.le_trans I2.sz hC) hCL hCc (fun p hp z => absurd (Nat.lt_of_lt_of_le (Heap.lt_size (I2.pin p hp).1) (z ▸ hC)) (Nat.lt_irrefl _)) hCn hs'
  exact ⟨_, He, I6, q L vs He (e2.trans e3) (e2.free hLn) hl hv⟩
end
theorem takes0 {X : Cx} {σ : L2.St} {scope : Scope} {x : Str} (hfree : ∀ y ∈ scope.names, y.2 ≠ .free) (hcell : ∀ y ∈ scope.names, y.2 ≠ .cell) (hkind : scope.kind = .function)
    (hnames : ∀ y ∈ scope.names, y.2 = .local → scope.names.lookup y.1 = some .local) (hloc : scope.names.lookup x = some .local) : Takes X σ scope [] [x] [none] x where
  clos := closureFor_none hfree
  cell := hcell
  kind := hkind
  names := hnames
  loc := hloc
  nd := by simp
  first := rfl
  len := rfl
  sub := fun _ _ h => nomatch h
  has := fun y h => by
    have no : ∀ k, (relabel scope X.env).names.lookup y = some k → (k = .cell ∨ k = .free) → False := fun k hk hk2 => by
      have hm := PySem.mem_of_lookup hk
      obtain ⟨⟨n', k'⟩, hm1, hm2⟩ := List.mem_map.mp hm
      have h1 := hfree _ hm1
      have h2 := hcell _ hm1
      dsimp only at hm2 h1 h2
      have e : (k' == NameKind.free) = false := by simpa using h1
      rw [e] at hm2
      simp only [Bool.false_and, Bool.false_eq_true, if_false] at hm2
      cases hm2
      rcases hk2 with z | z
      · exact h2 z
      · exact h1 z
    rcases h with h | h
    · exact (no _ h (.inl rfl)).elim
    · exact (no _ h (.inr rfl)).elim
  cap := fun i y v h1 h2 => by
    match i, h2 with
    | 0, h2 => cases h2
    | i + 1, h2 => simp at h2
section
variable {X : Cx} {a b : Expr} {σ : L2.St} {H : Hp} {d : D} {ds : List D} {pos : Pos}
end
end L3
set_option Elab.async false
set_option linter.all false
namespace L3
open PySem
def ExcNew (h : Heap) (a C : Addr) : Prop := ∃ vs, h.get? a = some { cls := .ref C, data := .fields vs } ∧ vs[1]? = some .none
def ExcFly (h : Heap) (a T C : Addr) : Prop :=
  ∃ vs oT ts, h.get? a = some { cls := .ref C, data := .fields vs } ∧ vs[1]? = some (.ref T) ∧ T ≠ a ∧ h.get? T = some oT ∧ oT.data = .fields ts ∧ ts[3]? = some .none
structure Past (fr : List Addr) (a : Addr) (T? : Option Addr) (h h' : Heap) : Prop where
  keep : ∀ b o, h.get? b = some o → b ≠ a → T? ≠ some b → b ∉ fr → h'.get? b = some o
  slot : ∀ b o, h.get? b = some o → b ∈ fr → ∃ sl, h'.get? b = some { o with slots := sl }
  there : ∀ b o, h.get? b = some o → ∃ o', h'.get? b = some o'
section
variable {M : Model} {A : Around} {E E' : Value → Shared → Prop} {s : Shared} {base : Heap} {env : Env} {outer : List Env} {L a C : Addr}
theorem flying_step {Z : Shared → Prop} {vs : Array Value} {head : Value} {hn : Bool} (hfr : A.frames = some (env :: outer)) (hl : s.heap.FunFrames base (env :: outer)) (hf : env.frame = some L)
    (he : s.heap.get? a = some { cls := .ref C, data := .fields vs }) (h1 : 1 < vs.size)
    (k : ∀ h' T, s.heap.get? T = none → Past ((env :: outer).filterMap (·.frame)) a none s.heap h' → ExcFly h' a T C → Z { s with heap := h' }) :
    wpAny M A (do setField (.ref a) 1 (← EntryCells.newEntry head (← frameOf env) .none (rawInt L) .none (← entryPlaceOf L hn))) (fun _ s2 => wpAny M A (setFlight (.ref a) none) (fun _ s3 => Z s3) E s2) E' s := by
  have nfr : a ∉ (env :: outer).filterMap (·.frame) := fun z => by
    obtain ⟨_, o, e1, e2⟩ := hl.mem z
    rw [he] at e1
    cases e1
    exact e2 _ rfl
  refine wpAny_bind (wpAny_frameOf_fun hfr hl hf fun g1 sl => ?_)
  refine wpAny_bind (wpAny_entryPlaceOf fun pl hp => ?_)
  refine wpAny_bind (wpAny_newObj_type ?_ (hp.sizeOk5 _ _ _ _ _))
  generalize hob : ({ cls := .type "traceback", dict := none, data := .fields ([head, .ref L, .none, rawInt L, .none] ++ (if pl.isEmpty then List.replicate 6 Value.none else pl)).toArray } : Obj) = ob
  obtain ⟨ts, hts, ht3⟩ : ∃ ts, ob.data = .fields ts ∧ 3 < ts.size := ⟨_, by rw [← hob], by simp only [List.size_toArray, List.length_append, List.length_cons]; omega⟩
  have e1 : g1.get? a = some { cls := .ref C, data := .fields vs } := by rw [sl.2.1 a nfr]; exact he
  have lt := Heap.lt_size e1
  have ne : g1.objs.size ≠ a := Nat.ne_of_gt lt
  have e2 := Heap.get?_push_of_some (h := g1) ob e1
  have t2 : (g1.push ob).get? g1.objs.size = some ob := Heap.get?_push_size g1 (by cases ob; subst hts; rfl)
  refine wpAny_setField (o := { cls := .ref C, data := .fields vs }) e2 rfl h1 ?_
  have e3 := Heap.get?_update_self (Obj.mapFields (·.setIfInBounds 1 (Value.ref g1.objs.size))) e2 rfl
  have t3 : ((g1.push ob).update a (Obj.mapFields (·.setIfInBounds 1 (Value.ref g1.objs.size)))).get? g1.objs.size = some ob := by
    rw [Heap.get?_update_other _ _ (Ne.symm ne)]; exact t2
  unfold setFlight
  refine wpAny_bind (wpAny_field (x := .ref g1.objs.size) e3 rfl (by simp [h1]) ?_)
  rw [if_pos (by simp)]
  refine wpAny_setField t3 hts ht3 (k _ g1.objs.size (Heap.get?_none_of_le (by rw [sl.1]; exact Nat.le_refl _)) ?_ ?_)
  · have oth : ∀ b o, b ≠ a → g1.get? b = some o → (((g1.push ob).update a (Obj.mapFields (·.setIfInBounds 1 (Value.ref g1.objs.size)))).update g1.objs.size (Obj.mapFields (·.setIfInBounds 3 ((none : Option Addr).elim Value.none fun f => rawInt f)))).get? b = some o := fun b o hb q => by
      rw [Heap.get?_update_other _ _ (Nat.ne_of_gt (Heap.lt_size q)), Heap.get?_update_other _ _ (Ne.symm hb)]
      exact Heap.get?_push_of_some _ q
    refine ⟨fun b o q hb _ hnf => oth b o hb (by rw [sl.2.1 b hnf]; exact q), fun b o q hbf => ?_, fun b o q => ?_⟩
    · obtain ⟨z, hz⟩ := sl.2.2 b o q
      exact ⟨z, oth b _ (fun w => nfr (w ▸ hbf)) hz⟩
    · by_cases hb : b = a
      · subst hb
        exact ⟨_, by rw [Heap.get?_update_other _ _ ne]; exact e3⟩
      · obtain ⟨z, hz⟩ := sl.2.2 b o q
        exact ⟨_, oth b _ hb hz⟩
  · refine ⟨_, _, _, by rw [Heap.get?_update_other _ _ ne]; exact e3, by simp [h1], ne, Heap.get?_update_self _ t3 (Obj.isFreed_of_fields (Obj.data_mapFields hts _)), Obj.data_mapFields hts _, ?_⟩
    simp [ht3]
theorem lands_new {Z : Shared → Prop} (hfr : A.frames = some (env :: outer)) (hl : s.heap.FunFrames base (env :: outer)) (hf : env.frame = some L) (x : ExcNew s.heap a C)
    (k : ∀ h' T, s.heap.get? T = none → Past ((env :: outer).filterMap (·.frame)) a none s.heap h' → ExcFly h' a T C → Z { s with heap := h' }) :
    wpAny M A (noteFrame (.ref a) env) (fun _ s2 => wpAny M A (setFlight (.ref a) none) (fun _ s3 => Z s3) E s2) E' s := by
  obtain ⟨vs, he, h1⟩ := x
  unfold noteFrame
  simp only [hf]
  refine wpAny_bind (wpAny_field he rfl h1 ?_)
  rw [if_neg (by decide)]
  exact flying_step hfr hl hf he (Array.getElem?_eq_some_iff.mp h1).1 k
theorem lands_fly {Z : Shared → Prop} {T : Addr} (hfr : A.frames = some (env :: outer)) (hl : s.heap.FunFrames base (env :: outer)) (hf : env.frame = some L) (x : ExcFly s.heap a T C)
    (k : ∀ h' T', s.heap.get? T' = none → Past ((env :: outer).filterMap (·.frame)) a (some T) s.heap h' → ExcFly h' a T' C → Z { s with heap := h' }) :
    wpAny M A (noteFrame (.ref a) env) (fun _ s2 => wpAny M A (setFlight (.ref a) none) (fun _ s3 => Z s3) E s2) E' s := by
  obtain ⟨vs, oT, ts, he, h1, ne, hT, hts, h3⟩ := x
  unfold noteFrame
  simp only [hf]
  refine wpAny_bind (wpAny_field he rfl h1 ?_)
  rw [if_pos (by simp)]
  refine wpAny_bind (wpAny_field hT hts h3 ?_)
  rw [if_neg (by simp [rawInt])]
  refine wpAny_bind (wpAny_setField hT hts (Array.getElem?_eq_some_iff.mp h3).1 ?_)
  have oth : ∀ b, b ≠ T → (s.heap.update T (Obj.mapFields (·.setIfInBounds 3 Value.none))).get? b = s.heap.get? b := fun b hb => Heap.get?_update_other _ _ (Ne.symm hb)
  have own := Heap.get?_update_self (Obj.mapFields (·.setIfInBounds 3 Value.none)) hT (Obj.isFreed_of_fields (Obj.data_mapFields hts _))
  have nT : T ∉ (env :: outer).filterMap (·.frame) := fun z => by
    obtain ⟨_, o, e1, e2⟩ := hl.mem z
    rw [hT] at e1
    cases e1
    exact e2 _ hts
  have all : ∀ b o, s.heap.get? b = some o → ∃ o', (s.heap.update T (Obj.mapFields (·.setIfInBounds 3 Value.none))).get? b = some o' := fun b o q => by
    by_cases hb : b = T
    · subst hb; exact ⟨_, own⟩
    · exact ⟨o, by rw [oth b hb]; exact q⟩
  refine flying_step (s := { s with heap := s.heap.update T (Obj.mapFields (·.setIfInBounds 3 Value.none)) }) hfr (hl.of_keeps fun b o q nf => ⟨o, by rw [oth b (fun z => nf ts (by rw [z, hT] at q; cases q; exact hts))]; exact q, rfl⟩) hf
    (by show Heap.get? _ a = _; rw [oth a (Ne.symm ne)]; exact he) (Array.getElem?_eq_some_iff.mp h1).1 fun h' T' n P fl => k h' T' ?_ ?_ fl
  · cases q : s.heap.get? T' with
    | none => rfl
    | some o =>
      obtain ⟨o', z⟩ := all T' o q
      have n' : (s.heap.update T (Obj.mapFields (·.setIfInBounds 3 Value.none))).get? T' = none := n
      rw [z] at n'; cases n'
  · refine ⟨fun b o q ha hT' hnf => P.keep b o ?_ ha (by simp) hnf, fun b o q hb => P.slot b o ?_ hb, fun b o q => ?_⟩
    · show Heap.get? _ b = _
      rw [oth b (fun z => hT' (by rw [z]))]; exact q
    · show Heap.get? _ b = _
      rw [oth b (fun z => nT (z ▸ hb))]; exact q
    · obtain ⟨o', z⟩ := all b o q
      exact P.there b o' z
end
end L3
namespace L3
open PySem PySem.Spec PyProof.Rows L2
theorem objOk_there {P : Program} {w : World} {H : Hp} {h : Heap} {a : Addr} {o : HO} (x : ObjOk P w H h a o) : ∃ u, h.get? a = some u := by
  cases o with
  | lst xs => obtain ⟨_, _, _, _, e⟩ := x; exact ⟨_, e⟩
  | tup xs => obtain ⟨_, _, _, _, e, _⟩ := x; exact ⟨_, e⟩
  | dK kvs => obtain ⟨_, _, _, _, o, _, _, e, _⟩ := x; exact ⟨_, e⟩
  | dT kvs => obtain ⟨_, _, _, _, o, _, _, e, _⟩ := x; exact ⟨_, e⟩
  | set S n => obtain ⟨o, _, _, _, e, _⟩ := x; exact ⟨_, e⟩
  | ins C dx fs => obtain ⟨_, _, _, e, _⟩ := x; exact ⟨_, e⟩
  | own y => exact x
  | xd fs => obtain ⟨_, ⟨_, _, _, e, _⟩, _⟩ := x; exact ⟨_, e⟩
  | rng lo hi => obtain ⟨_, _, _, e⟩ := x; exact ⟨_, e⟩
  | frz ob u => obtain ⟨e, _⟩ := x; exact ⟨_, e⟩
  | tbl ps => exact ⟨_, x⟩
  | met f y => exact ⟨_, x⟩
  | ext φ => exact x.2.1
theorem free_of_none {P : Program} {w : World} {H : Hp} {h : Heap} {a : Addr} (x : HOk P w H h) (e : h.get? a = none) : H a = none := by
  cases q : H a with
  | none => rfl
  | some u =>
    obtain ⟨v, hv⟩ := objOk_there (x a u q)
    rw [e] at hv; cases hv
section
variable {X : Cx} {pins : List (Addr × Obj)} {σ : L2.St} {H : Hp} {s : Shared} {h' : Heap} {a : Addr} {T? : Option Addr}
theorem inv_past (I : Inv X pins σ H s) (hst : X.stack = X.env :: X.outer) (hfr : X.env.frame = some X.env.locals) (P : Past (frs X.stack) a T? s.heap h') (fa : ∃ o vs, s.heap.get? a = some o ∧ o.data = .fields vs)
    (na : H a = none) (a0 : X.s₀.heap.get? a = none) (pa : ∀ p ∈ X.pn ++ pins, p.1 ≠ a) (hT : ∀ T, T? = some T → H T = none ∧ X.s₀.heap.get? T = none ∧ (∀ p ∈ X.pn ++ pins, p.1 ≠ T) ∧ ∃ o vs, s.heap.get? T = some o ∧ o.data = .fields vs) :
    Inv X pins σ H { s with heap := h' } := by
  have inL : X.env.locals ∈ frs X.stack := by rw [hst]; unfold frs; rw [List.filterMap_cons, hfr]; exact List.mem_cons_self
  have sub : ∀ b ∈ X.fs, b ∈ frs X.stack := fun b hb => by rw [hst]; unfold frs; rw [List.filterMap_cons, hfr]; exact List.mem_cons_of_mem _ hb
  have neT : ∀ b, (∀ T, T? = some T → b ≠ T) → T? ≠ some b := fun b hb z => hb b z rfl
  have cellK : ∀ x c, X.env.cells.lookup x = some c → ∀ v, s.heap.IsCell c v → h'.IsCell c v := fun x c _ v ⟨o, ho, hd⟩ => by
    by_cases hc : c ∈ frs X.stack
    · obtain ⟨sl, q⟩ := P.slot c o ho hc
      exact ⟨_, q, hd⟩
    · refine ⟨o, P.keep c o ho (fun z => ?_) (neT c fun T hTT z => ?_) hc, hd⟩
      · obtain ⟨o2, vs, e, d⟩ := fa
        rw [z, e] at ho; cases ho; rw [d] at hd; cases hd
      · obtain ⟨_, _, _, o2, vs, e, d⟩ := hT T hTT
        rw [z, e] at ho; cases ho; rw [d] at hd; cases hd
  refine ⟨I.ok, I.os, I.bare, ⟨fun b o e n hb hx => ?_, fun b o e n hb hx => ?_, I.base.free, fun b o e hx => ?_, I.base.tups, I.base.frzs, I.base.tbls⟩, ?_, fun x c e => ?_, I.free, I.freeC, fun p hp => ?_, fun b u e => ?_, I.len⟩
  · refine P.keep b o (I.base.keep b o e n hb hx) (fun z => by rw [z, a0] at e; cases e) (neT b fun T hTT z => by rw [z, (hT T hTT).2.1] at e; cases e) fun z => ?_
    rcases List.mem_cons.mp (I.stkSub b z) with y | y
    · exact absurd (Nat.lt_of_lt_of_le (Heap.lt_size e) (y ▸ I.ok.above)) (Nat.lt_irrefl _)
    · exact hb y
  · obtain ⟨sl, e1⟩ := I.base.slot b o e n hb hx
    obtain ⟨sl2, e2⟩ := P.slot b _ e1 (sub b hb)
    exact ⟨sl2, e2⟩
  · obtain ⟨o', e1⟩ := I.base.there b o e hx
    exact P.there b o' e1
  · obtain ⟨m, ⟨o, es, ep, ho, hr⟩, hl⟩ := I.loc
    obtain ⟨sl, q⟩ := P.slot _ o ho inL
    refine ⟨m, ⟨_, es, ep, q, hr⟩, fun i x v e1 e2 e3 => ?_⟩
    obtain ⟨u, r, l⟩ := hl i x v e1 e2 e3
    refine ⟨u, r, ?_⟩
    rcases l with l | ⟨k, c, e, z⟩
    · exact .inl l
    · exact .inr ⟨k, c, e, cellK x c e _ z⟩
  · obtain ⟨v, z⟩ := I.cell x c e
    exact ⟨v, cellK x c e v z⟩
  · obtain ⟨e, n, ne, nf, d⟩ := I.pin p hp
    refine ⟨P.keep _ _ e (pa p hp) (neT _ fun T hTT => (hT T hTT).2.2.1 p hp) fun z => ?_, n, ne, nf, d⟩
    rcases List.mem_cons.mp (I.stkSub _ z) with y | y
    · exact ne y
    · exact nf y
  · have tr : ∀ c u v, H c = some u → s.heap.get? c = some v → h'.get? c = some v := fun c u v hc q => by
      refine P.keep c v q (fun z => by rw [z, na] at hc; cases hc) (neT c fun T hTT z => by rw [z, (hT T hTT).1] at hc; cases hc) fun z => ?_
      rw [I.stkFree c z] at hc; cases hc
    refine (I.hok b u e).stay (fun c v hc q => ?_) (fun _ q => q) fun _ _ q => q
    rcases hc with rfl | hc
    · exact tr c u v e q
    · exact tr c _ v hc q
end
structure Aloft (X : Cx) (pins : List (Addr × Obj)) (H : Hp) (h : Heap) (a C : Addr) : Prop where
  na : H a = none
  s0 : X.s₀.heap.get? a = none
  pa : ∀ p ∈ X.pn ++ pins, p.1 ≠ a
  st : ExcNew h a C ∨ ∃ T, H T = none ∧ X.s₀.heap.get? T = none ∧ (∀ p ∈ X.pn ++ pins, p.1 ≠ T) ∧ ExcFly h a T C
def CX1 (P : Program) (w : World) : CXT := fun outer H s E e s' => ∃ a T C H', e = .ref a ∧ s'.os = s.os ∧ AllBare s'.gens ∧ Un (frs outer) [] H H' s.heap s'.heap ∧ HOk P w H' s'.heap ∧ H' a = none ∧ H' T = none ∧
  s.heap.get? a = none ∧ s.heap.get? T = none ∧ ExcFly s'.heap a T C ∧ E (.ref C) none H'
section
variable {X : Cx} {pins : List (Addr × Obj)} {σ : L2.St} {H : Hp} {s s' : Shared} {a C : Addr} {E : XK} {e : Value}
theorem s0_none (I : Inv X pins σ H s) (hx : X.ex = []) (h : s.heap.get? a = none) : X.s₀.heap.get? a = none := by
  cases q : X.s₀.heap.get? a with
  | none => rfl
  | some o =>
    obtain ⟨o', z⟩ := I.base.there a o q (by rw [hx]; simp)
    rw [h] at z; cases z
theorem pin_ne (I : Inv X pins σ H s) (h : s.heap.get? a = none) : ∀ p ∈ X.pn ++ pins, p.1 ≠ a := fun p hp z => by
  have := (I.pin p hp).1
  rw [z, h] at this; cases this
theorem aloft_call (I : Inv X pins σ H s) (hx : X.ex = []) (h : CX1 X.prog X.w X.stack H s E e s') : ∃ a C H', e = .ref a ∧ Inv X pins σ H' s' ∧ Aloft X pins H' s'.heap a C ∧ E (.ref C) none H' := by
  obtain ⟨a, T, C, H', rfl, os, bare, un, hok, na, nT, a0, T0, fl, q⟩ := h
  exact ⟨a, C, H', rfl, I.call' os un hok bare (fun b z => absurd z (by simp)), ⟨na, s0_none I hx a0, pin_ne I a0, .inr ⟨T, nT, s0_none I hx T0, pin_ne I T0, fl⟩⟩, q⟩
theorem inv_lands {M : Model} {A : Around} {E1 E2 : Value → Shared → Prop} {Z : Shared → Prop} (I : Inv X pins σ H s) (hx : X.ex = []) (hst : X.stack = X.env :: X.outer) (hfr : X.env.frame = some X.env.locals) (hA : A.frames = some X.stack) (al : Aloft X pins H s.heap a C)
    (k : ∀ h' T, Inv X pins σ H { s with heap := h' } → H T = none → X.s₀.heap.get? T = none → (∀ p ∈ X.pn ++ pins, p.1 ≠ T) → ExcFly h' a T C → Z { s with heap := h' }) :
    wpAny M A (noteFrame (.ref a) X.env) (fun _ s2 => wpAny M A (setFlight (.ref a) none) (fun _ s3 => Z s3) E1 s2) E2 s := by
  have hA' : A.frames = some (X.env :: X.outer) := by rw [hA, hst]
  have hl : s.heap.FunFrames X.base (X.env :: X.outer) := hst ▸ I.stack
  have efr : (X.env :: X.outer).filterMap (·.frame) = frs X.stack := by rw [hst]; rfl
  rcases al.st with nw | ⟨T, nT, T0, pT, fl⟩
  · obtain ⟨vs, e1, _⟩ := id nw
    refine lands_new hA' hl hfr nw fun h' T hT P fl => ?_
    rw [efr] at P
    exact k h' T (inv_past I hst hfr P ⟨_, vs, e1, rfl⟩ al.na al.s0 al.pa fun _ z => nomatch z) (free_of_none I.hok hT) (s0_none I hx hT) (pin_ne I hT) fl
  · obtain ⟨vs, oT, ts, e1, _, _, e2, e3, _⟩ := id fl
    refine lands_fly hA' hl hfr fl fun h' T' hT P fl' => ?_
    rw [efr] at P
    exact k h' T' (inv_past I hst hfr P ⟨_, vs, e1, rfl⟩ al.na al.s0 al.pa fun T2 z => by cases z; exact ⟨nT, T0, pT, _, ts, e2, e3⟩) (free_of_none I.hok hT) (s0_none I hx hT) (pin_ne I hT) fl'
end
def Lands (X : Cx) (C : Addr) (P : L2.St → Hp → Prop) : Prop := ∀ pins s σ H a, Inv X pins σ H s → P σ H → Aloft X pins H s.heap a C → X.xe (.ref a) s
theorem lands_fn {P : Program} {w : World} {K : PySem.W.Frag} {mg : Str → Option Value} {base : Heap} {N : List Str} {qual : Str} {scope : Scope} {f : Addr} {cd : Value} {A : Around} {outer : List Env} {s : Shared} {H : Hp} {E : XK} {C : Addr} (h : ∀ H', Same H H' → E (.ref C) none H') :
    Lands (cxOf (CX1 P w) P w K mg base N qual scope f cd A outer s H E) C (fun _ H' => Same H H') := fun pins s' σ' H' a I hP al => by
  show wpAny _ _ (leaving _ _) _ _ _
  unfold leaving
  refine wpAny_bind (inv_lands I rfl rfl rfl I.ok.frames al fun h' T I2 nT T0 _ fl => ?_)
  exact ⟨a, T, C, H', rfl, I2.os, I2.bare, I2.base, I2.hok, al.na, nT, al.s0, T0, fl, h H' hP⟩
def tX (σ : L2.St) (H : Hp) : TS := fun _ σ' H1 => σ' = σ ∧ Same H H1
def PX (X : Cx) (sts : List Stmt) (σ : L2.St) (H : Hp) : Prop := PSs X sts (tX σ H)
def PXE (X : Cx) (e : Expr) (σ : L2.St) (H : Hp) : Prop := PE X e (fun σ' H1 _ => σ' = σ ∧ Same H H1)
def PXT (X : Cx) (e : Expr) (σ : L2.St) (H : Hp) : Prop := PT X e (fun σ' H1 _ => σ' = σ ∧ Same H H1)
def spX (K : PySem.W.Frag) (RX : List D → Addr → Prop) : Sp := fun vs H _ E => ∃ ds C, IsL K H ds vs ∧ RX ds C ∧ ∀ H', Same H H' → E (.ref C) none H'
section
variable {X : Cx} {e c : Expr} {es : List Expr} {σ : L2.St} {H : Hp} {d : D} {ds : List D} {k : Bool} {p pos : Pos} {st : Stmt} {sts rest els : List Stmt} {C : Addr} {Pw : L2.St → Hp → Prop} {Post : L2.St → Hp → Prop}
theorem pxe_call {n : Nat} {f : Addr} {fd : FuncData} {ps : List Str} {RX : List D → Addr → Prop} {x : Str} (F : FnOk X.prog X.w X.K X.mg X.base (CX1 X.prog X.w) n f fd ps (spX X.K RX)) (hr : Room n X.A) (hx : X.ex = []) (hm : X.mg x = some (.ref f))
    (hk : PySem.W.keepIn X.K (.ref f) = true) (hb : Binds X.K fd ps []) (ha : PDA X (e :: es) σ H ds) (hR : RX ds C) (hL : ∀ C, RX ds C → Lands X C Pw) (hP : ∀ H', Same H H' → Pw σ H') (hg : Gl X x := by rfl) (hdb : (x == ("__debug__" : Str)) = false := by decide)
    (he : starEach (e :: es) X.env = (false, eval e X.env) :: starEach es X.env := by rfl) (hpl : (backTo pos (starEach es X.env)).any (·.1) = false := by rfl) : PXE X (.Call (.Name x p) (e :: es) [] pos) σ H := by
  intro pins s σ' H1 Q I ⟨hs, e1⟩
  subst hs
  refine wpAny_Call_Name_kw (ld_glob I hg hm ?_ hdb)
  refine PySem.W.callWith_K (h₀ := X.base) I.ok.mod.kin hk (thn (ha pos pins s σ' H1 (fun vs H2 => Same H1 H2 ∧ IsL X.K H2 ds vs) I ⟨rfl, e1, fun vs H2 e2 hvs => ⟨e2, hvs⟩⟩) fun us s1 ⟨vs, H2, I2, r, e2, hvs⟩ => ⟨I2.kIn, ?_⟩) he hpl
  have sp : spX X.K RX vs H2 (fun _ _ => False) (fun cv _ H' => ∃ C, cv = .ref C ∧ RX ds C ∧ Same H2 H') := ⟨ds, C, hvs, hR, fun H' e3 => ⟨C, rfl, hR, e3⟩⟩
  have hl : (us ++ ([] : List Value)).length = ps.length := by rw [List.append_nil, ← r.length]; exact F.len _ _ _ _ sp
  refine wpAny_call (codeAny_mono (F.run X.A X.stack s1 H2 ⟨us, []⟩ us vs (fun _ _ => False) _ hr I2.env0 (by have := hb s1 us I2.kIn hl; rw [List.append_nil] at this; exact this) r sp) fun rs s' hq => ?_)
  cases rs with
  | error ev =>
    obtain ⟨a, C', H3, rfl, I3, al, C'', ec, hR2, e3⟩ := aloft_call (e := ev) (s' := s') (E := fun cv _ H' => ∃ C, cv = .ref C ∧ RX ds C ∧ Same H2 H') I2 hx hq
    cases ec
    exact hL _ hR2 pins s' σ' H3 a I3 (hP H3 ((e1.trans e2).trans e3)) al
  | ok fl =>
    cases fl with
    | ret u => obtain ⟨_, _, _, _, _, _, _, z⟩ := hq; exact z.elim
    | next => exact False.elim hq
    | brk => exact False.elim hq
    | cont => exact False.elim hq
theorem px_expr (he : PXE X e σ H) (hs : swapsWith e none pos.line X.env = pure false := by rfl) : PX X (.Expr e pos :: rest) σ H :=
  PSs.imp (pss_cons (ps_expr he hs) pss_never) fun _ _ _ h => h
theorem px_ret (he : PXE X e σ H) : PX X (.Return (some e) pos :: rest) σ H :=
  PSs.imp (pss_cons (ps_ret he) pss_never) fun _ _ _ h => h
theorem px_set (i : Nat) {x : Str} {pos' : Pos} (hN : X.N.Nodup) (he : PXE X e σ H) (hi : X.N[i]? = some x := by rfl) (hx : Loc X.env.scope x := by first | exact Or.inl rfl | exact Or.inr rfl) (hs : swapsWith e (some (.Name x pos')) pos.line X.env = pure false := by rfl)
    (hf : X.fn x = true ∨ X.env.scope.names.lookup x = some .local := by first | exact .inl rfl | exact .inr rfl | assumption) : PX X (.Assign [.Name x pos'] e pos :: rest) σ H :=
  PSs.imp (pss_cons (ps_set hN hi hx he hs hf) pss_never) fun _ _ _ h => h
theorem px_if (hc : PDT X c σ H k) (ha : k = true → PX X sts σ H) (hb : k = false → PX X rest σ H) : PX X (.If c sts [] pos :: rest) σ H :=
  PSs.imp (pss_cons (ps_if hc (PSs.guard ha) pss_nil) (PSs.guard hb)) fun _ σ' H1 ⟨hs, e1⟩ => ⟨hs, e1, fun H2 e2 => by
    subst hs
    cases k with
    | true => exact ⟨rfl, rfl, e1.trans e2⟩
    | false => exact ⟨rfl, rfl, e1.trans e2⟩⟩
theorem px_ift (hc : PXT X c σ H) : PX X (.If c sts els pos :: rest) σ H :=
  PSs.imp (pss_cons (ps_if (a := sts) (b := els) hc pss_never pss_never) pss_never) fun _ _ _ h => h
def tAfterX (H : Hp) (P : L2.St → Hp → Prop) : TS := fun _ σ' H1 => P σ' H1 ∧ Same H H1
theorem px_after {P : L2.St → Hp → Prop} (h : ∀ σ' H', Same H H' → P σ' H' → PX X rest σ' H') : PSs X rest (tAfterX H P) := fun pins s σ' H1 D I ⟨p, e1⟩ =>
  h σ' H1 e1 p pins s σ' H1 D I ⟨rfl, Same.refl _⟩
theorem px_cons (h1 : PN1 X st σ H Post) (h : ∀ σ' H', Same H H' → Post σ' H' → PX X rest σ' H') : PX X (st :: rest) σ H :=
  PSs.imp (pss_cons h1 (px_after h)) fun _ σ' H1 ⟨hs, e1⟩ => ⟨hs, e1, fun σ2 H2 e2 p => ⟨p, e1.trans e2⟩⟩
end
section
variable {P : Program} {w : World} {K : PySem.W.Frag} {mg : Str → Option Value} {base : Heap}
abbrev cx1 (P : Program) (w : World) (K : PySem.W.Frag) (mg : Str → Option Value) (base : Heap) (N : List Str) (qual : Str) (st : Stmt) (f : Addr) (cdv : Value) (A : Around) (outer : List Env) (s : Shared) (H : Hp) (E : XK) : Cx :=
  cxOf (CX1 P w) P w K mg base N qual (defScope st) f cdv A outer s H E
def Raises (P : Program) (w : World) (K : PySem.W.Frag) (mg : Str → Option Value) (base : Heap) (n : Nat) (x : Str) (ps : List Str) (RX : List D → Addr → Prop) : Prop :=
  ∃ f fd, FnOk P w K mg base (CX1 P w) n f fd ps (spX K RX) ∧ mg x = some (.ref f) ∧ PySem.W.keepIn K (.ref f) = true ∧ Binds K fd ps []
theorem Has.raises {x : Str} {st : Stmt} {N ps : List Str} {n : Nat} {RX : List D → Addr → Prop} (h : Has K mg x st ps) (S : FnScope N ps (defScope st)) (len : ∀ ds C, RX ds C → ds.length = ps.length)
    (hb : ∀ (f : Addr) (cdv : Value) (A : Around) (outer : List Env) (s : Shared) (H : Hp) (E : XK) (vs : List V) (ds : List D) (C : Addr), Room n (cx1 P w K mg base N x st f cdv A outer s H E).A → IsL K H ds vs → RX ds C →
      Lands (cx1 P w K mg base N x st f cdv A outer s H E) C (fun _ H' => Same H H') → PX (cx1 P w K mg base N x st f cdv A outer s H E) (defBody st) (start N vs) H) : Raises P w K mg base (n + 1) x ps RX := by
  obtain ⟨f, fd, F, hm, hbd⟩ := h
  refine ⟨f, fd, ?_, hm, F.kp, hbd⟩
  obtain ⟨oc, od, kV, doc, pm, an, cdv, ct, osl, rfl, lk, hcd⟩ := F.ex
  refine fn_of lk hcd S (fun vs H Q E ⟨ds, C, hl, hR, _⟩ => by rw [← hl.length]; exact len ds C hR) fun A outer s H vs Q E hr ⟨ds, C, hl, hR, q⟩ => ?_
  exact ⟨_, hb f cdv A outer s H E vs ds C hr hl hR (lands_fn q), rfl, Same.refl _⟩
theorem Raises.mono {x : Str} {ps : List Str} {n m : Nat} {RX : List D → Addr → Prop} (h : Raises P w K mg base n x ps RX) (hl : n ≤ m) : Raises P w K mg base m x ps RX :=
  let ⟨f, fd, F, r⟩ := h
  ⟨f, fd, F.mono hl, r⟩
end
section
variable {X : Cx} {e : Expr} {es : List Expr} {σ : L2.St} {H : Hp} {ds : List D} {p pos : Pos} {C : Addr} {Pw : L2.St → Hp → Prop}
theorem pxe_raises {n : Nat} {x : Str} {ps : List Str} {RX : List D → Addr → Prop} (h : Raises X.prog X.w X.K X.mg X.base n x ps RX) (hr : Room n X.A) (ha : PDA X (e :: es) σ H ds) (hR : RX ds C) (hL : Lands X C Pw) (hP : ∀ H', Same H H' → Pw σ H') (one : ∀ C', RX ds C' → C' = C) (hx : X.ex = [] := by rfl)
    (hg : Gl X x := by rfl) (hdb : (x == ("__debug__" : Str)) = false := by decide)
    (he : starEach (e :: es) X.env = (false, eval e X.env) :: starEach es X.env := by rfl) (hpl : (backTo pos (starEach es X.env)).any (·.1) = false := by rfl) : PXE X (.Call (.Name x p) (e :: es) [] pos) σ H := by
  obtain ⟨f, fd, F, hm, hk, hb⟩ := h
  exact pxe_call F hr hx hm hk hb ha hR (fun C' z => by rw [one C' z]; exact hL) hP hg hdb he hpl
end
section
variable {X : Cx} {σ : L2.St} {H : Hp} {pos : Pos} {body rest : List Stmt} {iter : Expr} {ds : List D}
end
structure ErrCls (K : PySem.W.Frag) (C : Addr) : Prop where
  raises : ∀ h : Heap, K.In h → ∃ (nm q : Str) (N : Addr) (bs bm : List Value) (hdct : Bool) (sn : List Str) (sub : List Value) (ab : Bool) (col : Option Bool) (dd : Option Addr) (k0 k1 k2 k3 k5 : Option Value) (Bn newId inN B nid initId : String) (bmN bmB : List Value) (mN : Str → Option Value),
    ExcBaseFacts Bn newId inN bmN ∧ bmB.contains (.type Bn) = true ∧ ExcBaseFacts B nid initId bmB ∧ bm.contains (.type "BaseException") = true ∧ mN "__init__" = none ∧
    h.get? C = some (excClassObj nm q C N bs bm hdct sn sub ab col dd k0 k1 k2 k3 k5 newId) ∧ h.Ns N mN ∧ OwnTail h bmB bm
section
variable {X : Cx} {e : Expr} {σ : L2.St} {H : Hp} {d : D} {np cpos pos : Pos} {rest : List Stmt} {C : Addr} {Pw : L2.St → Hp → Prop} {x : Str}
theorem px_raise (ec : ErrCls X.K C) (hc : X.calm = true) (hm : X.mg x = some (.ref C)) (he : PD X e σ H d) (hL : Lands X C Pw) (hP : ∀ H', Same H H' → Pw σ H') (hx : X.ex = [] := by rfl) (hg : Gl X x := by rfl) (hdb : (x == ("__debug__" : Str)) = false := by decide)
    (hs : starEach [e] X.env = (false, eval e X.env) :: starEach [] X.env := by rfl) : PX X (.Raise (some (.Call (.Name x np) [e] [] cpos)) none pos :: rest) σ H := by
  refine PSs.imp (pss_cons (t := fun _ σ' H1 => σ' = σ ∧ Same H H1) ?_ pss_never) fun _ _ _ h => h
  intro pins s σ' H1 D I ⟨hss, e1⟩
  subst hss
  obtain ⟨nm, q, N, bs, bm, hdct, sn, sub, ab, col, dd, k0, k1, k2, k3, k5, Bn, newId, inN, B, nid, initId, bmN, bmB, mN, Fn, hBn, F, hbase, hni, hC, hN, T⟩ := ec.raises X.base I.ok.mod.kin
  refine wpAny_Raise_call_subU (C := C) (nm := nm) (q := q) (N := N) (bs := bs) (bm := bm) (hdct := hdct) (sn := sn) (sub := sub) (ab := ab) (col := col) (dd := dd) (k0 := k0) (k1 := k1) (k2 := k2) (k3 := k3) (k5 := k5) Fn hBn F (mN := mN) hbase (I.ok.hd hc)
    (by rw [hs]; rfl) hni (ld_glob I hg hm ⟨rfl, ?_⟩ hdb)
  have pa := pda_cons he pda_nil hs
  have w := pa cpos pins s σ' H1 (fun vs H2 => Same H1 H2 ∧ IsL X.K H2 [d] vs) I ⟨rfl, e1, fun vs H2 e2 hvs => ⟨e2, hvs⟩⟩
  rw [hs] at w ⊢
  refine Calls.evalArgs_plain (thn w fun us s2 ⟨vs, H2, I2, r, e2, hvs⟩ => ⟨rfl, ?_, I2.bk _ _ hC, hN.keeps I2.bk, T.keeps I2.bk, fun h' a hm' => ?_⟩)
  · show us.length ≤ sizeLine
    rw [← r.length, ← hvs.length]
    exact Nat.le_of_lt (small1000 (by simp))
  · obtain ⟨t, ht, _, _⟩ := hm'.there
    exact hL pins { s2 with heap := h' } σ' H2 a (I2.kept (t' := s2.toks) hm'.keeps) (hP H2 (e1.trans e2)) ⟨free_of_none I2.hok hm'.new, s0_none I2 hx hm'.new, pin_ne I2 hm'.new, .inl ⟨_, ht, rfl⟩⟩
end
end L3
set_option Elab.async false
set_option linter.all false
set_option maxRecDepth 100000
namespace L3
open PySem PySem.Spec PyProof.Rows L2
abbrev cxAt (X : Cx) (pn : List (Addr × Obj)) (E : Value → Shared → Prop) : Cx := { X with pn := pn, xe := E }
abbrev cxMark (X : Cx) (a : Addr) : Cx := { X with A := X.A.mark (some (.ref a)), calm := false }
section
variable {X : Cx} {pins pn : List (Addr × Obj)} {σ : L2.St} {H : Hp} {s : Shared} {E : Value → Shared → Prop} {a C T : Addr}
theorem ok_at (ok : X.Ok) : (cxAt X pn E).Ok := ⟨ok.mod, ok.kind, ok.glob, ok.blt, ok.above, ok.inj, ok.has, ok.cab, ok.hd, ok.frames, ok.stk, ok.exf, ok.bs, ok.bsz, ok.noex, ok.exfs, ok.funs, ok.frf⟩
theorem ok_out (ok : (cxAt X pn E).Ok) : X.Ok := ⟨ok.mod, ok.kind, ok.glob, ok.blt, ok.above, ok.inj, ok.has, ok.cab, ok.hd, ok.frames, ok.stk, ok.exf, ok.bs, ok.bsz, ok.noex, ok.exfs, ok.funs, ok.frf⟩
theorem inv_at (I : Inv X pins σ H s) : Inv (cxAt X (X.pn ++ pins) E) [] σ H s := ⟨ok_at I.ok, I.os, I.bare, I.base, I.loc, I.cell, I.free, I.freeC, fun p hp => I.pin p (by rw [List.append_nil] at hp; exact hp), I.hok, I.len⟩
theorem inv_out {pins2 : List (Addr × Obj)} (I : Inv (cxAt X (X.pn ++ pins) E) pins2 σ H s) : Inv X pins σ H s := ⟨ok_out I.ok, I.os, I.bare, I.base, I.loc, I.cell, I.free, I.freeC, fun p hp => I.pin p (List.mem_append_left _ hp), I.hok, I.len⟩
theorem aloft_out {h : Heap} {pins2 : List (Addr × Obj)} (al : Aloft (cxAt X (X.pn ++ pins) E) pins2 H h a C) : Aloft X pins H h a C :=
  ⟨al.na, al.s0, fun p hp => al.pa p (List.mem_append_left _ hp), al.st.imp id fun ⟨T, h1, h2, h3, h4⟩ => ⟨T, h1, h2, fun p hp => h3 p (List.mem_append_left _ hp), h4⟩⟩
theorem inv_mark (I : Inv X pins σ H s) : Inv (cxMark X a) pins σ H s :=
  ⟨⟨I.ok.mod, I.ok.kind, I.ok.glob, I.ok.blt, I.ok.above, I.ok.inj, I.ok.has, I.ok.cab, fun z => (nomatch z), I.ok.frames, I.ok.stk, I.ok.exf, I.ok.bs, I.ok.bsz, I.ok.noex, I.ok.exfs, I.ok.funs, I.ok.frf⟩, I.os, I.bare, I.base, I.loc, I.cell, I.free, I.freeC, I.pin, I.hok, I.len⟩
theorem inv_unmark (hd : X.calm = true → X.A.handled = none) (I : Inv (cxMark X a) pins σ H s) : Inv X pins σ H s :=
  ⟨⟨I.ok.mod, I.ok.kind, I.ok.glob, I.ok.blt, I.ok.above, I.ok.inj, I.ok.has, I.ok.cab, hd, I.ok.frames, I.ok.stk, I.ok.exf, I.ok.bs, I.ok.bsz, I.ok.noex, I.ok.exfs, I.ok.funs, I.ok.frf⟩, I.os, I.bare, I.base, I.loc, I.cell, I.free, I.freeC, I.pin, I.hok, I.len⟩
theorem inv_track (I : Inv X pins σ H s) (na : H a = none) (a0 : X.s₀.heap.get? a = none) (pa : ∀ p ∈ X.pn ++ pins, p.1 ≠ a) (he : excAt a C s.heap) : Inv X pins σ (upd H a (.ext (excAt a C))) s := by
  have nw : ∀ b u, H b = some u → upd H a (.ext (excAt a C)) b = some u := fun b u e => by rw [upd_ne (ne_of_none e na)]; exact e
  have nn : ∀ b, b ≠ a → H b = none → upd H a (.ext (excAt a C)) b = none := fun b hb e => by rw [upd_ne hb]; exact e
  obtain ⟨vs, hv⟩ := he
  refine ⟨I.ok, I.os, I.bare, ⟨I.base.keep, I.base.slot, fun b o e n hx => nn b (fun z => by rw [z, a0] at e; cases e) (I.base.free b o e n hx), I.base.there, fun b xs e => nw _ _ (I.base.tups b xs e), fun b o u e => nw _ _ (I.base.frzs b o u e), fun b ps e => ?_⟩,
    I.loc, I.cell, nn _ (fun z => ?_) I.free, fun x c e => nn _ (fun z => ?_) (I.freeC x c e), fun p hp => ?_, fun b u e => ?_, I.len⟩
  · obtain ⟨more, q⟩ := I.base.tbls b ps e
    exact ⟨more, nw _ _ q⟩
  · obtain ⟨m, ⟨o, es, ep, ho, hd, _⟩, _⟩ := I.loc
    rw [z, hv] at ho; cases ho; cases hd
  · obtain ⟨v, o, ho, hd⟩ := I.cell x c e
    rw [z, hv] at ho; cases ho; cases hd
  · obtain ⟨e, n, r⟩ := I.pin p hp
    exact ⟨e, nn _ (pa p hp) n, r⟩
  · by_cases hb : b = a
    · subst hb
      rw [upd_same] at e
      cases e
      exact ⟨⟨vs, hv⟩, ⟨_, hv⟩, fun h1 h2 ⟨us, q⟩ kp => ⟨us, kp _ q⟩⟩
    · rw [upd_ne hb] at e
      exact (I.hok b u e).stay (fun c v _ q => q) (fun c q => nw _ _ q) fun c xs q => nw _ _ q
theorem inv_gone {i : Nat} {x : Str} {m : Str → Option Value} {v : Option Value} {h' : Heap} {t' : Nat} (I : Inv X pins σ H s) (hN : X.N.Nodup) (hi : X.N[i]? = some x) (hn : ∀ m, s.heap.Ns X.env.locals m → ∃ v, h'.Ns X.env.locals (fun y => if y = x then v else m y))
    (hs : Heap.SameBut X.env.locals s.heap h') : Inv X pins (σ.set i none) H { s with heap := h', toks := t' } := by
  have kp : ∀ b o, b ≠ X.env.locals → s.heap.get? b = some o → h'.get? b = some o := fun b o hb q => (hs.2 b hb).trans q
  have neL : ∀ b o, X.s₀.heap.get? b = some o → b ≠ X.env.locals := fun b o e => Nat.ne_of_lt (Nat.lt_of_lt_of_le (Heap.lt_size e) I.ok.above)
  have cellK : ∀ x c, X.env.cells.lookup x = some c → ∀ v, s.heap.IsCell c v → h'.IsCell c v := fun x c e v z => z.sameBut hs (I.cne x c e)
  obtain ⟨m, hm, hl⟩ := id I.loc
  obtain ⟨v, hm'⟩ := hn m hm
  refine ⟨I.ok, I.os, I.bare, ⟨fun b o e n hb hx => kp b o (neL b o e) (I.base.keep b o e n hb hx), fun b o e n hb hx => ?_, I.base.free, fun b o e hx => ?_, I.base.tups, I.base.frzs, I.base.tbls⟩, ⟨_, hm', fun j y w e1 e2 e3 => ?_⟩, fun y c e => ?_, I.free, I.freeC, fun p hp => ?_, fun b u e => ?_, by simpa using I.len⟩
  · obtain ⟨sl, e1⟩ := I.base.slot b o e n hb hx
    exact ⟨sl, kp _ _ (neL b o e) e1⟩
  · obtain ⟨o', e1⟩ := I.base.there b o e hx
    exact ⟨o', kp _ _ (neL b o e) e1⟩
  · by_cases hj : j = i
    · subst hj
      rw [List.getElem?_set] at e2
      split at e2
      · split at e2 <;> cases e2
      · rename_i z; exact absurd rfl z
    · rw [List.getElem?_set_ne (Ne.symm hj)] at e2
      obtain ⟨u, r, q⟩ := hl j y w e1 e2 e3
      refine ⟨u, r, ?_⟩
      rcases q with ⟨k, e⟩ | ⟨k, c, e, z⟩
      · have ny : y ≠ x := fun e => hj (nodup_ix hN e1 (e ▸ hi))
        exact .inl ⟨k, by show (if y = x then v else m y) = some u; rw [if_neg ny]; exact e⟩
      · exact .inr ⟨k, c, e, cellK y c e _ z⟩
  · obtain ⟨w, z⟩ := I.cell y c e
    exact ⟨w, cellK y c e w z⟩
  · obtain ⟨e, n, ne, nf, d⟩ := I.pin p hp
    exact ⟨kp _ _ ne e, n, ne, nf, d⟩
  · have nL : ∀ c u, H c = some u → c ≠ X.env.locals := fun c u q z => by rw [z, I.free] at q; cases q
    refine (I.hok b u e).stay (fun c w hc q => kp c w ?_ q) (fun _ q => q) fun _ _ q => q
    rcases hc with rfl | hc
    · exact nL _ _ e
    · exact nL _ _ hc
end
structure Caught (K : PySem.W.Frag) (C CE : Addr) : Prop where
  ty : PySem.W.typeIn K (.ref CE) = some (.type "type")
  cl : (PySem.W.clsIn K CE).isSome = true
  ba : PySem.W.mroIn K CE (.type "BaseException") = some true
  su : PySem.W.mroIn K C (.ref CE) = some true
theorem tuple_of_type : isSubtype (.type "type") (.type "tuple") = pure false := by rw [isSubtype_type]; rfl
theorem excMatches_own {M : Model} {A : Around} {E : Value → Shared → Prop} {K : PySem.W.Frag} {s : Shared} {a C CE : Addr} {Q : Bool → Shared → Prop} (c : Caught K C CE) (X : K.In s.heap) (he : excAt a C s.heap) (h : Q true s) :
    wpAny M A (excMatches (.ref a) (.ref CE)) Q E s := by
  obtain ⟨vs, hv⟩ := he
  have l1 : PySem.W.Looks M s.heap (typeOf (.ref CE)) (.type "type") := PySem.W.looks_typeIn X c.ty
  have l2 : PySem.W.Looks M s.heap (isInstance (.ref CE) (.type "tuple")) false := l1.andThen (PySem.W.Looks.of_pure tuple_of_type)
  have l3 : PySem.W.Looks M s.heap (isType (.ref CE)) true := by
    obtain ⟨cd, hc⟩ := Option.isSome_iff_exists.mp c.cl
    unfold PySem.W.clsIn at hc
    split at hc
    · rename_i ho
      intro A' Q' E' s' k q
      unfold isType loadHead
      exact wpAny_bind (wpAny_loadPart (k _ _ (X _ _ ho)) (wpAny_pure q))
    · cases hc
  have l4 : PySem.W.Looks M s.heap (isSubtype (.ref CE) (.type "BaseException")) true := PySem.W.looks_mroIn X c.ba
  have l5 : PySem.W.Looks M s.heap (typeOf (.ref a)) (.ref C) := (PySem.W.Looks.ld hv).andThen .now
  have l6 : PySem.W.Looks M s.heap (isSubtype (.ref C) (.ref CE)) true := PySem.W.looks_mroIn X c.su
  obtain ⟨hp, g, d, t, os⟩ := s
  unfold excMatches
  refine wpAny_bind (l2.at ?_)
  simp only [Bool.false_eq_true, if_false]
  refine wpAny_bind (wpAny_pure ?_)
  simp only [List.forIn_cons, List.forIn_nil]
  unfold isExcClass
  refine wpAny_bind (wpAny_bind (wpAny_bind (wpAny_bind (l3.at ?_))))
  simp only [if_true]
  refine l4.at ?_
  simp only [Bool.not_true, Bool.false_eq_true, if_false]
  refine wpAny_pure (wpAny_pure ?_)
  refine wpAny_bind (l5.at (wpAny_bind (wpAny_bind (wpAny_bind (l6.at ?_)))))
  simp only [if_true]
  exact wpAny_pure (wpAny_pure (wpAny_pure h))
theorem flight_again {M : Model} {A : Around} {E : Value → Shared → Prop} {s : Shared} {a T C : Addr} {Z : Shared → Prop} (fl : ExcFly s.heap a T C) (h : Z s) : wpAny M A (setFlight (.ref a) none) (fun _ s' => Z s') E s := by
  obtain ⟨vs, oT, ts, e1, e2, ne, e3, e4, e5⟩ := fl
  unfold setFlight
  refine wpAny_bind (wpAny_field e1 rfl e2 ?_)
  rw [if_pos (by simp)]
  refine wpAny_setField e3 e4 (Array.getElem?_eq_some_iff.mp e5).1 ?_
  have z := Heap.update_setField_same s.heap T oT ts 3 .none e3 e4 e5
  show Z { s with heap := s.heap.update T (Obj.mapFields (·.setIfInBounds 3 .none)) }
  rw [z]
  exact h
section
variable {X : Cx} {σ : L2.St} {H : Hp} {pos hpos np : Pos} {body rest suite : List Stmt} {b0 : Stmt} {C CE : Addr} {Post Mid : L2.St → Hp → Prop} {hs : List ExceptHandler} {h0 : ExceptHandler} {x n : Str}
theorem pn1_tryOk (h : PN X body σ H Post) (hX : X.xe = fun _ _ => False) : PN1 X (.Try body (h0 :: hs) [] [] pos) σ H Post := by
  intro pins s σ' H1 D I hq
  refine wpAny_Try_except (wpAny_mono (h pins s σ' H1 D I hq) (fun f s1 h1 => ?_) fun e s1 z => by rw [hX] at z; exact z.elim)
  cases f with
  | next => exact wpAny_execs_nil h1
  | ret v => exact h1
  | brk => exact h1
  | cont => exact h1
theorem pn1_tryCatch (i : Nat) (hX : X.xe = fun _ _ => False) (hc : X.calm = true) (hx : X.ex = []) (hst : X.stack = X.env :: X.outer) (hfr : X.env.frame = some X.env.locals) (hN : X.N.Nodup) (c : Caught X.K C CE) (hm : X.mg x = some (.ref CE))
    (hb : ∀ pn E H1, Same H H1 → Lands (cxAt X pn E) C (fun σ' H' => σ' = σ ∧ Same H1 H') → PX (cxAt X pn E) body σ H1)
    (hsu : ∀ a H', Same H H' → H' a = some (.ext (excAt a C)) → PN (cxMark X a) (b0 :: suite) (σ.set i (some (.ref a))) H' Mid) (hd : ∀ σ' H', Mid σ' H' → Post (σ'.set i none) H')
    (hi : X.N[i]? = some n := by rfl) (hl : X.env.kindOf n = some .local := by rfl) (hg : Gl X x := by rfl) (hdb : (x == ("__debug__" : Str)) = false := by decide) :
    PN1 X (.Try body (.ExceptHandler (some (.Name x np)) (some n) (b0 :: suite) hpos :: hs) [] [] pos) σ H Post := by
  intro pins s σ0 H1 D I ⟨hs0, e1, q⟩
  subst hs0
  refine wpAny_Try_except ?_
  have hcls : (X.env.scope.kind == .class || (X.env.scope.kind == .module && X.env.locals != X.env.globals)) = false := by rw [I.ok.kind]; rfl
  have handled := I.ok.hd
  have land : ∀ s2 σ2 H2 a, Inv X pins σ2 H2 s2 → (σ2 = σ0 ∧ Same H1 H2) → Aloft X pins H2 s2.heap a C →
      wpAny (model X.prog X.w) X.A (noteFrame (.ref a) X.env) (fun _ s3 => wpAny (model X.prog X.w) X.A (setFlight (.ref a) none) (fun _ s4 =>
        wpAny (model X.prog X.w) X.A (handleBy (.ref a) X.env (.ExceptHandler (some (.Name x np)) (some n) (b0 :: suite) hpos :: hs)) (SP X pins D) X.xe s4) X.xe s3) X.xe s2 := by
    intro s2 σ2 H2 a I2 ⟨hs2, e12⟩ al
    subst hs2
    refine inv_lands I2 hx hst hfr I2.ok.frames al fun h' T I3 nT T0 pT fl => ?_
    have hex : excAt a C h' := by obtain ⟨vs, _, _, z, _⟩ := fl; exact ⟨vs, z⟩
    refine wpAny_handleBy_cons (codeAny_handlers_test (ld_glob (X := cxMark X a) (inv_mark I3) hg hm (excMatches_own c I3.kIn hex ?_) hdb)) (by intro z; cases z)
    show codeAny _ _ _ _ _
    refine codeAny_handlers_suite_as (flight_again (s := { s2 with heap := h' }) fl ?_)
    have I4 := inv_mark (a := a) (inv_track I3 al.na al.s0 al.pa hex)
    refine store_ok2 (X := cxMark X a) (v := .ref a) I4 hN hi (.inl hl) rfl (fun s5 I5 _ => ?_) (.inr hl)
    have e3 : Same H (upd H2 a (.ext (excAt a C))) := (e1.trans e12).trans (same_upd al.na)
    refine wpAny_mono (hsu a _ e3 upd_same pins s5 _ _ { nx := fun σ6 H6 => Mid σ6 H6 ∧ Same H1 H6, rt := fun _ _ => False } I5 ⟨rfl, Same.refl _, fun σ6 H6 e6 p6 => ⟨p6, (e12.trans (same_upd al.na)).trans e6⟩⟩) (fun f s6 h6 => ?_) fun e s6 z => ?_
    · cases f with
      | next =>
        obtain ⟨σ6, H6, I6, p6, e6⟩ := h6
        have I6' := inv_unmark handled I6
        obtain ⟨m6, hm6, _⟩ := id I6'.loc
        show wpAny _ _ _ _ _ _
        refine wpAny_nameGoes_keeps hl hm6 hcls fun h7 v hn7 hs7 => ?_
        refine ⟨σ6.set i none, H6, inv_gone I6' hN hi (m := m6) (v := v) (fun m hm' => ?_) hs7, q _ _ e6 (hd _ _ p6)⟩
        obtain rfl : m = m6 := by
          funext y
          obtain ⟨o1, es1, ep1, ho1, hd1, _, hf1⟩ := hm'
          obtain ⟨o2, es2, ep2, ho2, hd2, _, hf2⟩ := hm6
          rw [ho1] at ho2; cases ho2
          rw [hd1] at hd2; cases hd2
          rw [← hf1 y, ← hf2 y]
        exact ⟨v, hn7⟩
      | ret v => obtain ⟨_, _, _, _, _, z⟩ := h6; exact z.elim
      | brk => obtain ⟨_, _, _, z⟩ := h6; exact z.elim
      | cont => obtain ⟨_, _, _, z⟩ := h6; exact z.elim
    · exact absurd z (by show ¬ (cxMark X a).xe e s6; show ¬ X.xe e s6; rw [hX]; exact id)
  refine wpAny_mono (hb (X.pn ++ pins) _ H1 e1 (fun pins2 s2 σ2 H2 a I2 p2 al => land s2 σ2 H2 a (inv_out I2) p2 (aloft_out al)) [] s σ0 H1 { nx := fun _ _ => False, rt := fun _ _ => False } (inv_at I) ⟨rfl, Same.refl _⟩) (fun f s1 h1 => ?_) fun e s1 z => z
  cases f with
  | next => obtain ⟨_, _, _, z⟩ := h1; exact z.elim
  | ret v => obtain ⟨_, _, _, _, _, z⟩ := h1; exact z.elim
  | brk => obtain ⟨_, _, _, z⟩ := h1; exact z.elim
  | cont => obtain ⟨_, _, _, z⟩ := h1; exact z.elim
end
end L3
set_option Elab.async false
set_option linter.all false
set_option maxRecDepth 100000
namespace L3
open PySem PySem.Spec PyProof.Rows L2
structure ExcGet (K : PySem.W.Frag) (C : Addr) : Prop where
  ga : PySem.W.findIn K (.ref C) "__getattribute__" = some (some (.builtin "BaseException.__getattribute__"))
  hk : PySem.W.findIn K (.ref C) "__getattr__" = some none
  ca : PySem.W.findIn K (.ref C) "__class__" = some (some (.builtin "object.__class__"))
  gt : PySem.W.specialIn K (.builtin "object.__class__") "__get__" = some (some (.builtin "getset_descriptor.__get__"))
  tk : PySem.W.takesIn K (.builtin "object.__class__") = some true
  mo : PySem.W.mroIn K C (.type "object") = some true
  mb : PySem.W.mroIn K C (.type "BaseException") = some true
  cs : (PySem.W.clsIn K C).isSome = true
section
variable {prog : Program} {w : World} {A : Around} {E : Value → Shared → Prop} {s : Shared} {K : PySem.W.Frag} {a C : Addr}
theorem exc_inst {h : Heap} (he : excAt a C h) : ∃ ox, PySem.W.InstAt h a ox C none := by
  obtain ⟨vs, e⟩ := he
  exact ⟨_, e, rfl, rfl, trivial⟩
theorem find_class (g : ExcGet K C) : PySem.W.findObj K C none "__class__" = some (.bind (.builtin "getset_descriptor.__get__") (.builtin "object.__class__")) := by
  obtain ⟨cd, hc⟩ := Option.isSome_iff_exists.mp g.cs
  unfold PySem.W.findObj
  rw [hc, Option.bind_some, g.ca, Option.bind_some]
  simp [g.gt, g.tk]
theorem check_ga {M : Model} {nv : Value} {Q : Unit → Shared → Prop} (L0 : PySem.W.Looks M s.heap (typeOf (.ref a)) (.ref C)) (L4 : PySem.W.Looks M s.heap (isSubtype (.ref C) (.type "BaseException")) true) (h : Q () s) :
    wpAny M A (checkBuiltinCall "BaseException.__getattribute__" ⟨[.ref a, nv], []⟩) Q E s := by
  have k1 : builtinKind "BaseException.__getattribute__" = some .slot := by decide +kernel
  have k2 : splitId "BaseException.__getattribute__" = some ("BaseException", "__getattribute__") := by decide +kernel
  have ka := F.args_bexc_ga (.ref a) nv
  have L5 : PySem.W.Looks M s.heap (isInstance (.ref a) (.type "BaseException")) true := L0.andThen L4
  obtain ⟨hh, gg, d, t, os⟩ := s
  simp only [checkBuiltinCall, k1, k2]
  refine wpAny_bind (L5.at ?_)
  rw [if_neg (by simp)]
  unfold argsOk at ka
  cases e : Manifest.signature? "BaseException.__getattribute__" with
  | none => exact wpAny_pure h
  | some sg =>
    rw [e] at ka
    have z : Bind.checkArgs "BaseException.__getattribute__" sg ⟨[.ref a, nv], []⟩ = pure () := ka
    show wpAny M A (Bind.checkArgs "BaseException.__getattribute__" sg ⟨[.ref a, nv], []⟩) Q E _
    rw [z]
    exact wpAny_pure h
theorem getClass_exc {Q : Option Value → Shared → Prop} (g : ExcGet K C) (X : K.In s.heap) (he : excAt a C s.heap) (h : Q (some (.ref C)) { s with toks := s.toks + 1 }) : wpAny (model prog w) A (getAttr? (.ref a) "__class__") Q E s := by
  obtain ⟨ox, I⟩ := exc_inst he
  obtain ⟨hh, gg, d, t, os⟩ := s
  have L0 := I.type (M := model prog w)
  have L1 := PySem.W.looks_findIn (M := model prog w) X g.ga
  have L2 := PySem.W.looks_findIn (M := model prog w) X g.hk
  have L3 := PySem.W.looks_find (M := model prog w) X I (find_class g)
  have L4 := PySem.W.looks_mroIn (M := model prog w) X g.mb
  have hne : (onTheHeap (Value.ref C) && Value.builtin "BaseException.__getattribute__" == Value.builtin "object.__getattribute__") = false := by
    rw [show (Value.builtin "BaseException.__getattribute__" == Value.builtin "object.__getattribute__") = false from by decide +kernel]; rfl
  unfold getAttr? getAttrBy? getAttrBy
  refine wpAny_bind (wpAny_mkText (wpAny_bind (wpAny_attempt (wpAny_holding (wpAny_bind (L0.at (wpAny_bind (L1.at ?_))))))))
  dsimp only
  rw [hne, if_neg Bool.false_ne_true]
  unfold getAttrByItsOwn
  refine wpAny_bind (m := hookBefore (.ref C)) ?_
  unfold hookBefore
  rw [if_pos (show onTheHeap (Value.ref C) = true from rfl)]
  refine L2.at ?_
  refine wpAny_bind (wpAny_attempt (wpAny_holding ?_))
  unfold callGetattribute
  rw [if_neg (by simp)]
  unfold boundAndCalled
  refine wpAny_bind (wpAny_of_eq (F.attr_ValueError.ga.bind (.ref a)) ?_)
  refine wpAny_call (codeAny_call_builtin F.attr_ValueError.ga.plain F.entry_bexc_ga ?_)
  refine check_ga L0 L4 ?_
  iterate 17 lk
  refine L0.at ?_
  refine wpAny_bind (L3.at ?_)
  show wpAny _ _ (holding [Value.builtin "object.__class__"] (call (.builtin "getset_descriptor.__get__") [.builtin "object.__class__", .ref a, .ref C]) >>= ret) _ _ _
  refine wpAny_bind (wpAny_holding (wpAny_call (PySem.W.class_get (s := ⟨hh, gg, d, t + 1, os⟩) X I g.mo ?_)))
  refine wpAny_pure (a := Fin.done (.ret (.ref C))) ?_
  show wpAny _ _ (handedOut (.ref C)) _ _ _
  exact wpAny_pure (wpAny_pure h)
theorem kitx_exc (g : ExcGet K C) : PySem.W.KitX K (.ref a) (.ref C) (excAt a C) where
  ty := fun M h _ he => by
    obtain ⟨ox, I⟩ := exc_inst he
    exact I.type
  it := fun M h X _ => by
    obtain ⟨cd, hc⟩ := Option.isSome_iff_exists.mp g.cs
    unfold PySem.W.clsIn at hc
    split at hc
    · rename_i ho
      intro A' Q' E' s' k q
      unfold isType loadHead
      exact wpAny_bind (wpAny_loadPart (k _ _ (X _ _ ho)) (wpAny_pure q))
    · cases hc
  ne := fun h tp dd its n sl X htp => by
    obtain ⟨cd, hc⟩ := Option.isSome_iff_exists.mp g.cs
    refine Bool.eq_false_iff.mpr fun q => ?_
    obtain rfl : C = tp := Value.ref.inj (beq_iff_eq.mp q)
    unfold PySem.W.clsIn at hc
    split at hc
    · rename_i ho
      have z := X _ _ ho
      rw [htp] at z
      cases z
    · cases hc
  ca := fun X he k => getClass_exc g X he k
end
section
variable {X : Cx} {a b e o : Expr} {es : List Expr} {σ : L2.St} {H : Hp} {d r : D} {ds ds' : List D} {k : Bool} {p pos apos : Pos} {C c : Addr} {rest : List Stmt} {Post : L2.St → Hp → Prop}
theorem call_isiX : CallR X (.builtin "isinstance") (fun xs H Q => ∃ C x c cv b, xs = [x, c] ∧ Is X.K H (.exc C) x ∧ (∀ u, RelV c u → u = cv) ∧ ExcGet X.K C ∧ PySem.W.kitOne X.K (.ref C) cv = some b ∧ Q (.bl b) H) := by
  intro pins s σ H xs us Q I r h
  obtain ⟨C, x, c, cv, b, rfl, hx, hc, g, e, q⟩ := h
  obtain ⟨u, v, rfl, rx, rc⟩ := vals2 r
  obtain rfl := hc v rc
  cases hx with
  | exc hp =>
    cases rx
    have he := (I.hok _ _ hp).1
    exact PySem.W.kia_one (kitx_exc g) I.kIn he e (fun z => nomatch z) fun tk => ⟨.bl b, H, I.tok _, rfl, q⟩
theorem pd_isiX {cv : Value} (g : ExcGet X.K C) (hm : X.mg "isinstance" = none) (ha : PD X a σ H (.exc C)) (hb : PD X b σ H d) (hk : PySem.W.kitOne X.K (.ref C) cv = some k) (hv : ∀ H v u, Is X.K H d v → RelV v u → u = cv := by intro _ _ _ z y; cases z; exact y)
    (hg : Gl X "isinstance" := by rfl) (he : starEach [a, b] X.env = (false, eval a X.env) :: starEach [b] X.env := by rfl) (he2 : starEach [b] X.env = (false, eval b X.env) :: starEach [] X.env := by rfl)
    (hpl : (backTo pos (starEach [b] X.env)).any (·.1) = false := by rfl) : PD X (.Call (.Name "isinstance" p) [a, b] [] pos) σ H (.bl k) :=
  pd_B call_isiX hm (by decide +kernel) (pda_cons ha (pda_cons hb pda_nil he2) he) (fun vs H1 Q e1 hvs q => by
    cases hvs with
    | cons h l =>
      cases l with
      | cons h2 l =>
        cases l
        exact ⟨C, _, _, cv, k, rfl, h, fun u z => hv _ _ _ h2 z, g, hk, q _ _ (Same.refl _) (.bl _)⟩) hg (by decide) (by decide) he hpl
theorem pd_clsR {x : Str} (hm : X.mg x = some (.ref c)) (hg : Gl X x := by rfl) (hdb : (x == ("__debug__" : Str)) = false := by decide) : PD X (.Name x pos) σ H (.adr c) := pd_globR hm (.adr c) hg hdb
theorem pr_new (i : Nat) {x : Str} {pos' : Pos} (hN : X.N.Nodup) (he : PL X e σ H ds) (h : ∀ l vs H', Same H H' → H' l = some (.lst vs) → IsL X.K H' ds vs → PR X rest (σ.set i (some (.ref l))) H' r) (hi : X.N[i]? = some x := by rfl)
    (hx : Loc X.env.scope x := by first | exact Or.inl rfl | exact Or.inr rfl) (hs : swapsWith e (some (.Name x pos')) pos.line X.env = pure false := by rfl)
    (hf : X.fn x = true ∨ X.env.scope.names.lookup x = some .local := by first | exact .inl rfl | exact .inr rfl | assumption) : PR X (.Assign [.Name x pos'] e pos :: rest) σ H r :=
  PSs.imp (pss_cons (ps_set hN hi hx he hs hf) (pr_after (H := H) (P := fun σ' H' => ∃ l vs, σ' = σ.set i (some (.ref l)) ∧ H' l = some (.lst vs) ∧ IsL X.K H' ds vs) fun σ' H' e1 ⟨l, vs, e2, hl, hv⟩ => by subst e2; exact h l vs H' e1 hl hv)) fun D σ' H1 ⟨hs, e1, q⟩ => by
    subst hs
    exact ⟨rfl, e1, fun l vs H2 e2 hn hl hv => ⟨⟨l, vs, rfl, hl, hv⟩, e1.trans e2, fun v H3 e3 hv => q v H3 (e2.trans e3) hv⟩⟩
theorem pl_cat {l : Addr} {xs : List V} (ha : PD X a σ H (.adr l)) (hl : H l = some (.lst xs)) (hx : IsL X.K H ds xs) (hb : PL X b σ H ds') (hz : ds.length + ds'.length ≤ 1000 := by simp) : PL X (.BinOp a .Add b pos) σ H (ds ++ ds') :=
  PE.imp (pe_op op_cat ha hb) fun σ' H1 Q ⟨hs, e1, q⟩ => by
    subst hs
    refine ⟨rfl, e1, fun x H2 e2 hx2 => ?_⟩
    cases hx2
    refine ⟨rfl, e1.trans e2, fun l2 vs H3 e3 hn hl2 hv => ⟨l, l2, xs, vs, rfl, rfl, (e1.trans (e2.trans e3)) _ _ hl, hl2, Nat.le_of_lt (small1000 (by rw [← hx.length, ← hv.length]; exact hz)), fun p hp => ?_⟩⟩
    exact q p _ _ ((e2.trans e3).trans (same_upd hp)) ((e2.trans e3).free hp) upd_same (IsL.append ((hx.mono (e1.trans (e2.trans e3))).mono (same_upd hp)) (hv.mono (same_upd hp)))
theorem isL_bls {K : PySem.W.Frag} : ∀ {bs : List Bool} {vs : List V}, IsL K H (bs.map D.bl) vs → vs = bs.map V.bl
  | [], _, .nil => rfl
  | b :: bs, _, .cons (.bl _) l => by rw [isL_bls l]; rfl
theorem vals_bls : ∀ {bs : List Bool} {us : List Value}, Vals (bs.map V.bl) us → us = bs.map Value.bool
  | [], _, .nil => rfl
  | b :: bs, _, .cons r t => by rw [vals_bls t, show _ = Value.bool b from r]; rfl
def isB (k : Bool) : Value → Bool
  | .bool b => b == k
  | _ => false
theorem mt_countB : MtR X "list.count" (fun x vs H Q => ∃ (p : Addr) (bs : List Bool) (k : Bool), x = .ref p ∧ vs = [.bl k] ∧ SqL X.K H p (bs.map V.bl) ∧ Q (.int (bs.countP (· == k) : Nat)) H) := by
  intro pins s σ H x vs v us Q I rx rv h
  obtain ⟨p, bs, k, rfl, rfl, hq, q⟩ := h
  cases rx
  obtain ⟨u, rfl, ru⟩ := rv.one
  obtain rfl : u = Value.bool k := ru
  obtain ⟨its, r, ⟨⟨cl, dd, dt, sl⟩, n, e, hc, hd, hs⟩, _⟩ := I.list hq
  obtain rfl := vals_bls r
  dsimp only at hc hd hs
  subst hc; subst hd; subst hs
  refine call_meets F.slot_list_count ⟨_, e, rfl⟩ F.entry_list_count (F.args_list_count_2 _ _) (SeqAt.list_countAt p _ n none sl (.bool k) (isB k)) ⟨e, fun y hy => ?_, ?_⟩
  · obtain ⟨b, _, rfl⟩ := List.mem_map.mp (List.mem_toArray.mp hy)
    exact SeqAt.EqAt.bool_bool b k
  · refine ⟨.int (bs.countP (· == k) : Nat), H, I.tok _, ⟨s.toks, ?_⟩, q⟩
    show Value.int _ _ = Value.int _ _
    rw [show ((bs.map Value.bool).toArray.toList.countP (isB k)) = bs.countP (· == k) from by
      show (bs.map Value.bool).countP (isB k) = _
      rw [List.countP_map]; rfl]
theorem mt_indexB : MtR X "list.index" (fun x vs H Q => ∃ (p : Addr) (bs : List Bool) (k : Bool) (j : Nat), x = .ref p ∧ vs = [.bl k] ∧ SqL X.K H p (bs.map V.bl) ∧ bs[j]? = some k ∧ (∀ m, m < j → bs[m]? ≠ some k) ∧ bs.length ≤ 1000 ∧ Q (.int (j : Nat)) H) := by
  intro pins s σ H x vs v us Q I rx rv h
  obtain ⟨p, bs, k, j, rfl, rfl, hq, hj, hno, hz, q⟩ := h
  cases rx
  obtain ⟨u, rfl, ru⟩ := rv.one
  obtain rfl : u = Value.bool k := ru
  obtain ⟨its, r, ⟨⟨cl, dd, dt, sl⟩, n, e, hc, hd, hs⟩, _⟩ := I.list hq
  obtain rfl := vals_bls r
  dsimp only at hc hd hs
  subst hc; subst hd; subst hs
  obtain ⟨hlt, hv⟩ := List.getElem?_eq_some_iff.mp hj
  refine call_meets F.slot_list_index ⟨_, e, rfl⟩ F.entry_list_index (F.args_list_index_2 _ _) (SeqAt.list_indexAt p _ n none sl (.bool k) (isB k) j (by simpa using hlt) (by omega) ?_ ?_) ⟨e, fun y hy => ?_, ?_⟩
  · simp [isB, hv]
  · intro m hm hmj
    have hm' : m < bs.length := by simpa using hm
    have := hno m hmj
    rw [List.getElem?_eq_getElem hm'] at this
    simpa [isB] using fun z => this (by rw [z])
  · obtain ⟨b, _, rfl⟩ := List.mem_map.mp (List.mem_toArray.mp hy)
    exact SeqAt.EqAt.bool_bool b k
  · exact ⟨.int (j : Nat), H, I.tok _, ⟨_, rfl⟩, q⟩
theorem pd_countB {bs : List Bool} (ho : PD X o σ H (.lst (bs.map D.bl))) (ha : PD X a σ H (.bl k))
    (hbase : attributeBase o "count" X.env (eval o X.env) = eval o X.env := by rfl)
    (hfew : ((backTo pos (starEach [a] X.env)).all (fun x => !x.1) && (backToKw pos (keywordEach [] X.env)).all (fun x => x.1.isSome)
      && decide ([a].length + ([] : List Keyword).length + (if ([] : List Keyword).isEmpty then 0 else 1) < 30)) = true := by rfl)
    (hline : (apos.endLine == pos.line) = true := by rfl) (hs : starEach [a] X.env = (false, eval a X.env) :: starEach [] X.env := by rfl) (hplain : (backTo pos (starEach [] X.env)).any (·.1) = false := by rfl) :
    PD X (.Call (.Attribute o "count" apos) [a] [] pos) σ H (.int (bs.countP (· == k) : Nat)) :=
  PD.of (pe_bm PySem.F.plainAttrs_list PySem.F.slot_list_count PySem.F.type_list_count mt_countB ho (pda_cons ha pda_nil hs) hbase hfew hline hs hplain) fun H1 Q e1 q => ⟨rfl, e1, fun v H2 e2 hv => by
    cases hv with
    | lst hq l =>
      obtain rfl := isL_bls l
      refine ⟨.inl ⟨rfl, _, hq⟩, rfl, e1.trans e2, fun vs H3 e3 hvs => ?_⟩
      cases hvs with
      | cons h l =>
        cases l; cases h
        exact ⟨_, bs, k, rfl, rfl, e3.seq hq, q _ _ (e2.trans e3) (.int _)⟩⟩
theorem pd_indexB {bs : List Bool} {j : Nat} (ho : PD X o σ H (.lst (bs.map D.bl))) (ha : PD X a σ H (.bl k)) (hj : bs[j]? = some k) (hno : ∀ m, m < j → bs[m]? ≠ some k) (hz : bs.length ≤ 1000 := by decide)
    (hbase : attributeBase o "index" X.env (eval o X.env) = eval o X.env := by rfl)
    (hfew : ((backTo pos (starEach [a] X.env)).all (fun x => !x.1) && (backToKw pos (keywordEach [] X.env)).all (fun x => x.1.isSome)
      && decide ([a].length + ([] : List Keyword).length + (if ([] : List Keyword).isEmpty then 0 else 1) < 30)) = true := by rfl)
    (hline : (apos.endLine == pos.line) = true := by rfl) (hs : starEach [a] X.env = (false, eval a X.env) :: starEach [] X.env := by rfl) (hplain : (backTo pos (starEach [] X.env)).any (·.1) = false := by rfl) :
    PD X (.Call (.Attribute o "index" apos) [a] [] pos) σ H (.int (j : Nat)) :=
  PD.of (pe_bm PySem.F.plainAttrs_list PySem.F.slot_list_index PySem.F.type_list_index mt_indexB ho (pda_cons ha pda_nil hs) hbase hfew hline hs hplain) fun H1 Q e1 q => ⟨rfl, e1, fun v H2 e2 hv => by
    cases hv with
    | lst hq l =>
      obtain rfl := isL_bls l
      refine ⟨.inl ⟨rfl, _, hq⟩, rfl, e1.trans e2, fun vs H3 e3 hvs => ?_⟩
      cases hvs with
      | cons h l =>
        cases l; cases h
        exact ⟨_, bs, k, j, rfl, rfl, e3.seq hq, hj, hno, hz, q _ _ (e2.trans e3) (.int _)⟩⟩
theorem pn1_comp {elt iter : Expr} {scope : Scope} {cl : List (Str × Addr)} {N : List Str} {σc : L2.St} {x y : Str} {px py spos : Pos} {n : Nat} {din dout : Nat → D} (i : Nat) (hN : X.N.Nodup)
    (hsw : swapsWith (.ListComp elt [⟨.Name x px, iter, [], 0⟩] scope pos) (some (.Name y py)) spos.line X.env = pure true) (hc : X.calm = true) (t : Takes X σ scope cl N σc x) (hG : Gives X (.Name x px) iter σ H n din) (hn : n ≤ 1000) (hno : ∀ i, noL (dout i) = true)
    (helt : ∀ (C : Addr) (s2 : Shared) (H2 : Hp) (fp : List Addr) (i : Nat) (v : V) (H3 : Hp), i < n → Same H H3 → Is X.K H3 (din i) v → PD (cxComp X scope cl N C s2 H2 fp) elt (σc.set 0 (some v)) H3 (dout i))
    (h : ∀ v H', Same H H' → Is X.K H' (.lst ((List.range n).map dout)) v → Post (σ.set i (some v)) H') (hi : X.N[i]? = some y := by rfl) (hy : Loc X.env.scope y := by first | exact Or.inl rfl | exact Or.inr rfl)
    (hf : X.fn y = true ∨ X.env.scope.names.lookup y = some .local := by first | exact .inl rfl | exact .inr rfl | assumption) (hfs : ∀ x, foldedSetIterable iter X.env x = pure x := by intro _; rfl) :
    PN1 X (.Assign [.Name y py] (.ListComp elt [⟨.Name x px, iter, [], 0⟩] scope pos) spos) σ H Post :=
  PS.imp (ps_comp hN hi hy hf hsw hc t hG hn hno helt hfs) fun D σ' H1 ⟨hs, e1, q⟩ => by
    subst hs
    exact ⟨rfl, e1, fun l vs H2 e2 hn hl hv => q _ _ e2 (h (.ref l) H2 (e1.trans e2) (.lst (SqL.of hl) hv))⟩
theorem takes1 {scope : Scope} {x y : Str} {cy : Addr} {j : Nat} {v : V} (clos : closureFor scope X.env = pure [(y, cy)]) (hcell : ∀ z ∈ scope.names, z.2 ≠ .cell) (hkind : scope.kind = .function)
    (hnames : ∀ z ∈ scope.names, z.2 = .local → scope.names.lookup z.1 = some .local) (hloc : scope.names.lookup x = some .local) (hxy : x ≠ y) (hsub : X.env.cells.lookup y = some cy) (hN : X.N[j]? = some y) (hσ : σ[j]? = some (some v)) (hk : X.env.kindOf y = some .cell)
    (hrel : (relabel scope X.env).names.lookup y = some .cell ∨ (relabel scope X.env).names.lookup y = some .free) (hhas : ∀ z ∈ scope.names, z.2 = .free → z.1 = y) : Takes X σ scope [(y, cy)] [x, y] [none, some v] x where
  clos := clos
  cell := hcell
  kind := hkind
  names := hnames
  loc := hloc
  nd := by simp [hxy]
  first := rfl
  len := rfl
  sub := fun z c h => by
    have h' := PySem.mem_of_lookup h
    simp only [List.mem_singleton, Prod.mk.injEq] at h'
    rw [h'.1, h'.2]; exact hsub
  has := fun z h => by
    have hz : z = y := by
      have key : ∀ k, (relabel scope X.env).names.lookup z = some k → (k = .cell ∨ k = .free) → z = y := fun k hk' hk2 => by
        have hm := PySem.mem_of_lookup hk'
        obtain ⟨⟨n', k'⟩, hm1, hm2⟩ := List.mem_map.mp hm
        by_cases hf : k' = .free
        · have := hhas _ hm1 hf
          dsimp only at this hm2
          subst this
          split at hm2
          · exact (Prod.mk.inj hm2).1.symm
          · exact (Prod.mk.inj hm2).1.symm
        · dsimp only at hm2
          have e : (k' == NameKind.free) = false := by simpa using hf
          rw [e] at hm2
          simp only [Bool.false_and, Bool.false_eq_true, if_false] at hm2
          obtain ⟨rfl, rfl⟩ := Prod.mk.inj hm2
          rcases hk2 with q | q
          · exact absurd q (hcell _ hm1)
          · exact absurd q hf
      rcases h with h | h
      · exact key _ h (.inl rfl)
      · exact key _ h (.inr rfl)
    exact ⟨cy, by rw [hz]; simp⟩
  cap := fun i z u h1 h2 => by
    match i, h1, h2 with
    | 0, _, h2 => cases h2
    | 1, h1, h2 =>
      cases h1; cases h2
      exact ⟨j, hN, hσ, hk, ⟨cy, by simp⟩, hrel⟩
    | i + 2, h1, _ => simp at h1
end
end L3
set_option Elab.async false
set_option linter.all false
set_option maxRecDepth 100000
namespace L3
open PySem PySem.Spec PyProof.Rows L2
def CMulB (i j : Int) : Prop := ∃ m n : Nat, i.natAbs < 2 ^ m ∧ j.natAbs < 2 ^ n ∧ m + n ≤ 134217728
theorem CMulB.ok {i j : Int} (h : CMulB i j) : IntMulOk i j :=
  let ⟨_, _, h1, h2, h3⟩ := h
  IntMulOk.of_le (intBits_le_iff.mpr h1) (intBits_le_iff.mpr h2) h3
def CDivB (i j : Int) : Prop := 0 < j ∧ j.natAbs < 2 ^ 9000
section
variable {X : Cx} {a b e c o : Expr} {es : List Expr} {σ : L2.St} {H : Hp} {i j : Int} {d : D} {ds : List D} {pos p apos : Pos}
theorem op_mulB : OpR X (binaryOp .Mult) (rI CMulB fun i j => .int (i * j)) := opI fun _ _ _ _ _ _ _ hc q => mul_int q hc.ok
theorem op_fdivB : OpR X (binaryOp .FloorDiv) (rI CDivB fun i j => .int (i / j)) := opI fun i j _ _ _ _ _ hc q => by
  have h1 : (0 : Int) < j := hc.1
  have h2 : j.natAbs.log2 < 9000 := (Nat.log2_lt (by omega)).mpr hc.2
  exact floordiv_int (by omega) (by rw [Int.fdiv_eq_ediv_of_nonneg i (by omega)]; exact q) (.inl (PyProof.noPylong_of_log2 h2))
theorem pd_mulB (ha : PD X a σ H (.int i)) (hb : PD X b σ H (.int j)) (hc : CMulB i j) : PD X (.BinOp a .Mult b pos) σ H (.int (i * j)) :=
  pd_op2 op_mulB ha hb fun _ _ _ _ _ hx hy q => by cases hx; cases hy; exact ⟨i, j, rfl, rfl, hc, q _ _ (Same.refl _) (.int _)⟩
theorem pd_divB (ha : PD X a σ H (.int i)) (hb : PD X b σ H (.int j)) (hc : CDivB i j) : PD X (.BinOp a .FloorDiv b pos) σ H (.int (i / j)) :=
  pd_op2 op_fdivB ha hb fun _ _ _ _ _ hx hy q => by cases hx; cases hy; exact ⟨i, j, rfl, rfl, hc, q _ _ (Same.refl _) (.int _)⟩
theorem pd_max2 (hcm : X.calm = true) (hm : X.mg "max" = none) (ha : PD X a σ H (.int i)) (hb : PD X b σ H (.int j)) (hg : Gl X "max" := by rfl) (he : starEach [a, b] X.env = (false, eval a X.env) :: starEach [b] X.env := by rfl)
    (he2 : starEach [b] X.env = (false, eval b X.env) :: starEach [] X.env := by rfl) (hpl : (backTo pos (starEach [b] X.env)).any (·.1) = false := by rfl) : PD X (.Call (.Name "max" p) [a, b] [] pos) σ H (.int (mxP (i, j))) :=
  pd_B (call_max2 hcm) hm (by decide +kernel) (pda_cons ha (pda_cons hb pda_nil he2) he) (fun vs H1 Q e1 hvs q => by
    obtain ⟨v0, v1, rfl, h0, h1⟩ := isL2 hvs
    cases h0; cases h1
    exact ⟨i, j, rfl, q _ _ (Same.refl _) (.int _)⟩) hg (by decide) (by decide) he hpl
end
section
variable {X : Cx} {c : Expr} {body : List Stmt} {σ : L2.St} {H : Hp} {pos : Pos} {Post : L2.St → Hp → Prop}
theorem pn1_while (Pv : L2.St → Hp → Prop) (μ : L2.St → Nat) (hp : PassesOwn (model X.prog X.w) X.A X.env X.xe) (h0 : ∀ H', Same H H' → Pv σ H')
    (hs : ∀ σ1 H1, Same H H1 → Pv σ1 H1 → ∃ k, PDT X c σ1 H1 k ∧ (k = true → PN X body σ1 H1 (fun σ2 H2 => Pv σ2 H2 ∧ μ σ2 < μ σ1)) ∧ (k = false → ∀ H2, Same H1 H2 → Post σ1 H2)) : PN1 X (.While c body [] pos) σ H Post := by
  have hc : PT X c (fun σ1 H1 Q => ∃ k, PDT X c σ1 H1 k ∧ ∀ H2, Same H1 H2 → Q k H2) := fun pins s σ1 H1 Q I ⟨k, h, q⟩ => h pins s σ1 H1 Q I ⟨rfl, Same.refl _, q⟩
  have hb : PSs X body (fun E σ1 H1 => ∃ Post', PN X body σ1 H1 Post' ∧ ∀ σ2 H2, Same H1 H2 → Post' σ2 H2 → E.nx σ2 H2) := fun pins s σ1 H1 E I ⟨Po, h, q⟩ => h pins s σ1 H1 E I ⟨rfl, Same.refl _, q⟩
  refine PS.imp (ps_while hp hc hb) fun E σ' H1 ⟨hss, e1, q⟩ => ?_
  subst hss
  refine while_by (fun σ1 H2 => Same H1 H2 ∧ Pv σ1 H2) (fun σ1 _ => μ σ1) ⟨Same.refl _, h0 _ e1⟩ (fun σ1 H2 ⟨e2, pv⟩ => ?_) (fun σ1 H2 Q Q' f ⟨k, h, z⟩ => ⟨k, h, fun H3 e3 => f _ _ (z H3 e3)⟩)
  obtain ⟨k, hk, ht, hf⟩ := hs σ1 H2 (e1.trans e2) pv
  refine ⟨k, hk, fun H3 e3 => ?_⟩
  cases k with
  | true =>
    rw [if_pos rfl]
    refine ⟨_, fun pins s σ4 H4 E4 I ⟨h1, h2, h3⟩ => ht rfl pins s σ4 H4 E4 I ⟨h1, e3.trans h2, h3⟩, fun σ2 H4 e4 ⟨p4, m4⟩ => ⟨⟨(e2.trans e3).trans e4, p4⟩, m4⟩⟩
  | false =>
    rw [if_neg Bool.false_ne_true]
    exact q _ _ (e2.trans e3) (hf rfl H3 e3)
end
section
variable {X : Cx} {e o : Expr} {es : List Expr} {σ : L2.St} {H : Hp} {d : D} {ds fds : List D} {p pos apos : Pos} {C : Addr} {ns : List Str}
theorem map_some_get {fs : List (Str × V)} {vs : List V} {i : Nat} {f : Str} (h : ns.map (fun n => fs.lookup n) = vs.map some) (hi : ns[i]? = some f) : ∃ v, vs[i]? = some v ∧ fs.lookup f = some v := by
  have h1 : (ns.map (fun n => fs.lookup n))[i]? = some (fs.lookup f) := by rw [List.getElem?_map, hi]; rfl
  rw [h, List.getElem?_map] at h1
  cases hv : vs[i]? with
  | none => rw [hv] at h1; cases h1
  | some v => rw [hv] at h1; exact ⟨v, rfl, (Option.some.inj h1).symm⟩
theorem pd_fldO {f : Str} (i : Nat) (ho : PD X o σ H (.ob C ns fds)) (hc : Cls X.K C) (hn : NoAttr X.K C f) (hi : ns[i]? = some f := by rfl) (hd : fds[i]? = some d := by rfl)
    (hb : attributeBase o f X.env (eval o X.env) = eval o X.env := by rfl) : PD X (.Attribute o f pos) σ H d :=
  PD.of (pe_fld ho hb) fun H1 Q e1 q => ⟨rfl, e1, fun x H2 e2 hx => by
    cases hx with
    | ob h1 h2 h3 h4 =>
      obtain ⟨v, hv1, hv2⟩ := map_some_get h2 hi
      obtain ⟨v', hv', hd'⟩ := h4.get hd
      rw [hv1] at hv'
      cases hv'
      exact ⟨_, C, _, _, v, rfl, h1, hc, hn, hv2, q _ _ e2 hd'⟩⟩
theorem pd_doesO {n : Nat} {m : Str} {ps : List Str} {R : List D → D → Prop} {pl : Sem Bool} (h : DoesM X.prog X.w X.K X.mg X.base n C m ps R) (hc : Cls X.K C) (hr : Room n X.A) (ho : PD X o σ H (.ob C ns fds)) (hl : m ∉ ns) (ha : PDA X (e :: es) σ H ds) (hR : R (.ob C ns fds :: ds) d)
    (hst : starEach (e :: es) X.env = (false, eval e X.env) :: starEach es X.env := by rfl) (hpl : (backTo pos (starEach es X.env)).any (·.1) = false := by rfl)
    (ht : eval (.Call (.Attribute o m apos) (e :: es) [] pos) X.env = (do
      let ov ← eval o X.env
      standAt apos.atName
      let (f, first) ← holding [ov] (getMethod ov m pl)
      callWith pos f first (backTo pos (starEach (e :: es) X.env)) (backToKw pos (keywordEach [] X.env))) := by rfl) : PD X (.Call (.Attribute o m apos) (e :: es) [] pos) σ H d := by
  obtain ⟨f, fd, F, hm, hb⟩ := h
  refine PD.of (pe_meth (dvs := []) ho hc hm F hr hb .nil pass0 ha hst hpl ht) fun H1 Q e1 q => ⟨rfl, e1, fun v H2 e2 hv => ?_⟩
  cases hv with
  | ob h1 h2 h3 h4 =>
    refine ⟨_, _, _, rfl, h1, h3 m hl, rfl, e1.trans e2, fun vs H3 e3 hvs => ?_⟩
    show spD X.K R (_ :: (vs ++ [])) H3 Q E0
    rw [List.append_nil]
    exact ⟨_, _, .cons ((Is.ob h1 h2 h3 h4).mono e3) hvs, hR, fun v H4 e4 hv => q _ _ ((e2.trans e3).trans e4) hv⟩
def spMakeO (K : PySem.W.Frag) (C : Addr) (ns : List Str) (R : List D → List D → Prop) : Sp := fun vs H Q _ => ∃ p dx us ds fds, vs = .ref p :: us ∧ IsL K H ds us ∧ R ds fds ∧ H p = some (.ins C dx []) ∧
  ∀ H', (∀ b o, H b = some o → b ≠ p → H' b = some o) → Is K H' (.ob C ns fds) (.ref p) → Q .non H'
def MakesO (P : Program) (w : World) (K : PySem.W.Frag) (mg : Str → Option Value) (base : Heap) (n : Nat) (C : Addr) (x : Str) (ps : List Str) (ns : List Str) (R : List D → List D → Prop) : Prop :=
  ∃ f fd, FnOk P w K mg base CX0 n f fd ps (spMakeO K C ns R) ∧ Mk K C f ∧ mg x = some (.ref C) ∧ Binds K fd ps []
theorem pd_makesO {n : Nat} {x : Str} {ps : List Str} {R : List D → List D → Prop} (h : MakesO X.prog X.w X.K X.mg X.base n C x ps ns R) (hr : Room (n + 1) X.A) (ha : PDA X (e :: es) σ H ds) (hR : R ds fds) (hg : Gl X x := by rfl) (hdb : (x == ("__debug__" : Str)) = false := by decide)
    (he : starEach (e :: es) X.env = (false, eval e X.env) :: starEach es X.env := by rfl) (hpl : (backTo pos (starEach es X.env)).any (·.1) = false := by rfl) : PD X (.Call (.Name x p) (e :: es) [] pos) σ H (.ob C ns fds) := by
  obtain ⟨f, fd, F, M, hm, hb⟩ := h
  refine PD.of (pe_make (dvs := []) M F hr hg hm hb .nil pass0 ha hdb he hpl) fun H1 Q e1 q => ⟨rfl, e1, fun vs H2 e2 hvs x' dx hx hdx hne => ?_⟩
  have s0 : Same H2 (upd (upd H2 dx (.own x')) x' (.ins C dx [])) := fun b o e => by
    rw [upd_ne (ne_of_none e hx), upd_ne (ne_of_none e hdx)]
    exact e
  refine ⟨x', dx, vs, ds, fds, by rw [List.append_nil], hvs.mono s0, hR, upd_same, fun H' k1 k2 => ⟨rfl, ?_⟩⟩
  exact q _ _ (e2.trans fun b o e => k1 b o (s0 b o e) (ne_of_none e hx)) k2
end
abbrev k2 (i j : Int) : List Key := [Sum.inl i, Sum.inl j]
section
variable {K : PySem.W.Frag} {H : Hp} {l : Addr} {kvs : List (List Key × V)} {o : HO}
theorem sqT_updD {p : Addr} {ys : List V} (hl : H l = some (.dT kvs)) (h : SqT K H p ys) : SqT K (upd H l o) p ys := by
  rcases h with (h | ⟨b, h⟩) | h
  · exact .inl (.inl (by rw [upd_ne (ne_of h hl (by intro z; cases z))]; exact h))
  · exact .inl (.inr ⟨b, by rw [upd_ne (ne_of h hl (by intro z; cases z))]; exact h⟩)
  · exact .inr h
theorem sqL_updD {p : Addr} {ys : List V} (hl : H l = some (.dT kvs)) (h : SqL K H p ys) : SqL K (upd H l o) p ys := by
  rcases h with (h | ⟨b, h⟩) | h
  · exact .inl (.inl (by rw [upd_ne (ne_of h hl (by intro z; cases z))]; exact h))
  · exact .inl (.inr ⟨b, by rw [upd_ne (ne_of h hl (by intro z; cases z))]; exact h⟩)
  · exact .inr h
mutual
theorem Is.updD (hl : H l = some (.dT kvs)) : ∀ {d : D} {v : V}, Is K H d v → Is K (upd H l o) d v
  | _, _, .non => .non
  | _, _, .bl b => .bl b
  | _, _, .int i => .int i
  | _, _, .str x => .str x
  | _, _, .ty n => .ty n
  | _, _, .adr a => .adr a
  | _, _, .tup h q => .tup (sqT_updD hl h) (IsL.updD hl q)
  | _, _, .lst h q => .lst (sqL_updD hl h) (IsL.updD hl q)
  | _, _, .obj h => .obj (by rw [upd_ne (ne_of h hl (by intro z; cases z))]; exact h)
  | _, _, .exc h => .exc (by rw [upd_ne (ne_of h hl (by intro z; cases z))]; exact h)
  | _, _, .ob h1 h2 h3 h4 => .ob (by rw [upd_ne (ne_of h1 hl (by intro z; cases z))]; exact h1) h2 h3 (IsL.updD hl h4)
theorem IsL.updD (hl : H l = some (.dT kvs)) : ∀ {ds : List D} {vs : List V}, IsL K H ds vs → IsL K (upd H l o) ds vs
  | _, _, .nil => .nil
  | _, _, .cons h q => .cons (Is.updD hl h) (IsL.updD hl q)
end
end
section
variable {X : Cx} {o i e k1 k2' : Expr} {σ : L2.St} {H : Hp} {d : D} {pos pos' : Pos} {Pre Nx : L2.St → Hp → Prop}
theorem pd_dgetP {l : Addr} {kvs : List (List Key × V)} {q : Int × Int} {v : V} (hu : X.A.units + 64 < cLine) (ho : PD X o σ H (.adr l)) (hl : H l = some (.dT kvs)) (hi : PD X i σ H (dP q)) (hv : valV kvs (k2 q.1 q.2) = some v)
    (hd : ∀ H', Same H H' → Is X.K H' d v) (hs : NoSl i := by intro _ _; rfl) : PD X (.Subscript o i pos) σ H d := by
  intro pins s σ' H1 Q I ⟨hss, e1, z⟩
  subst hss
  refine subD_of PySem.F.slot_dict_getitem.lookup hs (thn (ho pins s σ' H1 (fun x H2 => Same H1 H2 ∧ x = .ref l) I ⟨rfl, e1, fun x H2 e2 hx => by cases hx; exact ⟨e2, rfl⟩⟩) fun u s1 ⟨x, H2, I2, rx, e2, ex⟩ => ?_)
  subst ex
  obtain rfl : u = Value.ref l := rx
  refine thn (hi pins s1 σ' H2 (fun y H3 => Same H2 H3 ∧ ∃ b, y = .ref b ∧ SqT X.K H3 b [.int q.1, .int q.2]) I2 ⟨rfl, e1.trans e2, fun y H3 e3 hy => ⟨e3, dP_inv hy⟩⟩) fun iv s2 ⟨y, H3, I3, ry, e3, b, ey, hq⟩ => ?_
  subst ey
  cases (show iv = Value.ref b from ry)
  have hl3 : H3 l = some (.dT kvs) := e3 _ _ (e2 _ _ (e1 _ _ hl))
  obtain ⟨zl, hd', xs, rel, dd⟩ := dt_of I3.hok hl3
  obtain ⟨w', hw, rw'⟩ := RelO.some_of (v := v) (o := (atKey xs (k2 q.1 q.2)).map (·.2)) (by rw [← hv]; exact rel.val _)
  obtain ⟨p, hp, hp2⟩ := Option.map_eq_some_iff.mp hw
  obtain ⟨its, rv, ⟨ob, h1, h2, n, h3⟩, _⟩ := I3.tuple hq
  have key : (tupleKind (mixKind X.prog X.w)).is s2.heap (k2 q.1 q.2) b := ⟨ob, its.toArray, n, h1, h2, h3, by simpa using items_are (ks := k2 q.1 q.2) rv⟩
  refine ⟨dd.typeIs, wpAny_getItem_heap (tupleKind_room_in1 (by omega)) key dd hp ?_⟩
  rw [hp2]
  exact ⟨v, H3, I3.tok _, rw', z _ _ (e2.trans e3) (hd _ ((e1.trans e2).trans e3))⟩
theorem pq1_dputP (hu : X.A.units + 64 < cLine) (h : ∀ σ H, Pre σ H → ∃ l kvs i1 i2 d, PD X o σ H (.adr l) ∧ H l = some (.dT kvs) ∧ kvs.length < sizeLine ∧ PDA X [k1, k2'] σ H [.int i1, .int i2] ∧ PD X e σ H d ∧
      ∀ v H', Same H H' → Is X.K H' d v → Nx σ (upd H' l (.dT (putK kvs (k2 i1 i2) v)))) {ctx : Pos} {x1 : Nat}
    (hs : swapsWith e (some (.Subscript o (.Tuple [k1, k2'] x1 ctx) pos')) pos.line X.env = pure false := by rfl) : PQ1 X (.Assign [.Subscript o (.Tuple [k1, k2'] x1 ctx) pos'] e pos) Pre Nx := fun pins s σ H D I ⟨p, q⟩ => by
  obtain ⟨l, kvs, i1, i2, d, ho, hl, hz, hk, he, f⟩ := h σ H p
  refine ps_dput (by omega) ho (pe_tup hk) he hs pins s σ H D I ⟨rfl, Same.refl _, fun v H2 e2 hv => ⟨rfl, e2, fun x H3 e3 hx => ?_⟩⟩
  cases hx
  refine ⟨rfl, e2.trans e3, fun vs H4 e4 hvs => ?_⟩
  obtain ⟨u1, u2, rfl, h1, h2⟩ := isL2 hvs
  cases h1; cases h2
  refine ⟨by show 2 ≤ sizeLine; rw [sizeLine_eq]; decide, fun b hb => ?_⟩
  have e34 : Same H2 (upd H4 b (.tup [.int i1, .int i2])) := (e3.trans e4).trans (same_upd hb)
  have e24 : Same H (upd H4 b (.tup [.int i1, .int i2])) := e2.trans e34
  exact ⟨l, _, rfl, DPut.t (k := k2 i1 i2) (e24 _ _ hl) upd_same hz, q _ _ (f v _ e24 (hv.mono e34))⟩
theorem pq1_dnewP (n : Nat) {x : Str} {px : Pos} {ctx dpos : Pos} {x1 : Nat} (hN : X.N.Nodup) (hu : X.A.units + 64 < cLine) (h : ∀ σ H, Pre σ H → ∃ i1 i2 d, PDA X [k1, k2'] σ H [.int i1, .int i2] ∧ PD X e σ H d ∧
      ∀ l v H', Same H H' → H l = none → Is X.K H' d v → H' l = some (.dT [(k2 i1 i2, v)]) → Nx (σ.set n (some (.ref l))) H') (hi : X.N[n]? = some x := by rfl)
    (hx : Loc X.env.scope x := by first | exact Or.inl rfl | exact Or.inr rfl) (hs : swapsWith (.Dict [some (.Tuple [k1, k2'] x1 ctx)] [e] dpos) (some (.Name x px)) pos.line X.env = pure false := by rfl)
    (hf : X.fn x = true ∨ X.env.scope.names.lookup x = some .local := by first | exact .inl rfl | exact .inr rfl | assumption) : PQ1 X (.Assign [.Name x px] (.Dict [some (.Tuple [k1, k2'] x1 ctx)] [e] dpos) pos) Pre Nx := fun pins0 s0 σ H D I0 ⟨p, q⟩ => by
  obtain ⟨i1, i2, d, hk, he, f⟩ := h σ H p
  have hE : PE X (.Dict [some (.Tuple [k1, k2'] x1 ctx)] [e] dpos) (fun σ' H1 Q => σ' = σ ∧ Same H H1 ∧ ∀ l v H2, Same H1 H2 → H1 l = none → Is X.K H2 d v → H2 l = some (.dT [(k2 i1 i2, v)]) → Q (.ref l) H2) := by
    intro pins s σ' H1 Q I ⟨hss, e1, z⟩
    subst hss
    have hn := I.hok.fresh (Nat.le_refl s.heap.objs.size)
    have I1 := I.laid (a := s.heap.objs.size) (o := .dT []) (h' := s.heap.push { cls := .type "dict", data := .dict #[] }) (t' := s.toks) (fun _ _ q => Heap.get?_push_of_some _ q) (Nat.le_refl _) (dt_empty s.heap I.big)
    refine wpAny_Dict_any rfl rfl (by simp) (by simp) ?_
    refine thn ((pps_cons (pe_tup hk) he pps_nil) pins _ σ' _ (fun ps H4 => Same (upd H1 s.heap.objs.size (.dT [])) H4 ∧ ∃ b v, ps = [(.ref b, v)] ∧ H4 b = some (.tup [.int i1, .int i2]) ∧ Is X.K H4 d v) I1 ?_) fun ws s2 ⟨ps, H4, I4, rel, e4, b, v, ep, hb, hv⟩ => ?_
    · refine ⟨rfl, e1.trans (same_upd hn), fun vs H2 e2 hvs => ?_⟩
      obtain ⟨u1, u2, rfl, h1, h2⟩ := isL2 hvs
      cases h1; cases h2
      refine ⟨by show 2 ≤ sizeLine; rw [sizeLine_eq]; decide, fun b hb => ⟨rfl, (e1.trans (same_upd hn)).trans (e2.trans (same_upd hb)), fun v H3 e3 hv => ?_⟩⟩
      exact ⟨(e2.trans (same_upd hb)).trans e3, b, v, rfl, e3 _ _ upd_same, hv⟩
    · subst ep
      cases rel with
      | @cons a w as ws' hr t =>
        cases t
        obtain ⟨w1, w2⟩ := w
        obtain ⟨hr1, hr2⟩ := hr
        cases (show w1 = Value.ref b from hr1)
        have hd4 : H4 s.heap.objs.size = some (.dT []) := e4 _ _ upd_same
        obtain ⟨zl, hdm, xs, rel2, dd⟩ := dt_of I4.hok hd4
        cases rel2
        show wpAny _ _ (storeAll s.heap.objs.size [(Value.ref b, w2)]) _ _ s2
        unfold storeAll
        simp only [List.forIn_cons, List.forIn_nil]
        refine wpAny_bind (wpAny_bind (wpAny_dictSet_heap (hsz := by simp) (show X.A.units < cLine by omega) (key_of (ks := k2 i1 i2) I4.hok hb) dd fun h' dd' hsb => ?_))
        refine wpAny_pure (wpAny_pure ?_)
        obtain ⟨qo, es, ep, hq, h2, h3, h4, _, h5⟩ := dd'
        exact ⟨.ref s.heap.objs.size, _, d_write (ob := .dT [(k2 i1 i2, v)]) I4 (by rw [hd4]; exact True.intro) hsb ⟨qo, hq⟩ ⟨by show 1 ≤ sizeLine; rw [sizeLine_eq]; decide, hdm, _, Paired.cons ⟨rfl, by rw [upd_ne (ne_of hb hd4 (fun z => nomatch z))]; exact hb, hr2⟩ .nil, qo, es, ep, hq, h2, h3, h4, h5⟩, rfl, z _ v _ (fun c u ec => by
          rw [upd_ne (ne_of_none ec hn)]; exact e4 _ _ (same_upd hn _ _ ec)) hn (hv.updD hd4) upd_same⟩
  exact ps_set hN hi hx hE hs hf pins0 s0 σ H D I0 ⟨rfl, Same.refl _, fun l v H2 e2 hn hv hl => q _ _ (f l v H2 e2 hn hv hl)⟩
end
section
variable {X : Cx} {σ : L2.St} {H : Hp} {iter : Expr}
theorem gives_tup {tg : Expr} {ds : List D} (he : PD X iter σ H (.tup ds)) : Gives X tg iter σ H ds.length (fun i => ds.getD i .non) :=
  ⟨_, pi_tup he, fun H1 R e1 q => ⟨rfl, e1, fun v H2 e2 hv => by
    cases hv with
    | @tup p xs _ hq l =>
      refine ⟨_, rfl, ⟨_, hq⟩, q _ _ e2 fun H3 e3 => ⟨fun i hi => ?_, ?_⟩⟩
      · have hi' : i < xs.length := by rw [← l.length]; exact hi
        refine ⟨⟨xs, xs[i], sameT e3 hq, by simp [hi']⟩, fun v H' ⟨ee, y⟩ => ⟨ee, ?_⟩⟩
        have hx := y xs (sameT e3 hq)
        obtain ⟨d, hd1, hd2⟩ := l.get' hx
        show Is X.K H3 (ds.getD i .non) v
        rw [List.getD_eq_getElem?_getD, hd1]
        exact hd2.mono e3
      · exact ⟨xs, sameT e3 hq, by rw [l.length]; exact Nat.le_refl _⟩⟩⟩
theorem mem_lookup {ys : List (Str × Addr)} {z : Str} (h : z ∈ ys.map (·.1)) : ∃ c, ys.lookup z = some c := by
  induction ys with
  | nil => cases h
  | cons y ys ih =>
    rw [List.lookup_cons]
    by_cases e : (z == y.1) = true
    · rw [e]; exact ⟨_, rfl⟩
    · have e' : (z == y.1) = false := by simpa using e
      rw [e']
      rcases List.mem_cons.mp h with q | q
      · exact absurd (by rw [q]; exact beq_self_eq_true _) e
      · exact ih q
theorem takesN {scope : Scope} {x : Str} {ys : List (Str × Addr)} {vs : List V} (clos : closureFor scope X.env = pure ys) (hcell : ∀ z ∈ scope.names, z.2 ≠ .cell) (hkind : scope.kind = .function)
    (hnames : ∀ z ∈ scope.names, z.2 = .local → scope.names.lookup z.1 = some .local) (hloc : scope.names.lookup x = some .local) (nd : (x :: ys.map (·.1)).Nodup) (hlen : vs.length = ys.length)
    (hsub : ∀ z ∈ ys, X.env.cells.lookup z.1 = some z.2)
    (hcap : ∀ (i : Nat) (z : Str × Addr) (v : V), ys[i]? = some z → vs[i]? = some v → ∃ j : Nat, X.N[j]? = some z.1 ∧ σ[j]? = some (some v) ∧ X.env.kindOf z.1 = some .cell ∧ ((relabel scope X.env).names.lookup z.1 = some .cell ∨ (relabel scope X.env).names.lookup z.1 = some .free))
    (hhas : ∀ z ∈ scope.names, z.2 = .free → z.1 ∈ ys.map (·.1)) : Takes X σ scope ys (x :: ys.map (·.1)) (none :: vs.map some) x where
  clos := clos
  cell := hcell
  kind := hkind
  names := hnames
  loc := hloc
  nd := nd
  first := rfl
  len := by simp [hlen]
  sub := fun z c h => hsub _ (PySem.mem_of_lookup h)
  has := fun z h => by
    have key : ∀ k, (relabel scope X.env).names.lookup z = some k → (k = .cell ∨ k = .free) → z ∈ ys.map (·.1) := fun k hk' hk2 => by
      have hm := PySem.mem_of_lookup hk'
      obtain ⟨⟨n', k'⟩, hm1, hm2⟩ := List.mem_map.mp hm
      by_cases hf : k' = .free
      · have := hhas _ hm1 hf
        dsimp only at this hm2
        have e : n' = z := by
          split at hm2
          · exact (Prod.mk.inj hm2).1
          · exact (Prod.mk.inj hm2).1
        rw [← e]; exact this
      · dsimp only at hm2
        have e : (k' == NameKind.free) = false := by simpa using hf
        rw [e] at hm2
        simp only [Bool.false_and, Bool.false_eq_true, if_false] at hm2
        obtain ⟨rfl, rfl⟩ := Prod.mk.inj hm2
        rcases hk2 with q | q
        · exact absurd q (hcell _ hm1)
        · exact absurd q hf
    rcases h with h | h
    · exact mem_lookup (key _ h (.inl rfl))
    · exact mem_lookup (key _ h (.inr rfl))
  cap := fun i z u h1 h2 => by
    match i, h1, h2 with
    | 0, _, h2 => cases h2
    | i + 1, h1, h2 =>
      have h1' : (ys.map (·.1))[i]? = some z := by simpa using h1
      have h2' : (vs.map some)[i]? = some (some u) := by simpa using h2
      rw [List.getElem?_map] at h1' h2'
      cases e1 : ys[i]? with
      | none => rw [e1] at h1'; cases h1'
      | some y =>
        rw [e1] at h1'
        cases h1'
        cases e2 : vs[i]? with
        | none => rw [e2] at h2'; cases h2'
        | some v =>
          rw [e2] at h2'
          cases h2'
          obtain ⟨j, a1, a2, a3, a4⟩ := hcap i y _ e1 e2
          exact ⟨j, a1, a2, a3, mem_lookup (List.mem_map_of_mem (List.mem_of_getElem? e1)), a4⟩
end
end L3
set_option linter.all false
namespace M
def rv (p e0 e1 c l : Rat) : Nat → Nat → Rat
  | 0, _ => e0
  | _ + 1, 0 => e1
  | i + 1, j + 1 => if i = 0 ∧ j = 0 then l else c + p * rv p e0 e1 c l i (j + 1) + (1 - p) * rv p e0 e1 c l (i + 1) j
termination_by i j => i + j
theorem rv_0 (p e0 e1 c l : Rat) (j : Nat) : rv p e0 e1 c l 0 j = e0 := by rw [rv]
theorem rv_s0 (p e0 e1 c l : Rat) (i : Nat) : rv p e0 e1 c l (i + 1) 0 = e1 := by rw [rv]
theorem rv_11 (p e0 e1 c l : Rat) : rv p e0 e1 c l 1 1 = l := by rw [rv]; simp
theorem rv_ss (p e0 e1 c l : Rat) {i j : Nat} (h : ¬ (i = 0 ∧ j = 0)) : rv p e0 e1 c l (i + 1) (j + 1) = c + p * rv p e0 e1 c l i (j + 1) + (1 - p) * rv p e0 e1 c l (i + 1) j := by
  rw [rv, if_neg h]
theorem race_ind {P : Nat → Nat → Prop} (h0 : ∀ j, P 0 (j + 1)) (h1 : ∀ i, P (i + 1) 0) (h2 : P 1 1) (h3 : ∀ i j, ¬ (i = 0 ∧ j = 0) → P i (j + 1) → P (i + 1) j → P (i + 1) (j + 1)) : ∀ i j, ¬ (i = 0 ∧ j = 0) → P i j := by
  have : ∀ n i j, i + j = n → ¬ (i = 0 ∧ j = 0) → P i j := by
    intro n
    induction n using Nat.strongRecOn with
    | ind n ih =>
      intro i j hn hz
      match i, j with
      | 0, 0 => exact absurd ⟨rfl, rfl⟩ hz
      | 0, j + 1 => exact h0 j
      | i + 1, 0 => exact h1 i
      | i + 1, j + 1 =>
        by_cases h : i = 0 ∧ j = 0
        · obtain ⟨rfl, rfl⟩ := h; exact h2
        · refine h3 i j h (ih (i + (j + 1)) (by omega) _ _ rfl (by omega)) (ih (i + 1 + j) (by omega) _ _ rfl (by omega))
  exact fun i j h => this _ i j rfl h
def lvl (lead : Int) (p e0 e1 c : Rat) : Rat := if lead = 1 then c + p * e0 + (1 - p) * e1 else (p * p * e0 + (1 - p) * (1 - p) * e1 + 2 * c) / (p * p + (1 - p) * (1 - p))
theorem sq_nonneg (x : Rat) : 0 ≤ x * x := by
  by_cases h : 0 ≤ x
  · exact Rat.mul_nonneg h h
  · have := Rat.mul_nonneg (a := -x) (b := -x) (by grind) (by grind)
    grind
theorem den_pos (p : Rat) : 0 < p * p + (1 - p) * (1 - p) := by
  have h1 := sq_nonneg p
  have h2 := sq_nonneg (1 - p)
  have h3 := sq_nonneg (p + p - 1)
  grind
theorem lvl2 {lead : Int} (hl : ¬ lead = 1) (p e0 e1 c : Rat) : lvl lead p e0 e1 c * (p * p + (1 - p) * (1 - p)) = p * p * e0 + (1 - p) * (1 - p) * e1 + 2 * c := by
  unfold lvl
  rw [if_neg hl]
  have h := den_pos p
  have h' : p * p + (1 - p) * (1 - p) ≠ 0 := by grind
  rw [Rat.div_mul_cancel h']
theorem lvl1 (p e0 e1 c : Rat) : lvl 1 p e0 e1 c = c + p * e0 + (1 - p) * e1 := by unfold lvl; rw [if_pos rfl]
def rc (lead : Int) (p e0 e1 c : Rat) (i j : Nat) : Rat := rv p e0 e1 c (lvl lead p e0 e1 c) i j
theorem lvl_01 (lead : Int) {p e0 e1 : Rat} (hp0 : 0 ≤ p) (hp1 : p ≤ 1) (he : e1 ≤ e0) : e1 ≤ lvl lead p e0 e1 0 ∧ lvl lead p e0 e1 0 ≤ e0 := by
  by_cases h : lead = 1
  · subst h; rw [lvl1]
    have h1 := Rat.mul_nonneg hp0 (b := e0 - e1) (by grind)
    have h2 := Rat.mul_nonneg (a := 1 - p) (b := e0 - e1) (by grind) (by grind)
    grind
  · have h1 := lvl2 h p e0 e1 0
    have h4 := den_pos p
    generalize lvl lead p e0 e1 0 = x at *
    have a1 := Rat.mul_nonneg (sq_nonneg p) (b := e0 - e1) (by grind)
    have a2 := Rat.mul_nonneg (sq_nonneg (1 - p)) (b := e0 - e1) (by grind)
    constructor
    · by_cases hx : e1 ≤ x
      · exact hx
      · have := Rat.mul_pos (a := e1 - x) (by grind) h4
        grind
    · by_cases hx : x ≤ e0
      · exact hx
      · have := Rat.mul_pos (a := x - e0) (by grind) h4
        grind
theorem mixed {p x y : Rat} (hp0 : 0 ≤ p) (hp1 : p ≤ 1) (h : y ≤ x) : y ≤ p * x + (1 - p) * y ∧ p * x + (1 - p) * y ≤ x := by
  have h1 := Rat.mul_nonneg hp0 (b := x - y) (by grind)
  have h2 := Rat.mul_nonneg (a := 1 - p) (b := x - y) (by grind) (by grind)
  grind
theorem rc_mono (lead : Int) {p e0 e1 : Rat} (hp0 : 0 ≤ p) (hp1 : p ≤ 1) (he : e1 ≤ e0) : ∀ i j, ¬ (i = 0 ∧ j = 0) →
    e1 ≤ rc lead p e0 e1 0 i j ∧ rc lead p e0 e1 0 i j ≤ e0 ∧ (∀ i' j', i = i' + 1 → j = j' + 1 → rc lead p e0 e1 0 i j' ≤ rc lead p e0 e1 0 i j ∧ rc lead p e0 e1 0 i j ≤ rc lead p e0 e1 0 i' j) := by
  unfold rc
  have hl := lvl_01 lead hp0 hp1 he
  refine race_ind (fun j => ?_) (fun i => ?_) ?_ (fun i j h h1 h2 => ?_)
  · simp only [rv_0]; exact ⟨he, by grind, fun i' j' e => by omega⟩
  · simp only [rv_s0]; exact ⟨by grind, he, fun i' j' _ e => by omega⟩
  · simp only [rv_11]; refine ⟨hl.1, hl.2, fun i' j' e1 e2 => ?_⟩
    obtain rfl : i' = 0 := by omega
    obtain rfl : j' = 0 := by omega
    rw [rv_0, rv_s0]; exact hl
  · have key : rv p e0 e1 0 (lvl lead p e0 e1 0) (i + 1) j ≤ rv p e0 e1 0 (lvl lead p e0 e1 0) i (j + 1) := by
      match i, j, h with
      | 0, j, h => rw [rv_0]; exact h2.2.1
      | i + 1, 0, h => rw [rv_s0]; exact h1.1
      | i + 1, j + 1, h =>
        have a := (h1.2.2 i (j + 1) rfl rfl).1
        have b := (h2.2.2 (i + 1) j rfl rfl).2
        grind
    have m := mixed hp0 hp1 key
    rw [rv_ss _ _ _ _ _ h]
    refine ⟨by grind, by grind, fun i' j' e1 e2 => ?_⟩
    obtain rfl : i' = i := by omega
    obtain rfl : j' = j := by omega
    grind
end M
set_option linter.all false
namespace M
open L3
def bey (g : Int) (q : Pr) : Int := mxP (mxP q - g + 1, 0)
def lk0 (g : Int) (q : Pr) : Int := g + bey g q - q.1
def lk1 (g : Int) (q : Pr) : Int := g + bey g q - q.2
def W (lead g : Int) (p e0 e1 c : Rat) (q : Pr) : Rat :=
  if wonL q g lead = true then (if q.2 < q.1 then e0 else e1) else rc lead p e0 e1 c (lk0 g q).toNat (lk1 g q).toNat
def Goes (lead g : Int) (q : Pr) : Prop := (lead = 2 ∧ wonL q g 2 = false) ∨ (lead = 1 ∧ mxP q < g)
theorem Goes.not {lead g : Int} {q : Pr} (h : Goes lead g q) : wonL q g lead = false := by
  rcases h with ⟨rfl, h⟩ | ⟨rfl, h⟩
  · exact h
  · simp [wonL]; intro h2; omega
theorem wonL_iff {q : Pr} {g l : Int} : wonL q g l = true ↔ g ≤ mxP q ∧ l ≤ absI (q.1 - q.2) := by simp [wonL]
theorem wonL_not {q : Pr} {g l : Int} : wonL q g l = false ↔ ¬ (g ≤ mxP q ∧ l ≤ absI (q.1 - q.2)) := by
  rw [← wonL_iff]; simp
theorem W_goes {lead g : Int} {p e0 e1 c : Rat} {q : Pr} (h : wonL q g lead = false) {i j : Nat} (hi : (lk0 g q).toNat = i) (hj : (lk1 g q).toNat = j) : W lead g p e0 e1 c q = rc lead p e0 e1 c i j := by
  unfold W; rw [h, if_neg Bool.false_ne_true, hi, hj]
theorem mx_spec (a b : Int) : a ≤ mxP (a, b) ∧ b ≤ mxP (a, b) ∧ (mxP (a, b) = a ∨ mxP (a, b) = b) := by
  unfold mxP; simp only []; split <;> omega
theorem mn_spec (a b : Int) : mnP (a, b) ≤ a ∧ mnP (a, b) ≤ b ∧ (mnP (a, b) = a ∨ mnP (a, b) = b) := by
  unfold mnP; simp only []; split <;> omega
theorem abs_spec (a : Int) : a ≤ absI a ∧ - a ≤ absI a ∧ (absI a = a ∨ absI a = - a) := by
  unfold absI; split <;> omega
theorem place {lead g : Int} {q : Pr} (h : Goes lead g q) : ∃ i j : Nat, lk0 g q = i + 1 ∧ lk1 g q = j + 1 ∧
    ((i = 0 ∧ j = 0 ∧ lead = 2 ∧ wonL (q.1 + 1, q.2) g lead = false ∧ lk0 g (q.1 + 1, q.2) = 1 ∧ lk1 g (q.1 + 1, q.2) = 2 ∧ wonL (q.1, q.2 + 1) g lead = false ∧ lk0 g (q.1, q.2 + 1) = 2 ∧ lk1 g (q.1, q.2 + 1) = 1) ∨
     (¬ (i = 0 ∧ j = 0 ∧ lead = 2) ∧
       ((i = 0 ∧ wonL (q.1 + 1, q.2) g lead = true ∧ q.2 < q.1 + 1) ∨ (¬ i = 0 ∧ wonL (q.1 + 1, q.2) g lead = false ∧ lk0 g (q.1 + 1, q.2) = i ∧ lk1 g (q.1 + 1, q.2) = j + 1)) ∧
       ((j = 0 ∧ wonL (q.1, q.2 + 1) g lead = true ∧ ¬ q.2 + 1 < q.1) ∨ (¬ j = 0 ∧ wonL (q.1, q.2 + 1) g lead = false ∧ lk0 g (q.1, q.2 + 1) = i + 1 ∧ lk1 g (q.1, q.2 + 1) = j)))) := by
  obtain ⟨a, b⟩ := q
  refine ⟨(lk0 g (a, b) - 1).toNat, (lk1 g (a, b) - 1).toNat, ?_⟩
  have m1 := mx_spec a b
  have m2 := mx_spec (a + 1) b
  have m3 := mx_spec a (b + 1)
  have t1 := abs_spec (a - b)
  have t2 := abs_spec (a + 1 - b)
  have t3 := abs_spec (a - (b + 1))
  have y1 := mx_spec (mxP (a, b) - g + 1) 0
  have y2 := mx_spec (mxP (a + 1, b) - g + 1) 0
  have y3 := mx_spec (mxP (a, b + 1) - g + 1) 0
  have h' : (lead = 2 ∧ ¬ (g ≤ mxP (a, b) ∧ 2 ≤ absI (a - b))) ∨ (lead = 1 ∧ mxP (a, b) < g) := h.imp (fun ⟨e, z⟩ => ⟨e, wonL_not.mp z⟩) id
  simp only [wonL_iff, wonL_not]
  unfold lk0 lk1 bey
  simp only []
  generalize mxP (mxP (a, b) - g + 1, 0) = Y1 at *
  generalize mxP (mxP (a + 1, b) - g + 1, 0) = Y2 at *
  generalize mxP (mxP (a, b + 1) - g + 1, 0) = Y3 at *
  generalize mxP (a, b) = M1 at *
  generalize mxP (a + 1, b) = M2 at *
  generalize mxP (a, b + 1) = M3 at *
  generalize absI (a - b) = T1 at *
  generalize absI (a + 1 - b) = T2 at *
  generalize absI (a - (b + 1)) = T3 at *
  clear h
  have hY1 : Y1 = if M1 - g + 1 < 0 then 0 else M1 - g + 1 := by split <;> omega
  have hY2 : Y2 = if M2 - g + 1 < 0 then 0 else M2 - g + 1 := by split <;> omega
  have hY3 : Y3 = if M3 - g + 1 < 0 then 0 else M3 - g + 1 := by split <;> omega
  clear y1 y2 y3
  rcases (by omega : a < b ∨ a = b ∨ b < a) with o | o | o
  · obtain rfl : M1 = b := by omega
    obtain rfl : M2 = M1 := by omega
    obtain rfl : M3 = M2 + 1 := by omega
    obtain rfl : T1 = M2 - a := by omega
    obtain rfl : T2 = M2 - a - 1 := by omega
    obtain rfl : T3 = M2 - a + 1 := by omega
    clear m1 m2 m3 t1 t2 t3
    rcases h' with ⟨rfl, h⟩ | ⟨rfl, h⟩
    · by_cases hg : g ≤ M2
      · rw [if_neg (by omega)] at hY1 hY2 hY3
        omega
      · by_cases hg2 : M2 = g - 1
        · rw [if_neg (by omega)] at hY1 hY2 hY3
          omega
        · rw [if_pos (by omega)] at hY1 hY2
          split at hY3 <;> omega
    · by_cases hg2 : M2 = g - 1
      · rw [if_neg (by omega)] at hY1 hY2 hY3
        omega
      · rw [if_pos (by omega)] at hY1 hY2
        split at hY3 <;> omega
  · subst o
    obtain rfl : M1 = a := by omega
    obtain rfl : M2 = M1 + 1 := by omega
    obtain rfl : M3 = M1 + 1 := by omega
    obtain rfl : T1 = 0 := by omega
    obtain rfl : T2 = 1 := by omega
    obtain rfl : T3 = 1 := by omega
    clear m1 m2 m3 t1 t2 t3
    by_cases hg : g - 1 ≤ M1
    · rw [if_neg (by omega)] at hY1 hY2 hY3
      omega
    · rw [if_pos (by omega)] at hY1
      by_cases hg2 : g - 2 = M1
      · rw [if_neg (by omega)] at hY2 hY3
        omega
      · rw [if_pos (by omega)] at hY2 hY3
        omega
  · obtain rfl : M1 = a := by omega
    obtain rfl : M2 = M1 + 1 := by omega
    obtain rfl : M3 = M1 := by omega
    obtain rfl : T1 = M3 - b := by omega
    obtain rfl : T2 = M3 - b + 1 := by omega
    obtain rfl : T3 = M3 - b - 1 := by omega
    clear m1 m2 m3 t1 t2 t3
    rcases h' with ⟨rfl, h⟩ | ⟨rfl, h⟩
    · by_cases hg : g ≤ M3
      · rw [if_neg (by omega)] at hY1 hY2 hY3
        omega
      · by_cases hg2 : M3 = g - 1
        · rw [if_neg (by omega)] at hY1 hY2 hY3
          omega
        · rw [if_pos (by omega)] at hY1 hY3
          split at hY2 <;> omega
    · by_cases hg2 : M3 = g - 1
      · rw [if_neg (by omega)] at hY1 hY2 hY3
        omega
      · rw [if_pos (by omega)] at hY1 hY3
        split at hY2 <;> omega
theorem goes_ne {lead g : Int} {q : Pr} (h : Goes lead g q) : ¬ ((lk0 g q).toNat = 0 ∧ (lk1 g q).toNat = 0) := by
  obtain ⟨i, j, hi, hj, _⟩ := place h
  omega
def Known (lead g : Int) (q : Pr) : Prop := Goes lead g q ∨ wonL q g lead = true
theorem Goes.step {lead g : Int} {q : Pr} (h : Goes lead g q) : Known lead g (q.1 + 1, q.2) ∧ Known lead g (q.1, q.2 + 1) := by
  unfold Known
  rcases h with ⟨rfl, h⟩ | ⟨rfl, h⟩
  · constructor
    · cases e : wonL (q.1 + 1, q.2) g 2
      · exact .inl (.inl ⟨rfl, e⟩)
      · exact .inr rfl
    · cases e : wonL (q.1, q.2 + 1) g 2
      · exact .inl (.inl ⟨rfl, e⟩)
      · exact .inr rfl
  · simp only [Goes, wonL_iff]
    obtain ⟨a, b⟩ := q
    simp only [] at h ⊢
    have m1 := mx_spec a b
    have m2 := mx_spec (a + 1) b
    have m3 := mx_spec a (b + 1)
    have t2 := abs_spec (a + 1 - b)
    have t3 := abs_spec (a - (b + 1))
    constructor
    · by_cases e : mxP (a + 1, b) < g
      · exact .inl (.inr ⟨trivial, e⟩)
      · exact .inr (by omega)
    · by_cases e : mxP (a, b + 1) < g
      · exact .inl (.inr ⟨trivial, e⟩)
      · exact .inr (by omega)
theorem W_bounds {lead g : Int} {p e0 e1 : Rat} (hp0 : 0 ≤ p) (hp1 : p ≤ 1) (he : e1 ≤ e0) {q : Pr} (h : Known lead g q) : e1 ≤ W lead g p e0 e1 0 q ∧ W lead g p e0 e1 0 q ≤ e0 := by
  rcases h with h | h
  · have := rc_mono lead hp0 hp1 he _ _ (goes_ne h)
    rw [W_goes h.not rfl rfl]
    exact ⟨this.1, this.2.1⟩
  · unfold W
    rw [if_pos h]
    split <;> grind
end M
set_option linter.all false
namespace M
open L3
section
variable (g1 g2 g3 : Int) (p c E0 E1 : Rat)
def gP : Rat := W 2 g1 p 1 0 0 (0, 0)
def gC : Rat := W 2 g1 p 0 0 c (0, 0)
def sP : Rat := W 2 g2 (gP g1 p) 1 0 0 (0, 0)
def sC : Rat := W 2 g2 (gP g1 p) 0 0 (gC g1 p c) (0, 0)
def Vs (S : Pr) : Rat := W 1 g3 (sP g1 g2 p) E0 E1 (sC g1 g2 p c) S
def Vg (S G : Pr) : Rat := W 2 g2 (gP g1 p) (Vs g1 g2 g3 p c E0 E1 (S.1 + 1, S.2)) (Vs g1 g2 g3 p c E0 E1 (S.1, S.2 + 1)) (gC g1 p c) G
def Vp (S G Q : Pr) : Rat := W 2 g1 p (Vg g1 g2 g3 p c E0 E1 S (G.1 + 1, G.2)) (Vg g1 g2 g3 p c E0 E1 S (G.1, G.2 + 1)) c Q
def worth (s : Stg) : Rat := if over g3 s = true then (if s.1.1 = g3 then E0 else E1) else Vp g1 g2 g3 p c E0 E1 s.1 s.2.1 s.2.2
end
variable {g1 g2 g3 : Int} {p c E0 E1 : Rat}
theorem goes00 {g : Int} : Goes 2 g (0, 0) := .inl ⟨rfl, by rw [wonL_not]; unfold absI; simp⟩
theorem onB_iff {q : Pr} {g : Int} : onB q g = true ↔ 0 ≤ mnP q ∧ won q g = false := by simp [onB]
structure On (g1 g2 g3 : Int) (s : Stg) : Prop where
  s0 : 0 ≤ mnP s.1
  sm : mxP s.1 < g3
  g : Goes 2 g2 s.2.1
  g0 : 0 ≤ mnP s.2.1
  p : Goes 2 g1 s.2.2
  p0 : 0 ≤ mnP s.2.2
theorem on_of {s : Stg} (h : reached g1 g2 g3 s = true) (ho : over g3 s = false) : On g1 g2 g3 s := by
  have ho' : ¬ mxP s.1 = g3 := by simpa [over] using ho
  unfold reached at h
  rw [if_neg ho'] at h
  by_cases hb : outB g3 s.1 = true
  · rw [if_pos hb] at h; exact absurd h Bool.false_ne_true
  · rw [if_neg hb] at h
    have hb' : ¬ mnP s.1 < 0 ∧ ¬ g3 ≤ mnP s.1 ∧ ¬ g3 < mxP s.1 := by simpa [outB] using hb
    simp only [Bool.and_eq_true] at h
    obtain ⟨hg, hp⟩ := h
    rw [onB_iff] at hg hp
    exact ⟨by omega, by omega, .inl ⟨rfl, hg.2⟩, hg.1, .inl ⟨rfl, hp.2⟩, hp.1⟩
theorem On.sets {s : Stg} (h : On g1 g2 g3 s) : Goes 1 g3 s.1 := .inr ⟨rfl, h.sm⟩
theorem more0 (q : Pr) : more q 0 = (q.1 + 1, q.2) := rfl
theorem more1 (q : Pr) : more q 1 = (q.1, q.2 + 1) := rfl
theorem over_not {s : Stg} (h : On g1 g2 g3 s) : over g3 s = false := by
  have := h.sm
  simp [over]; omega
theorem worth_on {s : Stg} (h : On g1 g2 g3 s) : worth g1 g2 g3 p c E0 E1 s = Vp g1 g2 g3 p c E0 E1 s.1 s.2.1 s.2.2 := by
  unfold worth; rw [over_not h, if_neg Bool.false_ne_true]
theorem gP_01 (hp0 : 0 ≤ p) (hp1 : p ≤ 1) : 0 ≤ gP g1 p ∧ gP g1 p ≤ 1 := W_bounds hp0 hp1 (by decide) (.inl goes00)
theorem sP_01 (hp0 : 0 ≤ p) (hp1 : p ≤ 1) : 0 ≤ sP g1 g2 p ∧ sP g1 g2 p ≤ 1 := W_bounds (gP_01 hp0 hp1).1 (gP_01 hp0 hp1).2 (by decide) (.inl goes00)
theorem known2 {g : Int} (q : Pr) : Known 2 g q := by
  cases e : wonL q g 2
  · exact .inl (.inl ⟨rfl, e⟩)
  · exact .inr e
section
variable (hp0 : 0 ≤ p) (hp1 : p ≤ 1) (he : E1 ≤ E0)
include hp0 hp1 he
end
end M
set_option linter.all false
namespace M
open L3
def Bd (k : Nat) (x : Int) : Prop := 0 ≤ x ∧ x ≤ 2 ^ k
theorem two_pow_pos (k : Nat) : (0 : Int) < 2 ^ k := Int.pow_pos (by decide)
theorem Bd.mono {k l : Nat} {x : Int} (h : Bd k x) (hl : k ≤ l) : Bd l x := ⟨h.1, Int.le_trans h.2 (by
  have : (2 : Int) ^ l = 2 ^ k * 2 ^ (l - k) := by rw [← Int.pow_add]; congr 1; omega
  rw [this]
  have h1 := two_pow_pos k
  have h2 := two_pow_pos (l - k)
  calc (2 : Int) ^ k = 2 ^ k * 1 := by rw [Int.mul_one]
    _ ≤ 2 ^ k * 2 ^ (l - k) := Int.mul_le_mul_of_nonneg_left h2 (Int.le_of_lt h1))⟩
theorem Bd.mul {k l : Nat} {x y : Int} (h : Bd k x) (h' : Bd l y) : Bd (k + l) (x * y) := ⟨Int.mul_nonneg h.1 h'.1, by
  rw [Int.pow_add]
  exact Int.mul_le_mul h.2 h'.2 h'.1 (Int.le_of_lt (two_pow_pos k))⟩
theorem Bd.add {k : Nat} {x y : Int} (h : Bd k x) (h' : Bd k y) : Bd (k + 1) (x + y) := ⟨Int.add_nonneg h.1 h'.1, by
  rw [Int.pow_succ]
  have := h.2; have := h'.2; omega⟩
theorem Bd.le {k : Nat} {x y : Int} (h : Bd k y) (h0 : 0 ≤ x) (h1 : x ≤ y) : Bd k x := ⟨h0, Int.le_trans h1 h.2⟩
theorem Bd.one : Bd 0 1 := ⟨by decide, by decide⟩
theorem Bd.zero (k : Nat) : Bd k 0 := ⟨by decide, Int.le_of_lt (two_pow_pos k)⟩
theorem Bd.nat {k : Nat} {x : Int} (h : Bd k x) : x.natAbs < 2 ^ (k + 1) := by
  have h1 := h.1
  have h2 := h.2
  have e : ((2 ^ k : Nat) : Int) = (2 : Int) ^ k := by simp
  have : (x.natAbs : Int) ≤ ((2 ^ k : Nat) : Int) := by rw [e]; omega
  have h3 : x.natAbs ≤ 2 ^ k := by exact_mod_cast this
  have h4 : (2 : Nat) ^ k < 2 ^ (k + 1) := Nat.pow_lt_pow_right (by decide) (by omega)
  omega
theorem gcd_step {x y : Int} (hy : 0 < y) : Int.gcd y (x % y) = Int.gcd x y := by
  rw [Int.emod_def, Int.gcd_comm x y]
  simp
def fr (x : Rat) : Pr := (x.num, (x.den : Int))
def low (a b : Int) : Pr := (a / (Int.gcd a b : Int), b / (Int.gcd a b : Int))
theorem low_fr {a b : Int} (hb : 0 < b) : low a b = fr ((a : Rat) / (b : Rat)) := by
  rw [← Rat.divInt_eq_div]
  unfold low fr
  rw [Rat.num_divInt, Rat.den_divInt, if_neg (by omega), Int.sign_eq_one_of_pos hb, Int.one_mul, Int.gcd_comm b a]
  have : (b.natAbs : Int) = b := by omega
  rw [Int.natCast_ediv, this]
theorem fr_den (x : Rat) : 0 < (fr x).2 := by
  have := x.den_pos
  show (0 : Int) < (x.den : Int)
  omega
theorem fr_val (x : Rat) : ((fr x).1 : Rat) / ((fr x).2 : Rat) = x := by
  show (x.num : Rat) / ((x.den : Int) : Rat) = x
  rw [← Rat.divInt_eq_div]; exact Rat.num_divInt_den x
def Sk (s0 b : Int) : Nat → Int
  | 0 => s0
  | k + 1 => Sk s0 b k * b
def Tz (a b t0 t1 t2 s0 top : Int) : Nat → Nat → Int
  | 0, j => t0 * Sk s0 b (j - 2)
  | i + 1, 0 => t1 * Sk s0 b (i + 1 - 2)
  | i + 1, j + 1 => if i = 0 ∧ j = 0 then top else t2 * Sk s0 b (i + j) + a * Tz a b t0 t1 t2 s0 top i (j + 1) + (b - a) * Tz a b t0 t1 t2 s0 top (i + 1) j
termination_by i j => i + j
section
variable {a b t0 t1 t2 s0 top : Int}
theorem Tz_0 (j : Nat) : Tz a b t0 t1 t2 s0 top 0 j = t0 * Sk s0 b (j - 2) := by rw [Tz]
theorem Tz_s0 (i : Nat) : Tz a b t0 t1 t2 s0 top (i + 1) 0 = t1 * Sk s0 b (i + 1 - 2) := by rw [Tz]
theorem Tz_11 : Tz a b t0 t1 t2 s0 top 1 1 = top := by rw [Tz]; simp
theorem Tz_ss {i j : Nat} (h : ¬ (i = 0 ∧ j = 0)) : Tz a b t0 t1 t2 s0 top (i + 1) (j + 1) = t2 * Sk s0 b (i + j) + a * Tz a b t0 t1 t2 s0 top i (j + 1) + (b - a) * Tz a b t0 t1 t2 s0 top (i + 1) j := by
  rw [Tz, if_neg h]
theorem Tz_val {p e0 e1 c l B : Rat} (hp : p * b = a) (h0 : e0 * B = t0) (h1 : e1 * B = t1) (h2 : c * B = t2) (hl : l * (s0 * B) = top) :
    ∀ i j, ¬ (i = 0 ∧ j = 0) → 2 ≤ i + j → ((Tz a b t0 t1 t2 s0 top i j : Int) : Rat) = rv p e0 e1 c l i j * ((Sk s0 b (i + j - 2) : Int) : Rat) * B := by
  refine race_ind (fun j _ => ?_) (fun i _ => ?_) (fun _ => ?_) (fun i j h i1 i2 _ => ?_)
  · rw [Tz_0, rv_0, Nat.zero_add, Rat.intCast_mul, ← h0]; grind
  · rw [Tz_s0, rv_s0, Nat.add_zero, Rat.intCast_mul, ← h1]; grind
  · rw [Tz_11, rv_11, ← hl]; show _ = l * ((s0 : Int) : Rat) * B; grind
  · have j1 := i1 (by omega)
    have j2 := i2 (by omega)
    have e1' : i + (j + 1) - 2 + 1 = i + j := by omega
    have e2' : i + 1 + j - 2 = i + (j + 1) - 2 := by omega
    have e3' : i + 1 + (j + 1) - 2 = i + j := by omega
    rw [e2'] at j2
    rw [e3', Tz_ss h, rv_ss _ _ _ _ _ h]
    have hS : Sk s0 b (i + j) = Sk s0 b (i + (j + 1) - 2) * b := by rw [← e1']; rfl
    rw [hS]
    simp only [Rat.intCast_add, Rat.intCast_mul, Rat.intCast_sub]
    rw [j1, j2, ← h2, ← hp]
    generalize ((Sk s0 b (i + (j + 1) - 2) : Int) : Rat) = S
    generalize rv p e0 e1 c l i (j + 1) = x
    generalize rv p e0 e1 c l (i + 1) j = y
    grind
theorem Sk_pos (hs : 0 < s0) (hb : 0 < b) : ∀ k, 0 < Sk s0 b k
  | 0 => hs
  | k + 1 => Int.mul_pos (Sk_pos hs hb k) hb
theorem Sk_le (hs : 0 < s0) (hb : 0 < b) : ∀ k l, Sk s0 b k ≤ Sk s0 b (k + l)
  | k, 0 => Int.le_refl _
  | k, l + 1 => Int.le_trans (Sk_le hs hb k l) (by
      show Sk s0 b (k + l) ≤ Sk s0 b (k + l) * b
      have := Sk_pos hs hb (k + l)
      calc Sk s0 b (k + l) = Sk s0 b (k + l) * 1 := by rw [Int.mul_one]
        _ ≤ Sk s0 b (k + l) * b := Int.mul_le_mul_of_nonneg_left (by omega) (Int.le_of_lt this))
theorem Sk_Bd {n u : Nat} (hs : Bd u s0) (hb : Bd n b) : ∀ k, Bd (u + n * k) (Sk s0 b k)
  | 0 => by rw [Nat.mul_zero]; exact hs
  | k + 1 => by
    rw [Nat.mul_succ, ← Nat.add_assoc]
    exact (Sk_Bd hs hb k).mul hb
theorem Tz_Bd {n m u : Nat} (hs : Bd u s0) (ha : 0 ≤ a) (hab : a ≤ b) (hb : Bd n b) (h0 : Bd m t0) (h1 : Bd m t1) (h2 : Bd m t2) (ht : Bd (m + u) top) :
    ∀ i j, ¬ (i = 0 ∧ j = 0) → Bd (m + u + (n + 2) * (i + j)) (Tz a b t0 t1 t2 s0 top i j) := by
  have hA : Bd n a := hb.le ha hab
  have hB : Bd n (b - a) := hb.le (by omega) (by omega)
  refine race_ind (fun j => ?_) (fun i => ?_) ?_ (fun i j h i1 i2 => ?_)
  · rw [Tz_0]
    refine (h0.mul (Sk_Bd hs hb _)).mono ?_
    have : n * (j + 1 - 2) ≤ (n + 2) * (0 + (j + 1)) := Nat.mul_le_mul (by omega) (by omega)
    omega
  · rw [Tz_s0]
    refine (h1.mul (Sk_Bd hs hb _)).mono ?_
    have : n * (i + 1 - 2) ≤ (n + 2) * (i + 1 + 0) := Nat.mul_le_mul (by omega) (by omega)
    omega
  · rw [Tz_11]; exact ht.mono (by omega)
  · rw [Tz_ss h]
    have e1 : i + (j + 1) = i + j + 1 := by omega
    have e2 : i + 1 + j = i + j + 1 := by omega
    have e3 : i + 1 + (j + 1) = i + j + 2 := by omega
    rw [e1] at i1
    rw [e2] at i2
    rw [e3]
    have x1 := hA.mul i1
    have x2 := hB.mul i2
    have x0 := h2.mul (Sk_Bd hs hb (i + j))
    have q : (n + 2) * (i + j + 2) = (n + 2) * (i + j + 1) + n + 2 := by rw [Nat.mul_succ]; omega
    have q0 : n * (i + j) ≤ (n + 2) * (i + j + 1) := Nat.mul_le_mul (by omega) (by omega)
    have y1 : Bd (m + u + (n + 2) * (i + j + 1) + n) (t2 * Sk s0 b (i + j)) := x0.mono (by omega)
    have y2 : Bd (m + u + (n + 2) * (i + j + 1) + n) (a * Tz a b t0 t1 t2 s0 top i (j + 1)) := x1.mono (by omega)
    have y3 : Bd (m + u + (n + 2) * (i + j + 1) + n + 1) ((b - a) * Tz a b t0 t1 t2 s0 top (i + 1) j) := x2.mono (by omega)
    exact ((y1.add y2).add y3).mono (by omega)
end
end M
set_option linter.all false
namespace M
open L3
def cm (x y : Int) : Int := x / (Int.gcd x y : Int) * y
theorem gcd_pos' {x y : Int} (hx : 0 < x) : (0 : Int) < (Int.gcd x y : Int) := by
  have := Int.gcd_pos_of_ne_zero_left y (a := x) (by omega)
  omega
theorem gcd_le' {x y : Int} (hx : 0 < x) : (Int.gcd x y : Int) ≤ x := Int.le_of_dvd hx (Int.gcd_dvd_left x y)
theorem gcd_le_r {x y : Int} (hy : 0 < y) : (Int.gcd x y : Int) ≤ y := Int.le_of_dvd hy (Int.gcd_dvd_right x y)
theorem cm_dvd_r (x y : Int) : y ∣ cm x y := ⟨x / (Int.gcd x y : Int), by unfold cm; rw [Int.mul_comm]⟩
theorem cm_dvd_l {x y : Int} (hx : 0 < x) : x ∣ cm x y := by
  obtain ⟨k, hk⟩ := Int.gcd_dvd_left x y
  obtain ⟨l, hl⟩ := Int.gcd_dvd_right x y
  have hg := gcd_pos' (y := y) hx
  refine ⟨l, ?_⟩
  unfold cm
  generalize (Int.gcd x y : Int) = d at *
  subst hk
  rw [Int.mul_ediv_cancel_left _ (by omega)]
  subst hl
  grind
theorem cm_pos {x y : Int} (hx : 0 < x) (hy : 0 < y) : 0 < cm x y := by
  unfold cm
  have hg := gcd_pos' (y := y) hx
  have : 0 < x / (Int.gcd x y : Int) := Int.ediv_pos_of_pos_of_dvd hx (by omega) (Int.gcd_dvd_left x y)
  exact Int.mul_pos this hy
theorem ediv_le' {x g : Int} (hx : 0 ≤ x) (hg : 0 < g) : x / g ≤ x := Int.ediv_le_self g hx
theorem cm_Bd {k l : Nat} {x y : Int} (hx : Bd k x) (hy : Bd l y) (h0 : 0 < x) : Bd (k + l) (cm x y) := by
  have hg := gcd_pos' (y := y) h0
  exact Bd.mul (hx.le (Int.ediv_nonneg hx.1 (by omega)) (ediv_le' hx.1 hg)) hy
def val (q : Pr) : Rat := (q.1 : Rat) / (q.2 : Rat)
theorem val_fr (x : Rat) : val (fr x) = x := fr_val x
theorem val_mul {q : Pr} (h : 0 < q.2) : val q * (q.2 : Rat) = (q.1 : Rat) := by
  unfold val
  have : (q.2 : Rat) ≠ 0 := by
    have := Rat.intCast_pos.mpr h
    grind
  rw [Rat.div_mul_cancel this]
theorem low_val {q : Pr} (h : 0 < q.2) : low q.1 q.2 = fr (val q) := low_fr h
theorem over_val {q : Pr} {B : Int} (h : 0 < q.2) (hd : q.2 ∣ B) : val q * (B : Rat) = ((q.1 * (B / q.2) : Int) : Rat) := by
  obtain ⟨k, rfl⟩ := hd
  rw [Int.mul_ediv_cancel_left _ (by omega), Rat.intCast_mul, Rat.intCast_mul, ← val_mul h]
  grind
def lvI (lead a b t0 t1 t2 : Int) : Pr := if lead = 1 then (a * t0 + (b - a) * t1 + b * t2, b) else (a * a * t0 + (b - a) * (b - a) * t1 + 2 * b * b * t2, a * a + (b - a) * (b - a))
def bot (cost E0 E1 : Pr) : Int := cm (cm E0.2 E1.2) cost.2
def tp (q : Pr) (B : Int) : Int := q.1 * (B / q.2)
def wfI (lead g : Int) (part cost q E0 E1 : Pr) : Pr :=
  if wonL q g lead = true then (if q.2 < q.1 then E0 else E1)
  else (Tz part.1 part.2 (tp E0 (bot cost E0 E1)) (tp E1 (bot cost E0 E1)) (tp cost (bot cost E0 E1))
      (lvI lead part.1 part.2 (tp E0 (bot cost E0 E1)) (tp E1 (bot cost E0 E1)) (tp cost (bot cost E0 E1))).2
      (lvI lead part.1 part.2 (tp E0 (bot cost E0 E1)) (tp E1 (bot cost E0 E1)) (tp cost (bot cost E0 E1))).1 (lk0 g q).toNat (lk1 g q).toNat,
    Sk (lvI lead part.1 part.2 (tp E0 (bot cost E0 E1)) (tp E1 (bot cost E0 E1)) (tp cost (bot cost E0 E1))).2 part.2 ((lk0 g q).toNat + (lk1 g q).toNat - 2) * bot cost E0 E1)
structure IsPart (q : Pr) : Prop where
  n : 0 ≤ q.1
  l : q.1 ≤ q.2
  d : 0 < q.2
theorem lv_pos {lead a b t0 t1 t2 : Int} (ha : 0 ≤ a) (hab : a ≤ b) (hb : 0 < b) : 0 < (lvI lead a b t0 t1 t2).2 := by
  unfold lvI
  split
  · exact hb
  · show 0 < a * a + (b - a) * (b - a)
    by_cases h : a = 0
    · subst h
      have := Int.mul_pos hb hb
      simp only [Int.sub_zero, Int.mul_zero, Int.zero_add]; exact this
    · have h1 := Int.mul_pos (a := a) (b := a) (by omega) (by omega)
      have h2 := Int.mul_nonneg (a := b - a) (b := b - a) (by omega) (by omega)
      omega
theorem lv_val {lead a b : Int} {t0 t1 t2 : Int} {p e0 e1 c B : Rat} (ha : 0 ≤ a) (hab : a ≤ b) (hb : 0 < b) (hp : p * b = a) (h0 : e0 * B = t0) (h1 : e1 * B = t1) (h2 : c * B = t2) :
    lvl lead p e0 e1 c * (((lvI lead a b t0 t1 t2).2 : Rat) * B) = ((lvI lead a b t0 t1 t2).1 : Rat) := by
  unfold lvI
  have hb' : (b : Rat) ≠ 0 := by
    have := Rat.intCast_pos.mpr hb
    grind
  split
  next hl =>
    subst hl
    rw [lvl1]
    simp only [Rat.intCast_add, Rat.intCast_mul, Rat.intCast_sub]
    rw [← h0, ← h1, ← h2, ← hp]
    grind
  next hl =>
    have := lvl2 hl p e0 e1 c
    simp only [Rat.intCast_add, Rat.intCast_mul, Rat.intCast_sub]
    rw [← h0, ← h1, ← h2, ← hp]
    generalize lvl lead p e0 e1 c = x at *
    have e : x * ((p * b * (p * b) + ((b : Rat) - p * b) * ((b : Rat) - p * b)) * B) = x * (p * p + (1 - p) * (1 - p)) * b * b * B := by grind
    rw [e, this]
    have : ((2 : Int) : Rat) = 2 := rfl
    rw [this]
    grind
theorem bot_pos {cost E0 E1 : Pr} (h0 : 0 < E0.2) (h1 : 0 < E1.2) (h2 : 0 < cost.2) : 0 < bot cost E0 E1 := cm_pos (cm_pos h0 h1) h2
theorem bot_d0 {cost E0 E1 : Pr} (h0 : 0 < E0.2) (h1 : 0 < E1.2) : E0.2 ∣ bot cost E0 E1 := Int.dvd_trans (cm_dvd_l h0) (cm_dvd_l (cm_pos h0 h1))
theorem bot_d1 {cost E0 E1 : Pr} (h0 : 0 < E0.2) (h1 : 0 < E1.2) : E1.2 ∣ bot cost E0 E1 := Int.dvd_trans (cm_dvd_r _ _) (cm_dvd_l (cm_pos h0 h1))
theorem bot_d2 (cost E0 E1 : Pr) : cost.2 ∣ bot cost E0 E1 := cm_dvd_r _ _
theorem wf_val {lead g : Int} {part cost q E0 E1 : Pr} (hp : IsPart part) (h0 : 0 < E0.2) (h1 : 0 < E1.2) (h2 : 0 < cost.2) (hk : Known lead g q) :
    val (wfI lead g part cost q E0 E1) = W lead g (val part) (val E0) (val E1) (val cost) q ∧ 0 < (wfI lead g part cost q E0 E1).2 := by
  unfold wfI W
  by_cases hw : wonL q g lead = true
  · rw [if_pos hw, if_pos hw]
    split <;> exact ⟨rfl, by assumption⟩
  · rw [if_neg hw, if_neg hw]
    have hg : Goes lead g q := by
      rcases hk with h | h
      · exact h
      · exact absurd h hw
    obtain ⟨i, j, hi, hj, _⟩ := place hg
    have hB := bot_pos h0 h1 h2
    have v0 := over_val (q := E0) h0 (bot_d0 (cost := cost) h0 h1)
    have v1 := over_val (q := E1) h1 (bot_d1 (cost := cost) h0 h1)
    have v2 := over_val (q := cost) h2 (bot_d2 cost E0 E1)
    have vp := val_mul (q := part) hp.d
    have vl := lv_val (lead := lead) hp.n hp.l hp.d vp v0 v1 v2
    have T := Tz_val vp v0 v1 v2 vl (lk0 g q).toNat (lk1 g q).toNat (by omega) (by omega)
    have hs := lv_pos (lead := lead) (t0 := tp E0 (bot cost E0 E1)) (t1 := tp E1 (bot cost E0 E1)) (t2 := tp cost (bot cost E0 E1)) hp.n hp.l hp.d
    have hS := Sk_pos hs hp.d ((lk0 g q).toNat + (lk1 g q).toNat - 2)
    refine ⟨?_, Int.mul_pos hS hB⟩
    unfold val
    simp only []
    have hne : ((Sk (lvI lead part.1 part.2 (tp E0 (bot cost E0 E1)) (tp E1 (bot cost E0 E1)) (tp cost (bot cost E0 E1))).2 part.2 ((lk0 g q).toNat + (lk1 g q).toNat - 2) * bot cost E0 E1 : Int) : Rat) ≠ 0 := by
      have := Rat.intCast_pos.mpr (Int.mul_pos hS hB)
      grind
    rw [Rat.div_def]
    unfold tp at *
    rw [T]
    rw [Rat.intCast_mul] at hne ⊢
    generalize ((Sk (lvI lead part.1 part.2 (E0.1 * (bot cost E0 E1 / E0.2)) (E1.1 * (bot cost E0 E1 / E1.2)) (cost.1 * (bot cost E0 E1 / cost.2))).2 part.2 ((lk0 g q).toNat + (lk1 g q).toNat - 2) : Int) : Rat) = Z at *
    generalize ((bot cost E0 E1 : Int) : Rat) = Y at *
    rw [Rat.mul_assoc, Rat.mul_assoc, ← Rat.mul_assoc Z, Rat.mul_inv_cancel _ hne, Rat.mul_one]
    rfl
structure Fq (n N : Nat) (q : Pr) : Prop where
  pos : 0 < q.2
  den : Bd n q.2
  num : Bd N q.1
theorem bot_Bd {u x : Nat} {cost E0 E1 : Pr} (h0 : 0 < E0.2) (h1 : 0 < E1.2) (b0 : Bd u E0.2) (b1 : Bd u E1.2) (b2 : Bd x cost.2) : Bd (2 * u + x) (bot cost E0 E1) :=
  (cm_Bd (cm_Bd b0 b1 h0) b2 (cm_pos h0 h1)).mono (by omega)
theorem tp_Bd {U v : Nat} {q : Pr} {B : Int} (h : 0 < q.2) (hq : Bd U q.1) (hB : Bd v B) : Bd (U + v) (tp q B) :=
  hq.mul (hB.le (Int.ediv_nonneg hB.1 (by omega)) (ediv_le' hB.1 h))
theorem sq_le {a b : Int} (ha : 0 ≤ a) (hab : a ≤ b) : a * a + (b - a) * (b - a) ≤ b * b := by
  have := Int.mul_nonneg ha (b := b - a) (by omega)
  grind
theorem lv_Bd {lead : Int} {n m : Nat} {a b t0 t1 t2 : Int} (ha : 0 ≤ a) (hab : a ≤ b) (hb : Bd n b) (h0 : Bd m t0) (h1 : Bd m t1) (h2 : Bd m t2) :
    Bd (m + (2 * n + 3)) (lvI lead a b t0 t1 t2).1 ∧ Bd (2 * n) (lvI lead a b t0 t1 t2).2 := by
  have hA : Bd n a := hb.le ha hab
  have hC : Bd n (b - a) := hb.le (by omega) (by omega)
  unfold lvI
  split
  · refine ⟨?_, hb.mono (by omega)⟩
    exact (((hA.mul h0).add (hC.mul h1)).add ((hb.mul h2).mono (by omega))).mono (by omega)
  · constructor
    · have x2 : Bd (2 * n + 1 + m) (2 * b * b * t2) := (((Bd.mul (k := 1) (x := 2) ⟨by decide, by decide⟩ hb).mul hb).mul h2).mono (by omega)
      exact (((((hA.mul hA).mul h0).add ((hC.mul hC).mul h1)).mono (by omega)).add (x2.mono (l := 2 * n + 1 + m) (by omega))).mono (by omega)
    · exact ((hb.mul hb).le (Int.add_nonneg (Int.mul_nonneg ha ha) (Int.mul_nonneg hC.1 hC.1)) (sq_le ha hab)).mono (by omega)
theorem wf_Fq {lead g : Int} {n s u U x X L : Nat} {part cost q E0 E1 : Pr} (hp : IsPart part) (hn : Bd n part.2) (h0 : Fq u U E0) (h1 : Fq u U E1) (h2 : Fq x X cost) (hk : Known lead g q)
    (hs : Goes lead g q → Bd s (Sk (lvI lead part.1 part.2 (tp E0 (bot cost E0 E1)) (tp E1 (bot cost E0 E1)) (tp cost (bot cost E0 E1))).2 part.2 ((lk0 g q).toNat + (lk1 g q).toNat - 2)))
    (hL : Goes lead g q → (lk0 g q).toNat + (lk1 g q).toNat ≤ L) : Fq (s + (2 * u + x)) (U + X + (2 * u + x) + (2 * n + 3) + (n + 2) * L) (wfI lead g part cost q E0 E1) := by
  have pos := (wf_val hp h0.pos h1.pos h2.pos hk).2
  revert pos
  unfold wfI
  by_cases hw : wonL q g lead = true
  · rw [if_pos hw]
    split
    · exact fun _ => ⟨h0.pos, h0.den.mono (by omega), h0.num.mono (by omega)⟩
    · exact fun _ => ⟨h1.pos, h1.den.mono (by omega), h1.num.mono (by omega)⟩
  · rw [if_neg hw]
    have hg : Goes lead g q := by
      rcases hk with h | h
      · exact h
      · exact absurd h hw
    obtain ⟨i, j, hi, hj, _⟩ := place hg
    have hB := bot_Bd h0.pos h1.pos h0.den h1.den h2.den
    have t0 : Bd (U + X + (2 * u + x)) (tp E0 (bot cost E0 E1)) := (tp_Bd h0.pos h0.num hB).mono (by omega)
    have t1 : Bd (U + X + (2 * u + x)) (tp E1 (bot cost E0 E1)) := (tp_Bd h1.pos h1.num hB).mono (by omega)
    have t2 : Bd (U + X + (2 * u + x)) (tp cost (bot cost E0 E1)) := (tp_Bd h2.pos h2.num hB).mono (by omega)
    have lv := lv_Bd (lead := lead) hp.n hp.l hn t0 t1 t2
    refine fun pos => ⟨pos, (hs hg).mul hB, ?_⟩
    refine (Tz_Bd (lv.2.mono (l := 2 * n + 3) (by omega)) hp.n hp.l hn t0 t1 t2 lv.1 _ _ (by omega)).mono ?_
    have := Nat.mul_le_mul_left (n + 2) (hL hg)
    omega
end M
set_option linter.all false
namespace M
open L3
structure Fits (lead g : Int) (part cost q E0 E1 : Pr) : Prop where
  ld : lead = 1 ∨ lead = 2
  p : IsPart part
  pb : Bd 400 part.2
  c : Fq 4000 20000 cost
  e0 : Fq 4000 20000 E0
  e1 : Fq 4000 20000 E1
  k : Known lead g q
  l : Goes lead g q → (lk0 g q).toNat + (lk1 g q).toNat ≤ 12
theorem lk_sum {lead g : Int} {q : Pr} (h : Goes lead g q) (h0 : 0 ≤ mnP q) (hg : 1 ≤ g) : (lk0 g q).toNat + (lk1 g q).toNat ≤ (2 * g).toNat ∨ ((lk0 g q).toNat + (lk1 g q).toNat ≤ 3 ∧ lead = 2) := by
  obtain ⟨a, b⟩ := q
  have m1 := mx_spec a b
  have n1 := mn_spec a b
  have t1 := abs_spec (a - b)
  have y1 := mx_spec (mxP (a, b) - g + 1) 0
  have h' : (lead = 2 ∧ ¬ (g ≤ mxP (a, b) ∧ 2 ≤ absI (a - b))) ∨ (lead = 1 ∧ mxP (a, b) < g) := h.imp (fun ⟨e, z⟩ => ⟨e, wonL_not.mp z⟩) id
  unfold lk0 lk1 bey
  simp only []
  generalize mxP (mxP (a, b) - g + 1, 0) = Y1 at *
  generalize mxP (a, b) = M1 at *
  generalize mnP (a, b) = N1 at *
  generalize absI (a - b) = T1 at *
  by_cases hm : M1 < g
  · left; omega
  · rcases h' with ⟨e, h'⟩ | ⟨_, h'⟩
    · right; omega
    · omega
theorem Sk_num {s0 b S bb : Int} (hs : 0 < s0) (hS : s0 ≤ S) (hb : 0 < b) (hB : b ≤ bb) : ∀ k, Sk s0 b k ≤ S * bb ^ k
  | 0 => by simpa [Sk] using hS
  | k + 1 => by
    show Sk s0 b k * b ≤ _
    rw [Int.pow_succ, ← Int.mul_assoc]
    have h1 := Sk_num hs hS hb hB k
    have h2 := Sk_pos hs hb k
    exact Int.mul_le_mul h1 hB (by omega) (by omega)
theorem Sk_to {s0 b : Int} (hs : 0 < s0) (hb : 0 < b) {k K : Nat} (h : k ≤ K) : Sk s0 b k ≤ Sk s0 b K := by
  have := Sk_le hs hb k (K - k)
  rwa [show k + (K - k) = K by omega] at this
theorem low_Fq {n N : Nat} {r : Pr} (h : Fq n N r) : Fq n N (low r.1 r.2) := by
  have hg : (0 : Int) < (Int.gcd r.1 r.2 : Int) := by
    have := Int.gcd_pos_of_ne_zero_right r.1 (b := r.2) (by have := h.pos; omega)
    omega
  refine ⟨?_, ?_, ?_⟩
  · exact Int.ediv_pos_of_pos_of_dvd h.pos (by omega) (Int.gcd_dvd_right _ _)
  · exact h.den.le (Int.ediv_nonneg h.den.1 (by omega)) (ediv_le' h.den.1 hg)
  · exact h.num.le (Int.ediv_nonneg h.num.1 (by omega)) (ediv_le' h.num.1 hg)
theorem part_fr {x : Rat} (h0 : 0 ≤ x) (h1 : x ≤ 1) : IsPart (fr x) := by
  refine ⟨?_, ?_, fr_den x⟩
  · have := (Rat.le_iff 0 x).mp h0
    show 0 ≤ x.num
    simpa using this
  · have := (Rat.le_iff x 1).mp h1
    show x.num ≤ (x.den : Int)
    simpa using this
theorem Fq.mono {n N n' N' : Nat} {q : Pr} (h : Fq n N q) (h1 : n ≤ n') (h2 : N ≤ N') : Fq n' N' q := ⟨h.pos, h.den.mono h1, h.num.mono h2⟩
def unit (q : Pr) : Prop := q = (0, 1) ∨ q = (1, 1)
theorem unit.fq {q : Pr} (h : unit q) : Fq 0 0 q := by
  rcases h with rfl | rfl
  · exact ⟨by decide, Bd.one, Bd.zero 0⟩
  · exact ⟨by decide, Bd.one, Bd.one⟩
theorem val0 : val (0, 1) = 0 := by unfold val; simp [Rat.div_def]
theorem val1 : val (1, 1) = 1 := by
  have := val_fr 1
  exact this
section
variable {g1 g2 g3 : Int} {P C : Pr}
theorem fits2 {g : Int} {L : Nat} {part cost q E0 E1 : Pr} (hg : 1 ≤ g) (hg6 : g ≤ 6) (hp : IsPart part) (hb : Bd 400 part.2) (hc : Fq 4000 20000 cost) (h0 : Fq 4000 20000 E0) (h1 : Fq 4000 20000 E1) (hq : 0 ≤ mnP q) : Fits 2 g part cost q E0 E1 :=
  ⟨.inr rfl, hp, hb, hc, h0, h1, known2 q, fun z => by rcases lk_sum z hq hg with e | e <;> omega⟩
theorem ptsS {t0 t1 t2 : Int} {q : Pr} (hP : IsPart P) (h5 : P.2 ≤ 5) (hg : 1 ≤ g1) (hg5 : g1 ≤ 5) (hq : 0 ≤ mnP q) (z : Goes 2 g1 q) : Bd 24 (Sk (lvI 2 P.1 P.2 t0 t1 t2).2 P.2 ((lk0 g1 q).toNat + (lk1 g1 q).toNat - 2)) := by
  have hs := lv_pos (lead := 2) (t0 := t0) (t1 := t1) (t2 := t2) hP.n hP.l hP.d
  have hk : (lk0 g1 q).toNat + (lk1 g1 q).toNat - 2 ≤ 8 := by rcases lk_sum z hq hg with e | e <;> omega
  have h25 : (lvI 2 P.1 P.2 t0 t1 t2).2 ≤ 25 := by
    have := sq_le hP.n hP.l
    have h2 : P.2 * P.2 ≤ 5 * 5 := Int.mul_le_mul h5 h5 (Int.le_of_lt hP.d) (by decide)
    show P.1 * P.1 + (P.2 - P.1) * (P.2 - P.1) ≤ 25
    omega
  refine ⟨Int.le_of_lt (Sk_pos hs hP.d _), Int.le_trans (Sk_to hs hP.d hk) (Int.le_trans (Sk_num hs h25 hP.d h5 8) (by decide))⟩
theorem gamS {n : Nat} {g t0 t1 t2 : Int} {part q : Pr} (hP : IsPart part) (hn : Bd n part.2) (hg : 1 ≤ g) (hg6 : g ≤ 6) (hq : 0 ≤ mnP q) (z : Goes 2 g q) : Bd (12 * n) (Sk (lvI 2 part.1 part.2 t0 t1 t2).2 part.2 ((lk0 g q).toNat + (lk1 g q).toNat - 2)) := by
  have hk : (lk0 g q).toNat + (lk1 g q).toNat - 2 ≤ 10 := by rcases lk_sum z hq hg with e | e <;> omega
  have lv : Bd (2 * n) (lvI 2 part.1 part.2 t0 t1 t2).2 := by
    have h2 : (lvI 2 part.1 part.2 t0 t1 t2).2 ≤ part.2 * part.2 := sq_le hP.n hP.l
    exact ((hn.mul hn).le (Int.le_of_lt (lv_pos hP.n hP.l hP.d)) h2).mono (by omega)
  refine (Sk_Bd lv hn _).mono ?_
  have := Nat.mul_le_mul_left n hk
  omega
theorem setS {n : Nat} {g t0 t1 t2 : Int} {part q : Pr} (hP : IsPart part) (hn : Bd n part.2) (hg : 1 ≤ g) (hg3 : g ≤ 3) (hq : 0 ≤ mnP q) (z : Goes 1 g q) : Bd (5 * n) (Sk (lvI 1 part.1 part.2 t0 t1 t2).2 part.2 ((lk0 g q).toNat + (lk1 g q).toNat - 2)) := by
  have hk : (lk0 g q).toNat + (lk1 g q).toNat - 2 ≤ 4 := by rcases lk_sum z hq hg with e | e <;> omega
  refine (Sk_Bd (u := n) hn hn _).mono ?_
  have := Nat.mul_le_mul_left n hk
  omega
end
section
variable (g1 g2 g3 : Int) (P C E0 E1 : Pr)
def gPI : Pr := low (wfI 2 g1 P (0, 1) (0, 0) (1, 1) (0, 1)).1 (wfI 2 g1 P (0, 1) (0, 0) (1, 1) (0, 1)).2
def gCI : Pr := low (wfI 2 g1 P C (0, 0) (0, 1) (0, 1)).1 (wfI 2 g1 P C (0, 0) (0, 1) (0, 1)).2
def sPI : Pr := low (wfI 2 g2 (gPI g1 P) (0, 1) (0, 0) (1, 1) (0, 1)).1 (wfI 2 g2 (gPI g1 P) (0, 1) (0, 0) (1, 1) (0, 1)).2
def sCI : Pr := low (wfI 2 g2 (gPI g1 P) (gCI g1 P C) (0, 0) (0, 1) (0, 1)).1 (wfI 2 g2 (gPI g1 P) (gCI g1 P C) (0, 0) (0, 1) (0, 1)).2
def seI (S : Pr) (w : Int) : Pr := wfI 1 g3 (sPI g1 g2 P) (sCI g1 g2 P C) (more S w) E0 E1
def geI (S G : Pr) (w : Int) : Pr := wfI 2 g2 (gPI g1 P) (gCI g1 P C) (more G w) (seI g1 g2 g3 P C E0 E1 S 0) (seI g1 g2 g3 P C E0 E1 S 1)
def woI (s : Stg) : Pr := wfI 2 g1 P C s.2.2 (geI g1 g2 g3 P C E0 E1 s.1 s.2.1 0) (geI g1 g2 g3 P C E0 E1 s.1 s.2.1 1)
end
structure Asked (g1 g2 g3 : Int) (P C E0 E1 : Pr) : Prop where
  g : Good g1 g2 g3
  p : IsPart P
  p5 : P.2 ≤ 5
  c : unit C
  e0 : unit E0
  e1 : unit E1
section
variable {g1 g2 g3 : Int} {P C E0 E1 : Pr} (A : Asked g1 g2 g3 P C E0 E1)
include A
theorem Asked.pn : Bd 3 P.2 := ⟨Int.le_of_lt A.p.d, by have := A.p5; show P.2 ≤ 8; omega⟩
theorem Asked.p01 : 0 ≤ val P ∧ val P ≤ 1 := by
  have h := val_mul (q := P) A.p.d
  have hd := Rat.intCast_pos.mpr A.p.d
  have hn : (0 : Rat) ≤ (P.1 : Rat) := Rat.intCast_nonneg.mpr A.p.n
  have hl : (P.1 : Rat) ≤ (P.2 : Rat) := Rat.intCast_le_intCast.mpr A.p.l
  generalize val P = x at *
  generalize (P.2 : Rat) = d at *
  generalize (P.1 : Rat) = n at *
  constructor
  · by_cases hx : 0 ≤ x
    · exact hx
    · have := Rat.mul_pos (a := -x) (b := d) (by grind) hd
      grind
  · by_cases hx : x ≤ 1
    · exact hx
    · have := Rat.mul_pos (a := x - 1) (b := d) (by grind) hd
      grind
omit A in
theorem z_fq : Fq 0 0 (0, 1) := unit.fq (.inl rfl)
omit A in
theorem o_fq : Fq 0 0 (1, 1) := unit.fq (.inr rfl)
theorem f_gP : Fits 2 g1 P (0, 1) (0, 0) (1, 1) (0, 1) := by
  obtain ⟨a1, a2, a3, a4, a5, a6⟩ := A.g
  exact fits2 (L := 10) a1 (by omega) A.p (A.pn.mono (by omega)) (z_fq.mono (by omega) (by omega)) (o_fq.mono (by omega) (by omega)) (z_fq.mono (by omega) (by omega)) (by decide)
theorem f_gC : Fits 2 g1 P C (0, 0) (0, 1) (0, 1) := by
  obtain ⟨a1, a2, a3, a4, a5, a6⟩ := A.g
  exact fits2 (L := 10) a1 (by omega) A.p (A.pn.mono (by omega)) (A.c.fq.mono (by omega) (by omega)) (z_fq.mono (by omega) (by omega)) (z_fq.mono (by omega) (by omega)) (by decide)
theorem lk10 {q : Pr} (hq : 0 ≤ mnP q) (z : Goes 2 g1 q) : (lk0 g1 q).toNat + (lk1 g1 q).toNat ≤ 10 := by
  obtain ⟨a1, a2, a3, a4, a5, a6⟩ := A.g
  rcases lk_sum z hq a1 with e | e <;> omega
theorem lk12 {q : Pr} (hq : 0 ≤ mnP q) (z : Goes 2 g2 q) : (lk0 g2 q).toNat + (lk1 g2 q).toNat ≤ 12 := by
  obtain ⟨a1, a2, a3, a4, a5, a6⟩ := A.g
  rcases lk_sum z hq a3 with e | e <;> omega
theorem lk6 {q : Pr} (hq : 0 ≤ mnP q) (z : Goes 1 g3 q) : (lk0 g3 q).toNat + (lk1 g3 q).toNat ≤ 6 := by
  obtain ⟨a1, a2, a3, a4, a5, a6⟩ := A.g
  rcases lk_sum z hq a5 with e | e <;> omega
theorem gPI_eq : gPI g1 P = fr (gP g1 (val P)) ∧ Fq 24 59 (gPI g1 P) := by
  obtain ⟨a1, a2, a3, a4, a5, a6⟩ := A.g
  have v := wf_val (lead := 2) (g := g1) (part := P) (cost := (0, 1)) (q := (0, 0)) (E0 := (1, 1)) (E1 := (0, 1)) A.p (by decide) (by decide) (by decide) (known2 _)
  have f := wf_Fq (lead := 2) (g := g1) (s := 24) (L := 10) (q := (0, 0)) A.p A.pn o_fq (z_fq.mono (by omega) (by omega)) z_fq (known2 _) (ptsS A.p A.p5 a1 a2 (by decide)) (lk10 A (by decide))
  constructor
  · unfold gPI
    rw [low_val v.2, v.1, val0, val1]; rfl
  · exact low_Fq (f.mono (by omega) (by omega))
theorem gCI_eq : gCI g1 P C = fr (gC g1 (val P) (val C)) ∧ Fq 24 59 (gCI g1 P C) := by
  obtain ⟨a1, a2, a3, a4, a5, a6⟩ := A.g
  have v := wf_val (lead := 2) (g := g1) (part := P) (cost := C) (q := (0, 0)) (E0 := (0, 1)) (E1 := (0, 1)) A.p (by decide) (by decide) A.c.fq.pos (known2 _)
  have f := wf_Fq (lead := 2) (g := g1) (s := 24) (L := 10) (q := (0, 0)) A.p A.pn z_fq z_fq A.c.fq (known2 _) (ptsS A.p A.p5 a1 a2 (by decide)) (lk10 A (by decide))
  constructor
  · unfold gCI
    rw [low_val v.2, v.1, val0]; rfl
  · exact low_Fq (f.mono (by omega) (by omega))
theorem gPI_part : IsPart (gPI g1 P) := by
  rw [(gPI_eq A).1]
  exact part_fr (gP_01 A.p01.1 A.p01.2).1 (gP_01 A.p01.1 A.p01.2).2
theorem f_sP : Fits 2 g2 (gPI g1 P) (0, 1) (0, 0) (1, 1) (0, 1) := by
  obtain ⟨a1, a2, a3, a4, a5, a6⟩ := A.g
  exact fits2 (L := 12) a3 a4 (gPI_part A) ((gPI_eq A).2.den.mono (by omega)) (z_fq.mono (by omega) (by omega)) (o_fq.mono (by omega) (by omega)) (z_fq.mono (by omega) (by omega)) (by decide)
theorem f_sC : Fits 2 g2 (gPI g1 P) (gCI g1 P C) (0, 0) (0, 1) (0, 1) := by
  obtain ⟨a1, a2, a3, a4, a5, a6⟩ := A.g
  exact fits2 (L := 12) a3 a4 (gPI_part A) ((gPI_eq A).2.den.mono (by omega)) ((gCI_eq A).2.mono (by omega) (by omega)) (z_fq.mono (by omega) (by omega)) (z_fq.mono (by omega) (by omega)) (by decide)
theorem sPI_eq : sPI g1 g2 P = fr (sP g1 g2 (val P)) ∧ Fq 288 363 (sPI g1 g2 P) := by
  obtain ⟨a1, a2, a3, a4, a5, a6⟩ := A.g
  have v := wf_val (lead := 2) (g := g2) (part := gPI g1 P) (cost := (0, 1)) (q := (0, 0)) (E0 := (1, 1)) (E1 := (0, 1)) (gPI_part A) (by decide) (by decide) (by decide) (known2 _)
  have f := wf_Fq (lead := 2) (g := g2) (s := 288) (L := 12) (q := (0, 0)) (gPI_part A) (gPI_eq A).2.den o_fq (z_fq.mono (by omega) (by omega)) z_fq (known2 _) (fun z => (gamS (gPI_part A) (gPI_eq A).2.den a3 a4 (by decide) z).mono (by omega)) (lk12 A (by decide))
  constructor
  · unfold sPI
    rw [low_val v.2, v.1, val0, val1, (gPI_eq A).1, val_fr]; rfl
  · exact low_Fq (f.mono (by omega) (by omega))
theorem sCI_eq : sCI g1 g2 P C = fr (sC g1 g2 (val P) (val C)) ∧ Fq 312 446 (sCI g1 g2 P C) := by
  obtain ⟨a1, a2, a3, a4, a5, a6⟩ := A.g
  have v := wf_val (lead := 2) (g := g2) (part := gPI g1 P) (cost := gCI g1 P C) (q := (0, 0)) (E0 := (0, 1)) (E1 := (0, 1)) (gPI_part A) (by decide) (by decide) (gCI_eq A).2.pos (known2 _)
  have f := wf_Fq (lead := 2) (g := g2) (s := 288) (L := 12) (q := (0, 0)) (gPI_part A) (gPI_eq A).2.den z_fq z_fq (gCI_eq A).2 (known2 _) (fun z => (gamS (gPI_part A) (gPI_eq A).2.den a3 a4 (by decide) z).mono (by omega)) (lk12 A (by decide))
  constructor
  · unfold sCI
    rw [low_val v.2, v.1, val0, (gPI_eq A).1, (gCI_eq A).1, val_fr, val_fr]; rfl
  · exact low_Fq (f.mono (by omega) (by omega))
theorem sPI_part : IsPart (sPI g1 g2 P) := by
  rw [(sPI_eq A).1]
  exact part_fr (sP_01 A.p01.1 A.p01.2).1 (sP_01 A.p01.1 A.p01.2).2
variable {s : Stg} (h : On g1 g2 g3 s)
include h
omit A in
theorem more_known {w : Int} : Known 1 g3 (more s.1 w) := by
  unfold more
  by_cases hw : w = 0
  · rw [if_pos hw]; exact h.sets.step.1
  · rw [if_neg hw]; exact h.sets.step.2
theorem f_se (w : Int) : Fits 1 g3 (sPI g1 g2 P) (sCI g1 g2 P C) (more s.1 w) E0 E1 :=
  ⟨.inl rfl, sPI_part A, (sPI_eq A).2.den.mono (by omega), (sCI_eq A).2.mono (by omega) (by omega), A.e0.fq.mono (by omega) (by omega), A.e1.fq.mono (by omega) (by omega), more_known h,
    fun z => by
      have := lk6 A (Int.le_trans h.s0 mn_more) z
      omega⟩
theorem seI_eq (w : Int) : val (seI g1 g2 g3 P C E0 E1 s.1 w) = Vs g1 g2 g3 (val P) (val C) (val E0) (val E1) (more s.1 w) ∧ Fq 1752 3077 (seI g1 g2 g3 P C E0 E1 s.1 w) := by
  obtain ⟨a1, a2, a3, a4, a5, a6⟩ := A.g
  have hq : 0 ≤ mnP (more s.1 w) := Int.le_trans h.s0 mn_more
  have v := wf_val (lead := 1) (g := g3) (part := sPI g1 g2 P) (cost := sCI g1 g2 P C) (q := more s.1 w) (E0 := E0) (E1 := E1) (sPI_part A) A.e0.fq.pos A.e1.fq.pos (sCI_eq A).2.pos (more_known h)
  have f := wf_Fq (lead := 1) (g := g3) (s := 1440) (L := 6) (q := more s.1 w) (sPI_part A) (sPI_eq A).2.den A.e0.fq A.e1.fq (sCI_eq A).2 (more_known h) (fun z => (setS (sPI_part A) (sPI_eq A).2.den a5 a6 hq z).mono (by omega)) (lk6 A hq)
  constructor
  · unfold seI
    rw [v.1, (sPI_eq A).1, (sCI_eq A).1, val_fr, val_fr]; rfl
  · exact f.mono (by omega) (by omega)
theorem f_ge (w : Int) : Fits 2 g2 (gPI g1 P) (gCI g1 P C) (more s.2.1 w) (seI g1 g2 g3 P C E0 E1 s.1 0) (seI g1 g2 g3 P C E0 E1 s.1 1) := by
  obtain ⟨a1, a2, a3, a4, a5, a6⟩ := A.g
  exact fits2 (L := 12) a3 a4 (gPI_part A) ((gPI_eq A).2.den.mono (by omega)) ((gCI_eq A).2.mono (by omega) (by omega)) ((seI_eq A h 0).2.mono (by omega) (by omega)) ((seI_eq A h 1).2.mono (by omega) (by omega)) (Int.le_trans h.g0 mn_more)
theorem geI_eq (w : Int) : val (geI g1 g2 g3 P C E0 E1 s.1 s.2.1 w) = Vg g1 g2 g3 (val P) (val C) (val E0) (val E1) s.1 (more s.2.1 w) ∧ Fq 3816 7027 (geI g1 g2 g3 P C E0 E1 s.1 s.2.1 w) := by
  obtain ⟨a1, a2, a3, a4, a5, a6⟩ := A.g
  have hq : 0 ≤ mnP (more s.2.1 w) := Int.le_trans h.g0 mn_more
  have v := wf_val (lead := 2) (g := g2) (part := gPI g1 P) (cost := gCI g1 P C) (q := more s.2.1 w) (gPI_part A) (seI_eq A h 0).2.pos (seI_eq A h 1).2.pos (gCI_eq A).2.pos (known2 _)
  have f := wf_Fq (lead := 2) (g := g2) (s := 288) (L := 12) (q := more s.2.1 w) (gPI_part A) (gPI_eq A).2.den (seI_eq A h 0).2 (seI_eq A h 1).2 (gCI_eq A).2 (known2 _) (fun z => (gamS (gPI_part A) (gPI_eq A).2.den a3 a4 hq z).mono (by omega)) (lk12 A hq)
  constructor
  · unfold geI
    rw [v.1, (gPI_eq A).1, (gCI_eq A).1, val_fr, val_fr, (seI_eq A h 0).1, (seI_eq A h 1).1, more0, more1]; rfl
  · exact f.mono (by omega) (by omega)
theorem f_wo : Fits 2 g1 P C s.2.2 (geI g1 g2 g3 P C E0 E1 s.1 s.2.1 0) (geI g1 g2 g3 P C E0 E1 s.1 s.2.1 1) := by
  obtain ⟨a1, a2, a3, a4, a5, a6⟩ := A.g
  exact fits2 (L := 10) a1 (by omega) A.p (A.pn.mono (by omega)) (A.c.fq.mono (by omega) (by omega)) ((geI_eq A h 0).2.mono (by omega) (by omega)) ((geI_eq A h 1).2.mono (by omega) (by omega)) h.p0
theorem woI_eq : val (woI g1 g2 g3 P C E0 E1 s) = worth g1 g2 g3 (val P) (val C) (val E0) (val E1) s ∧ Fq 7656 14718 (woI g1 g2 g3 P C E0 E1 s) := by
  obtain ⟨a1, a2, a3, a4, a5, a6⟩ := A.g
  have v := wf_val (lead := 2) (g := g1) (part := P) (cost := C) (q := s.2.2) A.p (geI_eq A h 0).2.pos (geI_eq A h 1).2.pos A.c.fq.pos (known2 _)
  have f := wf_Fq (lead := 2) (g := g1) (s := 24) (L := 10) (q := s.2.2) A.p A.pn (geI_eq A h 0).2 (geI_eq A h 1).2 A.c.fq (known2 _) (ptsS A.p A.p5 a1 a2 h.p0) (lk10 A h.p0)
  constructor
  · unfold woI
    rw [v.1, (geI_eq A h 0).1, (geI_eq A h 1).1, more0, more1, worth_on h]; rfl
  · exact f.mono (by omega) (by omega)
theorem told_eq : low (woI g1 g2 g3 P C E0 E1 s).1 (woI g1 g2 g3 P C E0 E1 s).2 = fr (worth g1 g2 g3 (val P) (val C) (val E0) (val E1) s) := by
  rw [low_val (woI_eq A h).2.pos, (woI_eq A h).1]
end
end M
set_option Elab.async false
set_option linter.all false
set_option maxRecDepth 100000
namespace L3
open PySem PySem.Spec PyProof.Rows L2
section
variable {X : Cx} {e c o a b : Expr} {σ : L2.St} {H H' : Hp} {d r : D} {k : Bool} {pos : Pos} {st : Stmt} {sts rest els body : List Stmt} {Pre Nx Mid : L2.St → Hp → Prop}
def tTurnQ2 (n m : Nat) (lo : Int) (P : Nat → L2.St → Hp → Prop) : TS := fun E σ' H' => ∃ i : Nat, i < m ∧ (∃ σ1, σ' = List.set σ1 n (some (V.int (lo + i))) ∧ P i σ1 H') ∧ ∀ σ2 H2, P (i + 1) σ2 H2 → E.nx σ2 H2
theorem pq1_forR2 {lo hi : Int} {p pos1 : Pos} (n : Nat) {x : Str} {px : Pos} (P : Nat → L2.St → Hp → Prop) (hp : PassesOwn (model X.prog X.w) X.A X.env X.xe) (hc : X.calm = true) (hN : X.N.Nodup) (hm : X.mg "range" = none)
    (he : ∀ σ H, Pre σ H → PD X a σ H (.int lo) ∧ PD X b σ H (.int hi)) (hj : -(2 ^ 62) ≤ lo ∧ lo < 2 ^ 62 ∧ -(2 ^ 62) ≤ hi ∧ hi < 2 ^ 62)
    (h0 : ∀ σ H H', Pre σ H → Same H H' → P 0 σ H') (hs : ∀ (i : Nat), i < (hi - lo).toNat → PQ X body (fun σ' H' => ∃ σ1, σ' = σ1.set n (some (.int (lo + i))) ∧ P i σ1 H') (P (i + 1)))
    (hd : ∀ σ1 H1, P (hi - lo).toNat σ1 H1 → Nx σ1 H1) (hi' : X.N[n]? = some x := by rfl) (hx : Loc X.env.scope x := by first | exact Or.inl rfl | exact Or.inr rfl)
    (hf : X.fn x = true ∨ X.env.scope.names.lookup x = some .local := by first | exact .inl rfl | exact .inr rfl | assumption) (hg : Gl X "range" := by rfl)
    (hst : starEach [a, b] X.env = [(false, eval a X.env), (false, eval b X.env)] := by rfl) (hst2 : starEach [b] X.env = [(false, eval b X.env)] := by rfl) (hfs : ∀ x, foldedSetIterable (.Call (.Name "range" p) [a, b] [] pos1) X.env x = pure x := by intro _; rfl) :
    PQ1 X (.For (.Name x px) (.Call (.Name "range" p) [a, b] [] pos1) body [] pos) Pre Nx := fun pins s σ H D I ⟨pre, q⟩ => by
  have hb : PSs X body (tTurnQ2 n (hi - lo).toNat lo P) := fun pins s σ' H' D I ⟨i, hlt, p, q⟩ => hs i hlt pins s σ' H' D I ⟨p, q⟩
  refine ps_for hp hc (pi_range2 hg hm (pda_cons (he σ H pre).1 (pda_cons (he σ H pre).2 pda_nil (by rw [hst2]; rfl)) (by rw [hst, hst2])) hst hst2) (pg_name hN hi' hx hf) hb hfs pins s σ H D I ⟨rfl, Same.refl _, fun vs H2 e2 hvs => ?_⟩
  obtain ⟨v0, v1, rfl, h1, h2⟩ := isL2 hvs
  cases h1; cases h2
  refine ⟨lo, hi, rfl, hj, ?_⟩
  refine for_range (lo := lo) (g := gName n) (tb := tTurnQ2 n (hi - lo).toNat lo P) P (h0 σ H H2 pre e2) (fun i σ1 H3 hlt p => ?_) (fun σ1 H3 p => q _ _ (hd σ1 H3 p))
  exact ⟨i, hlt, ⟨σ1, rfl, p⟩, fun σ2 H4 p4 => p4⟩
def two (E : D) (x y : D) : Prop := E = .tup [x, y] ∨ E = .lst [x, y]
theorem pd_two0 {E x y : D} (h : two E x y) (ha : PD X a σ H E) (hb : PD X b σ H (.int 0)) (hs : PlainIx b := by intro _ _; rfl) : PD X (.Subscript a b pos) σ H x := by
  rcases h with rfl | rfl
  · exact pd_ixT ha hb rfl hs
  · exact pd_ixL ha hb rfl hs
theorem pd_two1 {E x y : D} (h : two E x y) (ha : PD X a σ H E) (hb : PD X b σ H (.int 1)) (hs : PlainIx b := by intro _ _; rfl) : PD X (.Subscript a b pos) σ H y := by
  rcases h with rfl | rfl
  · exact pd_ixT ha hb rfl hs
  · exact pd_ixL ha hb rfl hs
end
theorem at_range {n : Nat} {f : Nat → Int} {k : Int} (h0 : 0 ≤ k) (h1 : k < n) : atI (((List.range n).map f).map D.int) k = some (.int (f k.toNat)) := by
  unfold atI ixN
  rw [List.length_map, List.length_map, List.length_range, if_pos h0, if_pos h1]
  show (((List.range n).map f).map D.int)[k.toNat]? = _
  have : k.toNat < n := by omega
  rw [List.getElem?_map, List.getElem?_map, List.getElem?_range this]
  rfl
theorem k2_inj {a b c d : Int} : k2 a b = k2 c d ↔ a = c ∧ b = d := by simp [k2]
theorem fill_put {S S' : Int → Int → Prop} {F : Int → Int → Int} {kvs : List (List Key × V)} {a0 b0 : Int} (h : ∀ a b, S a b → valV kvs (k2 a b) = some (.int (F a b))) (h' : ∀ a b, S' a b → S a b ∨ (a = a0 ∧ b = b0)) :
    ∀ a b, S' a b → valV (putK kvs (k2 a0 b0) (.int (F a0 b0))) (k2 a b) = some (.int (F a b)) := fun a b hs => by
  rw [valV_put]
  by_cases e : k2 a b = k2 a0 b0
  · rw [if_pos e]
    obtain ⟨rfl, rfl⟩ := k2_inj.mp e
    rfl
  · rw [if_neg e]
    rcases h' a b hs with h2 | h2
    · exact h a b h2
    · exact absurd (k2_inj.mpr h2) e
end L3
namespace M
open L3
theorem Bd.cmul {k l : Nat} {x y : Int} (h : Bd k x) (h' : Bd l y) (hkl : k + l + 2 ≤ 134217728) : CMulB x y := ⟨k + 1, l + 1, h.nat, h'.nat, by omega⟩
theorem Bd.cdiv {x y : Int} (h : Bd 8999 y) (h0 : 0 < y) : CDivB x y := ⟨h0, h.nat⟩
end M
set_option linter.all false
namespace M
open L3
structure Sz (n N : Nat) (x : Rat) : Prop where
  den : Bd n (x.den : Int)
  num : Bd N x.num
theorem Sz.mono {n N n' N' : Nat} {x : Rat} (h : Sz n N x) (h1 : n ≤ n') (h2 : N ≤ N') : Sz n' N' x := ⟨h.den.mono h1, h.num.mono h2⟩
theorem dpos (x : Rat) : (0 : Int) < (x.den : Int) := fr_den x
theorem dne (x : Rat) : ((x.den : Int) : Rat) ≠ 0 := by
  have := Rat.intCast_pos.mpr (dpos x)
  grind
theorem nd (x : Rat) : x * ((x.den : Int) : Rat) = (x.num : Rat) := by
  have := val_mul (q := fr x) (fr_den x)
  rw [val_fr] at this; exact this
theorem eq_div {x a b : Rat} (hb : b ≠ 0) (h : x * b = a) : a / b = x := by
  rw [← h, Rat.div_def, Rat.mul_assoc, Rat.mul_inv_cancel _ hb, Rat.mul_one]
theorem low_add (x y : Rat) : low (x.num * (y.den : Int) + y.num * (x.den : Int)) ((x.den : Int) * (y.den : Int)) = fr (x + y) := by
  rw [low_fr (Int.mul_pos (dpos x) (dpos y))]
  congr 1
  have h1 := dne x
  have h2 := dne y
  refine eq_div ?_ ?_
  · rw [Rat.intCast_mul]; exact fun z => (Rat.mul_eq_zero.mp z).elim h1 h2
  · simp only [Rat.intCast_add, Rat.intCast_mul]
    rw [← nd x, ← nd y]; grind
theorem low_mul (x y : Rat) : low (x.num * y.num) ((x.den : Int) * (y.den : Int)) = fr (x * y) := by
  rw [low_fr (Int.mul_pos (dpos x) (dpos y))]
  congr 1
  have h1 := dne x
  have h2 := dne y
  refine eq_div ?_ ?_
  · rw [Rat.intCast_mul]; exact fun z => (Rat.mul_eq_zero.mp z).elim h1 h2
  · simp only [Rat.intCast_mul]
    rw [← nd x, ← nd y]; grind
theorem coprime (x : Rat) : Int.gcd x.num (x.den : Int) = 1 := x.reduced
theorem fr_rest (x : Rat) : ((x.den : Int) - x.num, (x.den : Int)) = fr (1 - x) := by
  have e : (1 - x) = (((x.den : Int) - x.num : Int) : Rat) / ((x.den : Int) : Rat) := by
    refine (eq_div (dne x) ?_).symm
    rw [Rat.intCast_sub, ← nd x]; grind
  rw [e, ← low_fr (dpos x)]
  have g : Int.gcd ((x.den : Int) - x.num) (x.den : Int) = 1 := by
    have h := coprime x
    have : Int.gcd ((x.den : Int) - x.num) (x.den : Int) = Int.gcd x.num (x.den : Int) := by
      rw [Int.gcd_comm, Int.gcd_comm x.num]
      have := Int.gcd_self_sub_right (x.den : Int) x.num
      first | exact this | (rw [← Int.gcd_neg]; simp)
    rw [this, h]
  unfold low
  rw [g]
  simp
theorem Sz.of_fq {n N : Nat} {x : Rat} (h : Fq n N (fr x)) : Sz n N x := ⟨h.den, h.num⟩
theorem Sz.fq {n N : Nat} {x : Rat} (h : Sz n N x) : Fq n N (fr x) := ⟨fr_den x, h.den, h.num⟩
theorem Sz.add {n N m M' : Nat} {x y : Rat} (h : Sz n N x) (h' : Sz m M' y) : Sz (n + m) (N + m + (M' + n) + 1) (x + y) := by
  refine .of_fq ?_
  rw [← low_add x y]
  refine low_Fq (r := (_, _)) ⟨Int.mul_pos (dpos x) (dpos y), h.den.mul h'.den, ?_⟩
  exact (((h.num.mul h'.den).mono (l := N + m + (M' + n)) (by omega)).add ((h'.num.mul h.den).mono (by omega)))
theorem Sz.mul {n N m M' : Nat} {x y : Rat} (h : Sz n N x) (h' : Sz m M' y) : Sz (n + m) (N + M') (x * y) := by
  refine .of_fq ?_
  rw [← low_mul x y]
  exact low_Fq (r := (_, _)) ⟨Int.mul_pos (dpos x) (dpos y), h.den.mul h'.den, h.num.mul h'.num⟩
theorem num_le {x : Rat} (h1 : x ≤ 1) : x.num ≤ (x.den : Int) := by
  have := (Rat.le_iff x 1).mp h1
  simpa using this
theorem num_nn {x : Rat} (h0 : 0 ≤ x) : 0 ≤ x.num := by
  have := (Rat.le_iff 0 x).mp h0
  simpa using this
theorem Sz.rest {n N : Nat} {x : Rat} (h : Sz n N x) (h0 : 0 ≤ x) (h1 : x ≤ 1) : Sz n n (1 - x) := by
  refine .of_fq ?_
  rw [← fr_rest x]
  have a := num_le h1
  have b := num_nn h0
  exact ⟨dpos x, h.den, h.den.le (by show 0 ≤ (x.den : Int) - x.num; omega) (by show (x.den : Int) - x.num ≤ _; omega)⟩
def IntV (N : Int) (x : Rat) : Prop := ∃ z : Int, x * (N : Rat) = (z : Rat)
theorem IntV.mul {N x} (h : IntV N x) (k : Int) : IntV (k * N) x := by
  obtain ⟨z, hz⟩ := h
  exact ⟨k * z, by rw [Rat.intCast_mul, Rat.intCast_mul, ← hz]; grind⟩
theorem IntV.self (x : Rat) : IntV (x.den : Int) x := ⟨x.num, nd x⟩
theorem IntV.int (n : Int) : IntV 1 (n : Rat) := ⟨n, by simp⟩
section
variable {g1 g2 g3 : Int} {P C E0 E1 : Pr} (A : Asked g1 g2 g3 P C E0 E1)
include A
end
end M
set_option Elab.async false
set_option linter.all false
set_option maxRecDepth 100000
namespace L3
open PySem PySem.Spec PyProof.Rows L2
section
variable {X : Cx} {a b c e : Expr} {σ : L2.St} {H : Hp} {i j k : Int} {d : D} {ds : List D} {pos p2 : Pos} {f f' : Int → Int → Bool}
theorem pdt_chain {op op' : CmpOp} (ho : OpR X (compareOp op) (rI0 fun i j => .bl (f i j))) (ho' : OpR X (compareOp op') (rI0 fun i j => .bl (f' i j))) (ha : PD X a σ H (.int i)) (hb : PD X b σ H (.int j)) (hc : PD X c σ H (.int k))
    (hm : lastMarks [op, op'] [b, c] = false := by with_unfolding_all rfl) : PDT X (.Compare a [op, op'] [b, c] pos) σ H (f i j && f' j k) :=
  PDT.of (pt_chain ho ho' ha hb hc hm) fun H1 Q e1 q => ⟨rfl, e1, fun x H2 e2 hx => ⟨rfl, e1.trans e2, fun y H3 e3 hy => by
    cases hx; cases hy
    refine ⟨i, j, rfl, rfl, f i j, rfl, ?_⟩
    cases hf : f i j with
    | false =>
      rw [if_neg Bool.false_ne_true]
      rw [hf] at q
      exact ⟨false, rfl, q _ (e2.trans e3)⟩
    | true =>
      rw [if_pos rfl]
      rw [hf] at q
      refine ⟨rfl, (e1.trans e2).trans e3, fun z H4 e4 hz => ?_⟩
      cases hz
      exact ⟨j, k, rfl, rfl, f' j k, rfl, by simpa using q _ ((e2.trans e3).trans e4)⟩⟩⟩
theorem IsL.drop {K : PySem.W.Frag} {H : Hp} : ∀ {ds : List D} {vs : List V} (n : Nat), IsL K H ds vs → IsL K H (ds.drop n) (vs.drop n)
  | _, _, 0, h => h
  | _, _, _ + 1, .nil => .nil
  | _, _, n + 1, .cons _ h => IsL.drop n h
end
end L3
namespace L3
open PySem PySem.Spec PyProof.Rows L2
end L3
set_option Elab.async false
set_option linter.all false
set_option maxRecDepth 100000
namespace L3
open PySem PySem.Spec PyProof.Rows L2
section
variable {X : Cx} {K : PySem.W.Frag} {a e o : Expr} {σ : L2.St} {H : Hp} {i : Int} {d : D} {ds : List D} {pos apos p : Pos} {y : Str} {ts : List Str}
theorem isL_strs : ∀ {ts : List Str} {vs : List V}, IsL K H (ts.map D.str) vs → vs = ts.map V.str
  | [], _, .nil => rfl
  | b :: bs, _, .cons (.str _) l => by rw [isL_strs l]; rfl
theorem vals_strs : ∀ {ts : List Str} {us : List Value}, Vals (ts.map V.str) us → ∃ l : List (Str × Tok), l.map (·.1) = ts ∧ us = strValues l
  | [], _, .nil => ⟨[], rfl, rfl⟩
  | b :: bs, _, .cons r t => by
    obtain ⟨l, e1, e2⟩ := vals_strs t
    obtain ⟨k, e3⟩ := r
    exact ⟨(b, k) :: l, by rw [← e1]; rfl, by rw [e2, e3]; rfl⟩
theorem mt_join : MtR X "str.join" (fun x vs H Q => ∃ (y : Str) (q : Addr) (ts : List Str), x = .str y ∧ vs = [.ref q] ∧ SqL X.K H q (ts.map V.str) ∧ JoinOk y ts = true ∧ Q (.str (Txt.join y ts)) H) := by
  intro pins s σ H x vs v us Q I rx rv h
  obtain ⟨y, q, ts, rfl, rfl, hq, hok, k⟩ := h
  obtain ⟨t, rfl⟩ := rx
  obtain ⟨u, rfl, ru⟩ := rv.one
  obtain rfl : u = Value.ref q := ru
  obtain ⟨its, r, pl, _⟩ := I.list hq
  obtain ⟨l, e1, rfl⟩ := vals_strs r
  exact SC.join pl.isList e1 hok fun t' m => ⟨.str _, H, I.tok _, ⟨_, rfl⟩, k⟩
theorem pd_join (ho : PD X o σ H (.str y)) (ha : PD X a σ H (.lst (ts.map D.str))) (hok : JoinOk y ts = true)
    (hbase : attributeBase o "join" X.env (eval o X.env) = eval o X.env := by rfl)
    (hfew : ((backTo pos (starEach [a] X.env)).all (fun x => !x.1) && (backToKw pos (keywordEach [] X.env)).all (fun x => x.1.isSome)
      && decide ([a].length + ([] : List Keyword).length + (if ([] : List Keyword).isEmpty then 0 else 1) < 30)) = true := by rfl)
    (hline : (apos.endLine == pos.line) = true := by rfl) (hs : starEach [a] X.env = (false, eval a X.env) :: starEach [] X.env := by rfl) (hplain : (backTo pos (starEach [] X.env)).any (·.1) = false := by rfl) :
    PD X (.Call (.Attribute o "join" apos) [a] [] pos) σ H (.str (Txt.join y ts)) :=
  PD.of (pe_bm PySem.F.plainAttrs_str PySem.F.slot_str_join PySem.F.type_str_join mt_join ho (pda_cons ha pda_nil hs) hbase hfew hline hs hplain) fun H1 Q e1 q => ⟨rfl, e1, fun v H2 e2 hv => by
    cases hv
    refine ⟨rfl, rfl, e1.trans e2, fun vs H3 e3 hvs => ?_⟩
    cases hvs with
    | cons h l =>
      cases l
      cases h with
      | lst hq l =>
        obtain rfl := isL_strs l
        exact ⟨y, _, ts, rfl, rfl, hq, hok, q _ _ (e2.trans e3) (.str _)⟩⟩
theorem pd_strI (hm : X.mg "str" = none) (ha : PD X a σ H (.int i)) (hi : i.natAbs.log2 < 1920) (hg : Gl X "str" := by rfl) (he : starEach [a] X.env = (false, eval a X.env) :: starEach [] X.env := by rfl) : PD X (.Call (.Name "str" p) [a] [] pos) σ H (.str (toString i)) :=
  pd_T call_str_int hm (by decide +kernel) (pda_cons ha pda_nil he) (fun vs H1 Q e1 hvs q => by
    obtain ⟨v0, rfl, h0⟩ := isL1 hvs
    cases h0
    exact ⟨i, rfl, hi, q _ _ (Same.refl _) (.str _)⟩) hg (by decide) (by decide) he rfl
theorem pd_fvS (he : PD X e σ H (.str y)) (hz : y.length ≤ sizeLine) : PD X (.FormattedValue e (-1) none pos) σ H (.str y) := fun pins s σ' H1 Q I ⟨hs, e1, q⟩ => by
  subst hs
  refine FormattedValue_plain (thn (he pins s σ' H1 (fun v H2 => Same H1 H2 ∧ v = .str y) I ⟨rfl, e1, fun v H2 e2 hv => ⟨e2, by cases hv; rfl⟩⟩) fun u s1 ⟨v, H2, I2, r, e2, ev⟩ => ?_)
  subst ev
  obtain ⟨t, rfl⟩ := r
  exact formatField_str (fun t' tk => ⟨.str y, H2, I2.tok _, ⟨_, rfl⟩, q _ _ e2 (.str _)⟩) hz
theorem pd_fvI (he : PD X e σ H (.int i)) (hz : i.natAbs.log2 < 1920) : PD X (.FormattedValue e (-1) none pos) σ H (.str (toString i)) := fun pins s σ' H1 Q I ⟨hs, e1, q⟩ => by
  subst hs
  refine FormattedValue_plain (thn (he pins s σ' H1 (fun v H2 => Same H1 H2 ∧ v = .int i) I ⟨rfl, e1, fun v H2 e2 hv => ⟨e2, by cases hv; rfl⟩⟩) fun u s1 ⟨v, H2, I2, r, e2, ev⟩ => ?_)
  subst ev
  obtain ⟨t, rfl⟩ := r
  exact formatField_int_small hz ⟨.str _, H2, I2.tok _, ⟨_, rfl⟩, q _ _ e2 (.str _)⟩
theorem parts_step {pins : List (Addr × Obj)} {s : Shared} {H1 : Hp} {out : Str} {rest : List (Sem Value)} {Q : Value → Shared → Prop} (he : PD X e σ H (.str y)) (I : Inv X pins σ H1 s) (e1 : Same H H1) (hz : (out ++ y).length ≤ sizeLine)
    (h : ∀ s2 H2, Inv X pins σ H2 s2 → Same H1 H2 → wpAny (model X.prog X.w) X.A (joinParts (out ++ y) rest) Q X.xe s2) : wpAny (model X.prog X.w) X.A (joinParts out (eval e X.env :: rest)) Q X.xe s := by
  refine joinParts_cons (thn (he pins s σ H1 (fun v H2 => Same H1 H2 ∧ v = .str y) I ⟨rfl, e1, fun v H2 e2 hv => ⟨e2, by cases hv; rfl⟩⟩) fun u s1 ⟨v, H2, I2, r, e2, ev⟩ => ?_)
  subst ev
  obtain ⟨t, rfl⟩ := r
  exact ⟨hz, h s1 H2 I2 e2⟩
theorem pd_joined4 {e1 e2 e3 e4 : Expr} {y1 y2 y3 y4 : Str} (h1 : PD X e1 σ H (.str y1)) (h2 : PD X e2 σ H (.str y2)) (h3 : PD X e3 σ H (.str y3)) (h4 : PD X e4 σ H (.str y4)) (hz : y1.length + y2.length + y3.length + y4.length ≤ 100000) :
    PD X (.JoinedStr [e1, e2, e3, e4] pos) σ H (.str ((((Str.empty ++ y1) ++ y2) ++ y3) ++ y4)) := fun pins s σ' H1 Q I ⟨hs, g1, q⟩ => by
  subst hs
  have l0 : Str.empty.length = 0 := rfl
  have l1 : (Str.empty ++ y1).length = y1.length := by rw [strLen_append, l0, Nat.zero_add]
  have l2 : ((Str.empty ++ y1) ++ y2).length = y1.length + y2.length := by rw [strLen_append, l1]
  have l3 : (((Str.empty ++ y1) ++ y2) ++ y3).length = y1.length + y2.length + y3.length := by rw [strLen_append, l2]
  have l4 : ((((Str.empty ++ y1) ++ y2) ++ y3) ++ y4).length = y1.length + y2.length + y3.length + y4.length := by rw [strLen_append, l3]
  have zz : 100000 ≤ sizeLine := by decide
  refine JoinedStr_many ?_
  refine parts_step h1 I g1 (by omega) fun s2 H2 I2 g2 => ?_
  refine parts_step h2 I2 (g1.trans g2) (by omega) fun s3 H3 I3 g3 => ?_
  refine parts_step h3 I3 ((g1.trans g2).trans g3) (by omega) fun s4 H4 I4 g4 => ?_
  refine parts_step h4 I4 (((g1.trans g2).trans g3).trans g4) (by omega) fun s5 H5 I5 g5 => ?_
  exact joinParts_nil ⟨.str _, H5, I5.tok _, ⟨_, rfl⟩, q _ _ (((g2.trans g3).trans g4).trans g5) (.str _)⟩ (by omega)
end
def spXM (K : PySem.W.Frag) (C : Addr) (RX : List D → Addr → Prop) : Sp := fun vs H _ E => ∃ p dx us ds c, vs = .ref p :: us ∧ IsL K H ds us ∧ RX ds c ∧ H p = some (.ins C dx []) ∧ ∀ H', Same H H' → E (.ref c) none H'
def RaisesC (P : Program) (w : World) (K : PySem.W.Frag) (mg : Str → Option Value) (base : Heap) (n : Nat) (C : Addr) (x : Str) (ps : List Str) (RX : List D → Addr → Prop) : Prop :=
  ∃ f fd, FnOk P w K mg base (CX1 P w) n f fd ps (spXM K C RX) ∧ Mk K C f ∧ mg x = some (.ref C) ∧ Binds K fd ps []
theorem Fun.raisesI {P : Program} {w : World} {K : PySem.W.Frag} {mg : Str → Option Value} {base : Heap} {C f : Addr} {fd : FuncData} {m qual : Str} {st : Stmt} {N ps : List Str} {n : Nat} {RX : List D → Addr → Prop} (F : Fun K m qual st f fd) (S : FnScope N ps (defScope st)) (len : ∀ ds c, RX ds c → ds.length + 1 = ps.length)
    (hb : ∀ (cdv : Value) (A : Around) (outer : List Env) (s : Shared) (H : Hp) (E : XK) (p dx : Addr) (us : List V) (ds : List D) (c : Addr), Room n (cx1 P w K mg base N qual st f cdv A outer s H E).A → IsL K H ds us → RX ds c → H p = some (.ins C dx []) →
      Lands (cx1 P w K mg base N qual st f cdv A outer s H E) c (fun _ H' => Same H H') → PX (cx1 P w K mg base N qual st f cdv A outer s H E) (defBody st) (start N (.ref p :: us)) H) : FnOk P w K mg base (CX1 P w) (n + 1) f fd ps (spXM K C RX) := by
  obtain ⟨oc, od, kV, doc, pm, an, cdv, ct, osl, rfl, lk, hcd⟩ := F.ex
  refine fn_of lk hcd S (fun vs H Q E ⟨p, dx, us, ds, c, e, hl, hR, _⟩ => by rw [e, List.length_cons, ← hl.length]; exact len ds c hR) fun A outer s H vs Q E hr ⟨p, dx, us, ds, c, e, hl, hR, hp, q⟩ => ?_
  subst e
  exact ⟨_, hb cdv A outer s H E p dx us ds c hr hl hR hp (lands_fn q), rfl, Same.refl _⟩
section
variable {X : Cx} {e : Expr} {es : List Expr} {σ : L2.St} {H : Hp} {ds : List D} {p pos : Pos} {C c : Addr} {Pw : L2.St → Hp → Prop}
theorem pxe_raisesC {n : Nat} {x : Str} {ps : List Str} {RX : List D → Addr → Prop} (h : RaisesC X.prog X.w X.K X.mg X.base n C x ps RX) (hr : Room (n + 1) X.A) (ha : PDA X (e :: es) σ H ds) (hR : RX ds c) (hL : Lands X c Pw) (hP : ∀ σ' H', Same H H' → Pw σ' H') (hx : X.ex = [] := by rfl)
    (hg : Gl X x := by rfl) (hdb : (x == ("__debug__" : Str)) = false := by decide)
    (he : starEach (e :: es) X.env = (false, eval e X.env) :: starEach es X.env := by rfl) (hpl : (backTo pos (starEach es X.env)).any (·.1) = false := by rfl) : PXE X (.Call (.Name x p) (e :: es) [] pos) σ H := by
  obtain ⟨f, fd, F, M, hm, hb⟩ := h
  have ps' : Passes (CX1 X.prog X.w) X (fun cv _ H' => cv = .ref c ∧ Same H H') := fun pins σ' H1 s ev s' I hq => by
    obtain ⟨a, C', H3, rfl, I3, al, ec, e3⟩ := aloft_call (e := ev) (s' := s') (E := fun cv _ H' => cv = .ref c ∧ Same H H') I hx hq
    cases ec
    exact hL pins s' σ' H3 a I3 (hP σ' H3 e3) al
  refine PE.imp (pe_make (dvs := []) M F hr hg hm hb .nil ps' ha hdb he hpl) fun σ' H1 Q ⟨hs, e1⟩ => ⟨hs, e1, fun vs H2 e2 hvs x' dx hx' hdx hne => ?_⟩
  have s0 : Same H2 (upd (upd H2 dx (.own x')) x' (.ins C dx [])) := fun b o e => by
    rw [upd_ne (ne_of_none e hx'), upd_ne (ne_of_none e hdx)]
    exact e
  exact ⟨x', dx, vs, ds, c, by rw [List.append_nil], hvs.mono s0, hR, upd_same, fun H' e3 => ⟨rfl, ((e1.trans e2).trans s0).trans e3⟩⟩
end
section
variable {X : Cx} {a b e c o : Expr} {σ : L2.St} {H : Hp} {i j : Int} {d : D} {p pos apos cpos : Pos} {Pre Nx : L2.St → Hp → Prop}
theorem pxt_notN {n : Nat} {p' : Pos} (ha : PXE X a σ H) : PXT X (.Compare a [.IsNot] [.Constant .none n p'] pos) σ H :=
  PT.imp (pt_cmpR op_notN ha (pd_non (σ := σ) (H := H)) (nm _)) fun _ _ _ h => h
theorem pd_pow (ha : PD X a σ H (.int i)) (hb : PD X b σ H (.int j)) (hc : CPow i j) : PD X (.BinOp a .Pow b pos) σ H (.int (i ^ j.toNat)) :=
  pd_op2 op_pow ha hb fun _ _ _ _ _ hx hy q => by cases hx; cases hy; exact ⟨i, j, rfl, rfl, hc, q _ _ (Same.refl _) (.int _)⟩
theorem pq1_reverse (h : ∀ σ H, Pre σ H → ∃ l xs, PD X o σ H (.adr l) ∧ H l = some (.lst xs) ∧ ∀ H', Same H H' → Nx σ (upd H' l (.lst xs.reverse)))
    (hbase : attributeBase o "reverse" X.env (eval o X.env) = eval o X.env := by rfl) (hline : (apos.endLine == cpos.line) = true := by rfl)
    (hsw : swapsWith (.Call (.Attribute o "reverse" apos) [] [] cpos) none pos.line X.env = pure false := by rfl) :
    PQ1 X (.Expr (.Call (.Attribute o "reverse" apos) [] [] cpos) pos) Pre Nx := fun pins s σ H D I ⟨p, q⟩ => by
  obtain ⟨l, xs, ho, hl, f⟩ := h σ H p
  refine ps_expr (pe_bm0 PySem.F.plainAttrs_list PySem.F.slot_list_reverse PySem.F.type_list_reverse mt_reverse ho hbase hline) hsw pins s σ H D I ⟨rfl, Same.refl _, fun v H2 e2 hv => ?_⟩
  cases hv
  exact ⟨.inl ⟨rfl, xs, SqL.of (e2 _ _ hl)⟩, l, xs, rfl, rfl, e2 _ _ hl, q _ _ (f H2 e2)⟩
end
section
variable {X : Cx} {c : Expr} {st : Stmt} {sts rest : List Stmt} {σ : L2.St} {H H' : Hp} {pos : Pos} {Pre Nx Post : L2.St → Hp → Prop}
theorem PN.mono (e1 : Same H H') (h : PN X sts σ H Post) : PN X sts σ H' Post := PSs.imp h fun _ _ _ ⟨hs, e2, q⟩ => ⟨hs, e1.trans e2, q⟩
theorem pn1_pq1 (h : ∀ H1, Same H H1 → PQ1 X st (fun σ' H' => σ' = σ ∧ H' = H1) (fun σ' H' => Same H1 H' ∧ Post σ' H')) : PN1 X st σ H Post :=
  fun pins s σ' H1 D I ⟨hs, e1, q⟩ => h H1 e1 pins s σ' H1 D I ⟨⟨hs, rfl⟩, fun σ2 H2 ⟨e2, p2⟩ => q σ2 H2 e2 p2⟩
theorem pq_pn {Po : L2.St → Hp → L2.St → Hp → Prop} (h : ∀ σ H, Pre σ H → PN X sts σ H (Po σ H)) (f : ∀ σ H σ' H', Pre σ H → Same H H' → Po σ H σ' H' → Nx σ' H') : PQ X sts Pre Nx := fun pins s σ H D I ⟨p, q⟩ =>
  h σ H p pins s σ H D I ⟨rfl, Same.refl _, fun σ2 H2 e2 p2 => q _ _ (f _ _ _ _ p e2 p2)⟩
theorem pn_ifNo (hc : PDT X c σ H false) (h : PN X rest σ H Post) : PN X (.If c sts [] pos :: rest) σ H Post :=
  pn_cons (P := fun σ' _ => σ' = σ) (pn1_if hc (fun z => absurd z Bool.false_ne_true) fun _ => pn_nil fun _ _ => rfl) fun σ' H' e hs => by subst hs; exact PN.mono e h
theorem pn_ifYes (hc : PDT X c σ H true) (h1 : PN X sts σ H fun σ' _ => σ' = σ) (h : PN X rest σ H Post) : PN X (.If c sts [] pos :: rest) σ H Post :=
  pn_cons (P := fun σ' _ => σ' = σ) (pn1_if hc (fun _ => h1) (fun z => absurd z.symm Bool.false_ne_true)) fun σ' H' e hs => by subst hs; exact PN.mono e h
theorem IsL.set {K : PySem.W.Frag} {d : D} {v : V} : ∀ {ds : List D} {vs : List V} (n : Nat), IsL K H ds vs → Is K H d v → IsL K H (ds.set n d) (vs.set n v)
  | _, _, _, .nil, _ => .nil
  | _, _, 0, .cons a l, h => .cons h l
  | _, _, n + 1, .cons a l, h => .cons a (IsL.set n l h)
theorem IsL.snoc {K : PySem.W.Frag} {d : D} {v : V} : ∀ {ds : List D} {vs : List V}, IsL K H ds vs → Is K H d v → IsL K H (ds ++ [d]) (vs ++ [v])
  | _, _, .nil, h => .cons h .nil
  | _, _, .cons a l, h => .cons a (IsL.snoc l h)
end
section
variable {X : Cx} {a b : Expr} {σ : L2.St} {H : Hp} {d : D} {ds : List D} {pos : Pos}
theorem pdt_inT {x : V} {vs : List V} (ha : PD X a σ H d) (hb : PD X b σ H (.tup ds)) (h1 : ∀ H' v, Is X.K H' d v → v = x) (h2 : ∀ H' us, IsL X.K H' ds us → us = vs) (f1 : flatV x = true := by rfl) (f2 : vs.all flatV = true := by rfl)
    (hm : behindInMarks .In b = false := by with_unfolding_all rfl) : PDT X (.Compare a [.In] [b] pos) σ H (inV x vs) :=
  pdt_cmp2 op_in_seq ha hb hm fun x' y' H1 Q e1 hx hy q => by
    obtain rfl := h1 _ _ hx
    cases hy with
    | tup hq l =>
      obtain rfl := h2 _ _ l
      exact ⟨_, _, rfl, .inr hq, f1, f2, q _ _ (Same.refl _) (.bl _)⟩
end
end L3
set_option Elab.async false
set_option linter.all false
set_option maxRecDepth 100000
set_option maxHeartbeats 4000000
namespace Q
open PySem PySem.Spec PyProof.Rows L2 L3
def top (i : Nat) : Stmt := PySem.Challenge.pw_courtscore_k02_rules_and_standings_refus.main.body.getD i (.Pass ⟨0, 0, 0, 0⟩)
abbrev st_Rules___init__ : Stmt := inClass (top 15) 0
theorem sc_Rules___init__ : FnScope ["self", "points", "games", "sets"] ["self", "points", "games", "sets"] (defScope st_Rules___init__) := ⟨rfl, rfl, rfl, by decide +kernel, rfl, by decide +kernel, by decide +kernel⟩
abbrev st_Rules_points : Stmt := inClass (top 15) 1
theorem sc_Rules_points : FnScope ["self"] ["self"] (defScope st_Rules_points) := ⟨rfl, rfl, rfl, by decide +kernel, rfl, by decide +kernel, by decide +kernel⟩
abbrev st_Rules_games : Stmt := inClass (top 15) 2
theorem sc_Rules_games : FnScope ["self"] ["self"] (defScope st_Rules_games) := ⟨rfl, rfl, rfl, by decide +kernel, rfl, by decide +kernel, by decide +kernel⟩
abbrev st_Rules_sets : Stmt := inClass (top 15) 3
theorem sc_Rules_sets : FnScope ["self"] ["self"] (defScope st_Rules_sets) := ⟨rfl, rfl, rfl, by decide +kernel, rfl, by decide +kernel, by decide +kernel⟩
abbrev st_winner : Stmt := top 16
theorem sc_winner : FnScope ["rules", "standing"] ["rules", "standing"] (defScope st_winner) := ⟨rfl, rfl, rfl, by decide +kernel, rfl, by decide +kernel, by decide +kernel⟩
abbrev st_after : Stmt := top 17
theorem sc_after : FnScope ["rules", "standing", "who", "points", "games"] ["rules", "standing", "who"] (defScope st_after) := ⟨rfl, rfl, rfl, by decide +kernel, rfl, by decide +kernel, by decide +kernel⟩
abbrev st_one_more : Stmt := top 18
theorem sc_one_more : FnScope ["pair", "who"] ["pair", "who"] (defScope st_one_more) := ⟨rfl, rfl, rfl, by decide +kernel, rfl, by decide +kernel, by decide +kernel⟩
abbrev st_is_won : Stmt := top 19
theorem sc_is_won : FnScope ["pair", "goal", "lead"] ["pair", "goal", "lead"] (defScope st_is_won) := ⟨rfl, rfl, rfl, by decide +kernel, rfl, by decide +kernel, by decide +kernel⟩
abbrev st_goes_on : Stmt := top 20
theorem sc_goes_on : FnScope ["pair", "goal"] ["pair", "goal"] (defScope st_goes_on) := ⟨rfl, rfl, rfl, by decide +kernel, rfl, by decide +kernel, by decide +kernel⟩
abbrev st_is_reached : Stmt := top 21
theorem sc_is_reached : FnScope ["rules", "standing", "sets"] ["rules", "standing"] (defScope st_is_reached) := ⟨rfl, rfl, rfl, by decide +kernel, rfl, by decide +kernel, by decide +kernel⟩
abbrev st_refuse_unreached : Stmt := top 22
theorem sc_refuse_unreached : FnScope ["rules", "standing"] ["rules", "standing"] (defScope st_refuse_unreached) := ⟨rfl, rfl, rfl, by decide +kernel, rfl, by decide +kernel, by decide +kernel⟩
abbrev st_refuse_beyond : Stmt := top 23
theorem sc_refuse_beyond : FnScope ["what", "number", "most"] ["what", "number", "most"] (defScope st_refuse_beyond) := ⟨rfl, rfl, rfl, by decide +kernel, rfl, by decide +kernel, by decide +kernel⟩
abbrev st_common_divisor : Stmt := top 25
theorem sc_common_divisor : FnScope ["one", "other", "left"] ["one", "other"] (defScope st_common_divisor) := ⟨rfl, rfl, rfl, by decide +kernel, rfl, by decide +kernel, by decide +kernel⟩
abbrev st_common_multiple : Stmt := top 26
theorem sc_common_multiple : FnScope ["one", "other"] ["one", "other"] (defScope st_common_multiple) := ⟨rfl, rfl, rfl, by decide +kernel, rfl, by decide +kernel, by decide +kernel⟩
abbrev st_fraction : Stmt := top 27
theorem sc_fraction : FnScope ["top", "bottom", "divisor"] ["top", "bottom"] (defScope st_fraction) := ⟨rfl, rfl, rfl, by decide +kernel, rfl, by decide +kernel, by decide +kernel⟩
abbrev st_refuse_bad_part : Stmt := top 28
theorem sc_refuse_bad_part : FnScope ["part"] ["part"] (defScope st_refuse_bad_part) := ⟨rfl, rfl, rfl, by decide +kernel, rfl, by decide +kernel, by decide +kernel⟩
abbrev st_chance : Stmt := top 32
theorem sc_chance : FnScope ["rules", "standing", "part"] ["rules", "standing", "part"] (defScope st_chance) := ⟨rfl, rfl, rfl, by decide +kernel, rfl, by decide +kernel, by decide +kernel⟩
abbrev st_points_to_come : Stmt := top 33
theorem sc_points_to_come : FnScope ["rules", "standing", "part"] ["rules", "standing", "part"] (defScope st_points_to_come) := ⟨rfl, rfl, rfl, by decide +kernel, rfl, by decide +kernel, by decide +kernel⟩
abbrev st_worth : Stmt := top 34
theorem sc_worth : FnScope ["rules", "standing", "part", "cost", "ends", "who", "points", "games", "sets", "set_ends", "game_ends"] ["rules", "standing", "part", "cost", "ends"] (defScope st_worth) := ⟨rfl, rfl, rfl, by decide +kernel, rfl, by decide +kernel, by decide +kernel⟩
abbrev st_race_above : Stmt := top 35
theorem sc_race_above : FnScope ["below", "goal", "lead", "free", "part", "cost"] ["below", "goal", "lead"] (defScope st_race_above) := ⟨rfl, rfl, rfl, by decide +kernel, rfl, by decide +kernel, by decide +kernel⟩
abbrev st_ends_behind_step : Stmt := top 36
theorem sc_ends_behind_step : FnScope ["race", "pair", "ends"] ["race", "pair", "ends"] (defScope st_ends_behind_step) := ⟨rfl, rfl, rfl, by decide +kernel, rfl, by decide +kernel, by decide +kernel⟩
abbrev st_lowest : Stmt := top 37
theorem sc_lowest : FnScope ["one"] ["one"] (defScope st_lowest) := ⟨rfl, rfl, rfl, by decide +kernel, rfl, by decide +kernel, by decide +kernel⟩
abbrev st_top_over : Stmt := top 38
theorem sc_top_over : FnScope ["one", "bottom"] ["one", "bottom"] (defScope st_top_over) := ⟨rfl, rfl, rfl, by decide +kernel, rfl, by decide +kernel, by decide +kernel⟩
abbrev st_Race___init__ : Stmt := inClass (top 39) 0
theorem sc_Race___init__ : FnScope ["self", "goal", "lead", "part", "cost"] ["self", "goal", "lead", "part", "cost"] (defScope st_Race___init__) := ⟨rfl, rfl, rfl, by decide +kernel, rfl, by decide +kernel, by decide +kernel⟩
abbrev st_Race_worth_from : Stmt := inClass (top 39) 1
theorem sc_Race_worth_from : FnScope ["self", "pair", "ends", "bottom", "tops", "lacks", "level", "scales", "step"] ["self", "pair", "ends"] (defScope st_Race_worth_from) := ⟨rfl, rfl, rfl, by decide +kernel, rfl, by decide +kernel, by decide +kernel⟩
abbrev st_Race_lacks : Stmt := inClass (top 39) 2
theorem sc_Race_lacks : FnScope ["self", "pair", "beyond"] ["self", "pair"] (defScope st_Race_lacks) := ⟨rfl, rfl, rfl, by decide +kernel, rfl, by decide +kernel, by decide +kernel⟩
abbrev st_Race_level : Stmt := inClass (top 39) 3
theorem sc_Race_level : FnScope ["self", "tops", "own", "whole", "other", "top"] ["self", "tops"] (defScope st_Race_level) := ⟨rfl, rfl, rfl, by decide +kernel, rfl, by decide +kernel, by decide +kernel⟩
abbrev st_Race_top_from : Stmt := inClass (top 39) 4
theorem sc_Race_top_from : FnScope ["self", "lacks", "level_top", "scales", "tops", "found", "lack", "one", "other", "behind_own", "behind_other"] ["self", "lacks", "level_top", "scales", "tops"] (defScope st_Race_top_from) := ⟨rfl, rfl, rfl, by decide +kernel, rfl, by decide +kernel, by decide +kernel⟩
abbrev st_shown : Stmt := top 43
theorem sc_shown : FnScope ["rules", "standing"] ["rules", "standing"] (defScope st_shown) := ⟨rfl, rfl, rfl, by decide +kernel, rfl, by decide +kernel, by decide +kernel⟩
abbrev st_pair_shown : Stmt := top 44
theorem sc_pair_shown : FnScope ["pair"] ["pair"] (defScope st_pair_shown) := ⟨rfl, rfl, rfl, by decide +kernel, rfl, by decide +kernel, by decide +kernel⟩
abbrev st_number_shown : Stmt := top 45
theorem sc_number_shown : FnScope ["number", "blocks"] ["number"] (defScope st_number_shown) := ⟨rfl, rfl, rfl, by decide +kernel, rfl, by decide +kernel, by decide +kernel⟩
abbrev st__law_cell_at : Stmt := top 47
theorem sc__law_cell_at : FnScope ["script", "k"] ["script", "k"] (defScope st__law_cell_at) := ⟨rfl, rfl, rfl, by decide +kernel, rfl, by decide +kernel, by decide +kernel⟩
abbrev st__law_draw : Stmt := top 48
theorem sc__law_draw : FnScope ["script", "k", "cell", "turn", "stir"] ["script", "k"] (defScope st__law_draw) := ⟨rfl, rfl, rfl, by decide +kernel, rfl, by decide +kernel, by decide +kernel⟩
abbrev st__law_rules : Stmt := top 49
theorem sc__law_rules : FnScope ["script", "mode"] ["script"] (defScope st__law_rules) := ⟨rfl, rfl, rfl, by decide +kernel, rfl, by decide +kernel, by decide +kernel⟩
abbrev st__law_made : Stmt := top 50
theorem sc__law_made : FnScope ["wanted"] ["wanted"] (defScope st__law_made) := ⟨rfl, rfl, rfl, by decide +kernel, rfl, by decide +kernel, by decide +kernel⟩
abbrev st__law_ahead : Stmt := top 51
theorem sc__law_ahead : FnScope ["pair", "wanted"] ["pair", "wanted"] (defScope st__law_ahead) := ⟨rfl, rfl, rfl, by decide +kernel, rfl, by decide +kernel, by decide +kernel⟩
abbrev st__law_more : Stmt := top 52
theorem sc__law_more : FnScope ["pair", "who", "row"] ["pair", "who"] (defScope st__law_more) := ⟨rfl, rfl, rfl, by decide +kernel, rfl, by decide +kernel, by decide +kernel⟩
abbrev st__law_over : Stmt := top 53
theorem sc__law_over : FnScope ["wanted", "standing"] ["wanted", "standing"] (defScope st__law_over) := ⟨rfl, rfl, rfl, by decide +kernel, rfl, by decide +kernel, by decide +kernel⟩
abbrev st__law_after : Stmt := top 54
theorem sc__law_after : FnScope ["wanted", "standing", "who", "points", "games"] ["wanted", "standing", "who"] (defScope st__law_after) := ⟨rfl, rfl, rfl, by decide +kernel, rfl, by decide +kernel, by decide +kernel⟩
abbrev st__law_walked : Stmt := top 55
theorem sc__law_walked : FnScope ["script", "wanted", "start", "many", "standing", "row", "mode", "k", "who"] ["script", "wanted", "start", "many"] (defScope st__law_walked) := ⟨rfl, rfl, rfl, by decide +kernel, rfl, by decide +kernel, by decide +kernel⟩
abbrev st__law_alone : Stmt := top 56
theorem sc__law_alone : FnScope ["e", "found"] ["e"] (defScope st__law_alone) := ⟨rfl, rfl, rfl, by decide +kernel, rfl, by decide +kernel, by decide +kernel⟩
abbrev st__law_goes_on : Stmt := top 57
theorem sc__law_goes_on : FnScope ["pair", "wanted"] ["pair", "wanted"] (defScope st__law_goes_on) := ⟨rfl, rfl, rfl, by decide +kernel, rfl, by decide +kernel, by decide +kernel⟩
abbrev st__law_is_standing : Stmt := top 58
theorem sc__law_is_standing : FnScope ["wanted", "standing"] ["wanted", "standing"] (defScope st__law_is_standing) := ⟨rfl, rfl, rfl, by decide +kernel, rfl, by decide +kernel, by decide +kernel⟩
abbrev st__law_refusal : Stmt := top 59
theorem sc__law_refusal : FnScope ["call", "wanted", "rules", "standing", "who", "part", "found", "e"] ["call", "wanted", "rules", "standing", "who", "part"] (defScope st__law_refusal) := ⟨rfl, rfl, rfl, by decide +kernel, rfl, by decide +kernel, by decide +kernel⟩
abbrev st__law_drawn : Stmt := top 60
theorem sc__law_drawn : FnScope ["script", "wanted", "mode", "rows", "k", "far"] ["script", "wanted"] (defScope st__law_drawn) := ⟨rfl, rfl, rfl, by decide +kernel, rfl, by decide +kernel, by decide +kernel⟩
abbrev st_law : Stmt := top 61
theorem sc_law : FnScope ["script", "numbers", "due", "wanted", "rules", "standing", "good", "part", "call"] ["script"] (defScope st_law) := ⟨rfl, rfl, rfl, by decide +kernel, rfl, by decide +kernel, by decide +kernel⟩
def dS (s : M.Stg) : D := .tup [dP s.1, dP s.2.1, dP s.2.2]
def fsR (g1 g2 g3 : Int) : List (Str × V) := putF "set_goal" (.int g3) (putF "game_goal" (.int g2) (putF "point_goal" (.int g1) []))
theorem fsR_1 (g1 g2 g3 : Int) : (fsR g1 g2 g3).lookup ("point_goal" : Str) = some (.int g1) := by
  unfold fsR
  rw [lookup_putF, if_neg (by decide +kernel), lookup_putF, if_neg (by decide +kernel), lookup_putF, if_pos rfl]
theorem fsR_2 (g1 g2 g3 : Int) : (fsR g1 g2 g3).lookup ("game_goal" : Str) = some (.int g2) := by
  unfold fsR
  rw [lookup_putF, if_neg (by decide +kernel), lookup_putF, if_pos rfl]
theorem fsR_3 (g1 g2 g3 : Int) : (fsR g1 g2 g3).lookup ("set_goal" : Str) = some (.int g3) := by
  unfold fsR
  rw [lookup_putF, if_pos rfl]
theorem fsR_no (g1 g2 g3 : Int) {m : Str} (h1 : ¬ m = "set_goal") (h2 : ¬ m = "game_goal") (h3 : ¬ m = "point_goal") : (fsR g1 g2 g3).lookup m = none := by
  unfold fsR
  rw [lookup_putF, if_neg h1, lookup_putF, if_neg h2, lookup_putF, if_neg h3]
  all_goals rfl
structure Tx (K : PySem.W.Frag) (mg : Str → Option Value) (C : Addr) : Prop where
  cl : Cls K C
  n1 : NoAttr K C "point_goal"
  n2 : NoAttr K C "game_goal"
  n3 : NoAttr K C "set_goal"
  mgC : mg "Rules" = some (.ref C)
  max : mg "max" = none
  min : mg "min" = none
  abs : mg "abs" = none
  len : mg "len" = none
  range : mg "range" = none
  int : mg "int" = none
  bool : mg "bool" = none
  list : mg "list" = none
  tuple : mg "tuple" = none
  isi : mg "isinstance" = none
  lead : ∃ t, mg "LEAD" = some (.int 2 t)
  mp : ∃ t, mg "MOST_POINTS" = some (.int 5 t)
  mgm : ∃ t, mg "MOST_GAMES" = some (.int 6 t)
  ms : ∃ t, mg "MOST_SETS" = some (.int 3 t)
  nought : ∃ a, mg "NOUGHT" = some (.ref a) ∧ ∀ H, Is K H (dP (0, 0)) (.ref a)
section
variable {P : Program} {w : World} {K : PySem.W.Frag} {mg : Str → Option Value} {base : Heap} {C : Addr}
theorem hu64 {n : Nat} {A : Around} (h : Room n A) : A.units + 64 < cLine := h.units
def R_one_more (ds : List D) (r : D) : Prop := ∃ q v, ds = [dP q, .int v] ∧ r = dP (M.more q v)
theorem ok_one_more (h : Has K mg "one_more" st_one_more ["pair", "who"]) : Does P w K mg base 1 "one_more" ["pair", "who"] R_one_more := by
  refine h.does sc_one_more (fun ds r ⟨q, v, e, _⟩ => by rw [e]; rfl) fun f cdv A outer s H E vs ds r hr hl hR => ?_
  obtain ⟨q, v, rfl, rfl⟩ := hR
  obtain ⟨v0, v1, rfl, hp, h2⟩ := isL2 hl
  cases h2
  exact
    pr_if (pdt_eqI (pd_var 1 rfl (.int _)) pd_int)
      (fun z => (pr_ret (pd_tup (pda_cons (pd_add (pd_ixT (pd_var 0 rfl hp) pd_int) pd_int) (pda_cons (pd_ixT (pd_var 0 rfl hp) pd_int) pda_nil)))).cast (by
        have z' := of_decide_eq_true z
        unfold M.more; rw [if_pos z']; rfl))
      (fun z => (pr_ret (pd_tup (pda_cons (pd_ixT (pd_var 0 rfl hp) pd_int) (pda_cons (pd_add (pd_ixT (pd_var 0 rfl hp) pd_int) pd_int) pda_nil)))).cast (by
        have z' := of_decide_eq_false z
        unfold M.more; rw [if_neg z']; rfl))
def R_is_won (ds : List D) (r : D) : Prop := ∃ q g l, ds = [dP q, .int g, .int l] ∧ r = .bl (M.wonL q g l)
theorem ok_is_won (T : Tx K mg C) (h : Has K mg "is_won" st_is_won ["pair", "goal", "lead"]) : Does P w K mg base 1 "is_won" ["pair", "goal", "lead"] R_is_won := by
  refine h.does sc_is_won (fun ds r ⟨q, v, l, e, _⟩ => by rw [e]; rfl) fun f cdv A outer s H E vs ds r hr hl hR => ?_
  obtain ⟨q, g, l, rfl, rfl⟩ := hR
  obtain ⟨v0, v1, v2, rfl, hp, h2, h3⟩ := isL3 hl
  cases h2; cases h3
  exact
    pr_ret (pd_and (pd_ge (pd_max rfl T.max (pd_var 0 rfl hp)) (pd_var 1 rfl (.int _)))
      fun _ => pd_one (pd_ge (pd_abs T.abs (pd_sub (pd_ixT (pd_var 0 rfl hp) pd_int) (pd_ixT (pd_var 0 rfl hp) pd_int))) (pd_var 2 rfl (.int _))))
def R_goes_on (ds : List D) (r : D) : Prop := ∃ q g, ds = [dP q, .int g] ∧ r = .bl (M.onB q g)
theorem ok_goes_on (T : Tx K mg C) (d1 : Does P w K mg base 1 "is_won" ["pair", "goal", "lead"] R_is_won) (h : Has K mg "goes_on" st_goes_on ["pair", "goal"]) : Does P w K mg base 2 "goes_on" ["pair", "goal"] R_goes_on := by
  refine h.does sc_goes_on (fun ds r ⟨q, v, e, _⟩ => by rw [e]; rfl) fun f cdv A outer s H E vs ds r hr hl hR => ?_
  obtain ⟨q, g, rfl, rfl⟩ := hR
  obtain ⟨t, hlead⟩ := T.lead
  obtain ⟨v0, v1, rfl, hp, h2⟩ := isL2 hl
  cases h2
  exact
    pr_ret (pd_and (pd_ge (pd_min rfl T.min (pd_var 0 rfl hp)) pd_int)
      fun _ => pd_one (pd_not (pd_does d1 hr (pda_cons (pd_var 0 rfl hp) (pda_cons (pd_var 1 rfl (.int _)) (pda_cons (pd_globI hlead) pda_nil))) ⟨q, g, 2, rfl, rfl⟩)))
def R_points (C : Addr) (ds : List D) (r : D) : Prop := ∃ g1 g2 g3, ds = [.obj C (fsR g1 g2 g3)] ∧ r = .int g1
def R_games (C : Addr) (ds : List D) (r : D) : Prop := ∃ g1 g2 g3, ds = [.obj C (fsR g1 g2 g3)] ∧ r = .int g2
def R_sets (C : Addr) (ds : List D) (r : D) : Prop := ∃ g1 g2 g3, ds = [.obj C (fsR g1 g2 g3)] ∧ r = .int g3
theorem ok_points (T : Tx K mg C) (h : HasM K C "points" "Rules.points" st_Rules_points ["self"]) : DoesM P w K mg base 1 C "points" ["self"] (R_points C) := by
  refine h.does sc_Rules_points (fun ds r ⟨_, _, _, e, _⟩ => by rw [e]; rfl) fun f cdv A outer s H E vs ds r hr hl hR => ?_
  obtain ⟨g1, g2, g3, rfl, rfl⟩ := hR
  obtain ⟨v0, rfl, h0⟩ := isL1 hl
  exact pr_ret (pd_fld (pd_var 0 rfl h0) T.cl T.n1 (fsR_1 _ _ _) (fun _ => .int _))
theorem ok_games (T : Tx K mg C) (h : HasM K C "games" "Rules.games" st_Rules_games ["self"]) : DoesM P w K mg base 1 C "games" ["self"] (R_games C) := by
  refine h.does sc_Rules_games (fun ds r ⟨_, _, _, e, _⟩ => by rw [e]; rfl) fun f cdv A outer s H E vs ds r hr hl hR => ?_
  obtain ⟨g1, g2, g3, rfl, rfl⟩ := hR
  obtain ⟨v0, rfl, h0⟩ := isL1 hl
  exact pr_ret (pd_fld (pd_var 0 rfl h0) T.cl T.n2 (fsR_2 _ _ _) (fun _ => .int _))
theorem ok_sets (T : Tx K mg C) (h : HasM K C "sets" "Rules.sets" st_Rules_sets ["self"]) : DoesM P w K mg base 1 C "sets" ["self"] (R_sets C) := by
  refine h.does sc_Rules_sets (fun ds r ⟨_, _, _, e, _⟩ => by rw [e]; rfl) fun f cdv A outer s H E vs ds r hr hl hR => ?_
  obtain ⟨g1, g2, g3, rfl, rfl⟩ := hR
  obtain ⟨v0, rfl, h0⟩ := isL1 hl
  exact pr_ret (pd_fld (pd_var 0 rfl h0) T.cl T.n3 (fsR_3 _ _ _) (fun _ => .int _))
theorem no1 (g1 g2 g3 : Int) : (fsR g1 g2 g3).lookup ("points" : Str) = none := fsR_no _ _ _ (by decide +kernel) (by decide +kernel) (by decide +kernel)
theorem no2 (g1 g2 g3 : Int) : (fsR g1 g2 g3).lookup ("games" : Str) = none := fsR_no _ _ _ (by decide +kernel) (by decide +kernel) (by decide +kernel)
theorem no3 (g1 g2 g3 : Int) : (fsR g1 g2 g3).lookup ("sets" : Str) = none := fsR_no _ _ _ (by decide +kernel) (by decide +kernel) (by decide +kernel)
def R_refuse_beyond (ds : List D) (r : D) : Prop := ∃ x n m, ds = [.str x, .int n, .int m] ∧ 1 ≤ n ∧ n ≤ m ∧ r = .non
theorem ok_refuse_beyond (h : Has K mg "refuse_beyond" st_refuse_beyond ["what", "number", "most"]) : Does P w K mg base 1 "refuse_beyond" ["what", "number", "most"] R_refuse_beyond := by
  refine h.doesF sc_refuse_beyond (fun ds r ⟨_, _, _, e, _⟩ => by rw [e]; rfl) (fun ds r ⟨_, _, _, _, _, _, e⟩ => e) fun f cdv A outer s H E vs ds hr hl hR => ?_
  obtain ⟨x, n, m, rfl, h1, h2, _⟩ := hR
  obtain ⟨v0, v1, v2, rfl, h0, hn, hm⟩ := isL3 hl
  cases hn; cases hm
  exact pf_of (pn_one (pn1_if (PDW.pt (pdw_or (pdt_lt (pd_var 1 rfl (.int _)) pd_int) fun _ => pdw_or1 (pdt_gt (pd_var 1 rfl (.int _)) (pd_var 2 rfl (.int _)))))
    (fun z => absurd z (by simp; omega)) (fun _ => pn_nil fun _ _ => trivial)))
def R_init (ds : List D) (fs : List (Str × V)) : Prop := ∃ g1 g2 g3, ds = [.int g1, .int g2, .int g3] ∧ M.Good g1 g2 g3 ∧ fs = fsR g1 g2 g3
theorem ok_Rules {fI : Addr} {fdI : FuncData} (T : Tx K mg C) (d1 : Does P w K mg base 1 "refuse_beyond" ["what", "number", "most"] R_refuse_beyond) (M : Mk K C fI) (F : Fun K "__init__" "Rules.__init__" st_Rules___init__ fI fdI) (hb : Binds K fdI ["self", "points", "games", "sets"] []) :
    Makes P w K mg base 2 C "Rules" ["self", "points", "games", "sets"] R_init := by
  refine ⟨fI, fdI, ?_, M, T.mgC, hb⟩
  refine F.ok sc_Rules___init__ (fun vs H Q E ⟨p, dx, us, ds, fs, e, hl, ⟨g1, g2, g3, e2, _⟩, _⟩ => by subst e2; obtain ⟨v1, v2, v3, rfl, _⟩ := isL3 hl; rw [e]; rfl) fun cdv A outer s H vs Q E hr h => ?_
  obtain ⟨p, dx, us, ds, fs, rfl, hl, ⟨g1, g2, g3, rfl, hg, rfl⟩, hp, q⟩ := h
  obtain ⟨v1, v2, v3, rfl, h1, h2, h3⟩ := isL3 hl
  cases h1; cases h2; cases h3
  obtain ⟨t1, m1⟩ := T.mp
  obtain ⟨t2, m2⟩ := T.mgm
  obtain ⟨t3, m3⟩ := T.ms
  have e1 : ∀ (x : Str) (n m : Int), 1 ≤ n → n ≤ m → R_refuse_beyond [.str x, .int n, .int m] .non := fun x n m a b => ⟨x, n, m, rfl, a, b, rfl⟩
  let Z : List (Str × V) → L2.St → Hp → Prop := fun fs σ' H' => σ' = [some (.ref p), some (.int g1), some (.int g2), some (.int g3)] ∧ H' p = some (.ins C dx fs) ∧ ∀ b o, H b = some o → b ≠ p → H' b = some o
  obtain ⟨b1, b2, b3, b4, b5, b6⟩ := hg
  have keep : ∀ {fs σ H1 H2}, Z fs σ H1 → Same H1 H2 → Z fs σ H2 := fun {fs σ H1 H2} ⟨z1, z2, z3⟩ e => ⟨z1, e _ _ z2, fun b o hb hne => e _ _ (z3 b o hb hne)⟩
  have put : ∀ {fs σ H1 H2} (f : Str) (v : V), Z fs σ H1 → Same H1 H2 → Z (putF f v fs) σ (upd H2 p (.ins C dx (putF f v fs))) := fun {fs σ H1 H2} f v ⟨z1, z2, z3⟩ e =>
    ⟨z1, upd_same, fun b o hb hne => by rw [upd_ne hne]; exact e _ _ (z3 b o hb hne)⟩
  refine ⟨_, (?_ : PQ _ _ (fun σ' H' => σ' = [some (.ref p), some (.int g1), some (.int g2), some (.int g3)] ∧ H' = H) (Z (fsR g1 g2 g3))), ⟨rfl, rfl⟩, fun σ' H' ⟨_, z2, z3⟩ => q H' z3 z2⟩
  refine pq_cons (Mid := Z []) (pq1_pn (Post := fun σ _ σ' _ => σ' = σ) (fun σ H1 ⟨z1, z2⟩ => by
      subst z1; subst z2
      exact pn1_expr (pd_does d1 (hr.mono (by decide)) (pda_cons pd_str (pda_cons (pd_var 1 rfl (.int _)) (pda_cons (pd_globI m1) pda_nil))) (e1 _ _ _ b1 b2)) fun _ _ => rfl)
    fun σ H1 σ' H2 ⟨z1, z2⟩ e z => by subst z; subst z1; subst z2; exact ⟨rfl, e _ _ hp, fun b o hb _ => e _ _ hb⟩) ?_
  refine pq_cons (Mid := Z []) (pq1_pn (Post := fun σ _ σ' _ => σ' = σ) (fun σ H1 ⟨z1, z2⟩ => by
      subst z1
      exact pn1_expr (pd_does d1 (hr.mono (by decide)) (pda_cons pd_str (pda_cons (pd_var 2 rfl (.int _)) (pda_cons (pd_globI m2) pda_nil))) (e1 _ _ _ b3 b4)) fun _ _ => rfl)
    fun σ H1 σ' H2 z e y => by subst y; exact keep z e) ?_
  refine pq_cons (Mid := Z []) (pq1_pn (Post := fun σ _ σ' _ => σ' = σ) (fun σ H1 ⟨z1, z2⟩ => by
      subst z1
      exact pn1_expr (pd_does d1 (hr.mono (by decide)) (pda_cons pd_str (pda_cons (pd_var 3 rfl (.int _)) (pda_cons (pd_globI m3) pda_nil))) (e1 _ _ _ b5 b6)) fun _ _ => rfl)
    fun σ H1 σ' H2 z e y => by subst y; exact keep z e) ?_
  refine pq_cons (Mid := Z (putF "point_goal" (.int g1) [])) (pq1_fld fun σ H1 z => by
    have z' := z
    obtain ⟨z1, z2, z3⟩ := z'
    subst z1
    exact ⟨p, C, dx, _, .int g1, pd_var 0 rfl (.adr p), z2, T.cl, T.n1, by simp, pd_var 1 rfl (.int _), fun v H2 e hv => by cases hv; exact put _ _ z e⟩) ?_
  have l1 := putF_len "point_goal" (.int g1) []
  have l2 := putF_len "game_goal" (.int g2) (putF "point_goal" (.int g1) [])
  simp only [List.length_nil] at l1
  refine pq_cons (Mid := Z (putF "game_goal" (.int g2) (putF "point_goal" (.int g1) []))) (pq1_fld fun σ H1 z => by
    have z' := z
    obtain ⟨z1, z2, z3⟩ := z'
    subst z1
    exact ⟨p, C, dx, _, .int g2, pd_var 0 rfl (.adr p), z2, T.cl, T.n2, by omega, pd_var 2 rfl (.int _), fun v H2 e hv => by cases hv; exact put _ _ z e⟩) ?_
  exact pq_one (pq1_fld fun σ H1 z => by
    have z' := z
    obtain ⟨z1, z2, z3⟩ := z'
    subst z1
    exact ⟨p, C, dx, _, .int g3, pd_var 0 rfl (.adr p), z2, T.cl, T.n3, by omega, pd_var 3 rfl (.int _), fun v H2 e hv => by cases hv; exact put _ _ z e⟩)
def R_is_reached (C : Addr) (ds : List D) (r : D) : Prop := ∃ g1 g2 g3 s, ds = [.obj C (fsR g1 g2 g3), dS s] ∧ r = .bl (M.reached g1 g2 g3 s)
theorem eqP (q : Int × Int) : eqD (dP q) (dP (0, 0)) = decide (q = (0, 0)) := by
  obtain ⟨a, b⟩ := q
  simp [eqD, dP, toPy, toPys, PyData.eqv, PyData.eqvAll, Prod.ext_iff]
  by_cases h1 : a = 0 <;> by_cases h2 : b = 0 <;> simp [h1, h2]
theorem dep_dP (q : Int × Int) : depD (dP q) ≤ 60 := by simp [depD, dP, toPy, toPys, PyData.depth, PyData.depthAll]
theorem ok_is_reached (T : Tx K mg C) (d1 : DoesM P w K mg base 1 C "points" ["self"] (R_points C)) (d2 : DoesM P w K mg base 1 C "games" ["self"] (R_games C)) (d3 : DoesM P w K mg base 1 C "sets" ["self"] (R_sets C))
    (d4 : Does P w K mg base 2 "goes_on" ["pair", "goal"] R_goes_on) (h : Has K mg "is_reached" st_is_reached ["rules", "standing"]) : Does P w K mg base 3 "is_reached" ["rules", "standing"] (R_is_reached C) := by
  refine h.does sc_is_reached (fun ds r ⟨_, _, _, _, e, _⟩ => by rw [e]; rfl) fun f cdv A outer s H E vs ds r hr hl hR => ?_
  obtain ⟨g1, g2, g3, st, rfl, rfl⟩ := hR
  obtain ⟨v0, v1, rfl, h0, h1⟩ := isL2 hl
  have hr1 : Room 1 _ := hr.mono (by decide)
  obtain ⟨an, mn, nn⟩ := T.nought
  refine pr_set 2 sc_is_reached.nd (pd_ixT (d := dP st.1) (pd_var 1 rfl h1) pd_int) fun v2 H2 e2 h2 => ?_
  have h0' := h0.mono e2
  have h1' := h1.mono e2
  refine pr_if (PDW.pt (pdw_or (pdt_lt (pd_min rfl T.min (pd_var 2 rfl h2)) pd_int) fun _ => pdw_or (pdt_ge (pd_min rfl T.min (pd_var 2 rfl h2)) (pd_doesM0 d3 T.cl hr1 (pd_var 0 rfl h0') (no3 _ _ _) ⟨_, _, _, rfl, rfl⟩)) fun _ => pdw_or1 (pdt_gt (pd_max rfl T.max (pd_var 2 rfl h2)) (pd_doesM0 d3 T.cl hr1 (pd_var 0 rfl h0') (no3 _ _ _) ⟨_, _, _, rfl, rfl⟩))))
    (fun z => (pr_ret pd_bl).cast ?_) (fun z => ?_)
  · have z' : M.outB g3 st.1 = true := z
    unfold M.reached; rw [if_pos z']
  · have z' : ¬ M.outB g3 st.1 = true := by rw [show M.outB g3 st.1 = false from z]; exact Bool.false_ne_true
    refine pr_if (pdt_eqI (pd_max rfl T.max (pd_var 2 rfl h2)) (pd_doesM0 d3 T.cl hr1 (pd_var 0 rfl h0') (no3 _ _ _) ⟨_, _, _, rfl, rfl⟩)) (fun y => ?_) (fun y => ?_)
    · refine (pr_ret (pd_and (pd_eqD (hu64 hr) (pd_ixT (d := dP st.2.1) (pd_var 1 rfl h1') pd_int) (pd_globR mn (nn _)) rfl rfl (dep_dP _)) fun _ =>
        pd_one (pd_eqD (hu64 hr) (pd_ixT (d := dP st.2.2) (pd_var 1 rfl h1') pd_int) (pd_globR mn (nn _)) rfl rfl (dep_dP _)))).cast ?_
      unfold M.reached
      rw [if_neg z', if_pos (of_decide_eq_true y), eqP, eqP]
    · refine (pr_ret (pd_and (pd_does d4 hr (pda_cons (pd_ixT (d := dP st.2.1) (pd_var 1 rfl h1') pd_int) (pda_cons (pd_doesM0 d2 T.cl hr1 (pd_var 0 rfl h0') (no2 _ _ _) ⟨_, _, _, rfl, rfl⟩) pda_nil)) ⟨_, _, rfl, rfl⟩) fun _ =>
        pd_one (pd_does d4 hr (pda_cons (pd_ixT (d := dP st.2.2) (pd_var 1 rfl h1') pd_int) (pda_cons (pd_doesM0 d1 T.cl hr1 (pd_var 0 rfl h0') (no1 _ _ _) ⟨_, _, _, rfl, rfl⟩) pda_nil)) ⟨_, _, rfl, rfl⟩))).cast ?_
      unfold M.reached
      rw [if_neg z', if_neg (of_decide_eq_false y)]
def R_refuse_unreached (C : Addr) (ds : List D) (r : D) : Prop := ∃ g1 g2 g3 s, ds = [.obj C (fsR g1 g2 g3), dS s] ∧ M.reached g1 g2 g3 s = true ∧ r = .non
theorem ok_refuse_unreached (d1 : Does P w K mg base 3 "is_reached" ["rules", "standing"] (R_is_reached C)) (h : Has K mg "refuse_unreached" st_refuse_unreached ["rules", "standing"]) :
    Does P w K mg base 4 "refuse_unreached" ["rules", "standing"] (R_refuse_unreached C) := by
  refine h.doesF sc_refuse_unreached (fun ds r ⟨_, _, _, _, e, _⟩ => by rw [e]; rfl) (fun ds r ⟨_, _, _, _, _, _, e⟩ => e) fun f cdv A outer s H E vs ds hr hl hR => ?_
  obtain ⟨g1, g2, g3, st, rfl, hre, _⟩ := hR
  obtain ⟨v0, v1, rfl, h0, h1⟩ := isL2 hl
  exact pf_of (pn_one (pn1_if (pdt_not (pdt_val (pd_does d1 hr (pda_cons (pd_var 0 rfl h0) (pda_cons (pd_var 1 rfl h1) pda_nil)) ⟨_, _, _, _, rfl, rfl⟩)))
    (fun z => absurd z (by rw [hre]; decide)) (fun _ => pn_nil fun _ _ => trivial)))
def R_winner (C : Addr) (ds : List D) (r : D) : Prop := ∃ g1 g2 g3 s, ds = [.obj C (fsR g1 g2 g3), dS s] ∧ M.reached g1 g2 g3 s = true ∧ r = M.wnr g3 s
theorem ok_winner (T : Tx K mg C) (d3 : DoesM P w K mg base 1 C "sets" ["self"] (R_sets C)) (d1 : Does P w K mg base 4 "refuse_unreached" ["rules", "standing"] (R_refuse_unreached C)) (h : Has K mg "winner" st_winner ["rules", "standing"]) :
    Does P w K mg base 5 "winner" ["rules", "standing"] (R_winner C) := by
  refine h.does sc_winner (fun ds r ⟨_, _, _, _, e, _⟩ => by rw [e]; rfl) fun f cdv A outer s H E vs ds r hr hl hR => ?_
  obtain ⟨g1, g2, g3, st, rfl, hre, rfl⟩ := hR
  obtain ⟨v0, v1, rfl, h0, h1⟩ := isL2 hl
  have hr1 : Room 1 _ := hr.mono (by decide)
  refine pr_cons (Post := fun σ' _ => σ' = [some v0, some v1]) (pn1_expr (pd_does d1 hr (pda_cons (pd_var 0 rfl h0) (pda_cons (pd_var 1 rfl h1) pda_nil)) ⟨_, _, _, _, rfl, hre, rfl⟩) fun _ _ => rfl) fun σ' H2 e2 z => ?_
  subst z
  have h0' := h0.mono e2
  have h1' := h1.mono e2
  refine pr_if (pdt_eqI (pd_ixT (pd_ixT (d := dP st.1) (pd_var 1 rfl h1') pd_int) pd_int) (pd_doesM0 d3 T.cl hr1 (pd_var 0 rfl h0') (no3 _ _ _) ⟨_, _, _, rfl, rfl⟩)) (fun y => (pr_ret pd_int).cast ?_) (fun y => ?_)
  · unfold M.wnr; rw [if_pos (of_decide_eq_true y)]
  · refine pr_if (pdt_eqI (pd_ixT (pd_ixT (d := dP st.1) (pd_var 1 rfl h1') pd_int) pd_int) (pd_doesM0 d3 T.cl hr1 (pd_var 0 rfl h0') (no3 _ _ _) ⟨_, _, _, rfl, rfl⟩)) (fun y2 => (pr_ret pd_int).cast ?_) (fun y2 => (pr_ret pd_non).cast ?_)
    · unfold M.wnr; rw [if_neg (of_decide_eq_false y), if_pos (of_decide_eq_true y2)]
    · unfold M.wnr; rw [if_neg (of_decide_eq_false y), if_neg (of_decide_eq_false y2)]
def R_after (C : Addr) (ds : List D) (r : D) : Prop := ∃ g1 g2 g3 s v, ds = [.obj C (fsR g1 g2 g3), dS s, .int v] ∧ M.reached g1 g2 g3 s = true ∧ M.over g3 s = false ∧ r = dS (M.aft g1 g2 s v)
theorem ok_after (T : Tx K mg C) (d1 : DoesM P w K mg base 1 C "points" ["self"] (R_points C)) (d2 : DoesM P w K mg base 1 C "games" ["self"] (R_games C)) (d4 : Does P w K mg base 5 "winner" ["rules", "standing"] (R_winner C))
    (d5 : Does P w K mg base 1 "one_more" ["pair", "who"] R_one_more) (d6 : Does P w K mg base 1 "is_won" ["pair", "goal", "lead"] R_is_won) (h : Has K mg "after" st_after ["rules", "standing", "who"]) :
    Does P w K mg base 6 "after" ["rules", "standing", "who"] (R_after C) := by
  refine h.does sc_after (fun ds r ⟨_, _, _, _, _, e, _⟩ => by rw [e]; rfl) fun f cdv A outer s H E vs ds r hr hl hR => ?_
  obtain ⟨g1, g2, g3, st, v, rfl, hre, hov, rfl⟩ := hR
  obtain ⟨v0, v1, v2, rfl, h0, h1, h2⟩ := isL3 hl
  cases h2
  have hr1 : Room 1 _ := hr.mono (by decide)
  obtain ⟨an, mn, nn⟩ := T.nought
  obtain ⟨tl, hlead⟩ := T.lead
  refine pr_if (pdt_notN (pd_does d4 hr (pda_cons (pd_var 0 rfl h0) (pda_cons (pd_var 1 rfl h1) pda_nil)) ⟨_, _, _, _, rfl, hre, rfl⟩)) (fun z => absurd z (by rw [M.wnr_non hre hov]; decide)) (fun _ => ?_)
  refine pr_set 3 sc_after.nd (pd_does d5 hr1 (pda_cons (pd_ixT (d := dP st.2.2) (pd_var 1 rfl h1) pd_int) (pda_cons (pd_var 2 rfl (.int _)) pda_nil)) ⟨_, _, rfl, rfl⟩) fun v3 H2 e2 h3 => ?_
  have h0' := h0.mono e2
  have h1' := h1.mono e2
  refine pr_if (pdt_not (pdt_val (pd_does d6 hr1 (pda_cons (pd_var 3 rfl h3) (pda_cons (pd_doesM0 d1 T.cl hr1 (pd_var 0 rfl h0') (no1 _ _ _) ⟨_, _, _, rfl, rfl⟩) (pda_cons (pd_globI hlead) pda_nil))) ⟨_, _, _, rfl, rfl⟩)))
    (fun y => (pr_ret (pd_tup (pda_cons (pd_ixT (pd_var 1 rfl h1') pd_int) (pda_cons (pd_ixT (pd_var 1 rfl h1') pd_int) (pda_cons (pd_var 3 rfl h3) pda_nil))))).cast ?_) (fun y => ?_)
  · unfold M.aft
    rw [if_neg (by rw [show M.won (M.more st.2.2 v) g1 = M.wonL (M.more st.2.2 v) g1 2 from rfl]; simpa using y)]
    rfl
  have y' : M.won (M.more st.2.2 v) g1 = true := by rw [show M.won (M.more st.2.2 v) g1 = M.wonL (M.more st.2.2 v) g1 2 from rfl]; simpa using y
  refine pr_set 4 sc_after.nd (pd_does d5 hr1 (pda_cons (pd_ixT (d := dP st.2.1) (pd_var 1 rfl h1') pd_int) (pda_cons (pd_var 2 rfl (.int _)) pda_nil)) ⟨_, _, rfl, rfl⟩) fun v4 H3 e3 h4 => ?_
  have h0'' := h0'.mono e3
  have h1'' := h1'.mono e3
  refine pr_if (pdt_not (pdt_val (pd_does d6 hr1 (pda_cons (pd_var 4 rfl h4) (pda_cons (pd_doesM0 d2 T.cl hr1 (pd_var 0 rfl h0'') (no2 _ _ _) ⟨_, _, _, rfl, rfl⟩) (pda_cons (pd_globI hlead) pda_nil))) ⟨_, _, _, rfl, rfl⟩)))
    (fun y2 => (pr_ret (pd_tup (pda_cons (pd_ixT (pd_var 1 rfl h1'') pd_int) (pda_cons (pd_var 4 rfl h4) (pda_cons (pd_globR mn (nn _)) pda_nil))))).cast ?_) (fun y2 => ?_)
  · unfold M.aft
    rw [if_pos y', if_neg (by rw [show M.won (M.more st.2.1 v) g2 = M.wonL (M.more st.2.1 v) g2 2 from rfl]; simpa using y2)]
    rfl
  have y2' : M.won (M.more st.2.1 v) g2 = true := by rw [show M.won (M.more st.2.1 v) g2 = M.wonL (M.more st.2.1 v) g2 2 from rfl]; simpa using y2
  refine (pr_ret (pd_tup (pda_cons (pd_does d5 hr1 (pda_cons (pd_ixT (d := dP st.1) (pd_var 1 rfl h1'') pd_int) (pda_cons (pd_var 2 rfl (.int _)) pda_nil)) ⟨_, _, rfl, rfl⟩) (pda_cons (pd_globR mn (nn _)) (pda_cons (pd_globR mn (nn _)) pda_nil))))).cast ?_
  unfold M.aft
  rw [if_pos y', if_pos y2']
  rfl
end
end Q
set_option Elab.async false
set_option linter.all false
set_option maxRecDepth 100000
set_option maxHeartbeats 4000000
namespace Q
open PySem PySem.Spec PyProof.Rows L2 L3
section
variable {P : Program} {w : World} {K : PySem.W.Frag} {mg : Str → Option Value} {base : Heap} {C : Addr}
abbrev dL (ns : List Int) : D := .lst (ns.map D.int)
def R_cell (ds : List D) (r : D) : Prop := ∃ ns k, ds = [dL ns, .int k] ∧ 0 ≤ k ∧ r = .int (M.cellF ns k)
theorem ok_cell (T : Tx K mg C) (h : Has K mg "_law_cell_at" st__law_cell_at ["script", "k"]) : Does P w K mg base 1 "_law_cell_at" ["script", "k"] R_cell := by
  refine h.does sc__law_cell_at (fun ds r ⟨_, _, e, _⟩ => by rw [e]; rfl) fun f cdv A outer s H E vs ds r hr hl hR => ?_
  obtain ⟨ns, k, rfl, hk, rfl⟩ := hR
  obtain ⟨v0, v1, rfl, h0, h1⟩ := isL2 hl
  cases h1
  refine pr_if (pdt_lt (pd_var 1 rfl (.int _)) (pd_lenL T.len (pd_var 0 rfl h0))) (fun z => ?_) (fun z => (pr_ret pd_int).cast ?_)
  · have z' : k < ns.length := by simpa using z
    exact pr_ret (pd_ixL (pd_var 0 rfl h0) (pd_var 1 rfl (.int _)) (M.atI_cell hk z'))
  · have z' : ¬ k < ns.length := by simpa using z
    rw [M.cell_out hk z']
def R_draw (ds : List D) (r : D) : Prop := ∃ ns k, ds = [dL ns, .int k] ∧ 0 ≤ k ∧ k < 1000000 ∧ r = .int (M.drawF ns k)
theorem ok_draw (T : Tx K mg C) (d1 : Does P w K mg base 1 "_law_cell_at" ["script", "k"] R_cell) (h : Has K mg "_law_draw" st__law_draw ["script", "k"]) : Does P w K mg base 2 "_law_draw" ["script", "k"] R_draw := by
  refine h.does sc__law_draw (fun ds r ⟨_, _, e, _⟩ => by rw [e]; rfl) fun f cdv A outer s H E vs ds r hr hl hR => ?_
  obtain ⟨ns, k, rfl, hk, hk2, rfl⟩ := hR
  obtain ⟨v0, v1, rfl, h0, h1⟩ := isL2 hl
  cases h1
  refine pr_set 2 sc__law_draw.nd (pd_does d1 hr (pda_cons (pd_var 0 rfl h0) (pda_cons (pd_mod (pd_var 1 rfl (.int _)) pd_int (by decide)) pda_nil)) ⟨_, _, rfl, by omega, rfl⟩) fun v2 H2 e2 h2 => ?_
  cases h2
  have h0' := h0.mono e2
  refine pr_if (pdt_eqI (pd_mod (pd_does d1 hr (pda_cons (pd_var 0 rfl h0') (pda_cons pd_int pda_nil)) ⟨_, _, rfl, by decide, rfl⟩) pd_int (by decide)) pd_int) (fun z => ?_) (fun z => ?_)
  · refine pr_cons (Post := fun σ' _ => ∃ x y, σ' = [some v0, some (.int k), some (.int (M.divs (k / 61).toNat (M.cellF ns (k % 61)))), x, y])
      (pn1_forR 3 (fun i σ' _ => ∃ x y, σ' = [some v0, some (.int k), some (.int (M.divs i (M.cellF ns (k % 61)))), x, y]) PassesOwn.never rfl sc__law_draw.nd T.range (pd_div (pd_var 1 rfl (.int _)) pd_int ⟨by decide, by decide⟩) (by omega)
        (fun _ _ => ⟨_, _, rfl⟩) (fun i σ1 H3 hi e3 ⟨x, y, hs⟩ => ?_) (fun σ1 H3 e3 z => z)) (fun σ' H3 e3 ⟨x, y, hs⟩ => ?_)
    · subst hs
      exact pn_one (pn1_set 2 sc__law_draw.nd (pd_div (pd_var 2 rfl (.int _)) pd_int ⟨by decide, by decide⟩) fun v H4 e4 hv => by cases hv; exact ⟨_, _, rfl⟩)
    · subst hs
      refine (pr_ret (pd_mod (pd_var 2 rfl (.int _)) pd_int (by decide))).cast ?_
      unfold M.drawF; rw [if_pos (of_decide_eq_true z)]
  · refine pr_set 4 sc__law_draw.nd (pd_mod (pd_mul (pd_add (pd_add (pd_var 2 rfl (.int _)) (pd_mul pd_int (pd_var 1 rfl (.int _)) (.inl (by decide)))) pd_int) pd_int (.inr (by decide))) pd_int (by decide)) fun v4 H3 e3 h4 => ?_
    cases h4
    refine pr_set 4 sc__law_draw.nd (pd_mod (pd_mul (pd_var 4 rfl (.int _)) (pd_var 4 rfl (.int _)) (.inl (by omega))) pd_int (by decide)) fun v5 H4 e4 h5 => ?_
    cases h5
    refine (pr_ret (pd_div (pd_mod (pd_mul (pd_var 4 rfl (.int _)) pd_int (.inr (by decide))) pd_int (by decide)) pd_int ⟨by decide, by decide⟩)).cast ?_
    unfold M.drawF; rw [if_neg (of_decide_eq_false z)]
def dW (g : Int × Int × Int) : D := .lst [.int g.1, .int g.2.1, .int g.2.2]
def R_rules (ds : List D) (r : D) : Prop := ∃ ns, ds = [dL ns] ∧ r = dW (M.rulesF ns)
theorem ok_rules (d1 : Does P w K mg base 2 "_law_draw" ["script", "k"] R_draw) (h : Has K mg "_law_rules" st__law_rules ["script"]) : Does P w K mg base 3 "_law_rules" ["script"] R_rules := by
  refine h.does sc__law_rules (fun ds r ⟨_, e, _⟩ => by rw [e]; rfl) fun f cdv A outer s H E vs ds r hr hl hR => ?_
  obtain ⟨ns, rfl, rfl⟩ := hR
  obtain ⟨v0, rfl, h0⟩ := isL1 hl
  refine pr_set 1 sc__law_rules.nd (pd_mod (pd_does d1 hr (pda_cons (pd_var 0 rfl h0) (pda_cons pd_int pda_nil)) ⟨_, _, rfl, by decide, by decide, rfl⟩) pd_int (by decide)) fun v1 H2 e2 h1 => ?_
  cases h1
  have h0' := h0.mono e2
  refine pr_if (pdt_eqI (pd_var 1 rfl (.int _)) pd_int) (fun z => (pr_ret (pd_lst (pda_cons (pd_add pd_int (pd_mod (pd_does d1 hr (pda_cons (pd_var 0 rfl h0') (pda_cons pd_int pda_nil)) ⟨_, _, rfl, by decide, by decide, rfl⟩) pd_int (by decide)))
      (pda_cons (pd_add pd_int (pd_mod (pd_does d1 hr (pda_cons (pd_var 0 rfl h0') (pda_cons pd_int pda_nil)) ⟨_, _, rfl, by decide, by decide, rfl⟩) pd_int (by decide))) (pda_cons pd_int pda_nil))))).cast ?_) (fun z => ?_)
  · unfold M.rulesF; rw [if_pos (of_decide_eq_true z)]; rfl
  refine pr_if (pdt_eqI (pd_var 1 rfl (.int _)) pd_int) (fun y => (pr_ret (pd_lst (pda_cons (pd_add pd_int (pd_mod (pd_does d1 hr (pda_cons (pd_var 0 rfl h0') (pda_cons pd_int pda_nil)) ⟨_, _, rfl, by decide, by decide, rfl⟩) pd_int (by decide)))
      (pda_cons (pd_add pd_int (pd_mod (pd_does d1 hr (pda_cons (pd_var 0 rfl h0') (pda_cons pd_int pda_nil)) ⟨_, _, rfl, by decide, by decide, rfl⟩) pd_int (by decide)))
      (pda_cons (pd_add pd_int (pd_mod (pd_does d1 hr (pda_cons (pd_var 0 rfl h0') (pda_cons pd_int pda_nil)) ⟨_, _, rfl, by decide, by decide, rfl⟩) pd_int (by decide))) pda_nil))))).cast ?_) (fun y => ?_)
  · unfold M.rulesF; rw [if_neg (of_decide_eq_false z), if_pos (of_decide_eq_true y)]; rfl
  refine pr_if (pdt_eqI (pd_var 1 rfl (.int _)) pd_int) (fun x => (pr_ret (pd_lst (pda_cons (pd_add pd_int (pd_mod (pd_does d1 hr (pda_cons (pd_var 0 rfl h0') (pda_cons pd_int pda_nil)) ⟨_, _, rfl, by decide, by decide, rfl⟩) pd_int (by decide)))
      (pda_cons (pd_add pd_int (pd_mod (pd_does d1 hr (pda_cons (pd_var 0 rfl h0') (pda_cons pd_int pda_nil)) ⟨_, _, rfl, by decide, by decide, rfl⟩) pd_int (by decide)))
      (pda_cons (pd_add pd_int (pd_mod (pd_does d1 hr (pda_cons (pd_var 0 rfl h0') (pda_cons pd_int pda_nil)) ⟨_, _, rfl, by decide, by decide, rfl⟩) pd_int (by decide))) pda_nil))))).cast ?_) (fun x => ?_)
  · unfold M.rulesF; rw [if_neg (of_decide_eq_false z), if_neg (of_decide_eq_false y), if_pos (of_decide_eq_true x)]; rfl
  refine (pr_ret (pd_lst (pda_cons (pd_add pd_int (pd_mod (pd_does d1 hr (pda_cons (pd_var 0 rfl h0') (pda_cons pd_int pda_nil)) ⟨_, _, rfl, by decide, by decide, rfl⟩) pd_int (by decide)))
      (pda_cons (pd_add pd_int (pd_mod (pd_does d1 hr (pda_cons (pd_var 0 rfl h0') (pda_cons pd_int pda_nil)) ⟨_, _, rfl, by decide, by decide, rfl⟩) pd_int (by decide)))
      (pda_cons (pd_add pd_int (pd_mod (pd_does d1 hr (pda_cons (pd_var 0 rfl h0') (pda_cons pd_int pda_nil)) ⟨_, _, rfl, by decide, by decide, rfl⟩) pd_int (by decide))) pda_nil))))).cast ?_
  unfold M.rulesF; rw [if_neg (of_decide_eq_false z), if_neg (of_decide_eq_false y), if_neg (of_decide_eq_false x)]; rfl
def R_made (C : Addr) (ds : List D) (r : D) : Prop := ∃ g1 g2 g3, ds = [dW (g1, g2, g3)] ∧ M.Good g1 g2 g3 ∧ r = .obj C (fsR g1 g2 g3)
theorem ok_made (d1 : Makes P w K mg base 2 C "Rules" ["self", "points", "games", "sets"] R_init) (h : Has K mg "_law_made" st__law_made ["wanted"]) : Does P w K mg base 4 "_law_made" ["wanted"] (R_made C) := by
  refine h.does sc__law_made (fun ds r ⟨_, _, _, e, _⟩ => by rw [e]; rfl) fun f cdv A outer s H E vs ds r hr hl hR => ?_
  obtain ⟨g1, g2, g3, rfl, hg, rfl⟩ := hR
  obtain ⟨v0, rfl, h0⟩ := isL1 hl
  exact pr_ret (pd_makes d1 hr (pda_cons (pd_ixL (pd_var 0 rfl h0) pd_int) (pda_cons (pd_ixL (pd_var 0 rfl h0) pd_int) (pda_cons (pd_ixL (pd_var 0 rfl h0) pd_int) pda_nil))) ⟨g1, g2, g3, rfl, hg, rfl⟩)
def aheadF (q : Int × Int) (g : Int) : D := if M.won q g = true then .int (if q.1 = mxP q then 0 else 1) else .non
def R_ahead (ds : List D) (r : D) : Prop := ∃ q g, ds = [dP q, .int g] ∧ r = aheadF q g
theorem ok_ahead (T : Tx K mg C) (h : Has K mg "_law_ahead" st__law_ahead ["pair", "wanted"]) : Does P w K mg base 1 "_law_ahead" ["pair", "wanted"] R_ahead := by
  refine h.does sc__law_ahead (fun ds r ⟨q, v, e, _⟩ => by rw [e]; rfl) fun f cdv A outer s H E vs ds r hr hl hR => ?_
  obtain ⟨q, g, rfl, rfl⟩ := hR
  obtain ⟨v0, v1, rfl, h0, h1⟩ := isL2 hl
  cases h1
  refine pr_if (k := M.won q g) (PDW.pt (pdw_and (pdt_ge (pd_max rfl T.max (pd_var 0 rfl h0)) (pd_var 1 rfl (.int _))) fun _ => pdw_and1 (pdt_ge (pd_abs T.abs (pd_sub (pd_ixT (pd_var 0 rfl h0) pd_int) (pd_ixT (pd_var 0 rfl h0) pd_int))) pd_int)))
    (fun z => (pr_ret (pd_indexT (q := q) (pd_var 0 rfl h0) (pd_max rfl T.max (pd_var 0 rfl h0)) ?_)).cast ?_) (fun z => (pr_ret pd_non).cast ?_)
  · unfold mxP; split <;> simp
  · unfold aheadF; rw [if_pos z]
  · unfold aheadF; rw [z]; rfl
def R_more (ds : List D) (r : D) : Prop := ∃ q v, ds = [dP q, .int v] ∧ (v = 0 ∨ v = 1) ∧ r = dP (M.more q v)
theorem ok_more (T : Tx K mg C) (h : Has K mg "_law_more" st__law_more ["pair", "who"]) : Does P w K mg base 1 "_law_more" ["pair", "who"] R_more := by
  refine h.does sc__law_more (fun ds r ⟨q, v, e, _⟩ => by rw [e]; rfl) fun f cdv A outer s H E vs ds r hr hl hR => ?_
  obtain ⟨q, v, rfl, hv, rfl⟩ := hR
  obtain ⟨v0, v1, rfl, h0, h1⟩ := isL2 hl
  cases h1
  refine pr_pqr fun H1 e1 => ?_
  have h0' := h0.mono e1
  refine pqr_cons (Mid := fun σ' H' => ∃ l, σ' = [some v0, some (.int v), some (.ref l)] ∧ Same H1 H' ∧ H1 l = none ∧ H' l = some (.lst [.int q.1, .int q.2])) ?_ ?_
  · refine pq1_new 2 sc__law_more.nd fun σ' H' ⟨z1, z2⟩ => ?_
    subst z1; subst z2
    refine ⟨_, pl_listT T.list (pd_var 0 rfl h0'), fun l vs H2 e2 hn hl2 hvs => ?_⟩
    obtain ⟨a, b, rfl, ha, hb⟩ := isL2 hvs
    cases ha; cases hb
    exact ⟨l, rfl, e2, hn, hl2⟩
  refine pqr_cons (Mid := fun σ' H' => ∃ l, σ' = [some v0, some (.int v), some (.ref l)] ∧ Same H1 H' ∧ H' l = some (.lst [.int (M.more q v).1, .int (M.more q v).2])) ?_ ?_
  · refine pq1_setL fun σ' H' ⟨l, z1, z2, z3, z4⟩ => ?_
    subst z1
    have hrow : Is K H' (.lst [.int q.1, .int q.2]) (.ref l) := .lst (SqL.of z4) (.cons (.int _) (.cons (.int _) .nil))
    rcases hv with rfl | rfl
    · exact ⟨l, _, 0, 0, .int (q.1 + 1), pd_var 2 rfl (.adr l), z4, pd_var 1 rfl (.int _), rfl, pd_add (pd_ixL (pd_var 2 rfl hrow) (pd_var 1 rfl (.int _))) pd_int, fun v' H2 e2 hv' => by
        cases hv'
        exact ⟨l, rfl, fun b o e => by rw [upd_ne (ne_of_none e z3)]; exact e2 _ _ (z2 _ _ e), upd_same⟩⟩
    · exact ⟨l, _, 1, 1, .int (q.2 + 1), pd_var 2 rfl (.adr l), z4, pd_var 1 rfl (.int _), rfl, pd_add (pd_ixL (pd_var 2 rfl hrow) (pd_var 1 rfl (.int _))) pd_int, fun v' H2 e2 hv' => by
        cases hv'
        exact ⟨l, rfl, fun b o e => by rw [upd_ne (ne_of_none e z3)]; exact e2 _ _ (z2 _ _ e), upd_same⟩⟩
  · refine pqr_pr fun σ' H' ⟨l, z1, z2, z4⟩ => ?_
    subst z1
    have hl : Is K H' (.lst [.int (M.more q v).1, .int (M.more q v).2]) (.ref l) := .lst (SqL.of z4) (.cons (.int _) (.cons (.int _) .nil))
    exact ⟨_, pr_ret (pd_tupL T.tuple (pd_var 2 rfl hl)), fun v' H2 e2 hv' => ⟨z2.trans e2, hv'⟩⟩
def R_over (ds : List D) (r : D) : Prop := ∃ g s, ds = [dW g, dS s] ∧ r = .bl (M.over g.2.2 s)
theorem ok_over (T : Tx K mg C) (h : Has K mg "_law_over" st__law_over ["wanted", "standing"]) : Does P w K mg base 1 "_law_over" ["wanted", "standing"] R_over := by
  refine h.does sc__law_over (fun ds r ⟨_, _, e, _⟩ => by rw [e]; rfl) fun f cdv A outer s H E vs ds r hr hl hR => ?_
  obtain ⟨g, st, rfl, rfl⟩ := hR
  obtain ⟨v0, v1, rfl, h0, h1⟩ := isL2 hl
  exact pr_ret (pd_eqI (pd_max rfl T.max (pd_ixT (d := dP st.1) (pd_var 1 rfl h1) pd_int)) (pd_ixL (pd_var 0 rfl h0) pd_int))
def R_aft (ds : List D) (r : D) : Prop := ∃ g s v, ds = [dW g, dS s, .int v] ∧ (v = 0 ∨ v = 1) ∧ r = dS (M.aft g.1 g.2.1 s v)
theorem isNon_ahead (q : Int × Int) (g : Int) : isNon (aheadF q g) = !M.won q g := by
  unfold aheadF
  cases M.won q g <;> rfl
theorem ok_aft (d1 : Does P w K mg base 1 "_law_more" ["pair", "who"] R_more) (d2 : Does P w K mg base 1 "_law_ahead" ["pair", "wanted"] R_ahead) (h : Has K mg "_law_after" st__law_after ["wanted", "standing", "who"]) :
    Does P w K mg base 2 "_law_after" ["wanted", "standing", "who"] R_aft := by
  refine h.does sc__law_after (fun ds r ⟨_, _, _, e, _⟩ => by rw [e]; rfl) fun f cdv A outer s H E vs ds r hr hl hR => ?_
  obtain ⟨g, st, v, rfl, hv, rfl⟩ := hR
  obtain ⟨v0, v1, v2, rfl, h0, h1, h2⟩ := isL3 hl
  cases h2
  refine pr_set 3 sc__law_after.nd (pd_does d1 hr (pda_cons (pd_ixT (d := dP st.2.2) (pd_var 1 rfl h1) pd_int) (pda_cons (pd_var 2 rfl (.int _)) pda_nil)) ⟨_, _, rfl, hv, rfl⟩) fun v3 H2 e2 h3 => ?_
  have h0' := h0.mono e2
  have h1' := h1.mono e2
  refine pr_if (pdt_isN (pd_does d2 hr (pda_cons (pd_var 3 rfl h3) (pda_cons (pd_ixL (pd_var 0 rfl h0') pd_int) pda_nil)) ⟨_, _, rfl, rfl⟩))
    (fun y => (pr_ret (pd_tup (pda_cons (pd_ixT (pd_var 1 rfl h1') pd_int) (pda_cons (pd_ixT (pd_var 1 rfl h1') pd_int) (pda_cons (pd_var 3 rfl h3) pda_nil))))).cast ?_) (fun y => ?_)
  · rw [isNon_ahead] at y
    unfold M.aft
    rw [if_neg (by simpa using y)]
    rfl
  rw [isNon_ahead] at y
  have y' : M.won (M.more st.2.2 v) g.1 = true := by simpa using y
  refine pr_set 4 sc__law_after.nd (pd_does d1 hr (pda_cons (pd_ixT (d := dP st.2.1) (pd_var 1 rfl h1') pd_int) (pda_cons (pd_var 2 rfl (.int _)) pda_nil)) ⟨_, _, rfl, hv, rfl⟩) fun v4 H3 e3 h4 => ?_
  have h0'' := h0'.mono e3
  have h1'' := h1'.mono e3
  refine pr_if (pdt_isN (pd_does d2 hr (pda_cons (pd_var 4 rfl h4) (pda_cons (pd_ixL (pd_var 0 rfl h0'') pd_int) pda_nil)) ⟨_, _, rfl, rfl⟩))
    (fun y2 => (pr_ret (pd_tup (pda_cons (pd_ixT (pd_var 1 rfl h1'') pd_int) (pda_cons (pd_var 4 rfl h4) (pda_cons (pd_tup (pda_cons pd_int (pda_cons pd_int pda_nil))) pda_nil))))).cast ?_) (fun y2 => ?_)
  · rw [isNon_ahead] at y2
    unfold M.aft
    rw [if_pos y', if_neg (by simpa using y2)]
    rfl
  rw [isNon_ahead] at y2
  have y2' : M.won (M.more st.2.1 v) g.2.1 = true := by simpa using y2
  refine (pr_ret (pd_tup (pda_cons (pd_does d1 hr (pda_cons (pd_ixT (d := dP st.1) (pd_var 1 rfl h1'') pd_int) (pda_cons (pd_var 2 rfl (.int _)) pda_nil)) ⟨_, _, rfl, hv, rfl⟩)
    (pda_cons (pd_tup (pda_cons pd_int (pda_cons pd_int pda_nil))) (pda_cons (pd_tup (pda_cons pd_int (pda_cons pd_int pda_nil))) pda_nil))))).cast ?_
  unfold M.aft
  rw [if_pos y', if_pos y2']
  rfl
end
section
variable {P : Program} {w : World} {K : PySem.W.Frag} {mg : Str → Option Value} {base : Heap} {C : Addr}
def walkW (ns : List Int) (g : Int × Int × Int) (a : Int) (n : Nat) : List Int × M.Stg := M.walkF ns g.1 g.2.1 g.2.2 (M.drawF ns 5 % 3) a n
def R_walked (ds : List D) (r : D) : Prop := ∃ ns g a m, ds = [dL ns, dW g, .int a, .int m] ∧ 0 ≤ a ∧ a ≤ 1000 ∧ 0 ≤ m ∧ m ≤ 1000 ∧ r = .tup [dL (walkW ns g a m.toNat).1, dS (walkW ns g a m.toNat).2]
theorem ok_walked (T : Tx K mg C) (d1 : Does P w K mg base 2 "_law_draw" ["script", "k"] R_draw) (d2 : Does P w K mg base 1 "_law_over" ["wanted", "standing"] R_over) (d3 : Does P w K mg base 2 "_law_after" ["wanted", "standing", "who"] R_aft)
    (h : Has K mg "_law_walked" st__law_walked ["script", "wanted", "start", "many"]) : Does P w K mg base 3 "_law_walked" ["script", "wanted", "start", "many"] R_walked := by
  refine h.does sc__law_walked (fun ds r ⟨_, _, _, _, e, _⟩ => by rw [e]; rfl) fun f cdv A outer s H E vs ds r hr hl hR => ?_
  obtain ⟨ns, g, a, m, rfl, ha0, ha1, hm0, hm1, rfl⟩ := hR
  obtain ⟨v0, v1, v2, v3, rfl, h0, h1, h2, h3⟩ := isL4 hl
  cases h2; cases h3
  refine pr_pqr fun H1 e1 => ?_
  have h0 := h0.mono e1
  have h1 := h1.mono e1
  refine pqr_cons (Mid := fun σ' H' => ∃ v4, σ' = [some v0, some v1, some (.int a), some (.int m), some v4, none, none, none, none] ∧ Same H1 H' ∧ Is K H' (dS M.st0) v4) ?_ ?_
  · refine pq1_set 4 sc__law_walked.nd fun σ' H' ⟨z1, z2⟩ => ?_
    subst z1; subst z2
    exact ⟨_, pd_tup (pda_cons (pd_tup (pda_cons pd_int (pda_cons pd_int pda_nil))) (pda_cons (pd_tup (pda_cons pd_int (pda_cons pd_int pda_nil))) (pda_cons (pd_tup (pda_cons pd_int (pda_cons pd_int pda_nil))) pda_nil))),
      fun v H2 e2 hv => ⟨v, rfl, e2, hv⟩⟩
  refine pqr_cons (Mid := fun σ' H' => ∃ v4 l, σ' = [some v0, some v1, some (.int a), some (.int m), some v4, some (.ref l), none, none, none] ∧ Same H1 H' ∧ H1 l = none ∧ H' l = some (.lst []) ∧ Is K H' (dS M.st0) v4) ?_ ?_
  · refine pq1_new 5 sc__law_walked.nd fun σ' H' ⟨v4, z1, z2, z3⟩ => ?_
    subst z1
    refine ⟨[], pl_lst pda_nil, fun l vs H2 e2 hn hl2 hvs => ?_⟩
    obtain rfl := isL0 hvs
    exact ⟨v4, l, rfl, z2.trans e2, z2.free hn, hl2, z3.mono e2⟩
  refine pqr_cons (Mid := fun σ' H' => ∃ v4 l, σ' = [some v0, some v1, some (.int a), some (.int m), some v4, some (.ref l), some (.int (M.drawF ns 5 % 3)), none, none] ∧ Same H1 H' ∧ H1 l = none ∧ H' l = some (.lst []) ∧ Is K H' (dS M.st0) v4) ?_ ?_
  · refine pq1_set 6 sc__law_walked.nd fun σ' H' ⟨v4, l, z1, z2, z3, z4, z5⟩ => ?_
    subst z1
    refine ⟨_, pd_mod (pd_does d1 hr (pda_cons (pd_var 0 rfl (h0.mono z2)) (pda_cons pd_int pda_nil)) ⟨_, _, rfl, by decide, by decide, rfl⟩) pd_int (by decide), fun v H2 e2 hv => ?_⟩
    cases hv
    exact ⟨v4, l, rfl, z2.trans e2, z3, e2 _ _ z4, z5.mono e2⟩
  let Z : Nat → L2.St → Hp → Prop := fun i σ' H' => ∃ v4 l x7 x8, σ' = [some v0, some v1, some (.int a), some (.int m), some v4, some (.ref l), some (.int (M.drawF ns 5 % 3)), x7, x8] ∧ Same H1 H' ∧ H1 l = none ∧
    H' l = some (.lst ((walkW ns g a i).1.map V.int)) ∧ Is K H' (dS (walkW ns g a i).2) v4
  refine pqr_cons (Mid := Z m.toNat) (pq1_forR (j := m) 7 Z PassesOwn.never rfl sc__law_walked.nd T.range (fun σ' H' ⟨v4, l, z1, _⟩ => by subst z1; exact pd_var 3 rfl (.int _)) (by omega)
    (fun σ' H' H2 ⟨v4, l, z1, z2, z3, z4, z5⟩ e2 => ⟨v4, l, none, none, z1, z2.trans e2, z3, e2 _ _ z4, z5.mono e2⟩) (fun i hi => ?_) (fun _ _ z => z)) ?_
  · refine pq_one (pq1_if fun σ' H' ⟨σ1, zz, v4, l, x7, x8, z1, z2, z3, z4, z5⟩ => ?_)
    subst z1; subst zz
    refine ⟨_, pdt_not (pdt_val (pd_does d2 (hr.mono (by decide)) (pda_cons (pd_var 1 rfl (h1.mono z2)) (pda_cons (pd_var 4 rfl z5) pda_nil)) ⟨g, _, rfl, rfl⟩)), fun hk => ?_, fun hk => ?_⟩
    · have hov : M.over g.2.2 (walkW ns g a i).2 = false := by simpa using hk
      have hw : walkW ns g a (i + 1) = ((walkW ns g a i).1 ++ [M.whoF ns (M.drawF ns 5 % 3) (a + i) (walkW ns g a i).2], M.aft g.1 g.2.1 (walkW ns g a i).2 (M.whoF ns (M.drawF ns 5 % 3) (a + i) (walkW ns g a i).2)) := by
        show M.stepF _ _ _ _ _ _ _ _ = _
        unfold M.stepF
        rw [if_neg (by show ¬ M.over g.2.2 (walkW ns g a i).2 = true; rw [hov]; exact Bool.false_ne_true)]
        rfl
      have hwk := M.walked ns g.1 g.2.1 g.2.2 (M.drawF ns 5 % 3) a i
      have hlen : ((walkW ns g a i).1.map V.int).length < sizeLine := small1000 (by rw [List.length_map]; exact Nat.le_trans hwk.len (by omega))
      generalize hS : (walkW ns g a i).2 = S at *
      generalize hX : (walkW ns g a i).1 = ws at *
      have a0 : 0 ≤ a + (i : Int) ∧ a + (i : Int) < 1000000 := by omega
      refine pq_cons (Mid := fun σ2 H2 => σ2 = [some v0, some v1, some (.int a), some (.int m), some v4, some (.ref l), some (.int (M.drawF ns 5 % 3)), some (.int i), some (.int (M.drawF ns (a + i) % 2))] ∧ Same H' H2)
        (pq1_set 8 sc__law_walked.nd fun σ2 H2 ⟨y1, y2⟩ => ?_) ?_
      · subst y1
        refine ⟨_, pd_mod (pd_does d1 hr (pda_cons (pd_var 0 rfl (h0.mono (z2.trans y2))) (pda_cons (pd_add (pd_var 2 rfl (.int _)) (pd_var 7 rfl (.int _))) pda_nil)) ⟨_, _, rfl, a0.1, a0.2, rfl⟩) pd_int (by decide), fun v H3 e3 hv => ?_⟩
        cases hv
        exact ⟨rfl, y2.trans e3⟩
      refine pq_cons (Mid := fun σ2 H2 => σ2 = [some v0, some v1, some (.int a), some (.int m), some v4, some (.ref l), some (.int (M.drawF ns 5 % 3)), some (.int i), some (.int (M.whoF ns (M.drawF ns 5 % 3) (a + i) S))] ∧ Same H' H2)
        (pq1_pn (Post := fun _ _ σ2 _ => σ2 = [some v0, some v1, some (.int a), some (.int m), some v4, some (.ref l), some (.int (M.drawF ns 5 % 3)), some (.int i), some (.int (M.whoF ns (M.drawF ns 5 % 3) (a + i) S))])
          (fun σ2 H2 ⟨y1, y2⟩ => ?_) fun σ2 H2 σ3 H3 ⟨y1, y2⟩ e3 y3 => ⟨y3, y2.trans e3⟩) ?_
      · subst y1
        have z5' := z5.mono y2
        refine pn1_if (PDW.pt (pdw_and (pdt_eqI (pd_var 6 rfl (.int _)) pd_int) fun _ => pdw_and (pdt_gt (pd_mod (pd_does d1 hr (pda_cons (pd_var 0 rfl (h0.mono (z2.trans y2))) (pda_cons (pd_add (pd_var 2 rfl (.int _)) (pd_var 7 rfl (.int _))) pda_nil)) ⟨_, _, rfl, a0.1, a0.2, rfl⟩) pd_int (by decide)) pd_int) fun _ =>
          pdw_and1 (pdt_neI (pd_ixT (pd_ixT (d := dP S.2.2) (pd_var 4 rfl z5') pd_int) pd_int) (pd_ixT (pd_ixT (d := dP S.2.2) (pd_var 4 rfl z5') pd_int) pd_int))))
          (fun hc => pn_one (pn1_set 8 sc__law_walked.nd (pd_intB T.int (pd_gt (pd_ixT (pd_ixT (d := dP S.2.2) (pd_var 4 rfl z5') pd_int) pd_int) (pd_ixT (pd_ixT (d := dP S.2.2) (pd_var 4 rfl z5') pd_int) pd_int))) fun v H3 e3 hv => ?_))
          (fun hc => pn_nil fun H3 e3 => ?_)
        · cases hv
          unfold M.whoF
          rw [if_pos hc]
          rfl
        · unfold M.whoF
          rw [if_neg (by rw [hc]; exact Bool.false_ne_true)]
      refine pq_cons (Mid := fun σ2 H2 => σ2 = [some v0, some v1, some (.int a), some (.int m), some v4, some (.ref l), some (.int (M.drawF ns 5 % 3)), some (.int i), some (.int (M.whoF ns (M.drawF ns 5 % 3) (a + i) S))] ∧ Same H1 H2 ∧
          H2 l = some (.lst ((ws ++ [M.whoF ns (M.drawF ns 5 % 3) (a + i) S]).map V.int)) ∧ Is K H2 (dS S) v4)
        (pq1_append fun σ2 H2 ⟨y1, y2⟩ => ?_) ?_
      · subst y1
        refine ⟨l, _, _, pd_var 5 rfl (.adr l), y2 _ _ z4, hlen, pd_var 8 rfl (.int _), fun v H3 e3 hv => ?_⟩
        cases hv
        refine ⟨rfl, fun b o e => ?_, ?_, ?_⟩
        · rw [upd_ne (ne_of_none e z3)]; exact e3 _ _ (y2 _ _ (z2 _ _ e))
        · rw [upd_same, List.map_append]; rfl
        · exact ((z5.mono y2).mono e3).updL (e3 _ _ (y2 _ _ z4)) rfl
      refine pq_one (pq1_set 4 sc__law_walked.nd fun σ2 H2 ⟨y1, y2, y3, y4⟩ => ?_)
      subst y1
      refine ⟨_, pd_does d3 hr (pda_cons (pd_var 1 rfl (h1.mono y2)) (pda_cons (pd_var 4 rfl y4) (pda_cons (pd_var 8 rfl (.int _)) pda_nil))) ⟨g, _, _, rfl, M.whoF_01 _ _ _ _, rfl⟩, fun v H3 e3 hv => ?_⟩
      refine ⟨v, l, _, _, rfl, y2.trans e3, z3, ?_, ?_⟩
      · rw [hw]; exact e3 _ _ y3
      · rw [hw]; exact hv
    · have hov : M.over g.2.2 (walkW ns g a i).2 = true := by simpa using hk
      have hw : walkW ns g a (i + 1) = walkW ns g a i := by
        show M.stepF _ _ _ _ _ _ _ _ = _
        unfold M.stepF
        rw [if_pos (by exact hov)]
        rfl
      refine pq_nil fun σ2 H2 ⟨y1, y2⟩ => ?_
      subst y1
      refine ⟨v4, l, _, _, rfl, z2.trans y2, z3, ?_, ?_⟩
      · rw [hw]; exact y2 _ _ z4
      · rw [hw]; exact z5.mono y2
  refine pqr_pr fun σ' H' ⟨v4, l, x7, x8, z1, z2, z3, z4, z5⟩ => ?_
  subst z1
  have hl' : Is K H' (dL (walkW ns g a m.toNat).1) (.ref l) := .lst (SqL.of z4) (.ints _)
  exact ⟨_, pr_ret (pd_tup (pda_cons (pd_var 5 rfl hl') (pda_cons (pd_var 4 rfl z5) pda_nil))), fun v H2 e2 hv => ⟨z2.trans e2, hv⟩⟩
end
end Q
set_option Elab.async false
set_option linter.all false
set_option maxRecDepth 100000
set_option maxHeartbeats 4000000
namespace Q
open PySem PySem.Spec PyProof.Rows L2 L3
section
variable {P : Program} {w : World} {K : PySem.W.Frag} {mg : Str → Option Value} {base : Heap} {C CR : Addr}
structure Ty (K : PySem.W.Frag) (mg : Str → Option Value) (CR : Addr) : Prop where
  cl : Cls K CR
  n1 : NoAttr K CR "goal"
  n2 : NoAttr K CR "lead"
  n3 : NoAttr K CR "part"
  n4 : NoAttr K CR "cost"
  mgR : mg "Race" = some (.ref CR)
  ml : ∃ t, mg "MATCH_LEAD" = some (.int 1 t)
  zero : ∃ a, mg "ZERO" = some (.ref a) ∧ ∀ H, Is K H (dP (0, 1)) (.ref a)
  one : ∃ a, mg "ONE" = some (.ref a) ∧ ∀ H, Is K H (dP (1, 1)) (.ref a)
abbrev rN : List Str := ["goal", "lead", "part", "cost"]
def dR (CR : Addr) (g l : Int) (part cost : M.Pr) : D := .ob CR rN [.int g, .int l, dP part, dP cost]
def R_gcd (ds : List D) (r : D) : Prop := ∃ x y, ds = [.int x, .int y] ∧ 0 ≤ y ∧ r = .int (Int.gcd x y)
def mu1 : L2.St → Nat
  | _ :: some (.int v) :: _ => v.toNat
  | _ => 0
theorem ok_gcd (T : Tx K mg C) (h : Has K mg "common_divisor" st_common_divisor ["one", "other"]) : Does P w K mg base 1 "common_divisor" ["one", "other"] R_gcd := by
  refine h.does sc_common_divisor (fun ds r ⟨_, _, e, _⟩ => by rw [e]; rfl) fun f cdv A outer s H E vs ds r hr hl hR => ?_
  obtain ⟨x, y, rfl, hy, rfl⟩ := hR
  obtain ⟨v0, v1, rfl, h0, h1⟩ := isL2 hl
  cases h0; cases h1
  refine pr_cons (Post := fun σ' _ => ∃ u z, σ' = [some (.int u), some (.int 0), z] ∧ Int.gcd u 0 = Int.gcd x y)
    (pn1_while (fun σ' _ => ∃ u v z, σ' = [some (.int u), some (.int v), z] ∧ 0 ≤ v ∧ Int.gcd u v = Int.gcd x y) mu1 PassesOwn.never (fun _ _ => ⟨x, y, none, rfl, hy, rfl⟩) fun σ1 H1 e1 ⟨u, v, z, hs, hv, hg⟩ => ?_) (fun σ' H2 e2 ⟨u, z, hs, hg⟩ => ?_)
  · subst hs
    refine ⟨_, pdt_neI (pd_var 1 rfl (.int _)) pd_int, fun hk => ?_, fun hk H2 e2 => ?_⟩
    · have hv0 : ¬ v = 0 := by simpa using hk
      have hv' : 0 < v := by omega
      refine pn_cons (P := fun σ' _ => σ' = [some (.int u), some (.int v), some (.int (u % v))]) (pn1_set 2 sc_common_divisor.nd (pd_mod (pd_var 0 rfl (.int _)) (pd_var 1 rfl (.int _)) hv') fun v' H2 e2 h2 => by cases h2; rfl) fun σ2 H2 e2 hs2 => ?_
      subst hs2
      refine pn_cons (P := fun σ' _ => σ' = [some (.int v), some (.int v), some (.int (u % v))]) (pn1_set 0 sc_common_divisor.nd (pd_var 1 rfl (.int _)) fun v' H3 e3 h3 => by cases h3; rfl) fun σ3 H3 e3 hs3 => ?_
      subst hs3
      refine pn_one (pn1_set 1 sc_common_divisor.nd (pd_var 2 rfl (.int _)) fun v' H4 e4 h4 => ?_)
      cases h4
      refine ⟨⟨v, u % v, _, rfl, Int.emod_nonneg _ hv0, (M.gcd_step hv').trans hg⟩, ?_⟩
      have := Int.emod_lt_of_pos u hv'
      have := Int.emod_nonneg u hv0
      show (u % v).toNat < v.toNat
      omega
    · have hv0 : v = 0 := by simpa using hk
      subst hv0
      exact ⟨u, z, rfl, hg⟩
  · subst hs
    refine (pr_ret (pd_abs T.abs (pd_var 0 rfl (.int _)))).cast ?_
    rw [← hg]
    congr 1
    unfold absI
    simp only [Int.gcd_zero_right]
    split <;> omega
def R_cm (ds : List D) (r : D) : Prop := ∃ x y, ds = [.int x, .int y] ∧ 0 < x ∧ 0 < y ∧ M.Bd 8000 x ∧ M.Bd 4000 y ∧ r = .int (M.cm x y)
theorem ok_cm (d1 : Does P w K mg base 1 "common_divisor" ["one", "other"] R_gcd) (h : Has K mg "common_multiple" st_common_multiple ["one", "other"]) : Does P w K mg base 2 "common_multiple" ["one", "other"] R_cm := by
  refine h.does sc_common_multiple (fun ds r ⟨_, _, e, _⟩ => by rw [e]; rfl) fun f cdv A outer s H E vs ds r hr hl hR => ?_
  obtain ⟨x, y, rfl, hx, hy, bx, bY, rfl⟩ := hR
  obtain ⟨v0, v1, rfl, h0, h1⟩ := isL2 hl
  cases h0; cases h1
  have hg := M.gcd_pos' (y := y) hx
  have bg : M.Bd 8999 (Int.gcd x y : Int) := (bx.le (Int.le_of_lt hg) (M.gcd_le' hx)).mono (by omega)
  have bd : M.Bd 8000 (x / (Int.gcd x y : Int)) := bx.le (Int.ediv_nonneg bx.1 (Int.le_of_lt hg)) (M.ediv_le' bx.1 hg)
  exact pr_ret (pd_mulB (pd_divB (pd_var 0 rfl (.int _)) (pd_does d1 hr (pda_cons (pd_var 0 rfl (.int _)) (pda_cons (pd_var 1 rfl (.int _)) pda_nil)) ⟨_, _, rfl, Int.le_of_lt hy, rfl⟩) (bg.cdiv hg)) (pd_var 1 rfl (.int _)) (bd.cmul bY (by decide)))
def R_fraction (ds : List D) (r : D) : Prop := ∃ x y, ds = [.int x, .int y] ∧ 0 < y ∧ M.Bd 8000 y ∧ r = dP (M.low x y)
theorem ok_fraction (d1 : Does P w K mg base 1 "common_divisor" ["one", "other"] R_gcd) (h : Has K mg "fraction" st_fraction ["top", "bottom"]) : Does P w K mg base 2 "fraction" ["top", "bottom"] R_fraction := by
  refine h.does sc_fraction (fun ds r ⟨_, _, e, _⟩ => by rw [e]; rfl) fun f cdv A outer s H E vs ds r hr hl hR => ?_
  obtain ⟨x, y, rfl, hy, bY, rfl⟩ := hR
  obtain ⟨v0, v1, rfl, h0, h1⟩ := isL2 hl
  cases h0; cases h1
  have hg : (0 : Int) < (Int.gcd x y : Int) := by
    have := Int.gcd_pos_of_ne_zero_right x (b := y) (by omega)
    omega
  have bg : M.Bd 8999 (Int.gcd x y : Int) := (bY.le (Int.le_of_lt hg) (M.gcd_le_r hy)).mono (by omega)
  refine pr_set 2 sc_fraction.nd (pd_does d1 hr (pda_cons (pd_var 0 rfl (.int _)) (pda_cons (pd_var 1 rfl (.int _)) pda_nil)) ⟨_, _, rfl, Int.le_of_lt hy, rfl⟩) fun v2 H2 e2 h2 => ?_
  cases h2
  refine pr_cons (Post := fun σ' _ => σ' = [some (.int x), some (.int y), some (.int (Int.gcd x y : Int))]) (pn1_if (pdt_lt (pd_var 1 rfl (.int _)) pd_int) (fun z => absurd (of_decide_eq_true z) (by omega)) (fun _ => pn_nil fun _ _ => rfl)) fun σ' H3 e3 hs => ?_
  subst hs
  exact pr_ret (pd_tup (pda_cons (pd_divB (pd_var 0 rfl (.int _)) (pd_var 2 rfl (.int _)) (bg.cdiv hg)) (pda_cons (pd_divB (pd_var 1 rfl (.int _)) (pd_var 2 rfl (.int _)) (bg.cdiv hg)) pda_nil)))
def R_badpart (ds : List D) (r : D) : Prop := ∃ q : M.Pr, ds = [dP q] ∧ 0 ≤ q.1 ∧ q.1 ≤ q.2 ∧ r = .non
theorem ok_badpart (h : Has K mg "refuse_bad_part" st_refuse_bad_part ["part"]) : Does P w K mg base 1 "refuse_bad_part" ["part"] R_badpart := by
  refine h.doesF sc_refuse_bad_part (fun ds r ⟨_, e, _⟩ => by rw [e]; rfl) (fun ds r ⟨_, _, _, _, e⟩ => e) fun f cdv A outer s H E vs ds hr hl hR => ?_
  obtain ⟨q, rfl, h1, h2, _⟩ := hR
  obtain ⟨v0, rfl, h0⟩ := isL1 hl
  exact pf_of (pn_one (pn1_if (PDW.pt (pdw_or (pdt_lt (pd_ixT (d := .int q.1) (pd_var 0 rfl h0) pd_int) pd_int) fun _ => pdw_or1 (pdt_gt (pd_ixT (d := .int q.1) (pd_var 0 rfl h0) pd_int) (pd_ixT (d := .int q.2) (pd_var 0 rfl h0) pd_int))))
    (fun z => absurd z (by simp; omega)) (fun _ => pn_nil fun _ _ => trivial)))
def R_lowest (ds : List D) (r : D) : Prop := ∃ q : M.Pr, ds = [dP q] ∧ 0 < q.2 ∧ M.Bd 8000 q.2 ∧ r = dP (M.low q.1 q.2)
theorem ok_lowest (d1 : Does P w K mg base 2 "fraction" ["top", "bottom"] R_fraction) (h : Has K mg "lowest" st_lowest ["one"]) : Does P w K mg base 3 "lowest" ["one"] R_lowest := by
  refine h.does sc_lowest (fun ds r ⟨_, e, _⟩ => by rw [e]; rfl) fun f cdv A outer s H E vs ds r hr hl hR => ?_
  obtain ⟨q, rfl, h1, h2, rfl⟩ := hR
  obtain ⟨v0, rfl, h0⟩ := isL1 hl
  exact pr_ret (pd_does d1 hr (pda_cons (pd_ixT (d := .int q.1) (pd_var 0 rfl h0) pd_int) (pda_cons (pd_ixT (d := .int q.2) (pd_var 0 rfl h0) pd_int) pda_nil)) ⟨_, _, rfl, h1, h2, rfl⟩)
def R_top_over (ds : List D) (r : D) : Prop := ∃ (q : M.Pr) (B : Int), ds = [dP q, .int B] ∧ 0 < q.2 ∧ M.Bd 4000 q.2 ∧ M.Bd 20000 q.1 ∧ M.Bd 12000 B ∧ r = .int (M.tp q B)
theorem ok_top_over (h : Has K mg "top_over" st_top_over ["one", "bottom"]) : Does P w K mg base 1 "top_over" ["one", "bottom"] R_top_over := by
  refine h.does sc_top_over (fun ds r ⟨_, _, e, _⟩ => by rw [e]; rfl) fun f cdv A outer s H E vs ds r hr hl hR => ?_
  obtain ⟨q, B, rfl, h1, b1, b2, b3, rfl⟩ := hR
  obtain ⟨v0, v1, rfl, h0, h2⟩ := isL2 hl
  cases h2
  have b4 : M.Bd 12000 (B / q.2) := b3.le (Int.ediv_nonneg b3.1 (Int.le_of_lt h1)) (M.ediv_le' b3.1 h1)
  exact pr_ret (pd_mulB (pd_ixT (d := .int q.1) (pd_var 0 rfl h0) pd_int) (pd_divB (pd_var 1 rfl (.int _)) (pd_ixT (d := .int q.2) (pd_var 0 rfl h0) pd_int) ((b1.mono (by omega)).cdiv h1)) (b2.cmul b4 (by decide)))
theorem lookF (f g : Str) (v : V) (fs : List (Str × V)) : (putF f v fs).lookup g = if g = f then some v else fs.lookup g := lookup_putF ..
def fsRace (g l : Int) (vp vc : V) : List (Str × V) := putF "cost" vc (putF "part" vp (putF "lead" (.int l) (putF "goal" (.int g) [])))
theorem race_is {H : Hp} {p dx : Addr} {g l : Int} {part cost : M.Pr} {vp vc : V} (h : H p = some (.ins CR dx (fsRace g l vp vc))) (hp : Is K H (dP part) vp) (hc : Is K H (dP cost) vc) : Is K H (dR CR g l part cost) (.ref p) := by
  refine .ob (vs := [.int g, .int l, vp, vc]) h ?_ ?_ (.cons (.int _) (.cons (.int _) (.cons hp (.cons hc .nil))))
  · show [_, _, _, _] = [_, _, _, _]
    unfold fsRace
    simp only [lookF]
    rfl
  · intro m hm
    unfold fsRace
    simp only [rN, List.mem_cons, List.not_mem_nil, not_or, or_false] at hm
    obtain ⟨m1, m2, m3, m4⟩ := hm
    simp only [lookF]
    rw [if_neg m4, if_neg m3, if_neg m2, if_neg m1]
    rfl
def R_Race (ds fds : List D) : Prop := ∃ g l part cost, ds = [.int g, .int l, dP part, dP cost] ∧ fds = [.int g, .int l, dP part, dP cost]
theorem ok_Race {fI : Addr} {fdI : FuncData} (T : Ty K mg CR) (MM : Mk K CR fI) (F : Fun K "__init__" "Race.__init__" st_Race___init__ fI fdI) (hb : Binds K fdI ["self", "goal", "lead", "part", "cost"] []) :
    MakesO P w K mg base 2 CR "Race" ["self", "goal", "lead", "part", "cost"] rN R_Race := by
  refine ⟨fI, fdI, ?_, MM, T.mgR, hb⟩
  refine F.ok sc_Race___init__ (fun vs H Q E ⟨p, dx, us, ds, fds, e, hl, ⟨g, l, part, cost, e2, _⟩, _⟩ => by subst e2; obtain ⟨v1, v2, v3, v4, rfl, _⟩ := isL4 hl; rw [e]; rfl) fun cdv A outer s H vs Q E hr h => ?_
  obtain ⟨p, dx, us, ds, fds, rfl, hl, ⟨g, l, part, cost, rfl, rfl⟩, hp, q⟩ := h
  obtain ⟨v1, v2, v3, v4, rfl, h1, h2, h3, h4⟩ := isL4 hl
  cases h1; cases h2
  obtain ⟨a3, rfl, q3⟩ := dP_inv h3
  obtain ⟨a4, rfl, q4⟩ := dP_inv h4
  let Z : List (Str × V) → L2.St → Hp → Prop := fun fs σ' H' => σ' = [some (.ref p), some (.int g), some (.int l), some (.ref a3), some (.ref a4)] ∧ H' p = some (.ins CR dx fs) ∧ ∀ b o, H b = some o → b ≠ p → H' b = some o
  have keepT : ∀ {H' : Hp} {q : M.Pr} {a : Addr}, SqT K H a [.int q.1, .int q.2] → (∀ b o, H b = some o → b ≠ p → H' b = some o) → Is K H' (dP q) (.ref a) := fun {H' q a} hq k => by
    refine .tup (xs := [.int q.1, .int q.2]) ?_ (.cons (.int _) (.cons (.int _) .nil))
    rcases hq with (z | ⟨o, z⟩) | z
    · exact .inl (.inl (k _ _ z (ne_of z hp (by intro y; cases y))))
    · exact .inl (.inr ⟨o, k _ _ z (ne_of z hp (by intro y; cases y))⟩)
    · exact .inr z
  refine ⟨_, (?_ : PQ _ _ (fun σ' H' => σ' = [some (.ref p), some (.int g), some (.int l), some (.ref a3), some (.ref a4)] ∧ H' = H) (Z (fsRace g l (.ref a3) (.ref a4)))), ⟨rfl, rfl⟩, fun σ' H' ⟨_, z2, z3⟩ => q H' z3 (race_is z2 (keepT q3 z3) (keepT q4 z3))⟩
  have put : ∀ {fs σ H1 H2} (f : Str) (v : V), Z fs σ H1 → Same H1 H2 → Z (putF f v fs) σ (upd H2 p (.ins CR dx (putF f v fs))) := fun {fs σ H1 H2} f v ⟨z1, z2, z3⟩ e =>
    ⟨z1, upd_same, fun b o hb hne => by rw [upd_ne hne]; exact e _ _ (z3 b o hb hne)⟩
  have l1 := putF_len "goal" (.int g) []
  have l2 := putF_len "lead" (.int l) (putF "goal" (.int g) [])
  have l3 := putF_len "part" (.ref a3) (putF "lead" (.int l) (putF "goal" (.int g) []))
  simp only [List.length_nil] at l1
  refine pq_cons (Mid := Z (putF "goal" (.int g) [])) (pq1_fld fun σ H1 z => by
    obtain ⟨z1, z2⟩ := z
    subst z1; subst z2
    exact ⟨p, CR, dx, _, .int g, pd_var 0 rfl (.adr p), hp, T.cl, T.n1, by simp, pd_var 1 rfl (.int _), fun v H2 e hv => by cases hv; exact put (fs := []) (σ := [some (.ref p), some (.int g), some (.int l), some (.ref a3), some (.ref a4)]) _ _ ⟨rfl, hp, fun b o e _ => e⟩ e⟩) ?_
  refine pq_cons (Mid := Z (putF "lead" (.int l) (putF "goal" (.int g) []))) (pq1_fld fun σ H1 z => by
    have z' := z
    obtain ⟨z1, z2, z3⟩ := z'
    subst z1
    exact ⟨p, CR, dx, _, .int l, pd_var 0 rfl (.adr p), z2, T.cl, T.n2, by omega, pd_var 2 rfl (.int _), fun v H2 e hv => by cases hv; exact put _ _ z e⟩) ?_
  refine pq_cons (Mid := Z (putF "part" (.ref a3) (putF "lead" (.int l) (putF "goal" (.int g) [])))) (pq1_fld fun σ H1 z => by
    have z' := z
    obtain ⟨z1, z2, z3⟩ := z'
    subst z1
    exact ⟨p, CR, dx, _, .adr a3, pd_var 0 rfl (.adr p), z2, T.cl, T.n3, by omega, pd_var 3 rfl (.adr a3), fun v H2 e hv => by cases hv; exact put _ _ z e⟩) ?_
  exact pq_one (pq1_fld fun σ H1 z => by
    have z' := z
    obtain ⟨z1, z2, z3⟩ := z'
    subst z1
    exact ⟨p, CR, dx, _, .adr a4, pd_var 0 rfl (.adr p), z2, T.cl, T.n4, by omega, pd_var 4 rfl (.adr a4), fun v H2 e hv => by cases hv; exact put _ _ z e⟩)
theorem no_m {m : Str} (h : ¬ m = "goal" ∧ ¬ m = "lead" ∧ ¬ m = "part" ∧ ¬ m = "cost") : m ∉ rN := by simp [rN]; exact h
def R_lacks (CR : Addr) (ds : List D) (r : D) : Prop := ∃ g l part cost q, ds = [dR CR g l part cost, dP q] ∧ r = dP (M.lk0 g q, M.lk1 g q)
theorem ok_lacks (T : Tx K mg C) (Y : Ty K mg CR) (h : HasM K CR "lacks" "Race.lacks" st_Race_lacks ["self", "pair"]) : DoesM P w K mg base 1 CR "lacks" ["self", "pair"] (R_lacks CR) := by
  refine h.does sc_Race_lacks (fun ds r ⟨_, _, _, _, _, e, _⟩ => by rw [e]; rfl) fun f cdv A outer s H E vs ds r hr hl hR => ?_
  obtain ⟨g, l, part, cost, q, rfl, rfl⟩ := hR
  obtain ⟨v0, v1, rfl, h0, h1⟩ := isL2 hl
  refine pr_set 2 sc_Race_lacks.nd (pd_max2 rfl T.max (pd_add (pd_sub (pd_max rfl T.max (pd_var 1 rfl h1)) (pd_fldO (d := .int g) 0 (pd_var 0 rfl h0) Y.cl Y.n1)) pd_int) pd_int) fun v2 H2 e2 h2 => ?_
  cases h2
  replace h0 := h0.mono e2
  replace h1 := h1.mono e2
  exact pr_ret (pd_tup (pda_cons (pd_sub (pd_add (pd_fldO (d := .int g) 0 (pd_var 0 rfl h0) Y.cl Y.n1) (pd_var 2 rfl (.int _))) (pd_ixT (d := .int q.1) (pd_var 1 rfl h1) pd_int))
    (pda_cons (pd_sub (pd_add (pd_fldO (d := .int g) 0 (pd_var 0 rfl h0) Y.cl Y.n1) (pd_var 2 rfl (.int _))) (pd_ixT (d := .int q.2) (pd_var 1 rfl h1) pd_int)) pda_nil)))
def R_level (CR : Addr) (ds : List D) (r : D) : Prop := ∃ (g l : Int) (part cost : M.Pr) (t0 t1 t2 : Int), ds = [dR CR g l part cost, .lst [.int t0, .int t1, .int t2]] ∧ M.IsPart part ∧ M.Bd 400 part.2 ∧ M.Bd 60000 t0 ∧ M.Bd 60000 t1 ∧ M.Bd 60000 t2 ∧ r = dP (M.lvI l part.1 part.2 t0 t1 t2)
theorem ok_level (Y : Ty K mg CR) (h : HasM K CR "level" "Race.level" st_Race_level ["self", "tops"]) : DoesM P w K mg base 1 CR "level" ["self", "tops"] (R_level CR) := by
  refine h.does sc_Race_level (fun ds r ⟨_, _, _, _, _, _, _, e, _⟩ => by rw [e]; rfl) fun f cdv A outer s H E vs ds r hr hl hR => ?_
  obtain ⟨g, l, part, cost, t0, t1, t2, rfl, hp, hb, b0, b1, b2, rfl⟩ := hR
  obtain ⟨v0, v1, rfl, h0, h1⟩ := isL2 hl
  obtain ⟨tm, hml⟩ := Y.ml
  have hA : M.Bd 400 part.1 := hb.le hp.n hp.l
  have hD : M.Bd 400 (part.2 - part.1) := hb.le (by have := hp.l; omega) (by have := hp.n; omega)
  refine pr_set 2 sc_Race_level.nd (pd_ixT (d := .int part.1) (pd_fldO (d := dP part) 2 (pd_var 0 rfl h0) Y.cl Y.n3) pd_int) fun v2 H2 e2 h2 => ?_
  cases h2
  replace h0 := h0.mono e2
  replace h1 := h1.mono e2
  refine pr_set 3 sc_Race_level.nd (pd_ixT (d := .int part.2) (pd_fldO (d := dP part) 2 (pd_var 0 rfl h0) Y.cl Y.n3) pd_int) fun v3 H3 e3 h3 => ?_
  cases h3
  replace h0 := h0.mono e3
  replace h1 := h1.mono e3
  refine pr_set 4 sc_Race_level.nd (pd_sub (pd_var 3 rfl (.int _)) (pd_var 2 rfl (.int _))) fun v4 H4 e4 h4 => ?_
  cases h4
  replace h0 := h0.mono e4
  replace h1 := h1.mono e4
  refine pr_if (pdt_eqI (pd_fldO (d := .int l) 1 (pd_var 0 rfl h0) Y.cl Y.n2) (pd_globI hml)) (fun z => (pr_ret (pd_tup (pda_cons (pd_add (pd_add (pd_mulB (pd_var 2 rfl (.int _)) (pd_ixL (d := .int t0) (pd_var 1 rfl h1) pd_int) (hA.cmul b0 (by decide)))
      (pd_mulB (pd_var 4 rfl (.int _)) (pd_ixL (d := .int t1) (pd_var 1 rfl h1) pd_int) (hD.cmul b1 (by decide)))) (pd_mulB (pd_var 3 rfl (.int _)) (pd_ixL (d := .int t2) (pd_var 1 rfl h1) pd_int) (hb.cmul b2 (by decide)))) (pda_cons (pd_var 3 rfl (.int _)) pda_nil)))).cast ?_) (fun z => ?_)
  · unfold M.lvI; rw [if_pos (of_decide_eq_true z)]; rfl
  refine pr_set 5 sc_Race_level.nd (pd_add (pd_add (pd_mulB (pd_mulB (pd_var 2 rfl (.int _)) (pd_var 2 rfl (.int _)) (hA.cmul hA (by decide))) (pd_ixL (d := .int t0) (pd_var 1 rfl h1) pd_int) ((hA.mul hA).cmul b0 (by decide)))
    (pd_mulB (pd_mulB (pd_var 4 rfl (.int _)) (pd_var 4 rfl (.int _)) (hD.cmul hD (by decide))) (pd_ixL (d := .int t1) (pd_var 1 rfl h1) pd_int) ((hD.mul hD).cmul b1 (by decide))))
    (pd_mulB (pd_mulB (pd_mulB pd_int (pd_var 3 rfl (.int _)) (M.Bd.cmul (k := 1) (x := 2) ⟨by decide, by decide⟩ hb (by decide))) (pd_var 3 rfl (.int _)) ((M.Bd.mul (k := 1) (x := 2) ⟨by decide, by decide⟩ hb).cmul hb (by decide)))
      (pd_ixL (d := .int t2) (pd_var 1 rfl h1) pd_int) (((M.Bd.mul (k := 1) (x := 2) ⟨by decide, by decide⟩ hb).mul hb).cmul b2 (by decide)))) fun v5 H5 e5 h5 => ?_
  cases h5
  refine (pr_ret (pd_tup (pda_cons (pd_var 5 rfl (.int _)) (pda_cons (pd_add (pd_mulB (pd_var 2 rfl (.int _)) (pd_var 2 rfl (.int _)) (hA.cmul hA (by decide))) (pd_mulB (pd_var 4 rfl (.int _)) (pd_var 4 rfl (.int _)) (hD.cmul hD (by decide)))) pda_nil)))).cast ?_
  unfold M.lvI; rw [if_neg (of_decide_eq_false z)]; rfl
end
end Q
set_option Elab.async false
set_option linter.all false
set_option maxRecDepth 100000
set_option maxHeartbeats 4000000
namespace Q
open PySem PySem.Spec PyProof.Rows L2 L3
section
variable {P : Program} {w : World} {K : PySem.W.Frag} {mg : Str → Option Value} {base : Heap} {C CR : Addr}
def TzI (part : M.Pr) (t0 t1 t2 s0 top : Int) (a b : Int) : Int := M.Tz part.1 part.2 t0 t1 t2 s0 top a.toNat b.toNat
def scl (s0 b : Int) (n : Nat) : List Int := (List.range n).map (M.Sk s0 b)
def R_top_from (CR : Addr) (ds : List D) (r : D) : Prop := ∃ (g l : Int) (part cost : M.Pr) (i j top s0 t0 t1 t2 : Int), ds = [dR CR g l part cost, dP (i, j), .int top, dL (scl s0 part.2 (i + j - 1).toNat), .lst [.int t0, .int t1, .int t2]] ∧
  1 ≤ i ∧ 1 ≤ j ∧ i + j ≤ 12 ∧ M.IsPart part ∧ M.Bd 400 part.2 ∧ M.Bd 60000 t0 ∧ M.Bd 60000 t1 ∧ M.Bd 60000 t2 ∧ M.Bd 60000 s0 ∧ M.Bd 120000 top ∧ r = .int (TzI part t0 t1 t2 s0 top i j)
theorem ne11 {a b : Int} : (!eqD (dP (a, b)) (dP (1, 1))) = !decide (a = 1 ∧ b = 1) := by
  congr 1
  simp [eqD, dP, toPy, toPys, PyData.eqv, PyData.eqvAll]
  by_cases h1 : a = 1 <;> by_cases h2 : b = 1 <;> simp [h1, h2]
theorem ok_top_from (T : Tx K mg C) (Y : Ty K mg CR) (h : HasM K CR "top_from" "Race.top_from" st_Race_top_from ["self", "lacks", "level_top", "scales", "tops"]) : DoesM P w K mg base 1 CR "top_from" ["self", "lacks", "level_top", "scales", "tops"] (R_top_from CR) := by
  refine h.does sc_Race_top_from (fun ds r ⟨_, _, _, _, _, _, _, _, _, _, _, e, _⟩ => by rw [e]; rfl) fun f cdv A outer s H E vs ds r hr hl hR => ?_
  obtain ⟨g, l, part, cost, i, j, top, s0, t0, t1, t2, rfl, hi, hj, hij, hp, hb, b0, b1, b2, bs, bt, rfl⟩ := hR
  obtain ⟨v0, vr, rfl, h0, hl'⟩ : ∃ v0 vr, vs = v0 :: vr ∧ Is K H (dR CR g l part cost) v0 ∧ IsL K H [dP (i, j), .int top, dL (scl s0 part.2 (i + j - 1).toNat), .lst [.int t0, .int t1, .int t2]] vr := by
    cases hl with | cons a b => exact ⟨_, _, rfl, a, b⟩
  obtain ⟨v1, v2, v3, v4, rfl, h1, h2, h3, h4⟩ := isL4 hl'
  cases h2
  have hu := hu64 hr
  have F := TzI part t0 t1 t2 s0 top
  have hA : M.Bd 400 part.1 := hb.le hp.n hp.l
  have hD : M.Bd 400 (part.2 - part.1) := hb.le (by have := hp.l; omega) (by have := hp.n; omega)
  have bS : ∀ k, k ≤ 12 → M.Bd 70000 (M.Sk s0 part.2 k) := fun k hk => (M.Sk_Bd bs hb k).mono (by have := Nat.mul_le_mul_left 400 hk; omega)
  have bT : ∀ a b : Nat, ¬ (a = 0 ∧ b = 0) → a + b ≤ 24 → M.Bd 130000 (M.Tz part.1 part.2 t0 t1 t2 s0 top a b) := fun a b hz hab =>
    (M.Tz_Bd (n := 400) (m := 60000) (u := 60000) bs hp.n hp.l hb b0 b1 b2 bt a b hz).mono (by have := Nat.mul_le_mul_left 402 hab; omega)
  refine pr_pqr fun H1 e1 => ?_
  replace h0 := h0.mono e1
  replace h1 := h1.mono e1
  replace h3 := h3.mono e1
  replace h4 := h4.mono e1
  let Z : (Int → Int → Prop) → Nat → L2.St → Hp → Prop := fun S n σ' H' => ∃ lo kvs x6 x7 x8 x9 x10, σ' = [some v0, some v1, some (.int top), some v3, some v4, some (.ref lo), x6, x7, x8, x9, x10] ∧ Same H1 H' ∧ H1 lo = none ∧ H' lo = some (.dT kvs) ∧ kvs.length ≤ n ∧
    ∀ a b, S a b → valV kvs (k2 a b) = some (.int (TzI part t0 t1 t2 s0 top a b))
  let S1 : Nat → Int → Int → Prop := fun n a b => (a = 1 ∧ b = 1) ∨ (a = 0 ∧ 2 ≤ b ∧ b < 2 + n)
  let S2 : Nat → Int → Int → Prop := fun n a b => S1 (j - 1).toNat a b ∨ (b = 0 ∧ 2 ≤ a ∧ a < 2 + n)
  let S3 : Nat → Nat → Int → Int → Prop := fun n m a b => S2 (i - 1).toNat a b ∨ (1 ≤ a ∧ a < 1 + n ∧ 1 ≤ b ∧ b ≤ j) ∨ (a = 1 + n ∧ 1 ≤ b ∧ b < 1 + m)
  have keepZ : ∀ {S n σ' H' H2}, Z S n σ' H' → Same H' H2 → Z S n σ' H2 := fun {S n σ' H' H2} ⟨lo, kvs, x6, x7, x8, x9, x10, z1, z2, z3, z4, z5, z6⟩ e => ⟨lo, kvs, x6, x7, x8, x9, x10, z1, z2.trans e, z3, e _ _ z4, z5, z6⟩
  have big : ∀ {n : Nat}, n ≤ 1000 → n < sizeLine := fun {n} h => by rw [sizeLine_eq]; omega
  have sat : ∀ {k : Int}, 0 ≤ k → k < (i + j - 1).toNat → atI ((scl s0 part.2 (i + j - 1).toNat).map D.int) k = some (.int (M.Sk s0 part.2 k.toNat)) := fun a b => at_range a b
  refine pqr_cons (Mid := Z (S1 0) 1) (pq1_dnewP 5 sc_Race_top_from.nd hu fun σ' H' ⟨z1, z2⟩ => ?_) ?_
  · subst z1; subst z2
    refine ⟨1, 1, .int top, pda_cons pd_int (pda_cons pd_int pda_nil), pd_var 2 rfl (.int _), fun lo v H2 e2 hn hv hl2 => ?_⟩
    cases hv
    refine ⟨lo, _, none, none, none, none, none, rfl, e2, hn, hl2, Nat.le_refl _, fun a b hs => ?_⟩
    rcases hs with ⟨rfl, rfl⟩ | ⟨_, q1, q2⟩
    · show valV [(k2 1 1, V.int top)] (k2 1 1) = some (.int (M.Tz part.1 part.2 t0 t1 t2 s0 top 1 1))
      rw [valV_pos rfl, M.Tz_11]
    · omega
  refine pqr_cons (Mid := Z (S1 (j - 1).toNat) 20) (pq1_forR2 (lo := 2) (hi := j + 1) 6 (fun n => Z (S1 n) (1 + n)) PassesOwn.never rfl sc_Race_top_from.nd T.range (fun σ' H' ⟨lo, kvs, x6, x7, x8, x9, x10, z1, z2, z3, z4, z5, z6⟩ => by
      subst z1
      exact ⟨pd_int, pd_add (pd_ixT (d := .int j) (pd_var 1 rfl (h1.mono z2)) pd_int) pd_int⟩) (by omega) (fun σ' H' H2 z e => keepZ z e) (fun n hn => ?_) (fun σ' H' ⟨lo, kvs, x6, x7, x8, x9, x10, z1, z2, z3, z4, z5, z6⟩ => ⟨lo, kvs, x6, x7, x8, x9, x10, z1, z2, z3, z4, by omega, fun a b hs => z6 a b (by
        rcases hs with q | q
        · exact .inl q
        · exact .inr (by omega))⟩)) ?_
  · refine pq_one (pq1_dputP hu fun σ' H' ⟨σ1, zz, lo, kvs, x6, x7, x8, x9, x10, z1, z2, z3, z4, z5, z6⟩ => ?_)
    subst z1; subst zz
    have hk : ((2 : Int) + n - 2).toNat = n := by omega
    refine ⟨lo, kvs, 0, 2 + n, .int (t0 * M.Sk s0 part.2 n), pd_var 5 rfl (.adr lo), z4, big (by omega), pda_cons pd_int (pda_cons (pd_var 6 rfl (.int _)) pda_nil),
      pd_mulB (pd_ixL (d := .int t0) (pd_var 4 rfl (h4.mono z2)) pd_int) (pd_ixL (pd_var 3 rfl (h3.mono z2)) (pd_sub (pd_var 6 rfl (.int _)) pd_int) (by rw [sat (by omega) (by omega), hk])) (b0.cmul (bS n (by omega)) (by decide)), fun v H2 e2 hv => ?_⟩
    cases hv
    refine ⟨lo, _, _, _, _, _, _, rfl, fun b o e => by rw [upd_ne (ne_of_none e z3)]; exact e2 _ _ (z2 _ _ e), z3, upd_same, by have := length_putK kvs (k2 0 (2 + n)) (.int (t0 * M.Sk s0 part.2 n)); omega, ?_⟩
    have hF : TzI part t0 t1 t2 s0 top 0 (2 + n) = t0 * M.Sk s0 part.2 n := by
      unfold TzI
      rw [show (0 : Int).toNat = 0 from rfl, M.Tz_0, show ((2 : Int) + n).toNat - 2 = n by omega]
    rw [← hF]
    refine fill_put z6 fun a b hs => ?_
    rcases hs with q | q
    · exact .inl (.inl q)
    · by_cases e : b = 2 + n
      · exact .inr ⟨q.1, e⟩
      · exact .inl (.inr (by omega))
  refine pqr_cons (Mid := Z (S2 (i - 1).toNat) 40) (pq1_forR2 (lo := 2) (hi := i + 1) 6 (fun n => Z (S2 n) (20 + n)) PassesOwn.never rfl sc_Race_top_from.nd T.range (fun σ' H' ⟨lo, kvs, x6, x7, x8, x9, x10, z1, z2, z3, z4, z5, z6⟩ => by
      subst z1
      exact ⟨pd_int, pd_add (pd_ixT (d := .int i) (pd_var 1 rfl (h1.mono z2)) pd_int) pd_int⟩) (by omega) (fun σ' H' H2 ⟨lo, kvs, x6, x7, x8, x9, x10, z1, z2, z3, z4, z5, z6⟩ e => ⟨lo, kvs, x6, x7, x8, x9, x10, z1, z2.trans e, z3, e _ _ z4, by omega, fun a b hs => z6 a b (by
        rcases hs with q | q
        · exact q
        · omega)⟩) (fun n hn => ?_) (fun σ' H' ⟨lo, kvs, x6, x7, x8, x9, x10, z1, z2, z3, z4, z5, z6⟩ => ⟨lo, kvs, x6, x7, x8, x9, x10, z1, z2, z3, z4, by omega, fun a b hs => z6 a b (by
        rcases hs with q | q
        · exact .inl q
        · exact .inr (by omega))⟩)) ?_
  · refine pq_one (pq1_dputP hu fun σ' H' ⟨σ1, zz, lo, kvs, x6, x7, x8, x9, x10, z1, z2, z3, z4, z5, z6⟩ => ?_)
    subst z1; subst zz
    have hk : ((2 : Int) + n - 2).toNat = n := by omega
    refine ⟨lo, kvs, 2 + n, 0, .int (t1 * M.Sk s0 part.2 n), pd_var 5 rfl (.adr lo), z4, big (by omega), pda_cons (pd_var 6 rfl (.int _)) (pda_cons pd_int pda_nil),
      pd_mulB (pd_ixL (d := .int t1) (pd_var 4 rfl (h4.mono z2)) pd_int) (pd_ixL (pd_var 3 rfl (h3.mono z2)) (pd_sub (pd_var 6 rfl (.int _)) pd_int) (by rw [sat (by omega) (by omega), hk])) (b1.cmul (bS n (by omega)) (by decide)), fun v H2 e2 hv => ?_⟩
    cases hv
    refine ⟨lo, _, _, _, _, _, _, rfl, fun b o e => by rw [upd_ne (ne_of_none e z3)]; exact e2 _ _ (z2 _ _ e), z3, upd_same, by have := length_putK kvs (k2 (2 + n) 0) (.int (t1 * M.Sk s0 part.2 n)); omega, ?_⟩
    have hF : TzI part t0 t1 t2 s0 top (2 + n) 0 = t1 * M.Sk s0 part.2 n := by
      unfold TzI
      rw [show (0 : Int).toNat = 0 from rfl, show ((2 : Int) + n).toNat = (n + 1) + 1 by omega, M.Tz_s0, show n + 1 + 1 - 2 = n by omega]
    rw [← hF]
    refine fill_put z6 fun a b hs => ?_
    rcases hs with q | q
    · exact .inl (.inl q)
    · by_cases e : a = 2 + n
      · exact .inr ⟨e, q.1⟩
      · exact .inl (.inr (by omega))
  refine pqr_cons (Mid := Z (S3 i.toNat 0) 500) (pq1_forR2 (lo := 1) (hi := i + 1) 7 (fun n => Z (S3 n 0) (40 + 12 * n)) PassesOwn.never rfl sc_Race_top_from.nd T.range (fun σ' H' ⟨lo, kvs, x6, x7, x8, x9, x10, z1, z2, z3, z4, z5, z6⟩ => by
      subst z1
      exact ⟨pd_int, pd_add (pd_ixT (d := .int i) (pd_var 1 rfl (h1.mono z2)) pd_int) pd_int⟩) (by omega) (fun σ' H' H2 ⟨lo, kvs, x6, x7, x8, x9, x10, z1, z2, z3, z4, z5, z6⟩ e => ⟨lo, kvs, x6, x7, x8, x9, x10, z1, z2.trans e, z3, e _ _ z4, by omega, fun a b hs => z6 a b (by
        rcases hs with q | q | q
        · exact q
        · omega
        · omega)⟩) (fun n hn => ?_) (fun σ' H' ⟨lo, kvs, x6, x7, x8, x9, x10, z1, z2, z3, z4, z5, z6⟩ => ⟨lo, kvs, x6, x7, x8, x9, x10, z1, z2, z3, z4, by omega, fun a b hs => z6 a b (by
        rcases hs with q | q | q
        · exact .inl q
        · exact .inr (.inl (by omega))
        · omega)⟩)) ?_
  · have hn' : (n : Int) < i := by omega
    refine pq_one (pq1_forR2 (lo := 1) (hi := j + 1) 8 (fun m σ' H' => ∃ lo kvs x6 x8 x9 x10, σ' = [some v0, some v1, some (.int top), some v3, some v4, some (.ref lo), x6, some (.int (1 + n)), x8, x9, x10] ∧ Same H1 H' ∧ H1 lo = none ∧ H' lo = some (.dT kvs) ∧ kvs.length ≤ 40 + 12 * n + m ∧
        ∀ a b, S3 n m a b → valV kvs (k2 a b) = some (.int (TzI part t0 t1 t2 s0 top a b))) PassesOwn.never rfl sc_Race_top_from.nd T.range
      (fun σ' H' ⟨σ1, zz, lo, kvs, x6, x7, x8, x9, x10, z1, z2, z3, z4, z5, z6⟩ => by
        subst z1; subst zz
        exact ⟨pd_int, pd_add (pd_ixT (d := .int j) (pd_var 1 rfl (h1.mono z2)) pd_int) pd_int⟩) (by omega)
      (fun σ' H' H2 ⟨σ1, zz, lo, kvs, x6, x7, x8, x9, x10, z1, z2, z3, z4, z5, z6⟩ e => by
        subst z1; subst zz
        exact ⟨lo, kvs, x6, x8, x9, x10, rfl, z2.trans e, z3, e _ _ z4, by omega, z6⟩) (fun m hm => ?_)
      (fun σ' H' ⟨lo, kvs, x6, x8, x9, x10, z1, z2, z3, z4, z5, z6⟩ => ⟨lo, kvs, x6, some (.int (1 + n)), x8, x9, x10, z1, z2, z3, z4, by omega, fun a b hs => z6 a b (by
        rcases hs with q | q | q
        · exact .inl q
        · by_cases e : a = 1 + n
          · exact .inr (.inr (by omega))
          · exact .inr (.inl (by omega))
        · omega)⟩))
    have hm' : (m : Int) < j := by omega
    refine pq_one (pq1_if fun σ' H' ⟨σ1, zz, lo, kvs, x6, x8, x9, x10, z1, z2, z3, z4, z5, z6⟩ => ?_)
    subst z1; subst zz
    refine ⟨_, pdt_neD hu (pd_tup (pda_cons (pd_var 7 rfl (.int _)) (pda_cons (pd_var 8 rfl (.int _)) pda_nil))) (pd_tup (pda_cons pd_int (pda_cons pd_int pda_nil))) rfl rfl (dep_dP (1 + (n : Int), 1 + (m : Int))), fun hk => ?_, fun hk => ?_⟩
    · have hne : ¬ (n = 0 ∧ m = 0) := by
        intro ⟨q1, q2⟩
        subst q1; subst q2
        revert hk; decide
      have g1 : valV kvs (k2 n (1 + m)) = some (.int (M.Tz part.1 part.2 t0 t1 t2 s0 top n (m + 1))) := by
        have q := z6 n (1 + m) (by
          by_cases e : n = 0
          · exact .inl (.inl (.inr (by omega)))
          · exact .inr (.inl (by omega)))
        rw [q]; unfold TzI; rw [show (n : Int).toNat = n by omega, show ((1 : Int) + m).toNat = m + 1 by omega]
      have g2 : valV kvs (k2 (1 + n) m) = some (.int (M.Tz part.1 part.2 t0 t1 t2 s0 top (n + 1) m)) := by
        have q := z6 (1 + n) m (by
          by_cases e : m = 0
          · exact .inl (.inr (by omega))
          · exact .inr (.inr (by omega)))
        rw [q]; unfold TzI; rw [show (m : Int).toNat = m by omega, show ((1 : Int) + n).toNat = n + 1 by omega]
      generalize hX : M.Tz part.1 part.2 t0 t1 t2 s0 top n (m + 1) = X1 at g1
      generalize hW : M.Tz part.1 part.2 t0 t1 t2 s0 top (n + 1) m = X2 at g2
      have bX : M.Bd 130000 X1 := by rw [← hX]; exact bT _ _ (by omega) (by omega)
      have bW : M.Bd 130000 X2 := by rw [← hW]; exact bT _ _ (by omega) (by omega)
      refine pq_cons (Mid := fun σ2 H2 => σ2 = [some v0, some v1, some (.int top), some v3, some v4, some (.ref lo), x6, some (.int (1 + n)), some (.int (1 + m)), some (.int (part.1 * X1)), x10] ∧ Same H' H2) (pq1_set 9 sc_Race_top_from.nd fun σ2 H2 ⟨y1, y2⟩ => ?_) ?_
      · subst y1
        refine ⟨_, pd_mulB (pd_ixT (d := .int part.1) (pd_fldO (d := dP part) 2 (pd_var 0 rfl (h0.mono (z2.trans y2))) Y.cl Y.n3) pd_int)
          (pd_dgetP (q := ((n : Int), 1 + (m : Int))) (d := .int X1) hu (pd_var 5 rfl (.adr lo)) (y2 _ _ z4) ((pd_tup (pda_cons (pd_sub (pd_var 7 rfl (.int _)) pd_int) (pda_cons (pd_var 8 rfl (.int _)) pda_nil))).cast (by show _ = dP (_, _); unfold dP; rw [show (1 : Int) + n - 1 = n by omega])) g1 (fun _ _ => .int _)) (hA.cmul bX (by decide)), fun v H3 e3 hv => ?_⟩
        cases hv
        exact ⟨rfl, y2.trans e3⟩
      refine pq_cons (Mid := fun σ2 H2 => σ2 = [some v0, some v1, some (.int top), some v3, some v4, some (.ref lo), x6, some (.int (1 + n)), some (.int (1 + m)), some (.int (part.1 * X1)), some (.int ((part.2 - part.1) * X2))] ∧ Same H' H2) (pq1_set 10 sc_Race_top_from.nd fun σ2 H2 ⟨y1, y2⟩ => ?_) ?_
      · subst y1
        refine ⟨_, pd_mulB (pd_sub (pd_ixT (d := .int part.2) (pd_fldO (d := dP part) 2 (pd_var 0 rfl (h0.mono (z2.trans y2))) Y.cl Y.n3) pd_int) (pd_ixT (d := .int part.1) (pd_fldO (d := dP part) 2 (pd_var 0 rfl (h0.mono (z2.trans y2))) Y.cl Y.n3) pd_int))
          (pd_dgetP (q := (1 + (n : Int), (m : Int))) (d := .int X2) hu (pd_var 5 rfl (.adr lo)) (y2 _ _ z4) ((pd_tup (pda_cons (pd_var 7 rfl (.int _)) (pda_cons (pd_sub (pd_var 8 rfl (.int _)) pd_int) pda_nil))).cast (by show _ = dP (_, _); unfold dP; rw [show (1 : Int) + m - 1 = m by omega])) g2 (fun _ _ => .int _)) (hD.cmul bW (by decide)), fun v H3 e3 hv => ?_⟩
        cases hv
        exact ⟨rfl, y2.trans e3⟩
      refine pq_one (pq1_dputP hu fun σ2 H2 ⟨y1, y2⟩ => ?_)
      subst y1
      refine ⟨lo, kvs, 1 + n, 1 + m, .int (t2 * M.Sk s0 part.2 (n + m) + part.1 * X1 + (part.2 - part.1) * X2), pd_var 5 rfl (.adr lo), y2 _ _ z4, big (by omega), pda_cons (pd_var 7 rfl (.int _)) (pda_cons (pd_var 8 rfl (.int _)) pda_nil),
        pd_add (pd_add (pd_mulB (pd_ixL (d := .int t2) (pd_var 4 rfl (h4.mono (z2.trans y2))) pd_int) (pd_ixL (pd_var 3 rfl (h3.mono (z2.trans y2))) (pd_sub (pd_add (pd_var 7 rfl (.int _)) (pd_var 8 rfl (.int _))) pd_int) (by rw [sat (by omega) (by omega), show ((1 : Int) + n + (1 + m) - 2).toNat = n + m by omega])) (b2.cmul (bS (n + m) (by omega)) (by decide)))
          (pd_var 9 rfl (.int _))) (pd_var 10 rfl (.int _)), fun v H3 e3 hv => ?_⟩
      cases hv
      refine ⟨lo, _, _, _, _, _, rfl, fun b o e => by rw [upd_ne (ne_of_none e z3)]; exact e3 _ _ (y2 _ _ (z2 _ _ e)), z3, upd_same, by have := length_putK kvs (k2 (1 + n) (1 + m)) (.int (t2 * M.Sk s0 part.2 (n + m) + part.1 * X1 + (part.2 - part.1) * X2)); omega, ?_⟩
      have hF : TzI part t0 t1 t2 s0 top (1 + n) (1 + m) = t2 * M.Sk s0 part.2 (n + m) + part.1 * X1 + (part.2 - part.1) * X2 := by
        unfold TzI
        rw [show ((1 : Int) + n).toNat = n + 1 by omega, show ((1 : Int) + m).toNat = m + 1 by omega, M.Tz_ss hne, hX, hW]
      rw [← hF]
      refine fill_put z6 fun a b hs => ?_
      rcases hs with q | q | q
      · exact .inl (.inl q)
      · exact .inl (.inr (.inl q))
      · by_cases e : b = 1 + m
        · exact .inr ⟨q.1, e⟩
        · exact .inl (.inr (.inr (by omega)))
    · have h11 : n = 0 ∧ m = 0 := by
        have q := hk
        have e := ne11 (a := 1 + (n : Int)) (b := 1 + (m : Int))
        rw [show (dP (1 + (n : Int), 1 + (m : Int))) = D.tup [.int (1 + n), .int (1 + m)] from rfl, show dP (1, 1) = D.tup [.int 1, .int 1] from rfl] at e
        rw [e] at q
        simp at q
        omega
      obtain ⟨q1, q2⟩ := h11
      subst q1; subst q2
      refine pq_nil fun σ2 H2 ⟨y1, y2⟩ => ?_
      subst y1
      refine ⟨lo, kvs, x6, _, x9, x10, rfl, z2.trans y2, z3, y2 _ _ z4, by omega, fun a b hs => z6 a b ?_⟩
      rcases hs with q | q | q
      · exact .inl q
      · exact .inr (.inl q)
      · exact .inl (.inl (.inl (by omega)))
  refine pqr_pr fun σ' H' ⟨lo, kvs, x6, x7, x8, x9, x10, z1, z2, z3, z4, z5, z6⟩ => ?_
  subst z1
  exact ⟨_, pr_ret (pd_dgetP (q := (i, j)) (d := .int (TzI part t0 t1 t2 s0 top i j)) hu (pd_var 5 rfl (.adr lo)) z4 (pd_var 1 rfl (h1.mono z2)) (z6 i j (.inr (.inl (by omega)))) (fun _ _ => .int _)), fun v H2 e2 hv => ⟨z2.trans e2, hv⟩⟩
end
end Q
set_option Elab.async false
set_option linter.all false
set_option maxRecDepth 100000
set_option maxHeartbeats 4000000
namespace Q
open PySem PySem.Spec PyProof.Rows L2 L3
section
variable {P : Program} {w : World} {K : PySem.W.Frag} {mg : Str → Option Value} {base : Heap} {C CR : Addr}
theorem at_last {n : Nat} {f : Nat → Int} : atI (((List.range (n + 1)).map f).map D.int) (-1) = some (.int (f n)) := by
  unfold atI ixN
  rw [List.length_map, List.length_map, List.length_range, if_neg (by decide), if_pos (by omega)]
  show (((List.range (n + 1)).map f).map D.int)[(-1 + ((n + 1 : Nat) : Int)).toNat]? = _
  rw [show (-1 + ((n + 1 : Nat) : Int)).toNat = n by omega, List.getElem?_map, List.getElem?_map, List.getElem?_range (by omega)]
  rfl
def R_wf (CR : Addr) (ds : List D) (r : D) : Prop := ∃ (g l : Int) (part cost q E0 E1 : M.Pr) (E : D), ds = [dR CR g l part cost, dP q, E] ∧ two E (dP E0) (dP E1) ∧ M.Fits l g part cost q E0 E1 ∧ r = dP (M.wfI l g part cost q E0 E1)
theorem ok_wf (T : Tx K mg C) (Y : Ty K mg CR) (dWon : Does P w K mg base 1 "is_won" ["pair", "goal", "lead"] R_is_won) (dCm : Does P w K mg base 2 "common_multiple" ["one", "other"] R_cm) (dTo : Does P w K mg base 1 "top_over" ["one", "bottom"] R_top_over)
    (dLa : DoesM P w K mg base 1 CR "lacks" ["self", "pair"] (R_lacks CR)) (dLe : DoesM P w K mg base 1 CR "level" ["self", "tops"] (R_level CR)) (dTf : DoesM P w K mg base 1 CR "top_from" ["self", "lacks", "level_top", "scales", "tops"] (R_top_from CR))
    (h : HasM K CR "worth_from" "Race.worth_from" st_Race_worth_from ["self", "pair", "ends"]) : DoesM P w K mg base 3 CR "worth_from" ["self", "pair", "ends"] (R_wf CR) := by
  refine h.does sc_Race_worth_from (fun ds r ⟨_, _, _, _, _, _, _, _, e, _⟩ => by rw [e]; rfl) fun f cdv A outer s H E vs ds r hr hl hR => ?_
  obtain ⟨g, l, part, cost, q, E0, E1, EE, rfl, hE, hf, rfl⟩ := hR
  obtain ⟨v0, v1, v2, rfl, h0, h1, h2⟩ := isL3 hl
  have hr1 : Room 1 _ := hr.mono (by decide)
  refine pr_if (pdt_val (pd_does dWon hr1 (pda_cons (pd_var 1 rfl h1) (pda_cons (pd_fldO (d := .int g) 0 (pd_var 0 rfl h0) Y.cl Y.n1) (pda_cons (pd_fldO (d := .int l) 1 (pd_var 0 rfl h0) Y.cl Y.n2) pda_nil))) ⟨q, g, l, rfl, rfl⟩)) (fun z => (pr_ret (pd_ifExp (pdt_gt (pd_ixT (d := .int q.1) (pd_var 1 rfl h1) pd_int) (pd_ixT (d := .int q.2) (pd_var 1 rfl h1) pd_int))
    (fun _ => pd_two0 hE (pd_var 2 rfl h2) pd_int) (fun _ => pd_two1 hE (pd_var 2 rfl h2) pd_int))).cast ?_) (fun z => ?_)
  · unfold M.wfI
    rw [if_pos z]
    by_cases y : q.2 < q.1
    · rw [if_pos y, if_pos (decide_eq_true y)]
    · rw [if_neg y, if_neg (by simpa using y)]
  have hg : M.Goes l g q := by
    rcases hf.k with y | y
    · exact y
    · exact absurd y (by rw [z]; exact Bool.false_ne_true)
  obtain ⟨ni, nj, hi, hj, _⟩ := M.place hg
  have hL := hf.l hg
  have b4000 : ∀ {n N : Nat} {x : M.Pr}, M.Fq 4000 20000 x → M.Bd 8000 x.2 := fun hx => hx.den.mono (by omega)
  refine pr_set 3 sc_Race_worth_from.nd (pd_does dCm (hr.mono (by decide)) (pda_cons (pd_does dCm (hr.mono (by decide)) (pda_cons (pd_ixT (d := .int E0.2) (pd_two0 hE (pd_var 2 rfl h2) pd_int) pd_int) (pda_cons (pd_ixT (d := .int E1.2) (pd_two1 hE (pd_var 2 rfl h2) pd_int) pd_int) pda_nil))
      ⟨_, _, rfl, hf.e0.pos, hf.e1.pos, hf.e0.den.mono (by omega), hf.e1.den, rfl⟩) (pda_cons (pd_ixT (d := .int cost.2) (pd_fldO (d := dP cost) 3 (pd_var 0 rfl h0) Y.cl Y.n4) pd_int) pda_nil))
      ⟨_, _, rfl, M.cm_pos hf.e0.pos hf.e1.pos, hf.c.pos, (M.cm_Bd hf.e0.den hf.e1.den hf.e0.pos).mono (by omega), hf.c.den, rfl⟩) fun v3 H3 e3 h3 => ?_
  cases h3
  replace h0 := h0.mono e3
  replace h1 := h1.mono e3
  replace h2 := h2.mono e3
  have bB : M.Bd 12000 (M.bot cost E0 E1) := (M.bot_Bd hf.e0.pos hf.e1.pos hf.e0.den hf.e1.den hf.c.den).mono (by omega)
  have t0B : M.Bd 32000 (M.tp E0 (M.bot cost E0 E1)) := (M.tp_Bd hf.e0.pos hf.e0.num bB).mono (by omega)
  have t1B : M.Bd 32000 (M.tp E1 (M.bot cost E0 E1)) := (M.tp_Bd hf.e1.pos hf.e1.num bB).mono (by omega)
  have t2B : M.Bd 32000 (M.tp cost (M.bot cost E0 E1)) := (M.tp_Bd hf.c.pos hf.c.num bB).mono (by omega)
  show PR _ _ [some v0, some v1, some v2, some (.int (M.bot cost E0 E1)), none, none, none, none, none] H3 _
  unfold M.wfI
  rw [if_neg (by rw [z]; exact Bool.false_ne_true)]
  have lvB := M.lv_Bd (lead := l) hf.p.n hf.p.l hf.pb t0B t1B t2B
  have hBp := M.bot_pos hf.e0.pos hf.e1.pos hf.c.pos
  generalize hB : M.bot cost E0 E1 = B at *
  refine pr_cons (Post := fun σ' H' => ∃ v4, σ' = [some v0, some v1, some v2, some (.int B), some v4, none, none, none, none] ∧ Is K H' (.lst [.int (M.tp E0 B), .int (M.tp E1 B), .int (M.tp cost B)]) v4)
    (pn1_comp (n := 3) (din := fun i => [dP E0, dP E1, dP cost].getD i .non) (dout := fun i => [D.int (M.tp E0 B), .int (M.tp E1 B), .int (M.tp cost B)].getD i .non) (N := ["one", "bottom"]) (σc := [none, some (.int B)]) (cl := [("bottom", s.heap.objs.size + 1)]) 4 sc_Race_worth_from.nd rfl rfl ?t
      (gives_tup (pd_tup (pda_cons (pd_two0 hE (pd_var 2 rfl h2) pd_int) (pda_cons (pd_two1 hE (pd_var 2 rfl h2) pd_int) (pda_cons (pd_fldO (d := dP cost) 3 (pd_var 0 rfl h0) Y.cl Y.n4) pda_nil))))) (by decide) ?n ?e fun v H' e hv => ⟨v, rfl, hv⟩) fun σ' H4 e4 ⟨v4, hs, h4⟩ => ?_
  case t => exact takes1 (j := 3) rfl (by decide +kernel) rfl (by decide +kernel) rfl (by decide) rfl rfl rfl rfl (.inl rfl) (by decide +kernel)
  case n => intro i; match i with | 0 => rfl | 1 => rfl | 2 => rfl | _ + 3 => rfl
  case e =>
    intro Cc s2 H2' fp i v H6 hi6 e6 hv
    match i, hi6, hv with
    | 0, _, hv => exact pd_does dTo hr1 (pda_cons (pd_var 0 rfl hv) (pda_cons (pd_var 1 rfl (.int _)) pda_nil)) ⟨E0, B, rfl, hf.e0.pos, hf.e0.den, hf.e0.num, bB, rfl⟩
    | 1, _, hv => exact pd_does dTo hr1 (pda_cons (pd_var 0 rfl hv) (pda_cons (pd_var 1 rfl (.int _)) pda_nil)) ⟨E1, B, rfl, hf.e1.pos, hf.e1.den, hf.e1.num, bB, rfl⟩
    | 2, _, hv => exact pd_does dTo hr1 (pda_cons (pd_var 0 rfl hv) (pda_cons (pd_var 1 rfl (.int _)) pda_nil)) ⟨cost, B, rfl, hf.c.pos, hf.c.den, hf.c.num, bB, rfl⟩
  subst hs
  replace h0 := h0.mono e4
  replace h1 := h1.mono e4
  generalize M.tp E0 B = t0 at *
  generalize M.tp E1 B = t1 at *
  generalize M.tp cost B = t2 at *
  refine pr_set 5 sc_Race_worth_from.nd (pd_doesO dLa Y.cl hr1 (pd_var 0 rfl h0) (no_m (by decide)) (pda_cons (pd_var 1 rfl h1) pda_nil) ⟨g, l, part, cost, q, rfl, rfl⟩) fun v5 H5 e5 h5 => ?_
  replace h0 := h0.mono e5
  replace h4 := h4.mono e5
  refine pr_set 6 sc_Race_worth_from.nd (pd_doesO dLe Y.cl hr1 (pd_var 0 rfl h0) (no_m (by decide)) (pda_cons (pd_var 4 rfl h4) pda_nil) ⟨g, l, part, cost, t0, t1, t2, rfl, hf.p, hf.pb, t0B.mono (by omega), t1B.mono (by omega), t2B.mono (by omega), rfl⟩) fun v6 H6 e6 h6 => ?_
  replace h0 := h0.mono e6
  replace h4 := h4.mono e6
  replace h5 := h5.mono e6
  generalize M.lvI l part.1 part.2 t0 t1 t2 = lv at *
  rw [show (M.lk0 g q).toNat + (M.lk1 g q).toNat - 2 = ni + nj by omega]
  have bS : ∀ k, k ≤ 12 → M.Bd 70000 (M.Sk lv.2 part.2 k) := fun k hk => (M.Sk_Bd (lvB.2.mono (l := 60000) (by omega)) hf.pb k).mono (by have := Nat.mul_le_mul_left 400 hk; omega)
  refine pr_pqr fun H7 e7 => ?_
  replace h0 := h0.mono e7
  replace h4 := h4.mono e7
  replace h5 := h5.mono e7
  replace h6 := h6.mono e7
  let Z : Nat → L2.St → Hp → Prop := fun n σ' H' => ∃ lo x8, σ' = [some v0, some v1, some v2, some (.int B), some v4, some v5, some v6, some (.ref lo), x8] ∧ Same H7 H' ∧ H7 lo = none ∧ H' lo = some (.lst ((scl lv.2 part.2 (n + 1)).map V.int))
  refine pqr_cons (Mid := Z 0) (pq1_new 7 sc_Race_worth_from.nd fun σ' H' ⟨z1, z2⟩ => ?_) ?_
  · subst z1; subst z2
    refine ⟨_, pl_lst (pda_cons (pd_ixT (d := .int lv.2) (pd_var 6 rfl h6) pd_int) pda_nil), fun lo vs H8 e8 hn hl8 hvs => ?_⟩
    obtain ⟨u, rfl, hu⟩ := isL1 hvs
    cases hu
    exact ⟨lo, none, rfl, e8, hn, hl8⟩
  refine pqr_cons (Mid := Z (ni + nj)) (pq1_forR (j := M.lk0 g q + M.lk1 g q - 2) 8 Z PassesOwn.never rfl sc_Race_worth_from.nd T.range (fun σ' H' ⟨lo, x8, z1, z2, z3, z4⟩ => by
      subst z1
      exact pd_sub (pd_add (pd_ixT (d := .int (M.lk0 g q)) (pd_var 5 rfl (h5.mono z2)) pd_int) (pd_ixT (d := .int (M.lk1 g q)) (pd_var 5 rfl (h5.mono z2)) pd_int)) pd_int) (by omega)
    (fun σ' H' H2 ⟨lo, x8, z1, z2, z3, z4⟩ e => ⟨lo, x8, z1, z2.trans e, z3, e _ _ z4⟩) (fun n hn => ?_) (fun σ' H' z' => by rw [show (M.lk0 g q + M.lk1 g q - 2).toNat = ni + nj by omega] at z'; exact z')) ?_
  · refine pq_one (pq1_append fun σ' H' ⟨σ1, zz, lo, x8, z1, z2, z3, z4⟩ => ?_)
    subst z1; subst zz
    have hsc : Is K H' (dL (scl lv.2 part.2 (n + 1))) (.ref lo) := .lst (SqL.of z4) (.ints _)
    refine ⟨lo, _, .int (M.Sk lv.2 part.2 n * part.2), pd_var 7 rfl (.adr lo), z4, ?_, pd_mulB (pd_ixL (d := .int (M.Sk lv.2 part.2 n)) (pd_var 7 rfl hsc) (pd_var 8 rfl (.int _)) (by rw [show atI ((scl lv.2 part.2 (n + 1)).map D.int) (n : Int) = some (.int (M.Sk lv.2 part.2 (n : Int).toNat)) from at_range (by omega) (by omega)]; rfl))
      (pd_ixT (d := .int part.2) (pd_fldO (d := dP part) 2 (pd_var 0 rfl (h0.mono z2)) Y.cl Y.n3) pd_int) ((bS n (by omega)).cmul hf.pb (by decide)), fun v H2 e2 hv => ?_⟩
    · exact small1000 (by rw [List.length_map]; unfold scl; rw [List.length_map, List.length_range]; omega)
    cases hv
    refine ⟨lo, _, rfl, fun b o e => by rw [upd_ne (ne_of_none e z3)]; exact e2 _ _ (z2 _ _ e), z3, ?_⟩
    rw [upd_same]
    congr 2
    unfold scl
    rw [List.range_succ (n := n + 1), List.map_append, List.map_append]
    rfl
  refine pqr_pr fun σ' H' ⟨lo, x8, z1, z2, z3, z4⟩ => ?_
  subst z1
  have hsc : Is K H' (dL (scl lv.2 part.2 (ni + nj + 1))) (.ref lo) := .lst (SqL.of z4) (.ints _)
  have e1 : (M.lk0 g q + M.lk1 g q - 1).toNat = ni + nj + 1 := by omega
  refine ⟨_, pr_ret (pd_tup (pda_cons (pd_doesO dTf Y.cl hr1 (pd_var 0 rfl (h0.mono z2)) (no_m (by decide)) (pda_cons (pd_var 5 rfl (h5.mono z2)) (pda_cons (pd_ixT (d := .int lv.1) (pd_var 6 rfl (h6.mono z2)) pd_int) (pda_cons (pd_var 7 rfl hsc) (pda_cons (pd_var 4 rfl (h4.mono z2)) pda_nil))))
      ⟨g, l, part, cost, M.lk0 g q, M.lk1 g q, lv.1, lv.2, t0, t1, t2, by rw [e1]; rfl, by omega, by omega, by omega, hf.p, hf.pb, t0B.mono (by omega), t1B.mono (by omega), t2B.mono (by omega), lvB.2.mono (by omega), lvB.1.mono (by omega), rfl⟩)
    (pda_cons (pd_mulB (pd_ixL (d := .int (M.Sk lv.2 part.2 (ni + nj))) (pd_var 7 rfl hsc) (pd_neg pd_int) at_last) (pd_var 3 rfl (.int _)) ((bS (ni + nj) (by omega)).cmul bB (by decide))) pda_nil))), fun v H2 e2 hv => ⟨z2.trans e2, hv⟩⟩
end
end Q
set_option Elab.async false
set_option linter.all false
set_option maxRecDepth 100000
set_option maxHeartbeats 4000000
namespace Q
open PySem PySem.Spec PyProof.Rows L2 L3
section
variable {P : Program} {w : World} {K : PySem.W.Frag} {mg : Str → Option Value} {base : Heap} {C CR : Addr}
def lowP (q : M.Pr) : M.Pr := M.low q.1 q.2
def R_above (CR : Addr) (ds : List D) (r : D) : Prop := ∃ (g l g' l' : Int) (part cost : M.Pr), ds = [dR CR g l part cost, .int g', .int l'] ∧ M.Fits l g part (0, 1) (0, 0) (1, 1) (0, 1) ∧ M.Fits l g part cost (0, 0) (0, 1) (0, 1) ∧
  (0 < (M.wfI l g part (0, 1) (0, 0) (1, 1) (0, 1)).2 ∧ M.Bd 8000 (M.wfI l g part (0, 1) (0, 0) (1, 1) (0, 1)).2) ∧ (0 < (M.wfI l g part cost (0, 0) (0, 1) (0, 1)).2 ∧ M.Bd 8000 (M.wfI l g part cost (0, 0) (0, 1) (0, 1)).2) ∧
  r = dR CR g' l' (lowP (M.wfI l g part (0, 1) (0, 0) (1, 1) (0, 1))) (lowP (M.wfI l g part cost (0, 0) (0, 1) (0, 1)))
theorem ok_above (T : Tx K mg C) (Y : Ty K mg CR) (dR' : MakesO P w K mg base 2 CR "Race" ["self", "goal", "lead", "part", "cost"] rN R_Race) (dWf : DoesM P w K mg base 3 CR "worth_from" ["self", "pair", "ends"] (R_wf CR)) (dLow : Does P w K mg base 3 "lowest" ["one"] R_lowest)
    (h : Has K mg "race_above" st_race_above ["below", "goal", "lead"]) : Does P w K mg base 4 "race_above" ["below", "goal", "lead"] (R_above CR) := by
  refine h.does sc_race_above (fun ds r ⟨_, _, _, _, _, _, e, _⟩ => by rw [e]; rfl) fun f cdv A outer s H E vs ds r hr hl hR => ?_
  obtain ⟨g, l, g', l', part, cost, rfl, f1, f2, ⟨p1, q1⟩, ⟨p2, q2⟩, rfl⟩ := hR
  obtain ⟨v0, v1, v2, rfl, h0, h1, h2⟩ := isL3 hl
  cases h1; cases h2
  obtain ⟨an, mn, nn⟩ := T.nought
  obtain ⟨az, mz, nz⟩ := Y.zero
  obtain ⟨ao, mo, no⟩ := Y.one
  refine pr_set 3 sc_race_above.nd (pd_makesO dR' (hr.mono (by decide)) (pda_cons (pd_fldO (d := .int g) 0 (pd_var 0 rfl h0) Y.cl Y.n1) (pda_cons (pd_fldO (d := .int l) 1 (pd_var 0 rfl h0) Y.cl Y.n2) (pda_cons (pd_fldO (d := dP part) 2 (pd_var 0 rfl h0) Y.cl Y.n3) (pda_cons (pd_globR mz (nz _)) pda_nil)))) ⟨g, l, part, (0, 1), rfl, rfl⟩) fun v3 H3 e3 h3 => ?_
  replace h0 := h0.mono e3
  refine pr_set 4 sc_race_above.nd (pd_doesO dWf Y.cl hr (pd_var 3 rfl h3) (no_m (by decide)) (pda_cons (pd_globR mn (nn _)) (pda_cons (pd_tup (pda_cons (pd_globR mo (no _)) (pda_cons (pd_globR mz (nz _)) pda_nil))) pda_nil)) ⟨g, l, part, (0, 1), (0, 0), (1, 1), (0, 1), _, rfl, .inl rfl, f1, rfl⟩) fun v4 H4 e4 h4 => ?_
  replace h0 := h0.mono e4
  refine pr_set 5 sc_race_above.nd (pd_doesO dWf Y.cl hr (pd_var 0 rfl h0) (no_m (by decide)) (pda_cons (pd_globR mn (nn _)) (pda_cons (pd_tup (pda_cons (pd_globR mz (nz _)) (pda_cons (pd_globR mz (nz _)) pda_nil))) pda_nil)) ⟨g, l, part, cost, (0, 0), (0, 1), (0, 1), _, rfl, .inl rfl, f2, rfl⟩) fun v5 H5 e5 h5 => ?_
  replace h4 := h4.mono e5
  exact pr_ret (pd_makesO dR' (hr.mono (by decide)) (pda_cons (pd_var 1 rfl (.int _)) (pda_cons (pd_var 2 rfl (.int _)) (pda_cons (pd_does dLow hr (pda_cons (pd_var 4 rfl h4) pda_nil) ⟨_, rfl, p1, q1, rfl⟩) (pda_cons (pd_does dLow hr (pda_cons (pd_var 5 rfl h5) pda_nil) ⟨_, rfl, p2, q2, rfl⟩) pda_nil)))) ⟨_, _, _, _, rfl, rfl⟩)
def R_behind (CR : Addr) (ds : List D) (r : D) : Prop := ∃ (g l : Int) (part cost q E0 E1 : M.Pr) (E : D), ds = [dR CR g l part cost, dP q, E] ∧ two E (dP E0) (dP E1) ∧ (∀ w, M.Fits l g part cost (M.more q w) E0 E1) ∧
  r = .lst [dP (M.wfI l g part cost (M.more q 0) E0 E1), dP (M.wfI l g part cost (M.more q 1) E0 E1)]
theorem ok_behind (Y : Ty K mg CR) (dWf : DoesM P w K mg base 3 CR "worth_from" ["self", "pair", "ends"] (R_wf CR)) (dOne : Does P w K mg base 1 "one_more" ["pair", "who"] R_one_more)
    (h : Has K mg "ends_behind_step" st_ends_behind_step ["race", "pair", "ends"]) : Does P w K mg base 4 "ends_behind_step" ["race", "pair", "ends"] (R_behind CR) := by
  refine h.does sc_ends_behind_step (fun ds r ⟨_, _, _, _, _, _, _, _, e, _⟩ => by rw [e]; rfl) fun f cdv A outer s H E vs ds r hr hl hR => ?_
  obtain ⟨g, l, part, cost, q, E0, E1, EE, rfl, hE, hf, rfl⟩ := hR
  obtain ⟨v0, v1, v2, rfl, h0, h1, h2⟩ := isL3 hl
  have hr1 : Room 1 _ := hr.mono (by decide)
  refine (pr_ret (PL.pd (pl_comp (n := 2) (din := fun i => [D.int 0, .int 1].getD i .non) (dout := fun i => [dP (M.wfI l g part cost (M.more q 0) E0 E1), dP (M.wfI l g part cost (M.more q 1) E0 E1)].getD i .non) (N := ["who", "race", "pair", "ends"]) (σc := [none, some v0, some v1, some v2])
    (cl := [("race", s.heap.objs.size + 1), ("pair", s.heap.objs.size + 2), ("ends", s.heap.objs.size + 3)]) rfl ?t (gives_tup (pd_tup (pda_cons pd_int (pda_cons pd_int pda_nil)))) (by decide) ?n ?e))).cast rfl
  case t =>
    refine takesN (ys := [("race", s.heap.objs.size + 1), ("pair", s.heap.objs.size + 2), ("ends", s.heap.objs.size + 3)]) (vs := [v0, v1, v2]) ?c (by decide +kernel) rfl (by decide +kernel) rfl (by show (["who", "race", "pair", "ends"] : List Str).Nodup; decide) rfl ?_ ?_ (by intro z hz hf; show z.1 ∈ (["race", "pair", "ends"] : List Str); revert hz hf; revert z; decide +kernel)
    case c => rfl
    · intro z hz
      rcases List.mem_cons.mp hz with rfl | hz
      · rfl
      · rcases List.mem_cons.mp hz with rfl | hz
        · rfl
        · rcases List.mem_cons.mp hz with rfl | hz
          · rfl
          · cases hz
    · intro i z v hz hv
      match i, hz, hv with
      | 0, hz, hv => cases hz; cases hv; exact ⟨0, rfl, rfl, rfl, .inl rfl⟩
      | 1, hz, hv => cases hz; cases hv; exact ⟨1, rfl, rfl, rfl, .inl rfl⟩
      | 2, hz, hv => cases hz; cases hv; exact ⟨2, rfl, rfl, rfl, .inl rfl⟩
      | n + 3, hz, hv => simp at hz
  case n => intro i; match i with | 0 => rfl | 1 => rfl | _ + 2 => rfl
  case e =>
    intro Cc s2 H2' fp i v H6 hi6 e6 hv
    match i, hi6, hv with
    | 0, _, hv =>
      cases hv
      exact pd_doesO dWf Y.cl hr (pd_var 1 rfl (h0.mono e6)) (no_m (by decide)) (pda_cons (pd_does dOne hr1 (pda_cons (pd_var 2 rfl (h1.mono e6)) (pda_cons (pd_var 0 rfl (.int _)) pda_nil)) ⟨_, _, rfl, rfl⟩) (pda_cons (pd_var 3 rfl (h2.mono e6)) pda_nil)) ⟨g, l, part, cost, M.more q 0, E0, E1, _, rfl, hE, hf 0, rfl⟩
    | 1, _, hv =>
      cases hv
      exact pd_doesO dWf Y.cl hr (pd_var 1 rfl (h0.mono e6)) (no_m (by decide)) (pda_cons (pd_does dOne hr1 (pda_cons (pd_var 2 rfl (h1.mono e6)) (pda_cons (pd_var 0 rfl (.int _)) pda_nil)) ⟨_, _, rfl, rfl⟩) (pda_cons (pd_var 3 rfl (h2.mono e6)) pda_nil)) ⟨g, l, part, cost, M.more q 1, E0, E1, _, rfl, hE, hf 1, rfl⟩
def R_worth (C : Addr) (ds : List D) (r : D) : Prop := ∃ (g1 g2 g3 : Int) (s : M.Stg) (Pt Cc E0 E1 : M.Pr), ds = [.obj C (fsR g1 g2 g3), dS s, dP Pt, dP Cc, .tup [dP E0, dP E1]] ∧ M.Asked g1 g2 g3 Pt Cc E0 E1 ∧ M.reached g1 g2 g3 s = true ∧
  r = dP (M.fr (M.worth g1 g2 g3 (M.val Pt) (M.val Cc) (M.val E0) (M.val E1) s))
theorem unit_fr {q : M.Pr} (h : M.unit q) : M.fr (M.val q) = q := by
  rcases h with rfl | rfl
  · rw [M.val0]; rfl
  · rw [M.val1]; rfl
theorem ok_worth (T : Tx K mg C) (Y : Ty K mg CR) (d1 : DoesM P w K mg base 1 C "points" ["self"] (R_points C)) (d2 : DoesM P w K mg base 1 C "games" ["self"] (R_games C)) (d3 : DoesM P w K mg base 1 C "sets" ["self"] (R_sets C))
    (dWin : Does P w K mg base 5 "winner" ["rules", "standing"] (R_winner C)) (dBad : Does P w K mg base 1 "refuse_bad_part" ["part"] R_badpart) (dR' : MakesO P w K mg base 2 CR "Race" ["self", "goal", "lead", "part", "cost"] rN R_Race) (dWf : DoesM P w K mg base 3 CR "worth_from" ["self", "pair", "ends"] (R_wf CR)) (dLow : Does P w K mg base 3 "lowest" ["one"] R_lowest)
    (dAb : Does P w K mg base 4 "race_above" ["below", "goal", "lead"] (R_above CR)) (dBe : Does P w K mg base 4 "ends_behind_step" ["race", "pair", "ends"] (R_behind CR))
    (h : Has K mg "worth" st_worth ["rules", "standing", "part", "cost", "ends"]) : Does P w K mg base 6 "worth" ["rules", "standing", "part", "cost", "ends"] (R_worth C) := by
  refine h.does sc_worth (fun ds r ⟨_, _, _, _, _, _, _, _, e, _⟩ => by rw [e]; rfl) fun f cdv A outer s H E vs ds r hr hl hR => ?_
  obtain ⟨g1, g2, g3, st, Pt, Cc, E0, E1, rfl, As, hre, rfl⟩ := hR
  obtain ⟨v0, vr, rfl, h0, hl'⟩ : ∃ v0 vr, vs = v0 :: vr ∧ Is K H (.obj C (fsR g1 g2 g3)) v0 ∧ IsL K H [dS st, dP Pt, dP Cc, .tup [dP E0, dP E1]] vr := by
    cases hl with | cons a b => exact ⟨_, _, rfl, a, b⟩
  obtain ⟨v1, v2, v3, v4, rfl, h1, h2, h3, h4⟩ := isL4 hl'
  have hr1 : Room 1 _ := hr.mono (by decide)
  have hr3 : Room 3 _ := hr.mono (by decide)
  have hr4 : Room 4 _ := hr.mono (by decide)
  obtain ⟨tl, hlead⟩ := T.lead
  obtain ⟨tm, hml⟩ := Y.ml
  refine pr_set 5 sc_worth.nd (pd_does dWin hr (pda_cons (pd_var 0 rfl h0) (pda_cons (pd_var 1 rfl h1) pda_nil)) ⟨_, _, _, _, rfl, hre, rfl⟩) fun v5 H5 e5 h5 => ?_
  replace h0 := h0.mono e5
  replace h1 := h1.mono e5
  replace h2 := h2.mono e5
  replace h3 := h3.mono e5
  replace h4 := h4.mono e5
  refine pr_cons (Post := fun σ' _ => σ' = [some v0, some v1, some v2, some v3, some v4, some v5, none, none, none, none, none]) (pn1_expr (pd_does dBad hr1 (pda_cons (pd_var 2 rfl h2) pda_nil) ⟨Pt, rfl, As.p.n, As.p.l, rfl⟩) fun _ _ => rfl) fun σ' H6 e6 z => ?_
  subst z
  replace h0 := h0.mono e6
  replace h1 := h1.mono e6
  replace h2 := h2.mono e6
  replace h3 := h3.mono e6
  replace h4 := h4.mono e6
  replace h5 := h5.mono e6
  refine pr_if (pdt_notN (pd_var 5 rfl h5)) (fun z => ?_) (fun z => ?_)
  · -- the match is won
    cases ho : M.over g3 st with
    | false => rw [M.wnr_non hre ho] at z; exact absurd z (by decide)
    | true =>
      have hw := (M.wnr_over hre ho).1
      rw [hw] at h5
      unfold M.worth
      rw [if_pos ho]
      by_cases e : st.1.1 = g3
      · rw [if_pos e] at h5 ⊢
        rw [unit_fr As.e0]
        exact pr_ret (pd_ixT (d := dP E0) (pd_var 4 rfl h4) (pd_var 5 rfl h5))
      · rw [if_neg e] at h5 ⊢
        rw [unit_fr As.e1]
        exact pr_ret (pd_ixT (d := dP E1) (pd_var 4 rfl h4) (pd_var 5 rfl h5))
  have ho : M.over g3 st = false := by
    cases ho : M.over g3 st with
    | false => rfl
    | true =>
      rw [(M.wnr_over hre ho).1] at z
      exact absurd z (by show ¬ (!false) = false; decide)
  have on := M.on_of hre ho
  have b8 : ∀ {n N : Nat} {q : M.Pr}, M.Fq n N q → n ≤ 8000 → 0 < q.2 ∧ M.Bd 8000 q.2 := fun hq hn => ⟨hq.pos, hq.den.mono hn⟩
  refine pr_set 6 sc_worth.nd (pd_makesO dR' hr3 (pda_cons (pd_doesM0 d1 T.cl hr1 (pd_var 0 rfl h0) (no1 _ _ _) ⟨_, _, _, rfl, rfl⟩) (pda_cons (pd_globI hlead) (pda_cons (pd_var 2 rfl h2) (pda_cons (pd_var 3 rfl h3) pda_nil)))) ⟨g1, 2, Pt, Cc, rfl, rfl⟩) fun v6 H7 e7 h6 => ?_
  replace h0 := h0.mono e7
  replace h1 := h1.mono e7
  replace h4 := h4.mono e7
  have W1 := (M.wf_Fq (lead := 2) (g := g1) (s := 24) (L := 10) (q := (0, 0)) As.p As.pn M.o_fq (M.z_fq.mono (by omega) (by omega)) M.z_fq (M.known2 _) (M.ptsS As.p As.p5 As.g.1 As.g.2.1 (by decide)) (M.lk10 As (by decide)))
  have W2 := (M.wf_Fq (lead := 2) (g := g1) (s := 24) (L := 10) (q := (0, 0)) As.p As.pn M.z_fq M.z_fq As.c.fq (M.known2 _) (M.ptsS As.p As.p5 As.g.1 As.g.2.1 (by decide)) (M.lk10 As (by decide)))
  refine pr_set 7 sc_worth.nd (pd_does dAb hr4 (pda_cons (pd_var 6 rfl h6) (pda_cons (pd_doesM0 d2 T.cl hr1 (pd_var 0 rfl h0) (no2 _ _ _) ⟨_, _, _, rfl, rfl⟩) (pda_cons (pd_globI hlead) pda_nil))) ⟨g1, 2, g2, 2, Pt, Cc, rfl, M.f_gP As, M.f_gC As, b8 W1 (by omega), b8 W2 (by omega), rfl⟩) fun v7 H8 e8 h7 => ?_
  replace h0 := h0.mono e8
  replace h1 := h1.mono e8
  replace h4 := h4.mono e8
  replace h6 := h6.mono e8
  change Is K H8 (dR CR g2 2 (M.gPI g1 Pt) (M.gCI g1 Pt Cc)) v7 at h7
  have W3 := (M.wf_Fq (lead := 2) (g := g2) (s := 288) (L := 12) (q := (0, 0)) (M.gPI_part As) (M.gPI_eq As).2.den M.o_fq (M.z_fq.mono (by omega) (by omega)) M.z_fq (M.known2 _) (fun z => (M.gamS (M.gPI_part As) (M.gPI_eq As).2.den As.g.2.2.1 As.g.2.2.2.1 (by decide) z).mono (by omega)) (M.lk12 As (by decide)))
  have W4 := (M.wf_Fq (lead := 2) (g := g2) (s := 288) (L := 12) (q := (0, 0)) (M.gPI_part As) (M.gPI_eq As).2.den M.z_fq M.z_fq (M.gCI_eq As).2 (M.known2 _) (fun z => (M.gamS (M.gPI_part As) (M.gPI_eq As).2.den As.g.2.2.1 As.g.2.2.2.1 (by decide) z).mono (by omega)) (M.lk12 As (by decide)))
  refine pr_set 8 sc_worth.nd (pd_does dAb hr4 (pda_cons (pd_var 7 rfl h7) (pda_cons (pd_doesM0 d3 T.cl hr1 (pd_var 0 rfl h0) (no3 _ _ _) ⟨_, _, _, rfl, rfl⟩) (pda_cons (pd_globI hml) pda_nil))) ⟨g2, 2, g3, 1, _, _, rfl, M.f_sP As, M.f_sC As, b8 W3 (by omega), b8 W4 (by omega), rfl⟩) fun v8 H9 e9 h8 => ?_
  replace h1 := h1.mono e9
  replace h4 := h4.mono e9
  replace h6 := h6.mono e9
  replace h7 := h7.mono e9
  change Is K H9 (dR CR g3 1 (M.sPI g1 g2 Pt) (M.sCI g1 g2 Pt Cc)) v8 at h8
  refine pr_set 9 sc_worth.nd (pd_does dBe hr4 (pda_cons (pd_var 8 rfl h8) (pda_cons (pd_ixT (d := dP st.1) (pd_var 1 rfl h1) pd_int) (pda_cons (pd_var 4 rfl h4) pda_nil))) ⟨g3, 1, _, _, st.1, E0, E1, _, rfl, .inl rfl, fun w => M.f_se As on w, rfl⟩) fun v9 HA eA h9 => ?_
  replace h1 := h1.mono eA
  replace h6 := h6.mono eA
  replace h7 := h7.mono eA
  refine pr_set 10 sc_worth.nd (pd_does dBe hr4 (pda_cons (pd_var 7 rfl h7) (pda_cons (pd_ixT (d := dP st.2.1) (pd_var 1 rfl h1) pd_int) (pda_cons (pd_var 9 rfl h9) pda_nil))) ⟨g2, 2, _, _, st.2.1, _, _, _, rfl, .inr rfl, fun w => M.f_ge As on w, rfl⟩) fun v10 HB eB h10 => ?_
  replace h1 := h1.mono eB
  replace h6 := h6.mono eB
  have hw := M.woI_eq As on
  refine (pr_ret (pd_does dLow hr3 (pda_cons (pd_doesO dWf Y.cl hr3 (pd_var 6 rfl h6) (no_m (by decide)) (pda_cons (pd_ixT (d := dP st.2.2) (pd_var 1 rfl h1) pd_int) (pda_cons (pd_var 10 rfl h10) pda_nil)) ⟨g1, 2, Pt, Cc, st.2.2, _, _, _, rfl, .inr rfl, M.f_wo As on, rfl⟩) pda_nil) ⟨M.woI g1 g2 g3 Pt Cc E0 E1 st, rfl, hw.2.pos, hw.2.den.mono (by omega), rfl⟩)).cast ?_
  rw [M.told_eq As on]
def R_chance (C : Addr) (ds : List D) (r : D) : Prop := ∃ (g1 g2 g3 : Int) (s : M.Stg) (Pt : M.Pr), ds = [.obj C (fsR g1 g2 g3), dS s, dP Pt] ∧ M.Good g1 g2 g3 ∧ M.IsPart Pt ∧ Pt.2 ≤ 5 ∧ M.reached g1 g2 g3 s = true ∧ r = dP (M.fr (M.worth g1 g2 g3 (M.val Pt) 0 1 0 s))
def R_points_to (C : Addr) (ds : List D) (r : D) : Prop := ∃ (g1 g2 g3 : Int) (s : M.Stg) (Pt : M.Pr), ds = [.obj C (fsR g1 g2 g3), dS s, dP Pt] ∧ M.Good g1 g2 g3 ∧ M.IsPart Pt ∧ Pt.2 ≤ 5 ∧ M.reached g1 g2 g3 s = true ∧ r = dP (M.fr (M.worth g1 g2 g3 (M.val Pt) 1 0 0 s))
theorem ok_chance (Y : Ty K mg CR) (dW : Does P w K mg base 6 "worth" ["rules", "standing", "part", "cost", "ends"] (R_worth C)) (h : Has K mg "chance" st_chance ["rules", "standing", "part"]) : Does P w K mg base 7 "chance" ["rules", "standing", "part"] (R_chance C) := by
  refine h.does sc_chance (fun ds r ⟨_, _, _, _, _, e, _⟩ => by rw [e]; rfl) fun f cdv A outer s H E vs ds r hr hl hR => ?_
  obtain ⟨g1, g2, g3, st, Pt, rfl, hg, hp, h5, hre, rfl⟩ := hR
  obtain ⟨v0, v1, v2, rfl, h0, h1, h2⟩ := isL3 hl
  obtain ⟨az, mz, nz⟩ := Y.zero
  obtain ⟨ao, mo, no⟩ := Y.one
  refine (pr_ret (pd_does dW hr (pda_cons (pd_var 0 rfl h0) (pda_cons (pd_var 1 rfl h1) (pda_cons (pd_var 2 rfl h2) (pda_cons (pd_globR mz (nz _)) (pda_cons (pd_tup (pda_cons (pd_globR mo (no _)) (pda_cons (pd_globR mz (nz _)) pda_nil))) pda_nil)))))
    ⟨g1, g2, g3, st, Pt, (0, 1), (1, 1), (0, 1), rfl, ⟨hg, hp, h5, .inl rfl, .inr rfl, .inl rfl⟩, hre, rfl⟩)).cast ?_
  rw [M.val0, M.val1]
theorem ok_points_to (Y : Ty K mg CR) (dW : Does P w K mg base 6 "worth" ["rules", "standing", "part", "cost", "ends"] (R_worth C)) (h : Has K mg "points_to_come" st_points_to_come ["rules", "standing", "part"]) : Does P w K mg base 7 "points_to_come" ["rules", "standing", "part"] (R_points_to C) := by
  refine h.does sc_points_to_come (fun ds r ⟨_, _, _, _, _, e, _⟩ => by rw [e]; rfl) fun f cdv A outer s H E vs ds r hr hl hR => ?_
  obtain ⟨g1, g2, g3, st, Pt, rfl, hg, hp, h5, hre, rfl⟩ := hR
  obtain ⟨v0, v1, v2, rfl, h0, h1, h2⟩ := isL3 hl
  obtain ⟨az, mz, nz⟩ := Y.zero
  obtain ⟨ao, mo, no⟩ := Y.one
  refine (pr_ret (pd_does dW hr (pda_cons (pd_var 0 rfl h0) (pda_cons (pd_var 1 rfl h1) (pda_cons (pd_var 2 rfl h2) (pda_cons (pd_globR mo (no _)) (pda_cons (pd_tup (pda_cons (pd_globR mz (nz _)) (pda_cons (pd_globR mz (nz _)) pda_nil))) pda_nil)))))
    ⟨g1, g2, g3, st, Pt, (1, 1), (0, 1), (0, 1), rfl, ⟨hg, hp, h5, .inr rfl, .inl rfl, .inl rfl⟩, hre, rfl⟩)).cast ?_
  rw [M.val0, M.val1]
end
end Q
set_option Elab.async false
set_option linter.all false
set_option maxRecDepth 100000
set_option maxHeartbeats 4000000
namespace Q
open PySem PySem.Spec PyProof.Rows L2 L3
section
variable {P : Program} {w : World} {K : PySem.W.Frag} {mg : Str → Option Value} {base : Heap} {C CR c0 c1 c2 c3 : Addr}
def RX_beyond (c0 : Addr) (ds : List D) (c : Addr) : Prop := c = c0 ∧ ∃ x n m, ds = [.str x, .int n, .int m] ∧ x.length ≤ 100 ∧ 0 ≤ m ∧ m < 10 ∧ (n < 1 ∨ m < n)
theorem small_log {m : Int} (h0 : 0 ≤ m) (h1 : m < 2 ^ 64) : m.natAbs.log2 < 1920 := by
  have h : m.natAbs < 2 ^ 64 := by omega
  by_cases z : m.natAbs = 0
  · rw [z]; decide
  · exact Nat.lt_trans ((Nat.log2_lt z).mpr h) (by decide)
theorem ex_beyond (ec : ErrCls K c0) (m0 : mg "BadRules" = some (.ref c0)) (h : Has K mg "refuse_beyond" st_refuse_beyond ["what", "number", "most"]) : Raises P w K mg base 1 "refuse_beyond" ["what", "number", "most"] (RX_beyond c0) := by
  refine h.raises sc_refuse_beyond (fun ds c ⟨_, _, _, _, e, _⟩ => by rw [e]; rfl) fun f cdv A outer s H E vs ds c hr hl hR hL => ?_
  obtain ⟨rfl, x, n, m, rfl, hx, hm0, hm1, hn⟩ := hR
  obtain ⟨v0, v1, v2, rfl, h0, h1, h2⟩ := isL3 hl
  cases h1; cases h2
  have hz := toString_length_le (k := 1) hm0 (by decide) hm1
  refine px_if (PDW.pt (pdw_or (pdt_lt (pd_var 1 rfl (.int _)) pd_int) fun _ => pdw_or1 (pdt_gt (pd_var 1 rfl (.int _)) (pd_var 2 rfl (.int _)))))
    (fun _ => px_raise ec rfl m0 (pd_joined4 pd_str (pd_fvS (pd_var 0 rfl h0) (Nat.le_trans hx (by decide))) pd_str (pd_fvI (pd_var 2 rfl (.int _)) (small_log hm0 (by omega))) ?z) hL fun H' e => e) (fun z => absurd z ?n)
  case n => simp; omega
  case z =>
    have e1 : (("the " : String) : Str).length = 4 := by decide +kernel
    have e2 : ((" are from 1 to " : String) : Str).length = 15 := by decide +kernel
    omega
def RX_init (c0 : Addr) (ds : List D) (c : Addr) : Prop := c = c0 ∧ ∃ g1 g2 g3, ds = [.int g1, .int g2, .int g3] ∧ ¬ M.Good g1 g2 g3
theorem ex_Rules {fI : Addr} {fdI : FuncData} (T : Tx K mg C) (d1 : Does P w K mg base 1 "refuse_beyond" ["what", "number", "most"] R_refuse_beyond) (x1 : Raises P w K mg base 1 "refuse_beyond" ["what", "number", "most"] (RX_beyond c0))
    (M : Mk K C fI) (F : Fun K "__init__" "Rules.__init__" st_Rules___init__ fI fdI) (hb : Binds K fdI ["self", "points", "games", "sets"] []) : RaisesC P w K mg base 2 C "Rules" ["self", "points", "games", "sets"] (RX_init c0) := by
  refine ⟨fI, fdI, ?_, M, T.mgC, hb⟩
  refine L3.Fun.raisesI F sc_Rules___init__ (fun ds c ⟨_, _, _, _, e, _⟩ => by rw [e]; rfl) fun cdv A outer s H E p dx us ds c hr hl hR hp hL => ?_
  obtain ⟨rfl, g1, g2, g3, rfl, hg⟩ := hR
  obtain ⟨v1, v2, v3, rfl, h1, h2, h3⟩ := isL3 hl
  cases h1; cases h2; cases h3
  obtain ⟨t1, m1⟩ := T.mp
  obtain ⟨t2, m2⟩ := T.mgm
  obtain ⟨t3, m3⟩ := T.ms
  have hr1 : Room 1 _ := hr.mono (by decide)
  by_cases b1 : 1 ≤ g1 ∧ g1 ≤ 5
  · refine px_cons (Post := fun σ' _ => σ' = [some (.ref p), some (.int g1), some (.int g2), some (.int g3)]) (pn1_expr (pd_does d1 hr1 (pda_cons pd_str (pda_cons (pd_var 1 rfl (.int _)) (pda_cons (pd_globI m1) pda_nil))) ⟨_, _, _, rfl, b1.1, b1.2, rfl⟩) fun _ _ => rfl) fun σ' H1 e1 z => ?_
    subst z
    by_cases b2 : 1 ≤ g2 ∧ g2 ≤ 6
    · refine px_cons (Post := fun σ' _ => σ' = [some (.ref p), some (.int g1), some (.int g2), some (.int g3)]) (pn1_expr (pd_does d1 hr1 (pda_cons pd_str (pda_cons (pd_var 2 rfl (.int _)) (pda_cons (pd_globI m2) pda_nil))) ⟨_, _, _, rfl, b2.1, b2.2, rfl⟩) fun _ _ => rfl) fun σ' H2 e2 z => ?_
      subst z
      have b3 : ¬ (1 ≤ g3 ∧ g3 ≤ 3) := fun b3 => hg ⟨b1.1, b1.2, b2.1, b2.2, b3.1, b3.2⟩
      exact px_expr (pxe_raises x1 hr1 (pda_cons pd_str (pda_cons (pd_var 3 rfl (.int _)) (pda_cons (pd_globI m3) pda_nil))) ⟨rfl, _, _, _, rfl, by decide +kernel, by decide, by decide, by omega⟩ hL (fun H' e => (e1.trans e2).trans e) fun _ z => z.1)
    · exact px_expr (pxe_raises x1 hr1 (pda_cons pd_str (pda_cons (pd_var 2 rfl (.int _)) (pda_cons (pd_globI m2) pda_nil))) ⟨rfl, _, _, _, rfl, by decide +kernel, by decide, by decide, by omega⟩ hL (fun H' e => e1.trans e) fun _ z => z.1)
  · exact px_expr (pxe_raises x1 hr1 (pda_cons pd_str (pda_cons (pd_var 1 rfl (.int _)) (pda_cons (pd_globI m1) pda_nil))) ⟨rfl, _, _, _, rfl, by decide +kernel, by decide, by decide, by omega⟩ hL (fun H' e => e) fun _ z => z.1)
def RX_made (c0 : Addr) (ds : List D) (c : Addr) : Prop := c = c0 ∧ ∃ g1 g2 g3, ds = [dW (g1, g2, g3)] ∧ ¬ M.Good g1 g2 g3
theorem ex_made (x1 : RaisesC P w K mg base 2 C "Rules" ["self", "points", "games", "sets"] (RX_init c0)) (h : Has K mg "_law_made" st__law_made ["wanted"]) : Raises P w K mg base 4 "_law_made" ["wanted"] (RX_made c0) := by
  refine h.raises sc__law_made (fun ds c ⟨_, _, _, _, e, _⟩ => by rw [e]; rfl) fun f cdv A outer s H E vs ds c hr hl hR hL => ?_
  obtain ⟨rfl, g1, g2, g3, rfl, hg⟩ := hR
  obtain ⟨v0, rfl, h0⟩ := isL1 hl
  exact px_ret (pxe_raisesC x1 hr (pda_cons (pd_ixL (d := .int g1) (pd_var 0 rfl h0) pd_int) (pda_cons (pd_ixL (d := .int g2) (pd_var 0 rfl h0) pd_int) (pda_cons (pd_ixL (d := .int g3) (pd_var 0 rfl h0) pd_int) pda_nil))) ⟨rfl, g1, g2, g3, rfl, hg⟩ hL fun _ H' e => e)
def RX_unr (C c1 : Addr) (ds : List D) (c : Addr) : Prop := c = c1 ∧ ∃ g1 g2 g3 s, ds = [.obj C (fsR g1 g2 g3), dS s] ∧ M.reached g1 g2 g3 s = false
theorem ex_refuse_unreached (ec : ErrCls K c1) (m1 : mg "BadStanding" = some (.ref c1)) (d1 : Does P w K mg base 3 "is_reached" ["rules", "standing"] (R_is_reached C)) (h : Has K mg "refuse_unreached" st_refuse_unreached ["rules", "standing"]) :
    Raises P w K mg base 4 "refuse_unreached" ["rules", "standing"] (RX_unr C c1) := by
  refine h.raises sc_refuse_unreached (fun ds c ⟨_, _, _, _, _, e, _⟩ => by rw [e]; rfl) fun f cdv A outer s H E vs ds c hr hl hR hL => ?_
  obtain ⟨rfl, g1, g2, g3, st, rfl, hre⟩ := hR
  obtain ⟨v0, v1, rfl, h0, h1⟩ := isL2 hl
  refine px_if (pdt_not (pdt_val (pd_does d1 hr (pda_cons (pd_var 0 rfl h0) (pda_cons (pd_var 1 rfl h1) pda_nil)) ⟨_, _, _, _, rfl, rfl⟩))) (fun _ => px_raise ec rfl m1 pd_str hL fun H' e => e) (fun z => absurd z ?_)
  rw [hre]; decide
theorem ex_winner (x1 : Raises P w K mg base 4 "refuse_unreached" ["rules", "standing"] (RX_unr C c1)) (h : Has K mg "winner" st_winner ["rules", "standing"]) : Raises P w K mg base 5 "winner" ["rules", "standing"] (RX_unr C c1) := by
  refine h.raises sc_winner (fun ds c ⟨_, _, _, _, _, e, _⟩ => by rw [e]; rfl) fun f cdv A outer s H E vs ds c hr hl hR hL => ?_
  have hR' := hR
  obtain ⟨rfl, g1, g2, g3, st, rfl, hre⟩ := hR
  obtain ⟨v0, v1, rfl, h0, h1⟩ := isL2 hl
  exact px_expr (pxe_raises x1 hr (pda_cons (pd_var 0 rfl h0) (pda_cons (pd_var 1 rfl h1) pda_nil)) hR' hL (fun H' e => e) fun _ z => z.1)
def RX_after1 (C c1 : Addr) (ds : List D) (c : Addr) : Prop := c = c1 ∧ ∃ g1 g2 g3 s v, ds = [.obj C (fsR g1 g2 g3), dS s, .int v] ∧ M.reached g1 g2 g3 s = false
theorem ex_after1 (x1 : Raises P w K mg base 5 "winner" ["rules", "standing"] (RX_unr C c1)) (h : Has K mg "after" st_after ["rules", "standing", "who"]) : Raises P w K mg base 6 "after" ["rules", "standing", "who"] (RX_after1 C c1) := by
  refine h.raises sc_after (fun ds c ⟨_, _, _, _, _, _, e, _⟩ => by rw [e]; rfl) fun f cdv A outer s H E vs ds c hr hl hR hL => ?_
  obtain ⟨rfl, g1, g2, g3, st, v, rfl, hre⟩ := hR
  obtain ⟨v0, v1, v2, rfl, h0, h1, h2⟩ := isL3 hl
  exact px_ift (pxt_notN (pxe_raises x1 hr (pda_cons (pd_var 0 rfl h0) (pda_cons (pd_var 1 rfl h1) pda_nil)) ⟨rfl, _, _, _, _, rfl, hre⟩ hL (fun H' e => e) fun _ z => z.1))
def RX_after2 (C c2 : Addr) (ds : List D) (c : Addr) : Prop := c = c2 ∧ ∃ g1 g2 g3 s v, ds = [.obj C (fsR g1 g2 g3), dS s, .int v] ∧ M.reached g1 g2 g3 s = true ∧ M.over g3 s = true
theorem wnr_some {g1 g2 g3 : Int} {s : M.Stg} (h : M.reached g1 g2 g3 s = true) (ho : M.over g3 s = true) : isNon (M.wnr g3 s) = false := by
  rw [(M.wnr_over h ho).1]; rfl
theorem ex_after2 (ec : ErrCls K c2) (mO : mg "Over" = some (.ref c2)) (d4 : Does P w K mg base 5 "winner" ["rules", "standing"] (R_winner C)) (h : Has K mg "after" st_after ["rules", "standing", "who"]) :
    Raises P w K mg base 6 "after" ["rules", "standing", "who"] (RX_after2 C c2) := by
  refine h.raises sc_after (fun ds c ⟨_, _, _, _, _, _, e, _⟩ => by rw [e]; rfl) fun f cdv A outer s H E vs ds c hr hl hR hL => ?_
  obtain ⟨rfl, g1, g2, g3, st, v, rfl, hre, hov⟩ := hR
  obtain ⟨v0, v1, v2, rfl, h0, h1, h2⟩ := isL3 hl
  refine px_if (pdt_notN (pd_does d4 hr (pda_cons (pd_var 0 rfl h0) (pda_cons (pd_var 1 rfl h1) pda_nil)) ⟨_, _, _, _, rfl, hre, rfl⟩)) (fun _ => px_raise ec rfl mO pd_str hL fun H' e => e) (fun z => absurd z ?_)
  rw [wnr_some hre hov]; decide
def badP (p : M.Pr) : Prop := p.1 < 0 ∨ p.2 < p.1
def RX_badpart (c3 : Addr) (ds : List D) (c : Addr) : Prop := c = c3 ∧ ∃ p, ds = [dP p] ∧ badP p
theorem ex_badpart (ec : ErrCls K c3) (m3 : mg "BadPart" = some (.ref c3)) (h : Has K mg "refuse_bad_part" st_refuse_bad_part ["part"]) : Raises P w K mg base 1 "refuse_bad_part" ["part"] (RX_badpart c3) := by
  refine h.raises sc_refuse_bad_part (fun ds c ⟨_, _, e, _⟩ => by rw [e]; rfl) fun f cdv A outer s H E vs ds c hr hl hR hL => ?_
  obtain ⟨rfl, p, rfl, hp⟩ := hR
  obtain ⟨v0, rfl, h0⟩ := isL1 hl
  refine px_if (PDW.pt (pdw_or (pdt_lt (pd_ixT (d := .int p.1) (pd_var 0 rfl h0) pd_int) pd_int) fun _ => pdw_or1 (pdt_gt (pd_ixT (d := .int p.1) (pd_var 0 rfl h0) pd_int) (pd_ixT (d := .int p.2) (pd_var 0 rfl h0) pd_int))))
    (fun _ => px_raise ec rfl m3 pd_str hL fun H' e => e) (fun z => absurd z ?n)
  unfold badP at hp
  simp; omega
def RX_worth1 (C c1 : Addr) (ds : List D) (c : Addr) : Prop := c = c1 ∧ ∃ g1 g2 g3 s x y z, ds = [.obj C (fsR g1 g2 g3), dS s, x, y, z] ∧ M.reached g1 g2 g3 s = false
theorem ex_worth1 (x1 : Raises P w K mg base 5 "winner" ["rules", "standing"] (RX_unr C c1)) (h : Has K mg "worth" st_worth ["rules", "standing", "part", "cost", "ends"]) : Raises P w K mg base 6 "worth" ["rules", "standing", "part", "cost", "ends"] (RX_worth1 C c1) := by
  refine h.raises sc_worth (fun ds c ⟨_, _, _, _, _, _, _, _, e, _⟩ => by rw [e]; rfl) fun f cdv A outer s H E vs ds c hr hl hR hL => ?_
  obtain ⟨rfl, g1, g2, g3, st, x, y, z, rfl, hre⟩ := hR
  obtain ⟨v0, vr, rfl, h0, hl'⟩ : ∃ v0 vr, vs = v0 :: vr ∧ Is K H (.obj C (fsR g1 g2 g3)) v0 ∧ IsL K H [dS st, x, y, z] vr := by
    cases hl with | cons a b => exact ⟨_, _, rfl, a, b⟩
  obtain ⟨v1, v2, v3, v4, rfl, h1, h2, h3, h4⟩ := isL4 hl'
  exact px_set 5 sc_worth.nd (pxe_raises x1 hr (pda_cons (pd_var 0 rfl h0) (pda_cons (pd_var 1 rfl h1) pda_nil)) ⟨rfl, _, _, _, _, rfl, hre⟩ hL (fun H' e => e) fun _ z => z.1)
def RX_worth3 (C c3 : Addr) (ds : List D) (c : Addr) : Prop := c = c3 ∧ ∃ g1 g2 g3 s p y z, ds = [.obj C (fsR g1 g2 g3), dS s, dP p, y, z] ∧ M.reached g1 g2 g3 s = true ∧ badP p
theorem ex_worth3 (dWin : Does P w K mg base 5 "winner" ["rules", "standing"] (R_winner C)) (x1 : Raises P w K mg base 1 "refuse_bad_part" ["part"] (RX_badpart c3)) (h : Has K mg "worth" st_worth ["rules", "standing", "part", "cost", "ends"]) :
    Raises P w K mg base 6 "worth" ["rules", "standing", "part", "cost", "ends"] (RX_worth3 C c3) := by
  refine h.raises sc_worth (fun ds c ⟨_, _, _, _, _, _, _, _, e, _⟩ => by rw [e]; rfl) fun f cdv A outer s H E vs ds c hr hl hR hL => ?_
  obtain ⟨rfl, g1, g2, g3, st, p, y, z, rfl, hre, hp⟩ := hR
  obtain ⟨v0, vr, rfl, h0, hl'⟩ : ∃ v0 vr, vs = v0 :: vr ∧ Is K H (.obj C (fsR g1 g2 g3)) v0 ∧ IsL K H [dS st, dP p, y, z] vr := by
    cases hl with | cons a b => exact ⟨_, _, rfl, a, b⟩
  obtain ⟨v1, v2, v3, v4, rfl, h1, h2, h3, h4⟩ := isL4 hl'
  refine px_cons (Post := fun σ' _ => ∃ v5, σ' = [some v0, some v1, some v2, some v3, some v4, some v5, none, none, none, none, none]) (pn1_set 5 sc_worth.nd (pd_does dWin hr (pda_cons (pd_var 0 rfl h0) (pda_cons (pd_var 1 rfl h1) pda_nil)) ⟨_, _, _, _, rfl, hre, rfl⟩) fun v5 H5 e5 h5 => ⟨v5, rfl⟩) fun σ' H5 e5 ⟨v5, hs⟩ => ?_
  subst hs
  exact px_expr (pxe_raises x1 (hr.mono (by decide)) (pda_cons (pd_var 2 rfl (h2.mono e5)) pda_nil) ⟨rfl, p, rfl, hp⟩ hL (fun H' e => e5.trans e) fun _ z => z.1)
def RX_ch1 (C c1 : Addr) (ds : List D) (c : Addr) : Prop := c = c1 ∧ ∃ g1 g2 g3 s x, ds = [.obj C (fsR g1 g2 g3), dS s, x] ∧ M.reached g1 g2 g3 s = false
def RX_ch3 (C c3 : Addr) (ds : List D) (c : Addr) : Prop := c = c3 ∧ ∃ g1 g2 g3 s p, ds = [.obj C (fsR g1 g2 g3), dS s, dP p] ∧ M.reached g1 g2 g3 s = true ∧ badP p
theorem ex_ch1 (Y : Ty K mg CR) (x1 : Raises P w K mg base 6 "worth" ["rules", "standing", "part", "cost", "ends"] (RX_worth1 C c1)) (h : Has K mg "chance" st_chance ["rules", "standing", "part"]) : Raises P w K mg base 7 "chance" ["rules", "standing", "part"] (RX_ch1 C c1) := by
  refine h.raises sc_chance (fun ds c ⟨_, _, _, _, _, _, e, _⟩ => by rw [e]; rfl) fun f cdv A outer s H E vs ds c hr hl hR hL => ?_
  obtain ⟨rfl, g1, g2, g3, st, x, rfl, hre⟩ := hR
  obtain ⟨v0, v1, v2, rfl, h0, h1, h2⟩ := isL3 hl
  obtain ⟨az, mz, nz⟩ := Y.zero
  obtain ⟨ao, mo, no⟩ := Y.one
  exact px_ret (pxe_raises x1 hr (pda_cons (pd_var 0 rfl h0) (pda_cons (pd_var 1 rfl h1) (pda_cons (pd_var 2 rfl h2) (pda_cons (pd_globR mz (nz _)) (pda_cons (pd_tup (pda_cons (pd_globR mo (no _)) (pda_cons (pd_globR mz (nz _)) pda_nil))) pda_nil)))))
    ⟨rfl, _, _, _, _, _, _, _, rfl, hre⟩ hL (fun H' e => e) fun _ z => z.1)
theorem ex_ch3 (Y : Ty K mg CR) (x1 : Raises P w K mg base 6 "worth" ["rules", "standing", "part", "cost", "ends"] (RX_worth3 C c3)) (h : Has K mg "chance" st_chance ["rules", "standing", "part"]) : Raises P w K mg base 7 "chance" ["rules", "standing", "part"] (RX_ch3 C c3) := by
  refine h.raises sc_chance (fun ds c ⟨_, _, _, _, _, _, e, _⟩ => by rw [e]; rfl) fun f cdv A outer s H E vs ds c hr hl hR hL => ?_
  obtain ⟨rfl, g1, g2, g3, st, p, rfl, hre, hp⟩ := hR
  obtain ⟨v0, v1, v2, rfl, h0, h1, h2⟩ := isL3 hl
  obtain ⟨az, mz, nz⟩ := Y.zero
  obtain ⟨ao, mo, no⟩ := Y.one
  exact px_ret (pxe_raises x1 hr (pda_cons (pd_var 0 rfl h0) (pda_cons (pd_var 1 rfl h1) (pda_cons (pd_var 2 rfl h2) (pda_cons (pd_globR mz (nz _)) (pda_cons (pd_tup (pda_cons (pd_globR mo (no _)) (pda_cons (pd_globR mz (nz _)) pda_nil))) pda_nil)))))
    ⟨rfl, _, _, _, _, _, _, _, rfl, hre, hp⟩ hL (fun H' e => e) fun _ z => z.1)
theorem ex_pt1 (Y : Ty K mg CR) (x1 : Raises P w K mg base 6 "worth" ["rules", "standing", "part", "cost", "ends"] (RX_worth1 C c1)) (h : Has K mg "points_to_come" st_points_to_come ["rules", "standing", "part"]) : Raises P w K mg base 7 "points_to_come" ["rules", "standing", "part"] (RX_ch1 C c1) := by
  refine h.raises sc_points_to_come (fun ds c ⟨_, _, _, _, _, _, e, _⟩ => by rw [e]; rfl) fun f cdv A outer s H E vs ds c hr hl hR hL => ?_
  obtain ⟨rfl, g1, g2, g3, st, x, rfl, hre⟩ := hR
  obtain ⟨v0, v1, v2, rfl, h0, h1, h2⟩ := isL3 hl
  obtain ⟨az, mz, nz⟩ := Y.zero
  obtain ⟨ao, mo, no⟩ := Y.one
  exact px_ret (pxe_raises x1 hr (pda_cons (pd_var 0 rfl h0) (pda_cons (pd_var 1 rfl h1) (pda_cons (pd_var 2 rfl h2) (pda_cons (pd_globR mo (no _)) (pda_cons (pd_tup (pda_cons (pd_globR mz (nz _)) (pda_cons (pd_globR mz (nz _)) pda_nil))) pda_nil)))))
    ⟨rfl, _, _, _, _, _, _, _, rfl, hre⟩ hL (fun H' e => e) fun _ z => z.1)
theorem ex_pt3 (Y : Ty K mg CR) (x1 : Raises P w K mg base 6 "worth" ["rules", "standing", "part", "cost", "ends"] (RX_worth3 C c3)) (h : Has K mg "points_to_come" st_points_to_come ["rules", "standing", "part"]) : Raises P w K mg base 7 "points_to_come" ["rules", "standing", "part"] (RX_ch3 C c3) := by
  refine h.raises sc_points_to_come (fun ds c ⟨_, _, _, _, _, _, e, _⟩ => by rw [e]; rfl) fun f cdv A outer s H E vs ds c hr hl hR hL => ?_
  obtain ⟨rfl, g1, g2, g3, st, p, rfl, hre, hp⟩ := hR
  obtain ⟨v0, v1, v2, rfl, h0, h1, h2⟩ := isL3 hl
  obtain ⟨az, mz, nz⟩ := Y.zero
  obtain ⟨ao, mo, no⟩ := Y.one
  exact px_ret (pxe_raises x1 hr (pda_cons (pd_var 0 rfl h0) (pda_cons (pd_var 1 rfl h1) (pda_cons (pd_var 2 rfl h2) (pda_cons (pd_globR mo (no _)) (pda_cons (pd_tup (pda_cons (pd_globR mz (nz _)) (pda_cons (pd_globR mz (nz _)) pda_nil))) pda_nil)))))
    ⟨rfl, _, _, _, _, _, _, _, rfl, hre, hp⟩ hL (fun H' e => e) fun _ z => z.1)
theorem ex_shown (x1 : Raises P w K mg base 4 "refuse_unreached" ["rules", "standing"] (RX_unr C c1)) (h : Has K mg "shown" st_shown ["rules", "standing"]) : Raises P w K mg base 5 "shown" ["rules", "standing"] (RX_unr C c1) := by
  refine h.raises sc_shown (fun ds c ⟨_, _, _, _, _, e, _⟩ => by rw [e]; rfl) fun f cdv A outer s H E vs ds c hr hl hR hL => ?_
  have hR' := hR
  obtain ⟨rfl, g1, g2, g3, st, rfl, hre⟩ := hR
  obtain ⟨v0, v1, rfl, h0, h1⟩ := isL2 hl
  exact px_expr (pxe_raises x1 hr (pda_cons (pd_var 0 rfl h0) (pda_cons (pd_var 1 rfl h1) pda_nil)) hR' hL (fun H' e => e) fun _ z => z.1)
end
end Q
set_option Elab.async false
set_option linter.all false
set_option maxRecDepth 100000
set_option maxHeartbeats 4000000
namespace Q
open PySem PySem.Spec PyProof.Rows L2 L3
section
variable {P : Program} {w : World} {K : PySem.W.Frag} {mg : Str → Option Value} {base : Heap} {C CR c0 c1 c2 c3 : Addr}
structure Tv (mg : Str → Option Value) : Prop where
  str : mg "str" = none
  blk : ∃ t, mg "BLOCK" = some (.int 1000000000 t)
def okN (n : Int) : Prop := 0 ≤ n ∧ n < 1000000000
def txN (n : Int) : Str := Txt.join ("" : Str) [Str.ofString (toString n)]
def txP (q : M.Pr) : Str := Txt.join (":" : Str) [txN q.1, txN q.2]
def txS (s : M.Stg) : Str := Txt.join (" " : Str) [txP s.1, txP s.2.1, txP s.2.2]
theorem join_le (y : Str) (ts : List Str) : (Txt.join y ts).length ≤ (ts.map (·.length)).sum + ts.length * y.length := by
  show (PySem.Builtin.Str.glued y ts).length ≤ _
  rw [StrLaws.glued_eq_join]
  exact StrLaws.join_length_le y ts
theorem len0 : (("" : String) : Str).length = 0 := by decide +kernel
theorem len1 : ((":" : String) : Str).length = 1 := by decide +kernel
theorem lenb : ((" " : String) : Str).length = 1 := by decide +kernel
theorem txN_len {n : Int} (h : okN n) : (txN n).length ≤ 9 := by
  have := join_le ("" : Str) [Str.ofString (toString n)]
  have h2 := toString_length_le (k := 9) h.1 (by decide) h.2
  simp only [List.map_cons, List.map_nil, List.sum_cons, List.sum_nil, List.length_cons, List.length_nil, len0] at this
  unfold txN; omega
theorem txP_len {q : M.Pr} (h1 : okN q.1) (h2 : okN q.2) : (txP q).length ≤ 20 := by
  have := join_le (":" : Str) [txN q.1, txN q.2]
  have a := txN_len h1
  have b := txN_len h2
  simp only [List.map_cons, List.map_nil, List.sum_cons, List.sum_nil, List.length_cons, List.length_nil, len1] at this
  unfold txP; omega
theorem ok_join {y : Str} {ts : List Str} (hy : y.length ≤ 1) (ht : (ts.map (·.length)).sum + ts.length ≤ 1000) : JoinOk y ts = true := joinOk_of_weight (by omega) (by omega)
def R_num (ds : List D) (r : D) : Prop := ∃ n, ds = [.int n] ∧ okN n ∧ r = .str (txN n)
theorem ok_number_shown (V : Tv mg) (h : Has K mg "number_shown" st_number_shown ["number"]) : Does P w K mg base 1 "number_shown" ["number"] R_num := by
  refine h.does sc_number_shown (fun ds r ⟨_, e, _⟩ => by rw [e]; rfl) fun f cdv A outer s H E vs ds r hr hl hR => ?_
  obtain ⟨n, rfl, hn, rfl⟩ := hR
  obtain ⟨v0, rfl, h0⟩ := isL1 hl
  cases h0
  obtain ⟨tb, hb⟩ := V.blk
  refine pr_pqr fun H1 e1 => ?_
  refine pqr_cons (Mid := fun σ' H' => ∃ l, σ' = [some (.int n), some (.ref l)] ∧ Same H1 H' ∧ H1 l = none ∧ H' l = some (.lst [])) (pq1_new 1 sc_number_shown.nd fun σ' H' ⟨z1, z2⟩ => ?_) ?_
  · subst z1; subst z2
    refine ⟨[], pl_lst pda_nil, fun l vs H2 e2 hnn hl2 hvs => ?_⟩
    obtain rfl := isL0 hvs
    exact ⟨l, rfl, e2, hnn, hl2⟩
  refine pqr_cons (Mid := fun σ' H' => ∃ l, σ' = [some (.int n), some (.ref l)] ∧ Same H1 H' ∧ H1 l = none ∧ H' l = some (.lst [])) (pq1_pn (Post := fun σ _ σ' _ => σ' = σ) (fun σ H2 z => ?_) fun σ H2 σ' H3 z e y => ?_) ?_
  · obtain ⟨l, z1, z2, z3, z4⟩ := z
    subst z1
    refine pn1_while (fun σ' _ => σ' = [some (.int n), some (.ref l)]) (fun _ => 0) PassesOwn.never (fun _ _ => rfl) fun σ1 H3 e3 hs => ?_
    subst hs
    refine ⟨_, pdt_ge (pd_var 0 rfl (.int _)) (pd_globI hb), fun z => absurd z ?_, fun _ H4 e4 => rfl⟩
    have := hn.2
    simp; omega
  · subst y
    obtain ⟨l, z1, z2, z3, z4⟩ := z
    exact ⟨l, z1, z2.trans e, z3, e _ _ z4⟩
  refine pqr_cons (Mid := fun σ' H' => ∃ l, σ' = [some (.int n), some (.ref l)] ∧ Same H1 H' ∧ H1 l = none ∧ H' l = some (.lst [.str (Str.ofString (toString n))])) (pq1_append fun σ' H' ⟨l, z1, z2, z3, z4⟩ => ?_) ?_
  · subst z1
    refine ⟨l, [], _, pd_var 1 rfl (.adr l), z4, small1000 (by simp), pd_strI V.str (pd_var 0 rfl (.int _)) (small_log hn.1 (by have := hn.2; omega)), fun v H2 e2 hv => ?_⟩
    cases hv
    exact ⟨l, rfl, fun b o e => by rw [upd_ne (ne_of_none e z3)]; exact e2 _ _ (z2 _ _ e), z3, upd_same⟩
  refine pqr_cons (Mid := fun σ' H' => ∃ l, σ' = [some (.int n), some (.ref l)] ∧ Same H1 H' ∧ H1 l = none ∧ H' l = some (.lst [.str (Str.ofString (toString n))])) (pq1_reverse fun σ' H' ⟨l, z1, z2, z3, z4⟩ => ?_) ?_
  · subst z1
    exact ⟨l, _, pd_var 1 rfl (.adr l), z4, fun H2 e2 => ⟨l, rfl, fun b o e => by rw [upd_ne (ne_of_none e z3)]; exact e2 _ _ (z2 _ _ e), z3, upd_same⟩⟩
  · refine pqr_pr fun σ' H' ⟨l, z1, z2, z3, z4⟩ => ?_
    subst z1
    have hl : Is K H' (.lst ([Str.ofString (toString n)].map D.str)) (.ref l) := .lst (SqL.of z4) (.cons (.str _) .nil)
    refine ⟨_, pr_ret (pd_join pd_str (pd_var 1 rfl hl) (ok_join (by rw [len0]; decide) ?_)), fun v' H2 e2 hv' => ⟨z2.trans e2, hv'⟩⟩
    have h2 := toString_length_le (k := 9) hn.1 (by decide) hn.2
    simp only [List.map_cons, List.map_nil, List.sum_cons, List.sum_nil, List.length_cons, List.length_nil]
    omega
def R_pshown (ds : List D) (r : D) : Prop := ∃ q, ds = [dP q] ∧ okN q.1 ∧ okN q.2 ∧ r = .str (txP q)
theorem ok_pair_shown (d1 : Does P w K mg base 1 "number_shown" ["number"] R_num) (h : Has K mg "pair_shown" st_pair_shown ["pair"]) : Does P w K mg base 2 "pair_shown" ["pair"] R_pshown := by
  refine h.does sc_pair_shown (fun ds r ⟨_, e, _⟩ => by rw [e]; rfl) fun f cdv A outer s H E vs ds r hr hl hR => ?_
  obtain ⟨q, rfl, q1, q2, rfl⟩ := hR
  obtain ⟨v0, rfl, h0⟩ := isL1 hl
  refine pr_ret (pd_join (ts := [txN q.1, txN q.2]) pd_str ?c ?k)
  case c =>
   refine (PL.pd (pl_comp (n := 2) (din := fun i => [D.int q.1, .int q.2].getD i .non) (dout := fun i => [D.str (txN q.1), .str (txN q.2)].getD i .non) (N := ["number"]) (σc := [none]) (cl := []) rfl
    (takes0 (by decide +kernel) (by decide +kernel) rfl (by decide +kernel) rfl) (gives_tup (ds := [D.int q.1, .int q.2]) (pd_var 0 rfl h0)) (by decide) ?n ?e)).cast rfl
   case n => intro i; match i with | 0 => rfl | 1 => rfl | _ + 2 => rfl
   case e =>
     intro Cc s2 H2' fp i v H6 hi6 e6 hv
     match i, hi6, hv with
     | 0, _, hv =>
       cases hv
       exact pd_does d1 hr (pda_cons (pd_var 0 rfl (.int _)) pda_nil) ⟨_, rfl, q1, rfl⟩
     | 1, _, hv =>
       cases hv
       exact pd_does d1 hr (pda_cons (pd_var 0 rfl (.int _)) pda_nil) ⟨_, rfl, q2, rfl⟩
  case k =>
    have a := txN_len q1
    have b := txN_len q2
    refine ok_join (by rw [len1]; decide) ?_
    simp only [List.map_cons, List.map_nil, List.sum_cons, List.sum_nil, List.length_cons, List.length_nil]
    omega
def okS (s : M.Stg) : Prop := (okN s.1.1 ∧ okN s.1.2) ∧ (okN s.2.1.1 ∧ okN s.2.1.2) ∧ okN s.2.2.1 ∧ okN s.2.2.2
def R_shown (C : Addr) (ds : List D) (r : D) : Prop := ∃ g1 g2 g3 s, ds = [.obj C (fsR g1 g2 g3), dS s] ∧ M.reached g1 g2 g3 s = true ∧ okS s ∧ r = .str (txS s)
theorem ok_shown (d1 : Does P w K mg base 4 "refuse_unreached" ["rules", "standing"] (R_refuse_unreached C)) (d2 : Does P w K mg base 2 "pair_shown" ["pair"] R_pshown) (h : Has K mg "shown" st_shown ["rules", "standing"]) : Does P w K mg base 5 "shown" ["rules", "standing"] (R_shown C) := by
  refine h.does sc_shown (fun ds r ⟨_, _, _, _, e, _⟩ => by rw [e]; rfl) fun f cdv A outer s H E vs ds r hr hl hR => ?_
  obtain ⟨g1, g2, g3, st, rfl, hre, ⟨⟨a1, a2⟩, ⟨a3, a4⟩, a5, a6⟩, rfl⟩ := hR
  obtain ⟨v0, v1, rfl, h0, h1⟩ := isL2 hl
  refine pr_cons (Post := fun σ' _ => σ' = [some v0, some v1]) (pn1_expr (pd_does d1 hr (pda_cons (pd_var 0 rfl h0) (pda_cons (pd_var 1 rfl h1) pda_nil)) ⟨_, _, _, _, rfl, hre, rfl⟩) fun _ _ => rfl) fun σ' H1 e1 hs => ?_
  subst hs
  replace h1 := h1.mono e1
  refine pr_ret (pd_join (ts := [txP st.1, txP st.2.1, txP st.2.2]) pd_str ?c ?k)
  case c =>
   refine (PL.pd (pl_comp (n := 3) (din := fun i => [dP st.1, dP st.2.1, dP st.2.2].getD i .non) (dout := fun i => [D.str (txP st.1), .str (txP st.2.1), .str (txP st.2.2)].getD i .non) (N := ["pair"]) (σc := [none]) (cl := []) rfl
    (takes0 (by decide +kernel) (by decide +kernel) rfl (by decide +kernel) rfl) (gives_tup (ds := [dP st.1, dP st.2.1, dP st.2.2]) (pd_var 1 rfl h1)) (by decide) ?n ?e)).cast rfl
   case n => intro i; match i with | 0 => rfl | 1 => rfl | 2 => rfl | _ + 3 => rfl
   case e =>
     intro Cc s2 H2' fp i v H6 hi6 e6 hv
     have hr2 : Room 2 _ := hr.mono (by decide)
     match i, hi6, hv with
     | 0, _, hv => exact pd_does d2 hr2 (pda_cons (pd_var 0 rfl hv) pda_nil) ⟨_, rfl, a1, a2, rfl⟩
     | 1, _, hv => exact pd_does d2 hr2 (pda_cons (pd_var 0 rfl hv) pda_nil) ⟨_, rfl, a3, a4, rfl⟩
     | 2, _, hv => exact pd_does d2 hr2 (pda_cons (pd_var 0 rfl hv) pda_nil) ⟨_, rfl, a5, a6, rfl⟩
  case k =>
    have a := txP_len a1 a2
    have b := txP_len a3 a4
    have c := txP_len a5 a6
    refine ok_join (by rw [lenb]; decide) ?_
    simp only [List.map_cons, List.map_nil, List.sum_cons, List.sum_nil, List.length_cons, List.length_nil]
    omega
end
end Q
set_option Elab.async false
set_option linter.all false
set_option maxRecDepth 100000
set_option maxHeartbeats 4000000
namespace Q
open PySem PySem.Spec PyProof.Rows L2 L3
section
variable {P : Program} {w : World} {K : PySem.W.Frag} {mg : Str → Option Value} {base : Heap} {C CR CE c0 c1 c2 c3 c4 c5 : Addr}
structure Tm (mg : Str → Option Value) (CE c0 c1 c2 c3 c4 c5 : Addr) : Prop where
  m0 : mg "BadRules" = some (.ref c0)
  m1 : mg "BadStanding" = some (.ref c1)
  m2 : mg "Over" = some (.ref c2)
  m3 : mg "BadPart" = some (.ref c3)
  m4 : mg "NoSuch" = some (.ref c4)
  m5 : mg "NoText" = some (.ref c5)
  mE : mg "CourtError" = some (.ref CE)
  mV : mg "ValueError" = none
structure ErrAt (K : PySem.W.Frag) (CE c0 c1 c2 c3 c4 c5 c : Addr) (b0 b1 b2 b3 : Bool) : Prop where
  ec : ErrCls K c
  ca : Caught K c CE
  gt : ExcGet K c
  k0 : PySem.W.kitOne K (.ref c) (.ref c0) = some b0
  k1 : PySem.W.kitOne K (.ref c) (.ref c1) = some b1
  k2 : PySem.W.kitOne K (.ref c) (.ref c2) = some b2
  k3 : PySem.W.kitOne K (.ref c) (.ref c3) = some b3
  k4 : PySem.W.kitOne K (.ref c) (.ref c4) = some false
  k5 : PySem.W.kitOne K (.ref c) (.ref c5) = some false
  kE : PySem.W.kitOne K (.ref c) (.ref CE) = some true
  kV : PySem.W.kitOne K (.ref c) (.type "ValueError") = some true
structure Errs (K : PySem.W.Frag) (mg : Str → Option Value) (CE c0 c1 c2 c3 c4 c5 : Addr) : Prop where
  m : Tm mg CE c0 c1 c2 c3 c4 c5
  e0 : ErrAt K CE c0 c1 c2 c3 c4 c5 c0 true false false false
  e1 : ErrAt K CE c0 c1 c2 c3 c4 c5 c1 false true false false
  e2 : ErrAt K CE c0 c1 c2 c3 c4 c5 c2 false false true false
  e3 : ErrAt K CE c0 c1 c2 c3 c4 c5 c3 false false false true
theorem errat_mk {K : PySem.W.Frag} {CE c0 c1 c2 c3 c4 c5 c : Addr} {b0 b1 b2 b3 : Bool} (ec : ErrCls K c) (ca : Caught K c CE) (gt : ExcGet K c) (k0 : PySem.W.kitOne K (.ref c) (.ref c0) = some b0) (k1 : PySem.W.kitOne K (.ref c) (.ref c1) = some b1)
    (k2 : PySem.W.kitOne K (.ref c) (.ref c2) = some b2) (k3 : PySem.W.kitOne K (.ref c) (.ref c3) = some b3) (k4 : PySem.W.kitOne K (.ref c) (.ref c4) = some false) (k5 : PySem.W.kitOne K (.ref c) (.ref c5) = some false)
    (kE : PySem.W.kitOne K (.ref c) (.ref CE) = some true) (kV : PySem.W.kitOne K (.ref c) (.type "ValueError") = some true) : ErrAt K CE c0 c1 c2 c3 c4 c5 c b0 b1 b2 b3 := ⟨ec, ca, gt, k0, k1, k2, k3, k4, k5, kE, kV⟩
def R_alone (c0 c1 c2 c3 : Addr) (ds : List D) (r : D) : Prop := (ds = [.exc c0] ∧ r = .int 0) ∨ (ds = [.exc c1] ∧ r = .int 1) ∨ (ds = [.exc c2] ∧ r = .int 2) ∨ (ds = [.exc c3] ∧ r = .int 3)
theorem ok_alone (T : Tx K mg C) (Z : Errs K mg CE c0 c1 c2 c3 c4 c5) (h : Has K mg "_law_alone" st__law_alone ["e"]) : Does P w K mg base 1 "_law_alone" ["e"] (R_alone c0 c1 c2 c3) := by
  refine h.does sc__law_alone (fun ds r z => by rcases z with ⟨e, _⟩ | ⟨e, _⟩ | ⟨e, _⟩ | ⟨e, _⟩ <;> rw [e] <;> rfl) fun f cdv A outer s H E vs ds r hr hl hR => ?_
  have m := Z.m
  rcases hR with ⟨rfl, rfl⟩ | ⟨rfl, rfl⟩ | ⟨rfl, rfl⟩ | ⟨rfl, rfl⟩
  · have Y := Z.e0
    obtain ⟨v0, rfl, h0⟩ := isL1 hl
    refine pr_new 1 sc__law_alone.nd (ds := [true, false, false, false].map D.bl) (pl_lst (pda_cons (pd_isiX Y.gt T.isi (pd_var 0 rfl h0) (pd_clsR m.m0) Y.k0) (pda_cons (pd_isiX Y.gt T.isi (pd_var 0 rfl h0) (pd_clsR m.m1) Y.k1)
      (pda_cons (pd_isiX Y.gt T.isi (pd_var 0 rfl h0) (pd_clsR m.m2) Y.k2) (pda_cons (pd_isiX Y.gt T.isi (pd_var 0 rfl h0) (pd_clsR m.m3) Y.k3) pda_nil))))) fun l1 vs1 H1 e1 hl1 hv1 => ?_
    replace h0 := h0.mono e1
    refine pr_new 1 sc__law_alone.nd (ds := [true, false, false, false].map D.bl ++ [false, false].map D.bl) (pl_cat (pd_var 1 rfl (.adr l1)) hl1 hv1 (pl_lst (pda_cons (pd_isiX Y.gt T.isi (pd_var 0 rfl h0) (pd_clsR m.m4) Y.k4) (pda_cons (pd_isiX Y.gt T.isi (pd_var 0 rfl h0) (pd_clsR m.m5) Y.k5) pda_nil))))
      fun l2 vs2 H2 e2 hl2 hv2 => ?_
    replace h0 := h0.mono e2
    have hL : Is K H2 (.lst ([true, false, false, false, false, false].map D.bl)) (.ref l2) := .lst (SqL.of hl2) hv2
    refine pr_if (k := false) (PDW.pt (pdw_or (k := false) (pdt_not (k := true) (pdt_val (pd_isiX Y.gt T.isi (pd_var 0 rfl h0) (pd_clsR m.mE) Y.kE))) fun _ => pdw_or (k := false) (pdt_not (k := true) (pdt_val (pd_isiX Y.gt T.isi (pd_var 0 rfl h0) (pd_ty m.mV) Y.kV))) fun _ =>
      pdw_or1 ((pdt_neI (pd_countB (k := true) (pd_var 1 rfl hL) pd_bl) pd_int).cast (by decide)))) (fun z => absurd z Bool.false_ne_true) (fun _ => ?_)
    exact (pr_ret (pd_indexB (k := true) (j := 0) (pd_var 1 rfl hL) pd_bl rfl (by decide))).cast rfl
  · have Y := Z.e1
    obtain ⟨v0, rfl, h0⟩ := isL1 hl
    refine pr_new 1 sc__law_alone.nd (ds := [false, true, false, false].map D.bl) (pl_lst (pda_cons (pd_isiX Y.gt T.isi (pd_var 0 rfl h0) (pd_clsR m.m0) Y.k0) (pda_cons (pd_isiX Y.gt T.isi (pd_var 0 rfl h0) (pd_clsR m.m1) Y.k1)
      (pda_cons (pd_isiX Y.gt T.isi (pd_var 0 rfl h0) (pd_clsR m.m2) Y.k2) (pda_cons (pd_isiX Y.gt T.isi (pd_var 0 rfl h0) (pd_clsR m.m3) Y.k3) pda_nil))))) fun l1 vs1 H1 e1 hl1 hv1 => ?_
    replace h0 := h0.mono e1
    refine pr_new 1 sc__law_alone.nd (ds := [false, true, false, false].map D.bl ++ [false, false].map D.bl) (pl_cat (pd_var 1 rfl (.adr l1)) hl1 hv1 (pl_lst (pda_cons (pd_isiX Y.gt T.isi (pd_var 0 rfl h0) (pd_clsR m.m4) Y.k4) (pda_cons (pd_isiX Y.gt T.isi (pd_var 0 rfl h0) (pd_clsR m.m5) Y.k5) pda_nil))))
      fun l2 vs2 H2 e2 hl2 hv2 => ?_
    replace h0 := h0.mono e2
    have hL : Is K H2 (.lst ([false, true, false, false, false, false].map D.bl)) (.ref l2) := .lst (SqL.of hl2) hv2
    refine pr_if (k := false) (PDW.pt (pdw_or (k := false) (pdt_not (k := true) (pdt_val (pd_isiX Y.gt T.isi (pd_var 0 rfl h0) (pd_clsR m.mE) Y.kE))) fun _ => pdw_or (k := false) (pdt_not (k := true) (pdt_val (pd_isiX Y.gt T.isi (pd_var 0 rfl h0) (pd_ty m.mV) Y.kV))) fun _ =>
      pdw_or1 ((pdt_neI (pd_countB (k := true) (pd_var 1 rfl hL) pd_bl) pd_int).cast (by decide)))) (fun z => absurd z Bool.false_ne_true) (fun _ => ?_)
    exact (pr_ret (pd_indexB (k := true) (j := 1) (pd_var 1 rfl hL) pd_bl rfl (by decide))).cast rfl
  · have Y := Z.e2
    obtain ⟨v0, rfl, h0⟩ := isL1 hl
    refine pr_new 1 sc__law_alone.nd (ds := [false, false, true, false].map D.bl) (pl_lst (pda_cons (pd_isiX Y.gt T.isi (pd_var 0 rfl h0) (pd_clsR m.m0) Y.k0) (pda_cons (pd_isiX Y.gt T.isi (pd_var 0 rfl h0) (pd_clsR m.m1) Y.k1)
      (pda_cons (pd_isiX Y.gt T.isi (pd_var 0 rfl h0) (pd_clsR m.m2) Y.k2) (pda_cons (pd_isiX Y.gt T.isi (pd_var 0 rfl h0) (pd_clsR m.m3) Y.k3) pda_nil))))) fun l1 vs1 H1 e1 hl1 hv1 => ?_
    replace h0 := h0.mono e1
    refine pr_new 1 sc__law_alone.nd (ds := [false, false, true, false].map D.bl ++ [false, false].map D.bl) (pl_cat (pd_var 1 rfl (.adr l1)) hl1 hv1 (pl_lst (pda_cons (pd_isiX Y.gt T.isi (pd_var 0 rfl h0) (pd_clsR m.m4) Y.k4) (pda_cons (pd_isiX Y.gt T.isi (pd_var 0 rfl h0) (pd_clsR m.m5) Y.k5) pda_nil))))
      fun l2 vs2 H2 e2 hl2 hv2 => ?_
    replace h0 := h0.mono e2
    have hL : Is K H2 (.lst ([false, false, true, false, false, false].map D.bl)) (.ref l2) := .lst (SqL.of hl2) hv2
    refine pr_if (k := false) (PDW.pt (pdw_or (k := false) (pdt_not (k := true) (pdt_val (pd_isiX Y.gt T.isi (pd_var 0 rfl h0) (pd_clsR m.mE) Y.kE))) fun _ => pdw_or (k := false) (pdt_not (k := true) (pdt_val (pd_isiX Y.gt T.isi (pd_var 0 rfl h0) (pd_ty m.mV) Y.kV))) fun _ =>
      pdw_or1 ((pdt_neI (pd_countB (k := true) (pd_var 1 rfl hL) pd_bl) pd_int).cast (by decide)))) (fun z => absurd z Bool.false_ne_true) (fun _ => ?_)
    exact (pr_ret (pd_indexB (k := true) (j := 2) (pd_var 1 rfl hL) pd_bl rfl (by decide))).cast rfl
  · have Y := Z.e3
    obtain ⟨v0, rfl, h0⟩ := isL1 hl
    refine pr_new 1 sc__law_alone.nd (ds := [false, false, false, true].map D.bl) (pl_lst (pda_cons (pd_isiX Y.gt T.isi (pd_var 0 rfl h0) (pd_clsR m.m0) Y.k0) (pda_cons (pd_isiX Y.gt T.isi (pd_var 0 rfl h0) (pd_clsR m.m1) Y.k1)
      (pda_cons (pd_isiX Y.gt T.isi (pd_var 0 rfl h0) (pd_clsR m.m2) Y.k2) (pda_cons (pd_isiX Y.gt T.isi (pd_var 0 rfl h0) (pd_clsR m.m3) Y.k3) pda_nil))))) fun l1 vs1 H1 e1 hl1 hv1 => ?_
    replace h0 := h0.mono e1
    refine pr_new 1 sc__law_alone.nd (ds := [false, false, false, true].map D.bl ++ [false, false].map D.bl) (pl_cat (pd_var 1 rfl (.adr l1)) hl1 hv1 (pl_lst (pda_cons (pd_isiX Y.gt T.isi (pd_var 0 rfl h0) (pd_clsR m.m4) Y.k4) (pda_cons (pd_isiX Y.gt T.isi (pd_var 0 rfl h0) (pd_clsR m.m5) Y.k5) pda_nil))))
      fun l2 vs2 H2 e2 hl2 hv2 => ?_
    replace h0 := h0.mono e2
    have hL : Is K H2 (.lst ([false, false, false, true, false, false].map D.bl)) (.ref l2) := .lst (SqL.of hl2) hv2
    refine pr_if (k := false) (PDW.pt (pdw_or (k := false) (pdt_not (k := true) (pdt_val (pd_isiX Y.gt T.isi (pd_var 0 rfl h0) (pd_clsR m.mE) Y.kE))) fun _ => pdw_or (k := false) (pdt_not (k := true) (pdt_val (pd_isiX Y.gt T.isi (pd_var 0 rfl h0) (pd_ty m.mV) Y.kV))) fun _ =>
      pdw_or1 ((pdt_neI (pd_countB (k := true) (pd_var 1 rfl hL) pd_bl) pd_int).cast (by decide)))) (fun z => absurd z Bool.false_ne_true) (fun _ => ?_)
    exact (pr_ret (pd_indexB (k := true) (j := 3) (pd_var 1 rfl hL) pd_bl rfl (by decide))).cast rfl
def R_lgo (ds : List D) (r : D) : Prop := ∃ q g, ds = [dP q, .int g] ∧ r = .bl (M.onB q g)
theorem ok_lgo (T : Tx K mg C) (h : Has K mg "_law_goes_on" st__law_goes_on ["pair", "wanted"]) : Does P w K mg base 1 "_law_goes_on" ["pair", "wanted"] R_lgo := by
  refine h.does sc__law_goes_on (fun ds r ⟨_, _, e, _⟩ => by rw [e]; rfl) fun f cdv A outer s H E vs ds r hr hl hR => ?_
  obtain ⟨q, g, rfl, rfl⟩ := hR
  obtain ⟨v0, v1, rfl, h0, h1⟩ := isL2 hl
  cases h1
  refine (pr_ret (pd_and (pd_ge (pd_min rfl T.min (pd_var 0 rfl h0)) pd_int) fun _ => pd_one (pd_or (pd_lt (pd_max rfl T.max (pd_var 0 rfl h0)) (pd_var 1 rfl (.int _))) fun _ =>
    pd_one (pd_lt (pd_abs T.abs (pd_sub (pd_ixT (d := .int q.1) (pd_var 0 rfl h0) pd_int) (pd_ixT (d := .int q.2) (pd_var 0 rfl h0) pd_int))) pd_int)))).cast ?_
  unfold M.onB M.won
  congr 2
  rw [Bool.not_and]
  congr 1
  · rw [← decide_not]; exact decide_eq_decide.mpr (by omega)
  · rw [← decide_not]; exact decide_eq_decide.mpr (by omega)
def R_lis (ds : List D) (r : D) : Prop := ∃ g s, ds = [dW g, dS s] ∧ r = .bl (M.reached g.1 g.2.1 g.2.2 s)
theorem mn_le_mx (q : M.Pr) : mnP q ≤ mxP q := by unfold mnP mxP; split <;> split <;> omega
theorem ok_lis (T : Tx K mg C) (d1 : Does P w K mg base 1 "_law_goes_on" ["pair", "wanted"] R_lgo) (h : Has K mg "_law_is_standing" st__law_is_standing ["wanted", "standing"]) : Does P w K mg base 2 "_law_is_standing" ["wanted", "standing"] R_lis := by
  refine h.does sc__law_is_standing (fun ds r ⟨_, _, e, _⟩ => by rw [e]; rfl) fun f cdv A outer s H E vs ds r hr hl hR => ?_
  obtain ⟨g, st, rfl, rfl⟩ := hR
  obtain ⟨v0, v1, rfl, h0, h1⟩ := isL2 hl
  have hle := mn_le_mx st.1
  refine pr_if (PDW.pt (pdw_or (pdt_lt (pd_min rfl T.min (pd_ixT (d := dP st.1) (pd_var 1 rfl h1) pd_int)) pd_int) fun _ => pdw_or (pdt_gt (pd_max rfl T.max (pd_ixT (d := dP st.1) (pd_var 1 rfl h1) pd_int)) (pd_ixL (d := .int g.2.2) (pd_var 0 rfl h0) pd_int)) fun _ =>
    pdw_or1 (pdt_eqI (pd_min rfl T.min (pd_ixT (d := dP st.1) (pd_var 1 rfl h1) pd_int)) (pd_ixL (d := .int g.2.2) (pd_var 0 rfl h0) pd_int)))) (fun z => (pr_ret pd_bl).cast ?_) (fun z => ?_)
  · have z' : M.outB g.2.2 st.1 = true := by
      simp only [Bool.or_eq_true, decide_eq_true_eq] at z
      unfold M.outB
      simp only [Bool.or_eq_true, decide_eq_true_eq]
      omega
    unfold M.reached; rw [if_pos z']
  · have z' : ¬ M.outB g.2.2 st.1 = true := by
      simp only [Bool.or_eq_false_iff, decide_eq_false_iff_not] at z
      unfold M.outB
      simp only [Bool.or_eq_true, decide_eq_true_eq]
      omega
    refine pr_if (pdt_eqI (pd_max rfl T.max (pd_ixT (d := dP st.1) (pd_var 1 rfl h1) pd_int)) (pd_ixL (d := .int g.2.2) (pd_var 0 rfl h0) pd_int)) (fun y => ?_) (fun y => ?_)
    · refine (pr_ret (pd_and (pd_eqD (hu64 hr) (pd_ixT (d := dP st.2.1) (pd_var 1 rfl h1) pd_int) (pd_tup (pda_cons pd_int (pda_cons pd_int pda_nil))) rfl rfl (dep_dP _)) fun _ =>
        pd_one (pd_eqD (hu64 hr) (pd_ixT (d := dP st.2.2) (pd_var 1 rfl h1) pd_int) (pd_tup (pda_cons pd_int (pda_cons pd_int pda_nil))) rfl rfl (dep_dP _)))).cast ?_
      unfold M.reached
      rw [if_neg z', if_pos (of_decide_eq_true y), show (D.tup [.int 0, .int 0]) = dP (0, 0) from rfl, eqP, eqP]
    · refine (pr_ret (pd_and (pd_does d1 hr (pda_cons (pd_ixT (d := dP st.2.1) (pd_var 1 rfl h1) pd_int) (pda_cons (pd_ixL (d := .int g.2.1) (pd_var 0 rfl h0) pd_int) pda_nil)) ⟨_, _, rfl, rfl⟩) fun _ =>
        pd_one (pd_does d1 hr (pda_cons (pd_ixT (d := dP st.2.2) (pd_var 1 rfl h1) pd_int) (pda_cons (pd_ixL (d := .int g.1) (pd_var 0 rfl h0) pd_int) pda_nil)) ⟨_, _, rfl, rfl⟩))).cast ?_
      unfold M.reached
      rw [if_neg z', if_neg (of_decide_eq_false y)]
def okP (p : M.Pr) : Prop := badP p ∨ (M.IsPart p ∧ p.2 ≤ 5)
def dueF (call : Int) (g : Int × Int × Int) (s : M.Stg) (p : M.Pr) : D :=
  if M.reached g.1 g.2.1 g.2.2 s = true then
    if (call = 3 ∨ call = 4) ∧ (p.1 < 0 ∨ p.2 < p.1) then .int 3
    else if call = 2 ∧ M.over g.2.2 s = true then .int 2 else .non
  else .int 1
def R_ref (C : Addr) (ds : List D) (r : D) : Prop :=
  (∃ g1 g2 g3, ds = [.int 0, dW (g1, g2, g3), .non, .non, .int 0, .non] ∧ ((M.Good g1 g2 g3 ∧ r = .non) ∨ (¬ M.Good g1 g2 g3 ∧ r = .int 0))) ∨
  ∃ call g1 g2 g3 s v p, ds = [.int call, .non, .obj C (fsR g1 g2 g3), dS s, .int v, dP p] ∧ M.Good g1 g2 g3 ∧ (call = 1 ∨ call = 2 ∨ call = 3 ∨ call = 4 ∨ call = 5) ∧ (M.reached g1 g2 g3 s = true → okS s) ∧ okP p ∧ r = dueF call (g1, g2, g3) s p
theorem isL6 {H : Hp} {a b c d e f : D} {vs : List V} (h : IsL K H [a, b, c, d, e, f] vs) : ∃ v0 v1 v2 v3 v4 v5, vs = [v0, v1, v2, v3, v4, v5] ∧ Is K H a v0 ∧ Is K H b v1 ∧ Is K H c v2 ∧ Is K H d v3 ∧ Is K H e v4 ∧ Is K H f v5 := by
  cases h with
  | cons h0 l =>
    cases l with
    | cons h1 l =>
      obtain ⟨v2, v3, v4, v5, rfl, h2, h3, h4, h5⟩ := isL4 l
      exact ⟨_, _, v2, v3, v4, v5, rfl, h0, h1, h2, h3, h4, h5⟩
theorem ok_ref (T : Tx K mg C) (Z : Errs K mg CE c0 c1 c2 c3 c4 c5) (dMade : Does P w K mg base 4 "_law_made" ["wanted"] (R_made C)) (dWin : Does P w K mg base 5 "winner" ["rules", "standing"] (R_winner C)) (dAft : Does P w K mg base 6 "after" ["rules", "standing", "who"] (R_after C))
    (dCh : Does P w K mg base 7 "chance" ["rules", "standing", "part"] (R_chance C)) (dPt : Does P w K mg base 7 "points_to_come" ["rules", "standing", "part"] (R_points_to C)) (dSh : Does P w K mg base 5 "shown" ["rules", "standing"] (R_shown C))
    (xMade : Raises P w K mg base 4 "_law_made" ["wanted"] (RX_made c0)) (xWin : Raises P w K mg base 5 "winner" ["rules", "standing"] (RX_unr C c1)) (xA1 : Raises P w K mg base 6 "after" ["rules", "standing", "who"] (RX_after1 C c1)) (xA2 : Raises P w K mg base 6 "after" ["rules", "standing", "who"] (RX_after2 C c2))
    (xC1 : Raises P w K mg base 7 "chance" ["rules", "standing", "part"] (RX_ch1 C c1)) (xC3 : Raises P w K mg base 7 "chance" ["rules", "standing", "part"] (RX_ch3 C c3)) (xP1 : Raises P w K mg base 7 "points_to_come" ["rules", "standing", "part"] (RX_ch1 C c1)) (xP3 : Raises P w K mg base 7 "points_to_come" ["rules", "standing", "part"] (RX_ch3 C c3))
    (xSh : Raises P w K mg base 5 "shown" ["rules", "standing"] (RX_unr C c1)) (dAl : Does P w K mg base 1 "_law_alone" ["e"] (R_alone c0 c1 c2 c3)) (h : Has K mg "_law_refusal" st__law_refusal ["call", "wanted", "rules", "standing", "who", "part"]) :
    Does P w K mg base 8 "_law_refusal" ["call", "wanted", "rules", "standing", "who", "part"] (R_ref C) := by
  refine h.does sc__law_refusal (fun ds r z => by rcases z with ⟨_, _, _, e, _⟩ | ⟨_, _, _, _, _, _, _, e, _⟩ <;> rw [e] <;> rfl) fun f cdv A outer s H E vs ds r hr hl hR => ?_
  have hr1 : Room 1 _ := hr.mono (by decide)
  have hr4 : Room 4 _ := hr.mono (by decide)
  have hr5 : Room 5 _ := hr.mono (by decide)
  have hr6 : Room 6 _ := hr.mono (by decide)
  have fin : ∀ (v0 v1 v2 v3 v4 v5 : V) (r0 : D) (H1 : Hp), ((r0 = .non ∧ r = .non) ∨ (isNon r0 = false ∧ R_alone c0 c1 c2 c3 [r0] r)) → PN1 (cx0 P w K mg base ["call", "wanted", "rules", "standing", "who", "part", "found", "e"] "_law_refusal" st__law_refusal f cdv A outer s H E) ((defBody st__law_refusal).getD 1 (.Pass ⟨0, 0, 0, 0⟩)) [some v0, some v1, some v2, some v3, some v4, some v5, some .non, none] H1 (fun σ' H' => ∃ v, σ' = [some v0, some v1, some v2, some v3, some v4, some v5, some v, none] ∧ Is K H' r0 v) →
      PR (cx0 P w K mg base ["call", "wanted", "rules", "standing", "who", "part", "found", "e"] "_law_refusal" st__law_refusal f cdv A outer s H E) ((defBody st__law_refusal).drop 1) [some v0, some v1, some v2, some v3, some v4, some v5, some .non, none] H1 r := fun v0 v1 v2 v3 v4 v5 r0 H1 hr0 z =>
    pr_cons z fun σ' H' e ⟨v, hs, hv⟩ => by
      subst hs
      refine pr_if (pdt_isN (pd_var 6 rfl hv)) (fun y => ?_) (fun y => ?_)
      · rcases hr0 with ⟨rfl, rfl⟩ | ⟨n0, _⟩
        · exact pr_ret pd_non
        · rw [n0] at y; cases y
      · rcases hr0 with ⟨rfl, rfl⟩ | ⟨n0, ra⟩
        · cases y
        · exact pr_ret (pd_does dAl hr1 (pda_cons (pd_var 6 rfl hv) pda_nil) ra)
  rcases hR with ⟨g1, g2, g3, rfl, z⟩ | ⟨call, g1, g2, g3, st, v, p, rfl, hg, hcall, hok, hp, rfl⟩
  · obtain ⟨v0, v1, v2, v3, v4, v5, rfl, h0, h1, h2, h3, h4, h5⟩ := isL6 hl
    cases h0
    refine pr_set 6 sc__law_refusal.nd pd_non fun v6 H6 e6 h6 => ?_
    cases h6
    have h1' := h1.mono e6
    rcases z with ⟨hg, rfl⟩ | ⟨hg, rfl⟩
    · refine fin _ _ _ _ _ _ .non _ (.inl ⟨rfl, rfl⟩) ?_
      exact pn1_tryOk (pn_ifYes ((pdt_eqI (pd_var 0 rfl (.int _)) pd_int).cast rfl) (pn_one (pn1_expr (pd_does dMade hr4 (pda_cons (pd_var 1 rfl h1') pda_nil) ⟨_, _, _, rfl, hg, rfl⟩) fun _ _ => rfl)) (pn_ifNo ((pdt_eqI (pd_var 0 rfl (.int _)) pd_int).cast rfl) (pn_ifNo ((pdt_eqI (pd_var 0 rfl (.int _)) pd_int).cast rfl) (pn_ifNo ((pdt_eqI (pd_var 0 rfl (.int _)) pd_int).cast rfl) (pn_ifNo ((pdt_eqI (pd_var 0 rfl (.int _)) pd_int).cast rfl) (pn_ifNo ((pdt_eqI (pd_var 0 rfl (.int _)) pd_int).cast rfl) (pn_nil fun H' e => ⟨_, rfl, .non⟩))))))) rfl
    · refine fin _ _ _ _ _ _ (.exc c0) _ (.inr ⟨rfl, .inl ⟨rfl, rfl⟩⟩) ?_
      exact pn1_tryCatch 7 (Mid := fun σ' H' => ∃ v w', σ' = [some (.int 0), some v1, some v2, some v3, some v4, some v5, some v, w'] ∧ Is K H' (.exc c0) v) rfl rfl rfl rfl rfl sc__law_refusal.nd Z.e0.ca Z.m.mE (fun pn E' H5 e5 hL => px_if (pdt_eqI (pd_var 0 rfl (.int _)) pd_int) (fun _ => px_expr (pxe_raises xMade hr4 (pda_cons (pd_var 1 rfl (h1'.mono e5)) pda_nil) ⟨rfl, _, _, _, rfl, hg⟩ hL (fun H' e => ⟨rfl, e⟩) fun _ z => z.1)) (fun z => absurd z (by decide))) (fun a H' e5 ha => pn_one (pn1_set 6 sc__law_refusal.nd (pd_var 7 rfl (.exc ha)) fun v H'' e hv => ⟨v, _, rfl, hv⟩)) (fun σ' H' ⟨v, w', hs, hv⟩ => by subst hs; exact ⟨v, rfl, hv⟩)
  · obtain ⟨v0, v1, v2, v3, v4, v5, rfl, h0, h1, h2, h3, h4, h5⟩ := isL6 hl
    cases h0
    refine pr_set 6 sc__law_refusal.nd pd_non fun v6 H6 e6 h6 => ?_
    cases h6
    have h2' := h2.mono e6
    have h3' := h3.mono e6
    have h4' := h4.mono e6
    have h5' := h5.mono e6
    by_cases hre : M.reached g1 g2 g3 st = true
    · have hs := hok hre
      rcases hcall with rfl | rfl | rfl | rfl | rfl
      · refine fin _ _ _ _ _ _ .non _ (.inl ⟨rfl, ?due⟩) ?run
        case due => unfold dueF; rw [if_pos hre]; simp [*]
        case run => exact pn1_tryOk (pn_ifNo ((pdt_eqI (pd_var 0 rfl (.int _)) pd_int).cast rfl) (pn_ifYes ((pdt_eqI (pd_var 0 rfl (.int _)) pd_int).cast rfl) (pn_one (pn1_expr (pd_does dWin hr5 (pda_cons (pd_var 2 rfl h2') (pda_cons (pd_var 3 rfl h3') pda_nil)) ⟨_, _, _, _, rfl, hre, rfl⟩) fun _ _ => rfl)) (pn_ifNo ((pdt_eqI (pd_var 0 rfl (.int _)) pd_int).cast rfl) (pn_ifNo ((pdt_eqI (pd_var 0 rfl (.int _)) pd_int).cast rfl) (pn_ifNo ((pdt_eqI (pd_var 0 rfl (.int _)) pd_int).cast rfl) (pn_ifNo ((pdt_eqI (pd_var 0 rfl (.int _)) pd_int).cast rfl) (pn_nil fun H' e => ⟨_, rfl, .non⟩))))))) rfl
      · by_cases ho : M.over g3 st = true
        · refine fin _ _ _ _ _ _ (.exc c2) _ (.inr ⟨rfl, .inr (.inr (.inl ⟨rfl, ?due⟩))⟩) ?run
          case due => unfold dueF; rw [if_pos hre]; simp [*]
          case run => exact pn1_tryCatch 7 (Mid := fun σ' H' => ∃ v w', σ' = [some (.int 2), some v1, some v2, some v3, some v4, some v5, some v, w'] ∧ Is K H' (.exc c2) v) rfl rfl rfl rfl rfl sc__law_refusal.nd Z.e2.ca Z.m.mE (fun pn E' H5 e5 hL => px_if (pdt_eqI (pd_var 0 rfl (.int _)) pd_int) (fun z => absurd z (by decide)) (fun _ => px_if (pdt_eqI (pd_var 0 rfl (.int _)) pd_int) (fun z => absurd z (by decide)) (fun _ => px_if (pdt_eqI (pd_var 0 rfl (.int _)) pd_int) (fun _ => px_expr (pxe_raises xA2 hr6 (pda_cons (pd_var 2 rfl (h2'.mono e5)) (pda_cons (pd_var 3 rfl (h3'.mono e5)) (pda_cons (pd_var 4 rfl (h4'.mono e5)) pda_nil))) ⟨rfl, _, _, _, _, _, rfl, hre, ho⟩ hL (fun H' e => ⟨rfl, e⟩) fun _ z => z.1)) (fun z => absurd z (by decide))))) (fun a H' e5 ha => pn_one (pn1_set 6 sc__law_refusal.nd (pd_var 7 rfl (.exc ha)) fun v H'' e hv => ⟨v, _, rfl, hv⟩)) (fun σ' H' ⟨v, w', hs, hv⟩ => by subst hs; exact ⟨v, rfl, hv⟩)
        · have ho' : M.over g3 st = false := by simpa using ho
          refine fin _ _ _ _ _ _ .non _ (.inl ⟨rfl, ?due⟩) ?run
          case due => unfold dueF; rw [if_pos hre]; simp [*]
          case run => exact pn1_tryOk (pn_ifNo ((pdt_eqI (pd_var 0 rfl (.int _)) pd_int).cast rfl) (pn_ifNo ((pdt_eqI (pd_var 0 rfl (.int _)) pd_int).cast rfl) (pn_ifYes ((pdt_eqI (pd_var 0 rfl (.int _)) pd_int).cast rfl) (pn_one (pn1_expr (pd_does dAft hr6 (pda_cons (pd_var 2 rfl h2') (pda_cons (pd_var 3 rfl h3') (pda_cons (pd_var 4 rfl h4') pda_nil))) ⟨_, _, _, _, _, rfl, hre, ho', rfl⟩) fun _ _ => rfl)) (pn_ifNo ((pdt_eqI (pd_var 0 rfl (.int _)) pd_int).cast rfl) (pn_ifNo ((pdt_eqI (pd_var 0 rfl (.int _)) pd_int).cast rfl) (pn_ifNo ((pdt_eqI (pd_var 0 rfl (.int _)) pd_int).cast rfl) (pn_nil fun H' e => ⟨_, rfl, .non⟩))))))) rfl
      · rcases hp with hb | ⟨hi, h5i⟩
        · have hb' : p.1 < 0 ∨ p.2 < p.1 := hb
          refine fin _ _ _ _ _ _ (.exc c3) _ (.inr ⟨rfl, .inr (.inr (.inr ⟨rfl, ?due⟩))⟩) ?run
          case due => unfold dueF; rw [if_pos hre]; simp [*]
          case run => exact pn1_tryCatch 7 (Mid := fun σ' H' => ∃ v w', σ' = [some (.int 3), some v1, some v2, some v3, some v4, some v5, some v, w'] ∧ Is K H' (.exc c3) v) rfl rfl rfl rfl rfl sc__law_refusal.nd Z.e3.ca Z.m.mE (fun pn E' H5 e5 hL => px_if (pdt_eqI (pd_var 0 rfl (.int _)) pd_int) (fun z => absurd z (by decide)) (fun _ => px_if (pdt_eqI (pd_var 0 rfl (.int _)) pd_int) (fun z => absurd z (by decide)) (fun _ => px_if (pdt_eqI (pd_var 0 rfl (.int _)) pd_int) (fun z => absurd z (by decide)) (fun _ => px_if (pdt_eqI (pd_var 0 rfl (.int _)) pd_int) (fun _ => px_expr (pxe_raises xC3 hr (pda_cons (pd_var 2 rfl (h2'.mono e5)) (pda_cons (pd_var 3 rfl (h3'.mono e5)) (pda_cons (pd_var 5 rfl (h5'.mono e5)) pda_nil))) ⟨rfl, _, _, _, _, _, rfl, hre, hb⟩ hL (fun H' e => ⟨rfl, e⟩) fun _ z => z.1)) (fun z => absurd z (by decide)))))) (fun a H' e5 ha => pn_one (pn1_set 6 sc__law_refusal.nd (pd_var 7 rfl (.exc ha)) fun v H'' e hv => ⟨v, _, rfl, hv⟩)) (fun σ' H' ⟨v, w', hs, hv⟩ => by subst hs; exact ⟨v, rfl, hv⟩)
        · have hb' : ¬ (p.1 < 0 ∨ p.2 < p.1) := by have := hi.n; have := hi.l; omega
          refine fin _ _ _ _ _ _ .non _ (.inl ⟨rfl, ?due⟩) ?run
          case due => unfold dueF; rw [if_pos hre]; simp [*]
          case run => exact pn1_tryOk (pn_ifNo ((pdt_eqI (pd_var 0 rfl (.int _)) pd_int).cast rfl) (pn_ifNo ((pdt_eqI (pd_var 0 rfl (.int _)) pd_int).cast rfl) (pn_ifNo ((pdt_eqI (pd_var 0 rfl (.int _)) pd_int).cast rfl) (pn_ifYes ((pdt_eqI (pd_var 0 rfl (.int _)) pd_int).cast rfl) (pn_one (pn1_expr (pd_does dCh hr (pda_cons (pd_var 2 rfl h2') (pda_cons (pd_var 3 rfl h3') (pda_cons (pd_var 5 rfl h5') pda_nil))) ⟨_, _, _, _, _, rfl, hg, hi, h5i, hre, rfl⟩) fun _ _ => rfl)) (pn_ifNo ((pdt_eqI (pd_var 0 rfl (.int _)) pd_int).cast rfl) (pn_ifNo ((pdt_eqI (pd_var 0 rfl (.int _)) pd_int).cast rfl) (pn_nil fun H' e => ⟨_, rfl, .non⟩))))))) rfl
      · rcases hp with hb | ⟨hi, h5i⟩
        · have hb' : p.1 < 0 ∨ p.2 < p.1 := hb
          refine fin _ _ _ _ _ _ (.exc c3) _ (.inr ⟨rfl, .inr (.inr (.inr ⟨rfl, ?due⟩))⟩) ?run
          case due => unfold dueF; rw [if_pos hre]; simp [*]
          case run => exact pn1_tryCatch 7 (Mid := fun σ' H' => ∃ v w', σ' = [some (.int 4), some v1, some v2, some v3, some v4, some v5, some v, w'] ∧ Is K H' (.exc c3) v) rfl rfl rfl rfl rfl sc__law_refusal.nd Z.e3.ca Z.m.mE (fun pn E' H5 e5 hL => px_if (pdt_eqI (pd_var 0 rfl (.int _)) pd_int) (fun z => absurd z (by decide)) (fun _ => px_if (pdt_eqI (pd_var 0 rfl (.int _)) pd_int) (fun z => absurd z (by decide)) (fun _ => px_if (pdt_eqI (pd_var 0 rfl (.int _)) pd_int) (fun z => absurd z (by decide)) (fun _ => px_if (pdt_eqI (pd_var 0 rfl (.int _)) pd_int) (fun z => absurd z (by decide)) (fun _ => px_if (pdt_eqI (pd_var 0 rfl (.int _)) pd_int) (fun _ => px_expr (pxe_raises xP3 hr (pda_cons (pd_var 2 rfl (h2'.mono e5)) (pda_cons (pd_var 3 rfl (h3'.mono e5)) (pda_cons (pd_var 5 rfl (h5'.mono e5)) pda_nil))) ⟨rfl, _, _, _, _, _, rfl, hre, hb⟩ hL (fun H' e => ⟨rfl, e⟩) fun _ z => z.1)) (fun z => absurd z (by decide))))))) (fun a H' e5 ha => pn_one (pn1_set 6 sc__law_refusal.nd (pd_var 7 rfl (.exc ha)) fun v H'' e hv => ⟨v, _, rfl, hv⟩)) (fun σ' H' ⟨v, w', hs, hv⟩ => by subst hs; exact ⟨v, rfl, hv⟩)
        · have hb' : ¬ (p.1 < 0 ∨ p.2 < p.1) := by have := hi.n; have := hi.l; omega
          refine fin _ _ _ _ _ _ .non _ (.inl ⟨rfl, ?due⟩) ?run
          case due => unfold dueF; rw [if_pos hre]; simp [*]
          case run => exact pn1_tryOk (pn_ifNo ((pdt_eqI (pd_var 0 rfl (.int _)) pd_int).cast rfl) (pn_ifNo ((pdt_eqI (pd_var 0 rfl (.int _)) pd_int).cast rfl) (pn_ifNo ((pdt_eqI (pd_var 0 rfl (.int _)) pd_int).cast rfl) (pn_ifNo ((pdt_eqI (pd_var 0 rfl (.int _)) pd_int).cast rfl) (pn_ifYes ((pdt_eqI (pd_var 0 rfl (.int _)) pd_int).cast rfl) (pn_one (pn1_expr (pd_does dPt hr (pda_cons (pd_var 2 rfl h2') (pda_cons (pd_var 3 rfl h3') (pda_cons (pd_var 5 rfl h5') pda_nil))) ⟨_, _, _, _, _, rfl, hg, hi, h5i, hre, rfl⟩) fun _ _ => rfl)) (pn_ifNo ((pdt_eqI (pd_var 0 rfl (.int _)) pd_int).cast rfl) (pn_nil fun H' e => ⟨_, rfl, .non⟩))))))) rfl
      · refine fin _ _ _ _ _ _ .non _ (.inl ⟨rfl, ?due⟩) ?run
        case due => unfold dueF; rw [if_pos hre]; simp [*]
        case run => exact pn1_tryOk (pn_ifNo ((pdt_eqI (pd_var 0 rfl (.int _)) pd_int).cast rfl) (pn_ifNo ((pdt_eqI (pd_var 0 rfl (.int _)) pd_int).cast rfl) (pn_ifNo ((pdt_eqI (pd_var 0 rfl (.int _)) pd_int).cast rfl) (pn_ifNo ((pdt_eqI (pd_var 0 rfl (.int _)) pd_int).cast rfl) (pn_ifNo ((pdt_eqI (pd_var 0 rfl (.int _)) pd_int).cast rfl) (pn_ifYes ((pdt_eqI (pd_var 0 rfl (.int _)) pd_int).cast rfl) (pn_one (pn1_expr (pd_does dSh hr5 (pda_cons (pd_var 2 rfl h2') (pda_cons (pd_var 3 rfl h3') pda_nil)) ⟨_, _, _, _, rfl, hre, hs, rfl⟩) fun _ _ => rfl)) (pn_nil fun H' e => ⟨_, rfl, .non⟩))))))) rfl
    · have hre' : M.reached g1 g2 g3 st = false := by simpa using hre
      rcases hcall with rfl | rfl | rfl | rfl | rfl
      · refine fin _ _ _ _ _ _ (.exc c1) _ (.inr ⟨rfl, .inr (.inl ⟨rfl, ?due⟩)⟩) ?run
        case due => unfold dueF; rw [if_neg hre]
        case run => exact pn1_tryCatch 7 (Mid := fun σ' H' => ∃ v w', σ' = [some (.int 1), some v1, some v2, some v3, some v4, some v5, some v, w'] ∧ Is K H' (.exc c1) v) rfl rfl rfl rfl rfl sc__law_refusal.nd Z.e1.ca Z.m.mE (fun pn E' H5 e5 hL => px_if (pdt_eqI (pd_var 0 rfl (.int _)) pd_int) (fun z => absurd z (by decide)) (fun _ => px_if (pdt_eqI (pd_var 0 rfl (.int _)) pd_int) (fun _ => px_expr (pxe_raises xWin hr5 (pda_cons (pd_var 2 rfl (h2'.mono e5)) (pda_cons (pd_var 3 rfl (h3'.mono e5)) pda_nil)) ⟨rfl, _, _, _, _, rfl, hre'⟩ hL (fun H' e => ⟨rfl, e⟩) fun _ z => z.1)) (fun z => absurd z (by decide)))) (fun a H' e5 ha => pn_one (pn1_set 6 sc__law_refusal.nd (pd_var 7 rfl (.exc ha)) fun v H'' e hv => ⟨v, _, rfl, hv⟩)) (fun σ' H' ⟨v, w', hs, hv⟩ => by subst hs; exact ⟨v, rfl, hv⟩)
      · refine fin _ _ _ _ _ _ (.exc c1) _ (.inr ⟨rfl, .inr (.inl ⟨rfl, ?due⟩)⟩) ?run
        case due => unfold dueF; rw [if_neg hre]
        case run => exact pn1_tryCatch 7 (Mid := fun σ' H' => ∃ v w', σ' = [some (.int 2), some v1, some v2, some v3, some v4, some v5, some v, w'] ∧ Is K H' (.exc c1) v) rfl rfl rfl rfl rfl sc__law_refusal.nd Z.e1.ca Z.m.mE (fun pn E' H5 e5 hL => px_if (pdt_eqI (pd_var 0 rfl (.int _)) pd_int) (fun z => absurd z (by decide)) (fun _ => px_if (pdt_eqI (pd_var 0 rfl (.int _)) pd_int) (fun z => absurd z (by decide)) (fun _ => px_if (pdt_eqI (pd_var 0 rfl (.int _)) pd_int) (fun _ => px_expr (pxe_raises xA1 hr6 (pda_cons (pd_var 2 rfl (h2'.mono e5)) (pda_cons (pd_var 3 rfl (h3'.mono e5)) (pda_cons (pd_var 4 rfl (h4'.mono e5)) pda_nil))) ⟨rfl, _, _, _, _, _, rfl, hre'⟩ hL (fun H' e => ⟨rfl, e⟩) fun _ z => z.1)) (fun z => absurd z (by decide))))) (fun a H' e5 ha => pn_one (pn1_set 6 sc__law_refusal.nd (pd_var 7 rfl (.exc ha)) fun v H'' e hv => ⟨v, _, rfl, hv⟩)) (fun σ' H' ⟨v, w', hs, hv⟩ => by subst hs; exact ⟨v, rfl, hv⟩)
      · refine fin _ _ _ _ _ _ (.exc c1) _ (.inr ⟨rfl, .inr (.inl ⟨rfl, ?due⟩)⟩) ?run
        case due => unfold dueF; rw [if_neg hre]
        case run => exact pn1_tryCatch 7 (Mid := fun σ' H' => ∃ v w', σ' = [some (.int 3), some v1, some v2, some v3, some v4, some v5, some v, w'] ∧ Is K H' (.exc c1) v) rfl rfl rfl rfl rfl sc__law_refusal.nd Z.e1.ca Z.m.mE (fun pn E' H5 e5 hL => px_if (pdt_eqI (pd_var 0 rfl (.int _)) pd_int) (fun z => absurd z (by decide)) (fun _ => px_if (pdt_eqI (pd_var 0 rfl (.int _)) pd_int) (fun z => absurd z (by decide)) (fun _ => px_if (pdt_eqI (pd_var 0 rfl (.int _)) pd_int) (fun z => absurd z (by decide)) (fun _ => px_if (pdt_eqI (pd_var 0 rfl (.int _)) pd_int) (fun _ => px_expr (pxe_raises xC1 hr (pda_cons (pd_var 2 rfl (h2'.mono e5)) (pda_cons (pd_var 3 rfl (h3'.mono e5)) (pda_cons (pd_var 5 rfl (h5'.mono e5)) pda_nil))) ⟨rfl, _, _, _, _, _, rfl, hre'⟩ hL (fun H' e => ⟨rfl, e⟩) fun _ z => z.1)) (fun z => absurd z (by decide)))))) (fun a H' e5 ha => pn_one (pn1_set 6 sc__law_refusal.nd (pd_var 7 rfl (.exc ha)) fun v H'' e hv => ⟨v, _, rfl, hv⟩)) (fun σ' H' ⟨v, w', hs, hv⟩ => by subst hs; exact ⟨v, rfl, hv⟩)
      · refine fin _ _ _ _ _ _ (.exc c1) _ (.inr ⟨rfl, .inr (.inl ⟨rfl, ?due⟩)⟩) ?run
        case due => unfold dueF; rw [if_neg hre]
        case run => exact pn1_tryCatch 7 (Mid := fun σ' H' => ∃ v w', σ' = [some (.int 4), some v1, some v2, some v3, some v4, some v5, some v, w'] ∧ Is K H' (.exc c1) v) rfl rfl rfl rfl rfl sc__law_refusal.nd Z.e1.ca Z.m.mE (fun pn E' H5 e5 hL => px_if (pdt_eqI (pd_var 0 rfl (.int _)) pd_int) (fun z => absurd z (by decide)) (fun _ => px_if (pdt_eqI (pd_var 0 rfl (.int _)) pd_int) (fun z => absurd z (by decide)) (fun _ => px_if (pdt_eqI (pd_var 0 rfl (.int _)) pd_int) (fun z => absurd z (by decide)) (fun _ => px_if (pdt_eqI (pd_var 0 rfl (.int _)) pd_int) (fun z => absurd z (by decide)) (fun _ => px_if (pdt_eqI (pd_var 0 rfl (.int _)) pd_int) (fun _ => px_expr (pxe_raises xP1 hr (pda_cons (pd_var 2 rfl (h2'.mono e5)) (pda_cons (pd_var 3 rfl (h3'.mono e5)) (pda_cons (pd_var 5 rfl (h5'.mono e5)) pda_nil))) ⟨rfl, _, _, _, _, _, rfl, hre'⟩ hL (fun H' e => ⟨rfl, e⟩) fun _ z => z.1)) (fun z => absurd z (by decide))))))) (fun a H' e5 ha => pn_one (pn1_set 6 sc__law_refusal.nd (pd_var 7 rfl (.exc ha)) fun v H'' e hv => ⟨v, _, rfl, hv⟩)) (fun σ' H' ⟨v, w', hs, hv⟩ => by subst hs; exact ⟨v, rfl, hv⟩)
      · refine fin _ _ _ _ _ _ (.exc c1) _ (.inr ⟨rfl, .inr (.inl ⟨rfl, ?due⟩)⟩) ?run
        case due => unfold dueF; rw [if_neg hre]
        case run => exact pn1_tryCatch 7 (Mid := fun σ' H' => ∃ v w', σ' = [some (.int 5), some v1, some v2, some v3, some v4, some v5, some v, w'] ∧ Is K H' (.exc c1) v) rfl rfl rfl rfl rfl sc__law_refusal.nd Z.e1.ca Z.m.mE (fun pn E' H5 e5 hL => px_if (pdt_eqI (pd_var 0 rfl (.int _)) pd_int) (fun z => absurd z (by decide)) (fun _ => px_if (pdt_eqI (pd_var 0 rfl (.int _)) pd_int) (fun z => absurd z (by decide)) (fun _ => px_if (pdt_eqI (pd_var 0 rfl (.int _)) pd_int) (fun z => absurd z (by decide)) (fun _ => px_if (pdt_eqI (pd_var 0 rfl (.int _)) pd_int) (fun z => absurd z (by decide)) (fun _ => px_if (pdt_eqI (pd_var 0 rfl (.int _)) pd_int) (fun z => absurd z (by decide)) (fun _ => px_if (pdt_eqI (pd_var 0 rfl (.int _)) pd_int) (fun _ => px_expr (pxe_raises xSh hr5 (pda_cons (pd_var 2 rfl (h2'.mono e5)) (pda_cons (pd_var 3 rfl (h3'.mono e5)) pda_nil)) ⟨rfl, _, _, _, _, rfl, hre'⟩ hL (fun H' e => ⟨rfl, e⟩) fun _ z => z.1)) (fun z => absurd z (by decide)))))))) (fun a H' e5 ha => pn_one (pn1_set 6 sc__law_refusal.nd (pd_var 7 rfl (.exc ha)) fun v H'' e hv => ⟨v, _, rfl, hv⟩)) (fun σ' H' ⟨v, w', hs, hv⟩ => by subst hs; exact ⟨v, rfl, hv⟩)
end
end Q
set_option Elab.async false
set_option linter.all false
set_option maxRecDepth 100000
set_option maxHeartbeats 4000000
namespace Q
open PySem PySem.Spec PyProof.Rows L2 L3
section
def hiP (q : M.Pr) (n : Int) : Prop := q.1 ≤ n ∧ q.2 ≤ n
def hiS (s : M.Stg) (n : Int) : Prop := hiP s.1 n ∧ hiP s.2.1 n ∧ hiP s.2.2 n
theorem hiP.mono {q : M.Pr} {n m : Int} (h : hiP q n) (l : n ≤ m) : hiP q m := ⟨Int.le_trans h.1 l, Int.le_trans h.2 l⟩
theorem hi_more {q : M.Pr} {n : Int} (h : hiP q n) (w : Int) : hiP (M.more q w) (n + 1) := by
  unfold M.more hiP at *
  split <;> simp only [] <;> omega
theorem hi0 {n : Int} (h : 0 ≤ n) : hiP (0, 0) n := ⟨h, h⟩
theorem hi_aft {g1 g2 : Int} {s : M.Stg} {n : Int} (h0 : 0 ≤ n) (h : hiS s n) (w : Int) : hiS (M.aft g1 g2 s w) (n + 1) := by
  have l : n ≤ n + 1 := by omega
  have z : hiP (0, 0) (n + 1) := hi0 (by omega)
  unfold M.aft
  split
  · split
    · exact ⟨hi_more h.1 w, z, z⟩
    · exact ⟨h.1.mono l, hi_more h.2.1 w, z⟩
  · exact ⟨h.1.mono l, h.2.1.mono l, hi_more h.2.2 w⟩
theorem hi_run {g1 g2 : Int} : ∀ (ws : List Int) {s : M.Stg} {n : Int}, 0 ≤ n → hiS s n → hiS (M.run g1 g2 s ws) (n + ws.length)
  | [], _, n, _, h => by
    have e : n + (([] : List Int).length : Int) = n := by simp
    rw [e]; exact h
  | w :: ws, s, n, h0, h => by
    have := hi_run (g1 := g1) (g2 := g2) ws (by omega : (0 : Int) ≤ n + 1) (hi_aft (g1 := g1) (g2 := g2) h0 h w)
    have e : n + ((w :: ws).length : Int) = n + 1 + (ws.length : Int) := by simp only [List.length_cons]; omega
    rw [e]; exact this
theorem hi_walk (ns : List Int) (g : Int × Int × Int) : hiS (walkW ns g 100 (M.drawF ns 6 % 41).toNat).2 2000000 := by
  have hw := M.walked ns g.1 g.2.1 g.2.2 (M.drawF ns 5 % 3) 100 (M.drawF ns 6 % 41).toNat
  have e : (walkW ns g 100 (M.drawF ns 6 % 41).toNat).2 = M.run g.1 g.2.1 M.st0 (walkW ns g 100 (M.drawF ns 6 % 41).toNat).1 := hw.st
  have l : (walkW ns g 100 (M.drawF ns 6 % 41).toNat).1.length ≤ (M.drawF ns 6 % 41).toNat := hw.len
  have h := hi_run (g1 := g.1) (g2 := g.2.1) (walkW ns g 100 (M.drawF ns 6 % 41).toNat).1 (s := M.st0) (n := 0) (by decide) ⟨hi0 (by decide), hi0 (by decide), hi0 (by decide)⟩
  rw [e]
  have l2 : (0 : Int) + ((walkW ns g 100 (M.drawF ns 6 % 41).toNat).1.length : Int) ≤ 2000000 := by omega
  exact ⟨h.1.mono l2, h.2.1.mono l2, h.2.2.mono l2⟩
theorem lo_pair {q : M.Pr} (h : 0 ≤ mnP q) : 0 ≤ q.1 ∧ 0 ≤ q.2 := by unfold mnP at h; split at h <;> omega
theorem okN_pair {q : M.Pr} (h : 0 ≤ mnP q) (hh : hiP q 2000000) : okN q.1 ∧ okN q.2 := by
  have l := lo_pair h
  unfold hiP at hh
  unfold okN
  omega
theorem okS_of {g1 g2 g3 : Int} {s : M.Stg} (hh : hiS s 2000000) (h : M.reached g1 g2 g3 s = true) : okS s := by
  unfold M.reached at h
  split at h
  · cases h
  · next ho =>
    have h1 : 0 ≤ mnP s.1 := by
      unfold M.outB at ho
      simp only [Bool.or_eq_true, decide_eq_true_eq] at ho
      omega
    split at h
    · simp only [Bool.and_eq_true, decide_eq_true_eq] at h
      refine ⟨okN_pair h1 hh.1, okN_pair ?_ hh.2.1, okN_pair ?_ hh.2.2⟩
      · rw [h.1]; decide
      · rw [h.2]; decide
    · unfold M.onB at h
      simp only [Bool.and_eq_true, decide_eq_true_eq] at h
      exact ⟨okN_pair h1 hh.1, okN_pair h.1.1 hh.2.1, okN_pair h.2.1 hh.2.2⟩
end
section
variable {P : Program} {w : World} {K : PySem.W.Frag} {mg : Str → Option Value} {base : Heap} {C CR : Addr}
def row0 (ns : List Int) (k : Int) : M.Pr := (M.drawF ns (21 + 2 * k) % 11 - 2, M.drawF ns (22 + 2 * k) % 11 - 2)
def farF (ns : List Int) : Int := M.cellF ns 23 % 1000000
def rows0 (ns : List Int) : List M.Pr := (List.range 3).map fun (k : Nat) => row0 ns k
def rows1 (ns : List Int) (g : Int) : List M.Pr := ((rows0 ns).set 0 (M.drawF ns 21 % (g + 1), M.drawF ns 22 % (g + 1))).set 1 (0, 0)
def rows2 (ns : List Int) (r : List M.Pr) : List M.Pr := ((r.set 0 (0, 0)).set (1 + M.drawF ns 24 % 2).toNat (farF ns, farF ns + M.drawF ns 25 % 3 - 1)).set (1 + M.drawF ns 26 % 2).toNat (0, M.drawF ns 27 % 2)
def rowsB (ns : List Int) (g : Int) : List M.Pr := if M.drawF ns 20 % 4 = 1 then rows1 ns g else rows0 ns
def rowsF (ns : List Int) (g : Int) : List M.Pr := if M.drawF ns 20 % 4 = 2 then rows2 ns (rowsB ns g) else rowsB ns g
def stg (l : List M.Pr) : M.Stg := (l.getD 0 (0, 0), l.getD 1 (0, 0), l.getD 2 (0, 0))
def drawnF (ns : List Int) (g : Int × Int × Int) : M.Stg := if M.drawF ns 20 % 4 = 0 then (walkW ns g 100 (M.drawF ns 6 % 41).toNat).2 else stg (rowsF ns g.2.2)
theorem rows0_len (ns : List Int) : (rows0 ns).length = 3 := by unfold rows0; rw [List.length_map, List.length_range]
theorem rowsB_len (ns : List Int) (g : Int) : (rowsB ns g).length = 3 := by
  unfold rowsB rows1; split <;> simp only [List.length_set, rows0_len]
theorem rowsF_len (ns : List Int) (g : Int) : (rowsF ns g).length = 3 := by
  unfold rowsF rows2; split <;> simp only [List.length_set, rowsB_len]
theorem stg_tup {l : List M.Pr} (h : l.length = 3) : D.tup (l.map dP) = dS (stg l) := by
  match l, h with
  | [a, b, c], _ => rfl
theorem hi_all {l : List M.Pr} {n : Int} (h0 : 0 ≤ n) (h : ∀ q ∈ l, hiP q n) : hiS (stg l) n := by
  have a : ∀ i, hiP (l.getD i (0, 0)) n := fun i => by
    by_cases hi : i < l.length
    · rw [List.getD_eq_getElem?_getD, List.getElem?_eq_getElem hi]; exact h _ (List.getElem_mem hi)
    · rw [List.getD_eq_getElem?_getD, List.getElem?_eq_none (by omega)]; exact hi0 h0
  exact ⟨a 0, a 1, a 2⟩
theorem all_set {l : List M.Pr} {q : M.Pr} {p : M.Pr → Prop} (i : Nat) (h : ∀ x ∈ l, p x) (hq : p q) : ∀ x ∈ l.set i q, p x := fun x hx => by
  rcases List.mem_or_eq_of_mem_set hx with z | z
  · exact h x z
  · rw [z]; exact hq
theorem hi_rows0 (ns : List Int) : ∀ q ∈ rows0 ns, hiP q 2000000 := fun q hq => by
  obtain ⟨k, _, rfl⟩ := List.mem_map.mp hq
  unfold row0 hiP
  simp only []
  omega
theorem hi_rows {ns : List Int} {g : Int} (h0 : 0 ≤ g) (h3 : g ≤ 3) : ∀ q ∈ rowsF ns g, hiP q 2000000 := by
  have b : ∀ q ∈ rowsB ns g, hiP q 2000000 := by
    unfold rowsB
    split
    · have e1 := Int.emod_lt_of_pos (M.drawF ns 21) (by omega : 0 < g + 1)
      have e2 := Int.emod_lt_of_pos (M.drawF ns 22) (by omega : 0 < g + 1)
      exact all_set _ (all_set _ (hi_rows0 ns) ⟨by show M.drawF ns 21 % (g + 1) ≤ _; omega, by show M.drawF ns 22 % (g + 1) ≤ _; omega⟩) (hi0 (by decide))
    · exact hi_rows0 ns
  unfold rowsF
  split
  · have e1 : farF ns < 1000000 := Int.emod_lt_of_pos _ (by decide)
    exact all_set _ (all_set _ (all_set _ b (hi0 (by decide))) ⟨by show farF ns ≤ _; omega, by show farF ns + M.drawF ns 25 % 3 - 1 ≤ _; omega⟩) ⟨by show (0 : Int) ≤ _; decide, by show M.drawF ns 27 % 2 ≤ _; omega⟩
  · exact b
theorem hi_drawn {ns : List Int} {g : Int × Int × Int} (hg : M.Good g.1 g.2.1 g.2.2) : hiS (drawnF ns g) 2000000 := by
  unfold drawnF
  split
  · exact hi_walk ns g
  · have := hg.2.2.2.2
    exact hi_all (by decide) (hi_rows (by omega) (by omega))
theorem noLs_dP : ∀ rows : List M.Pr, noLs (rows.map dP) = true
  | [] => rfl
  | q :: rs => by show (noL (dP q) && noLs (rs.map dP)) = true; rw [noLs_dP rs]; rfl
def RowsAt (K : PySem.W.Frag) (H1 : Hp) (v0 v1 : V) (m : Int) (rows : List M.Pr) (x5 : Option V) (σ' : L2.St) (H' : Hp) : Prop :=
  ∃ l x4 vs, σ' = [some v0, some v1, some (.int m), some (.ref l), x4, x5] ∧ Same H1 H' ∧ H1 l = none ∧ H' l = some (.lst vs) ∧ IsL K H' (rows.map dP) vs
theorem rows_set {H1 H' H2 : Hp} {rows : List M.Pr} {l : Addr} {vs : List V} {q : M.Pr} {v : V} (n : Nat) (z2 : Same H1 H') (z3 : H1 l = none) (z4 : H' l = some (.lst vs)) (z5 : IsL K H' (rows.map dP) vs) (e2 : Same H' H2) (hv : Is K H2 (dP q) v) :
    Same H1 (upd H2 l (.lst (vs.set n v))) ∧ (upd H2 l (.lst (vs.set n v))) l = some (.lst (vs.set n v)) ∧ IsL K (upd H2 l (.lst (vs.set n v))) ((rows.set n q).map dP) (vs.set n v) := by
  refine ⟨fun b o e => ?_, upd_same, ?_⟩
  · rw [upd_ne (ne_of_none e z3)]; exact e2 _ _ (z2 _ _ e)
  · refine IsL.updL (e2 _ _ z4) ?_ (noLs_dP _)
    rw [List.map_set]
    exact IsL.set n (z5.mono e2) hv
theorem rows_ix {H' : Hp} {rows : List M.Pr} {vs : List V} {j : Int} (z5 : IsL K H' (rows.map dP) vs) (hl : rows.length = 3) (h0 : 0 ≤ j) (h3 : j < 3) : ixN vs.length j = some j.toNat := by
  have e : vs.length = 3 := by rw [← z5.length, List.length_map, hl]
  unfold ixN
  rw [if_pos h0, if_pos (by rw [e]; exact h3)]
def R_ldrawn (ds : List D) (r : D) : Prop := ∃ ns g, ds = [dL ns, dW g] ∧ M.Good g.1 g.2.1 g.2.2 ∧ r = dS (drawnF ns g)
theorem ok_ldrawn (T : Tx K mg C) (d1 : Does P w K mg base 2 "_law_draw" ["script", "k"] R_draw) (dC : Does P w K mg base 1 "_law_cell_at" ["script", "k"] R_cell) (dWk : Does P w K mg base 3 "_law_walked" ["script", "wanted", "start", "many"] R_walked)
    (h : Has K mg "_law_drawn" st__law_drawn ["script", "wanted"]) : Does P w K mg base 4 "_law_drawn" ["script", "wanted"] R_ldrawn := by
  refine h.does sc__law_drawn (fun ds r ⟨_, _, e, _⟩ => by rw [e]; rfl) fun f cdv A outer s H E vs ds r hr hl hR => ?_
  obtain ⟨ns, g, rfl, hg, rfl⟩ := hR
  obtain ⟨v0, v1, rfl, h0, h1⟩ := isL2 hl
  have hr1 : Room 1 _ := hr.mono (by decide)
  have hr2 : Room 2 _ := hr.mono (by decide)
  have hg3 : 1 ≤ g.2.2 ∧ g.2.2 ≤ 3 := hg.2.2.2.2
  refine pr_set 2 sc__law_drawn.nd (pd_mod (pd_does d1 hr2 (pda_cons (pd_var 0 rfl h0) (pda_cons pd_int pda_nil)) ⟨_, _, rfl, by decide, by decide, rfl⟩) pd_int (by decide)) fun v2 H2 e2 h2 => ?_
  cases h2
  replace h0 := h0.mono e2
  replace h1 := h1.mono e2
  refine pr_if (pdt_eqI (pd_var 2 rfl (.int _)) pd_int) (fun hm => ?_) (fun hm => ?_)
  · refine (pr_ret (pd_ixT (d := dS (walkW ns g 100 (M.drawF ns 6 % 41).toNat).2) (pd_does dWk hr (pda_cons (pd_var 0 rfl h0) (pda_cons (pd_var 1 rfl h1) (pda_cons pd_int (pda_cons (pd_mod (pd_does d1 hr2 (pda_cons (pd_var 0 rfl h0) (pda_cons pd_int pda_nil)) ⟨_, _, rfl, by decide, by decide, rfl⟩) pd_int (by decide)) pda_nil))))
      ⟨ns, g, 100, M.drawF ns 6 % 41, rfl, by decide, by decide, by omega, by omega, rfl⟩) pd_int)).cast ?_
    unfold drawnF
    rw [if_pos (of_decide_eq_true hm)]
  have hm0 : ¬ M.drawF ns 20 % 4 = 0 := of_decide_eq_false hm
  have hdf : dS (drawnF ns g) = D.tup ((rowsF ns g.2.2).map dP) := by
    unfold drawnF
    rw [if_neg hm0, stg_tup (rowsF_len _ _)]
  rw [hdf]
  generalize hmd : M.drawF ns 20 % 4 = m at *
  refine pr_pqr fun H1 e1 => ?_
  replace h0 := h0.mono e1
  replace h1 := h1.mono e1
  refine pqr_cons (Mid := RowsAt K H1 v0 v1 m [] none) (pq1_new 3 sc__law_drawn.nd fun σ' H' ⟨z1, z2⟩ => ?_) ?_
  · subst z1; subst z2
    refine ⟨[], pl_lst pda_nil, fun l vs H3 e3 hn hl3 hvs => ?_⟩
    obtain rfl := isL0 hvs
    exact ⟨l, none, [], rfl, e3, hn, hl3, .nil⟩
  let Z : Nat → L2.St → Hp → Prop := fun i => RowsAt K H1 v0 v1 m ((List.range i).map fun (k : Nat) => row0 ns k) none
  refine pqr_cons (Mid := RowsAt K H1 v0 v1 m (rows0 ns) none) (pq1_forR (j := 3) 4 Z PassesOwn.never rfl sc__law_drawn.nd T.range (fun σ' H' _ => pd_int) (by decide)
    (fun σ' H' H2 ⟨l, x4, vs, z1, z2, z3, z4, z5⟩ e2 => ⟨l, x4, vs, z1, z2.trans e2, z3, e2 _ _ z4, z5.mono e2⟩) (fun i hi => ?_) (fun _ _ z => z)) ?_
  · have hi3 : (i : Int) < 3 := by omega
    refine pq_one (pq1_append fun σ' H' ⟨σ1, zz, l, x4, vs, z1, z2, z3, z4, z5⟩ => ?_)
    subst z1; subst zz
    have k0 := h0.mono z2
    have lv : vs.length ≤ 1000 := by rw [← z5.length, List.length_map, List.length_map, List.length_range]; omega
    refine ⟨l, vs, dP (row0 ns i), pd_var 3 rfl (.adr l), z4, small1000 lv, pd_tup (pda_cons (pd_sub (pd_mod (pd_does d1 hr2 (pda_cons (pd_var 0 rfl k0) (pda_cons (pd_add pd_int (pd_mul pd_int (pd_var 4 rfl (.int _)) ?c1)) pda_nil)) ⟨_, _, rfl, by omega, by omega, rfl⟩) pd_int (by decide)) pd_int)
      (pda_cons (pd_sub (pd_mod (pd_does d1 hr2 (pda_cons (pd_var 0 rfl k0) (pda_cons (pd_add pd_int (pd_mul pd_int (pd_var 4 rfl (.int _)) ?c2)) pda_nil)) ⟨_, _, rfl, by omega, by omega, rfl⟩) pd_int (by decide)) pd_int) pda_nil)), fun v H3 e3 hv => ?_⟩
    case c1 => exact .inl (by decide)
    case c2 => exact .inl (by decide)
    refine ⟨l, _, _, rfl, fun b o e => ?_, z3, upd_same, ?_⟩
    · rw [upd_ne (ne_of_none e z3)]; exact e3 _ _ (z2 _ _ e)
    · refine IsL.updL (e3 _ _ z4) ?_ (noLs_dP _)
      rw [List.range_succ, List.map_append, List.map_append]
      exact IsL.snoc (z5.mono e3) hv
  refine pqr_cons (Mid := RowsAt K H1 v0 v1 m (rowsB ns g.2.2) none) (pq1_if fun σ' H' ⟨l, x4, vs, z1, z2, z3, z4, z5⟩ => ?_) ?_
  · subst z1
    refine ⟨_, pdt_eqI (pd_var 2 rfl (.int _)) pd_int, fun hk => ?_, fun hk => ?_⟩
    · have hk1 : m = 1 := of_decide_eq_true hk
      refine pq_cons (Mid := RowsAt K H1 v0 v1 m ((rows0 ns).set 0 (M.drawF ns 21 % (g.2.2 + 1), M.drawF ns 22 % (g.2.2 + 1))) none) (pq1_setL fun σ2 H3 ⟨y1, y2⟩ => ?_) ?_
      · subst y1
        have k0 := h0.mono (z2.trans y2)
        have k1 := h1.mono (z2.trans y2)
        refine ⟨l, vs, 0, 0, dP (M.drawF ns 21 % (g.2.2 + 1), M.drawF ns 22 % (g.2.2 + 1)), pd_var 3 rfl (.adr l), y2 _ _ z4, pd_int, rows_ix z5 (rows0_len ns) (by decide) (by decide),
          pd_tup (pda_cons (pd_mod (pd_does d1 hr2 (pda_cons (pd_var 0 rfl k0) (pda_cons pd_int pda_nil)) ⟨_, _, rfl, by decide, by decide, rfl⟩) (pd_add (pd_ixL (d := .int g.2.2) (pd_var 1 rfl k1) pd_int) pd_int) (by omega))
            (pda_cons (pd_mod (pd_does d1 hr2 (pda_cons (pd_var 0 rfl k0) (pda_cons pd_int pda_nil)) ⟨_, _, rfl, by decide, by decide, rfl⟩) (pd_add (pd_ixL (d := .int g.2.2) (pd_var 1 rfl k1) pd_int) pd_int) (by omega)) pda_nil)), fun v H4 e4 hv => ?_⟩
        obtain ⟨a1, a2, a3⟩ := rows_set 0 (z2.trans y2) z3 (y2 _ _ z4) (z5.mono y2) e4 hv
        exact ⟨l, x4, _, rfl, a1, z3, a2, a3⟩
      · refine pq_one (pq1_setL fun σ2 H3 ⟨l, x4, vs, z1, z2, z3, z4, z5⟩ => ?_)
        subst z1
        refine ⟨l, vs, 1, 1, dP (0, 0), pd_var 3 rfl (.adr l), z4, pd_int, rows_ix z5 (by rw [List.length_set, rows0_len]) (by decide) (by decide), pd_tup (pda_cons pd_int (pda_cons pd_int pda_nil)), fun v H4 e4 hv => ?_⟩
        obtain ⟨a1, a2, a3⟩ := rows_set 1 z2 z3 z4 z5 e4 hv
        refine ⟨l, x4, _, rfl, a1, z3, a2, ?_⟩
        unfold rowsB
        rw [if_pos (by rw [hmd]; exact hk1)]
        exact a3
    · refine pq_nil fun σ2 H3 ⟨y1, y2⟩ => ?_
      subst y1
      refine ⟨l, x4, vs, rfl, z2.trans y2, z3, y2 _ _ z4, ?_⟩
      unfold rowsB
      rw [if_neg (by rw [hmd]; exact of_decide_eq_false hk)]
      exact z5.mono y2
  refine pqr_cons (Mid := fun σ' H' => ∃ x5, RowsAt K H1 v0 v1 m (rowsF ns g.2.2) x5 σ' H') (pq1_if fun σ' H' ⟨l, x4, vs, z1, z2, z3, z4, z5⟩ => ?_) ?_
  · subst z1
    refine ⟨_, pdt_eqI (pd_var 2 rfl (.int _)) pd_int, fun hk => ?_, fun hk => ?_⟩
    · have hk2 : m = 2 := of_decide_eq_true hk
      have b24 : 0 ≤ 1 + M.drawF ns 24 % 2 ∧ 1 + M.drawF ns 24 % 2 < 3 := by omega
      have b26 : 0 ≤ 1 + M.drawF ns 26 % 2 ∧ 1 + M.drawF ns 26 % 2 < 3 := by omega
      refine pq_cons (Mid := RowsAt K H1 v0 v1 m (rowsB ns g.2.2) (some (.int (farF ns)))) (pq1_set 5 sc__law_drawn.nd fun σ2 H3 ⟨y1, y2⟩ => ?_) ?_
      · subst y1
        refine ⟨.int (farF ns), pd_mod (pd_does dC hr1 (pda_cons (pd_var 0 rfl (h0.mono (z2.trans y2))) (pda_cons pd_int pda_nil)) ⟨_, _, rfl, by decide, rfl⟩) (pd_pow pd_int pd_int ⟨by decide, by decide, by decide⟩) (by decide), fun v H4 e4 hv => ?_⟩
        cases hv
        exact ⟨l, x4, vs, rfl, (z2.trans y2).trans e4, z3, e4 _ _ (y2 _ _ z4), (z5.mono y2).mono e4⟩
      refine pq_cons (Mid := RowsAt K H1 v0 v1 m ((rowsB ns g.2.2).set 0 (0, 0)) (some (.int (farF ns)))) (pq1_setL fun σ2 H3 ⟨l, x4, vs, z1, z2, z3, z4, z5⟩ => ?_) ?_
      · subst z1
        refine ⟨l, vs, 0, 0, dP (0, 0), pd_var 3 rfl (.adr l), z4, pd_int, rows_ix z5 (rowsB_len _ _) (by decide) (by decide), pd_tup (pda_cons pd_int (pda_cons pd_int pda_nil)), fun v H4 e4 hv => ?_⟩
        obtain ⟨a1, a2, a3⟩ := rows_set 0 z2 z3 z4 z5 e4 hv
        exact ⟨l, x4, _, rfl, a1, z3, a2, a3⟩
      refine pq_cons (Mid := RowsAt K H1 v0 v1 m (((rowsB ns g.2.2).set 0 (0, 0)).set (1 + M.drawF ns 24 % 2).toNat (farF ns, farF ns + M.drawF ns 25 % 3 - 1)) (some (.int (farF ns)))) (pq1_setL fun σ2 H3 ⟨l, x4, vs, z1, z2, z3, z4, z5⟩ => ?_) ?_
      · subst z1
        have k0 := h0.mono z2
        refine ⟨l, vs, 1 + M.drawF ns 24 % 2, _, dP (farF ns, farF ns + M.drawF ns 25 % 3 - 1), pd_var 3 rfl (.adr l), z4, pd_add pd_int (pd_mod (pd_does d1 hr2 (pda_cons (pd_var 0 rfl k0) (pda_cons pd_int pda_nil)) ⟨_, _, rfl, by decide, by decide, rfl⟩) pd_int (by decide)),
          rows_ix z5 (by rw [List.length_set, rowsB_len]) b24.1 b24.2, pd_tup (pda_cons (pd_var 5 rfl (.int _)) (pda_cons (pd_sub (pd_add (pd_var 5 rfl (.int _)) (pd_mod (pd_does d1 hr2 (pda_cons (pd_var 0 rfl k0) (pda_cons pd_int pda_nil)) ⟨_, _, rfl, by decide, by decide, rfl⟩) pd_int (by decide))) pd_int) pda_nil)), fun v H4 e4 hv => ?_⟩
        obtain ⟨a1, a2, a3⟩ := rows_set (1 + M.drawF ns 24 % 2).toNat z2 z3 z4 z5 e4 hv
        exact ⟨l, x4, _, rfl, a1, z3, a2, a3⟩
      · refine pq_one (pq1_setL fun σ2 H3 ⟨l, x4, vs, z1, z2, z3, z4, z5⟩ => ?_)
        subst z1
        have k0 := h0.mono z2
        refine ⟨l, vs, 1 + M.drawF ns 26 % 2, _, dP (0, M.drawF ns 27 % 2), pd_var 3 rfl (.adr l), z4, pd_add pd_int (pd_mod (pd_does d1 hr2 (pda_cons (pd_var 0 rfl k0) (pda_cons pd_int pda_nil)) ⟨_, _, rfl, by decide, by decide, rfl⟩) pd_int (by decide)),
          rows_ix z5 (by rw [List.length_set, List.length_set, rowsB_len]) b26.1 b26.2, pd_tup (pda_cons pd_int (pda_cons (pd_mod (pd_does d1 hr2 (pda_cons (pd_var 0 rfl k0) (pda_cons pd_int pda_nil)) ⟨_, _, rfl, by decide, by decide, rfl⟩) pd_int (by decide)) pda_nil)), fun v H4 e4 hv => ?_⟩
        obtain ⟨a1, a2, a3⟩ := rows_set (1 + M.drawF ns 26 % 2).toNat z2 z3 z4 z5 e4 hv
        refine ⟨_, l, x4, _, rfl, a1, z3, a2, ?_⟩
        unfold rowsF rows2
        rw [if_pos (by rw [hmd]; exact hk2)]
        exact a3
    · refine pq_nil fun σ2 H3 ⟨y1, y2⟩ => ?_
      subst y1
      refine ⟨none, l, x4, vs, rfl, z2.trans y2, z3, y2 _ _ z4, ?_⟩
      unfold rowsF
      rw [if_neg (by rw [hmd]; exact of_decide_eq_false hk)]
      exact z5.mono y2
  refine pqr_pr fun σ' H' ⟨x5, l, x4, vs, z1, z2, z3, z4, z5⟩ => ?_
  subst z1
  have hl' : Is K H' (.lst ((rowsF ns g.2.2).map dP)) (.ref l) := .lst (SqL.of z4) z5
  exact ⟨_, pr_ret (pd_tupL T.tuple (pd_var 3 rfl hl')), fun v H2 e2 hv => ⟨z2.trans e2, hv⟩⟩
end
end Q
set_option Elab.async false
set_option linter.all false
set_option maxRecDepth 100000
set_option maxHeartbeats 4000000
namespace Q
open PySem PySem.Spec PyProof.Rows L2 L3
section
variable {P : Program} {w : World} {K : PySem.W.Frag} {mg : Str → Option Value} {base : Heap} {C CR : Addr}
def numF (ns : List Int) : Int × Int × Int := (M.drawF ns 30 % 8 - 1, M.drawF ns 31 % 9 - 1, M.drawF ns 32 % 6 - 1)
def parts8 : List M.Pr := [(1, 2), (0, 1), (1, 1), (-1, 2), (3, 2), (-2, 1), (3, 1), (1, 3)]
theorem part_at {k : Int} (h0 : 0 ≤ k) (h8 : k < 8) : ∃ p, atI (parts8.map dP) k = some (dP p) ∧ okP p := by
  have good : ∀ p : M.Pr, (0 ≤ p.1 ∧ p.1 ≤ p.2 ∧ 0 < p.2 ∧ p.2 ≤ 5) → okP p := fun p h => .inr ⟨⟨h.1, h.2.1, h.2.2.1⟩, h.2.2.2⟩
  have bad : ∀ p : M.Pr, (p.1 < 0 ∨ p.2 < p.1) → okP p := fun p h => .inl h
  have c : k = 0 ∨ k = 1 ∨ k = 2 ∨ k = 3 ∨ k = 4 ∨ k = 5 ∨ k = 6 ∨ k = 7 := by omega
  rcases c with rfl | rfl | rfl | rfl | rfl | rfl | rfl | rfl
  · exact ⟨(1, 2), rfl, good _ (by decide)⟩
  · exact ⟨(0, 1), rfl, good _ (by decide)⟩
  · exact ⟨(1, 1), rfl, good _ (by decide)⟩
  · exact ⟨(-1, 2), rfl, bad _ (by decide)⟩
  · exact ⟨(3, 2), rfl, bad _ (by decide)⟩
  · exact ⟨(-2, 1), rfl, bad _ (by decide)⟩
  · exact ⟨(3, 1), rfl, bad _ (by decide)⟩
  · exact ⟨(1, 3), rfl, good _ (by decide)⟩
theorem eq_self (d : D) (h : pyOk d = true) : (!eqD d d) = false := by rw [eqD_refl _ h]; rfl
theorem due_ok (call : Int) (g : Int × Int × Int) (s : M.Stg) (p : M.Pr) : pyOk (dueF call g s p) = true ∧ depD (dueF call g s p) ≤ 60 := by
  unfold dueF
  split
  · split
    · exact ⟨rfl, by decide⟩
    · split
      · exact ⟨rfl, by decide⟩
      · exact ⟨rfl, by decide⟩
  · exact ⟨rfl, by decide⟩
def due1 (call : Int) (g : Int × Int × Int) (s : M.Stg) : D := if call = 2 ∧ M.over g.2.2 s = true then .int 2 else .non
def due2 (call : Int) (g : Int × Int × Int) (s : M.Stg) (p : M.Pr) : D := if (call = 3 ∨ call = 4) ∧ (p.1 < 0 ∨ p.2 < p.1) then .int 3 else due1 call g s
theorem due3 (call : Int) (g : Int × Int × Int) (s : M.Stg) (p : M.Pr) : dueF call g s p = if M.reached g.1 g.2.1 g.2.2 s = true then due2 call g s p else .int 1 := rfl
theorem in34 (i : Int) : inV (.int i) [.int 3, .int 4] = decide (i = 3 ∨ i = 4) := by
  have h : inV (.int i) [.int 3, .int 4] = (decide ((3 : Int) = i) || (decide ((4 : Int) = i) || false)) := rfl
  rw [h, Bool.or_false, ← Bool.decide_or]
  exact decide_eq_decide.mpr (by omega)
def R_law (ds : List D) (r : D) : Prop := ∃ ns, ds = [dL ns] ∧ r = .bl true
theorem ok_law (T : Tx K mg C) (dRules : Does P w K mg base 3 "_law_rules" ["script"] R_rules) (dMade : Does P w K mg base 4 "_law_made" ["wanted"] (R_made C))
    (dDraw : Does P w K mg base 2 "_law_draw" ["script", "k"] R_draw) (dDrawn : Does P w K mg base 4 "_law_drawn" ["script", "wanted"] R_ldrawn) (dIs : Does P w K mg base 2 "_law_is_standing" ["wanted", "standing"] R_lis)
    (dRef : Does P w K mg base 8 "_law_refusal" ["call", "wanted", "rules", "standing", "who", "part"] (R_ref C)) {f : Addr} {fd : FuncData} (F : Fun K "law" "law" st_law f fd) : FnOk P w K mg base CX0 9 f fd ["script"] (spD K R_law) := by
  refine fun_ok F sc_law (fun ds r ⟨_, e, _⟩ => by rw [e]; rfl) fun cdv A outer s H E vs ds r hr hl hR => .inl ?_
  obtain ⟨ns, rfl, rfl⟩ := hR
  obtain ⟨v0, rfl, h0⟩ := isL1 hl
  have hr2 : Room 2 _ := hr.mono (by decide)
  have hr3 : Room 3 _ := hr.mono (by decide)
  have hr4 : Room 4 _ := hr.mono (by decide)
  refine pr_set 1 sc_law.nd (d := dW (numF ns)) ((pd_lst (pda_cons (pd_sub (pd_mod (pd_does dDraw hr2 (pda_cons (pd_var 0 rfl h0) (pda_cons pd_int pda_nil)) ⟨_, _, rfl, by decide, by decide, rfl⟩) pd_int (by decide)) pd_int)
    (pda_cons (pd_sub (pd_mod (pd_does dDraw hr2 (pda_cons (pd_var 0 rfl h0) (pda_cons pd_int pda_nil)) ⟨_, _, rfl, by decide, by decide, rfl⟩) pd_int (by decide)) pd_int)
    (pda_cons (pd_sub (pd_mod (pd_does dDraw hr2 (pda_cons (pd_var 0 rfl h0) (pda_cons pd_int pda_nil)) ⟨_, _, rfl, by decide, by decide, rfl⟩) pd_int (by decide)) pd_int) pda_nil)))).cast rfl) fun v1 H1 e1 h1 => ?_
  generalize numF ns = n at h1
  obtain ⟨n1, n2, n3⟩ := n
  replace h0 := h0.mono e1
  refine pr_set 2 sc_law.nd (pd_int) fun v2 H2 e2 h2 => ?_
  cases h2
  replace h0 := h0.mono e2
  replace h1 := h1.mono e2
  have dec : Decidable (M.Good n1 n2 n3) := by unfold M.Good; infer_instance
  refine pr_cons (Post := fun σ' H' => ∃ v, σ' = [some v0, some v1, some v, none, none, none, none, none, none] ∧ Is K H' (if M.Good n1 n2 n3 then .non else .int 0) v) (pn1_if (PDW.pt (pdw_and (pdt_chain (f := fun i j => decide (i ≤ j)) (f' := fun i j => decide (i ≤ j)) op_le op_le pd_int (pd_ixL (d := .int n1) (pd_var 1 rfl h1) pd_int) pd_int) fun _ =>
      pdw_and (pdt_chain (f := fun i j => decide (i ≤ j)) (f' := fun i j => decide (i ≤ j)) op_le op_le pd_int (pd_ixL (d := .int n2) (pd_var 1 rfl h1) pd_int) pd_int) fun _ => pdw_and1 (pdt_chain (f := fun i j => decide (i ≤ j)) (f' := fun i j => decide (i ≤ j)) op_le op_le pd_int (pd_ixL (d := .int n3) (pd_var 1 rfl h1) pd_int) pd_int)))
    (fun z => pn_one (pn1_set 2 sc_law.nd pd_non fun v H' e hv => ⟨v, rfl, ?_⟩)) (fun z => pn_nil fun H' e => ⟨_, rfl, ?_⟩)) fun σ' H3 e3 ⟨v2, hs, h2⟩ => ?_
  · have hg : M.Good n1 n2 n3 := by
      simp only [Bool.and_eq_true, decide_eq_true_eq] at z
      unfold M.Good
      omega
    rw [if_pos hg]; exact hv
  · have hg : ¬ M.Good n1 n2 n3 := fun hg => by
      unfold M.Good at hg
      have : (decide (1 ≤ n1) && decide (n1 ≤ 5) && (decide (1 ≤ n2) && decide (n2 ≤ 6) && (decide (1 ≤ n3) && decide (n3 ≤ 3)))) = true := by
        simp only [Bool.and_eq_true, decide_eq_true_eq]
        omega
      rw [this] at z
      cases z
    rw [if_neg hg]; exact .int _
  subst hs
  replace h0 := h0.mono e3
  replace h1 := h1.mono e3
  refine pr_if (k := false) ((pdt_neD (d := if M.Good n1 n2 n3 then .non else .int 0) (hu64 hr) (pd_does dRef hr (pda_cons pd_int (pda_cons (pd_var 1 rfl h1) (pda_cons pd_non (pda_cons pd_non (pda_cons pd_int (pda_cons pd_non pda_nil)))))) (.inl ⟨n1, n2, n3, rfl, ?_⟩)) (pd_var 2 rfl h2) ?_ ?_ ?_).cast (eq_self _ ?_)) (fun z => absurd z Bool.false_ne_true) (fun _ => ?_)
  · by_cases hg : M.Good n1 n2 n3
    · exact .inl ⟨hg, if_pos hg⟩
    · exact .inr ⟨hg, if_neg hg⟩
  · split <;> rfl
  · split <;> rfl
  · split <;> decide
  · split <;> rfl
  clear h1 h2
  have hg := M.rulesF_good ns
  refine pr_set 3 sc_law.nd (pd_does dRules hr3 (pda_cons (pd_var 0 rfl h0) pda_nil) ⟨_, rfl, rfl⟩) fun v3 H4 e4 h3 => ?_
  generalize M.rulesF ns = g at hg h3
  obtain ⟨g1, g2, g3⟩ := g
  replace h0 := h0.mono e4
  refine pr_set 4 sc_law.nd (pd_does dMade hr4 (pda_cons (pd_var 3 rfl h3) pda_nil) ⟨_, _, _, rfl, hg, rfl⟩) fun v4 H5 e5 h4 => ?_
  replace h0 := h0.mono e5
  replace h3 := h3.mono e5
  refine pr_set 5 sc_law.nd (pd_does dDrawn hr4 (pda_cons (pd_var 0 rfl h0) (pda_cons (pd_var 3 rfl h3) pda_nil)) ⟨_, (g1, g2, g3), rfl, hg, rfl⟩) fun v5 H6 e6 h5 => ?_
  have hh := hi_drawn (ns := ns) (g := (g1, g2, g3)) hg
  generalize drawnF ns (g1, g2, g3) = st at hh h5
  have hok : M.reached g1 g2 g3 st = true → okS st := okS_of hh
  replace h0 := h0.mono e6
  replace h3 := h3.mono e6
  replace h4 := h4.mono e6
  refine pr_set 6 sc_law.nd (pd_does dIs hr2 (pda_cons (pd_var 3 rfl h3) (pda_cons (pd_var 5 rfl h5) pda_nil)) ⟨(g1, g2, g3), st, rfl, rfl⟩) fun v6 H7 e7 h6 => ?_
  cases h6
  replace h0 := h0.mono e7
  replace h3 := h3.mono e7
  replace h4 := h4.mono e7
  replace h5 := h5.mono e7
  obtain ⟨p, hpa, hpo⟩ := part_at (k := M.drawF ns 33 % 8) (by omega) (by omega)
  refine pr_set 7 sc_law.nd (d := dP p) (pd_ixL (ds := parts8.map dP) (pd_lst (ds := parts8.map dP) (pda_cons (pd_tup (pda_cons pd_int (pda_cons pd_int pda_nil))) (pda_cons (pd_tup (pda_cons pd_int (pda_cons pd_int pda_nil))) (pda_cons (pd_tup (pda_cons pd_int (pda_cons pd_int pda_nil)))
    (pda_cons (pd_tup (pda_cons (pd_neg pd_int) (pda_cons pd_int pda_nil))) (pda_cons (pd_tup (pda_cons pd_int (pda_cons pd_int pda_nil))) (pda_cons (pd_tup (pda_cons (pd_neg pd_int) (pda_cons pd_int pda_nil))) (pda_cons (pd_tup (pda_cons pd_int (pda_cons pd_int pda_nil))) (pda_cons (pd_tup (pda_cons pd_int (pda_cons pd_int pda_nil))) pda_nil)))))))) (by decide))
    (pd_mod (pd_does dDraw hr2 (pda_cons (pd_var 0 rfl h0) (pda_cons pd_int pda_nil)) ⟨_, _, rfl, by decide, by decide, rfl⟩) pd_int (by decide)) hpa) fun v7 H8 e8 h7 => ?_
  replace h0 := h0.mono e8
  replace h3 := h3.mono e8
  replace h4 := h4.mono e8
  replace h5 := h5.mono e8
  let Q0 : L2.St → Prop := fun σ' => ∃ y2 y8, σ' = [some v0, some v1, y2, some v3, some v4, some v5, some (.bl (M.reached g1 g2 g3 st)), some v7, y8]
  refine pr_cons (Post := fun σ' _ => Q0 σ') (pn1_pq1 fun H9 e9 => pq1_forR2 (lo := 1) (hi := 6) 8 (fun _ σ' H' => Same H9 H' ∧ Q0 σ') PassesOwn.never rfl sc_law.nd T.range (fun σ' H' _ => ⟨pd_int, pd_int⟩) (by decide)
    (fun σ' H' H2 ⟨z1, z2⟩ e2 => by subst z1; subst z2; exact ⟨e2, _, _, rfl⟩) (fun i hi => ?_) (fun _ _ z => z)) fun σ' H9 e9 hq => ?_
  · refine pq_pn (Po := fun _ _ σ' _ => Q0 σ') (fun σ' H10 ⟨σ1, zz, e10, y2, y8, zs⟩ => ?_) (fun σ' H10 σ2 H11 ⟨σ1, zz, e10, _⟩ e11 q => ⟨e10.trans e11, q⟩)
    subst zs; subst zz
    have eA := e9.trans e10
    have k0 := h0.mono eA
    have k3 := h3.mono eA
    have k4 := h4.mono eA
    have k5 := h5.mono eA
    have k7 := h7.mono eA
    have hcall : (1 + (i : Int)) = 1 ∨ (1 + (i : Int)) = 2 ∨ (1 + (i : Int)) = 3 ∨ (1 + (i : Int)) = 4 ∨ (1 + (i : Int)) = 5 := by omega
    generalize (1 + (i : Int)) = call at hcall
    refine pn_cons (P := fun σ' _ => σ' = [some v0, some v1, some .non, some v3, some v4, some v5, some (.bl (M.reached g1 g2 g3 st)), some v7, some (.int call)]) (pn1_set 2 sc_law.nd pd_non fun v H' e hv => by cases hv; rfl) fun σ' H11 e11 hs => ?_
    subst hs
    replace k0 := k0.mono e11
    replace k3 := k3.mono e11
    replace k4 := k4.mono e11
    replace k5 := k5.mono e11
    replace k7 := k7.mono e11
    refine pn_cons (P := fun σ' H' => ∃ v, σ' = [some v0, some v1, some v, some v3, some v4, some v5, some (.bl (M.reached g1 g2 g3 st)), some v7, some (.int call)] ∧ Is K H' (due1 call (g1, g2, g3) st) v)
      (pn1_if (PDW.pt (pdw_and (pdt_eqI (pd_var 8 rfl (.int _)) pd_int) fun _ => pdw_and1 (pdt_eqI (pd_max rfl T.max (pd_ixT (d := dP st.1) (pd_var 5 rfl k5) pd_int)) (pd_ixL (d := .int g3) (pd_var 3 rfl k3) pd_int))))
        (fun z => pn_one (pn1_set 2 sc_law.nd pd_int fun v H' e hv => ⟨v, rfl, ?_⟩)) (fun z => pn_nil fun H' e => ⟨_, rfl, ?_⟩)) fun σ' H12 e12 ⟨u1, hs, hu1⟩ => ?_
    · unfold due1
      rw [if_pos (by simpa [M.over] using z)]; exact hv
    · unfold due1
      rw [if_neg (by
        intro hc
        simp only [Bool.and_eq_false_iff, decide_eq_false_iff_not] at z
        have h2 : mxP st.1 = g3 := of_decide_eq_true hc.2
        rcases z with z | z
        · exact z hc.1
        · exact z h2)]; exact .non
    subst hs
    replace k0 := k0.mono e12
    replace k4 := k4.mono e12
    replace k5 := k5.mono e12
    replace k7 := k7.mono e12
    refine pn_cons (P := fun σ' H' => ∃ v, σ' = [some v0, some v1, some v, some v3, some v4, some v5, some (.bl (M.reached g1 g2 g3 st)), some v7, some (.int call)] ∧ Is K H' (due2 call (g1, g2, g3) st p) v)
      (pn1_if (PDW.pt (pdw_and ((pdt_inT (pd_var 8 rfl (.int _)) (pd_tup (pda_cons pd_int (pda_cons pd_int pda_nil))) (x := .int call) (vs := [.int 3, .int 4]) (fun _ _ h => by cases h; rfl) (fun _ us h => by obtain ⟨a, b, rfl, ha, hb⟩ := isL2 h; cases ha; cases hb; rfl)).cast (in34 call)) fun _ =>
          pdw_and1 (pdt_not (pdt_chain (f := fun i j => decide (i ≤ j)) (f' := fun i j => decide (i ≤ j)) op_le op_le pd_int (pd_ixT (d := .int p.1) (pd_var 7 rfl k7) pd_int) (pd_ixT (d := .int p.2) (pd_var 7 rfl k7) pd_int)))))
        (fun z => pn_one (pn1_set 2 sc_law.nd pd_int fun v H' e hv => ⟨v, rfl, ?_⟩)) (fun z => pn_nil fun H' e => ⟨_, rfl, ?_⟩)) fun σ' H13 e13 ⟨u2, hs, hu2⟩ => ?_
    · unfold due2
      rw [if_pos (by
        simp only [Bool.and_eq_true, decide_eq_true_eq, Bool.not_eq_true', Bool.and_eq_false_iff, decide_eq_false_iff_not] at z
        exact ⟨z.1, by omega⟩)]; exact hv
    · unfold due2
      rw [if_neg (by
        intro hc
        have : (decide (call = 3 ∨ call = 4) && !(decide (0 ≤ p.1) && decide (p.1 ≤ p.2))) = true := by
          simp only [Bool.and_eq_true, decide_eq_true_eq, Bool.not_eq_true', Bool.and_eq_false_iff, decide_eq_false_iff_not]
          exact ⟨hc.1, by omega⟩
        rw [this] at z
        cases z)]; exact hu1.mono e
    subst hs
    replace k0 := k0.mono e13
    replace k4 := k4.mono e13
    replace k5 := k5.mono e13
    replace k7 := k7.mono e13
    refine pn_cons (P := fun σ' H' => ∃ v, σ' = [some v0, some v1, some v, some v3, some v4, some v5, some (.bl (M.reached g1 g2 g3 st)), some v7, some (.int call)] ∧ Is K H' (dueF call (g1, g2, g3) st p) v)
      (pn1_if (pdt_not (pdt_val (pd_var 6 rfl (.bl _)))) (fun z => pn_one (pn1_set 2 sc_law.nd pd_int fun v H' e hv => ⟨v, rfl, ?_⟩)) (fun z => pn_nil fun H' e => ⟨_, rfl, ?_⟩)) fun σ' H14 e14 ⟨u3, hs, hu3⟩ => ?_
    · rw [due3, if_neg (by show ¬ M.reached g1 g2 g3 st = true; simpa using z)]; exact hv
    · rw [due3, if_pos (by show M.reached g1 g2 g3 st = true; simpa using z)]; exact hu2.mono e
    subst hs
    replace k0 := k0.mono e14
    replace k4 := k4.mono e14
    replace k5 := k5.mono e14
    replace k7 := k7.mono e14
    obtain ⟨o1, o2⟩ := due_ok call (g1, g2, g3) st p
    refine pn_one (pn1_if (k := false) ((pdt_neD (d := dueF call (g1, g2, g3) st p) (hu64 hr) (pd_does dRef hr (pda_cons (pd_var 8 rfl (.int _)) (pda_cons pd_non (pda_cons (pd_var 4 rfl k4) (pda_cons (pd_var 5 rfl k5) (pda_cons (pd_mod (pd_does dDraw hr2 (pda_cons (pd_var 0 rfl k0) (pda_cons pd_int pda_nil)) ⟨_, _, rfl, by decide, by decide, rfl⟩) pd_int (by decide)) (pda_cons (pd_var 7 rfl k7) pda_nil))))))
      (.inr ⟨call, g1, g2, g3, st, _, p, rfl, hg, hcall, hok, hpo, rfl⟩)) (pd_var 2 rfl hu3) o1 o1 o2).cast (eq_self _ o1)) (fun z => absurd z Bool.false_ne_true) (fun _ => pn_nil fun H' e => ⟨_, _, rfl⟩))
  · obtain ⟨y2, y8, hs⟩ := hq
    subst hs
    exact pr_ret pd_bl
end
end Q
set_option Elab.async false
set_option linter.all false
set_option maxRecDepth 100000
set_option maxHeartbeats 4000000
set_option pp.maxSteps 300
namespace Q
open PySem PySem.Spec PyProof.Rows L2 L3
section
theorem law_mk {l : PySem.W.OpenLaw} {w : World} {K : PySem.W.Frag} {h : Heap} {mg : Str → Option Value} {fa f : Addr} {oc : Value} {od an : Option Addr} {osl : Array (Option Value)} {kV doc pm cdv ct : Value} {n : Nat} {R : List D → D → Prop} (X : K.In h) (G : h.Ns mainGlobals mg) (hfa : mg "law" = some (.ref fa))
    (a : PySem.W.nsIn K mainGlobals "law" = some (some (.ref f))) (lk : K.lookup f = some ⟨oc, od, .func (PySem.W.fnOf "law" "law" (defArgs st_law) (defBody st_law) (defScope st_law) .none kV doc pm an cdv ct), osl⟩) (c : PySem.W.codeIn K cdv "law" = true) (k : PySem.W.keepIn K (.ref f) = true)
    (ok : ∀ base : Heap, ∀ (f : Addr) (fd : FuncData), Fun K "law" "law" st_law f fd → FnOk l.prog w K mg base CX0 n f fd ["script"] (spD K R)) :
    ∃ fd : FuncData, (∀ (s : Shared) (u : Value), BindsTo s fd ⟨[u], []⟩ [("script", u)]) ∧ ∀ base : Heap, K.In base → base.Ns mainGlobals mg → FnOk l.prog w K mg base CX0 n fa fd ["script"] (spD K R) := by
  have e := hfa.symm.trans (PySem.W.mg_of X G a)
  cases e
  have F := fun_mk (st := st_law) lk c k
  exact ⟨_, fun s u => .of_eq rfl, fun base _ _ => ok base _ _ F⟩
theorem walk {l : PySem.W.OpenLaw} {q : Program} {loose : List Str} {XP : (Str → Option Value) → Heap → Prop} {YP : World → Heap → Prop} {d : DefRec} {K : Params → PySem.W.Frag} {n : Nat} (hn : l.most = some 63) (hdf : d.params.defaults = []) (hr : Room n callerA)
    (hY : ∀ (w : World) (h : Heap), YP w h → (K w.params).In h)
    (F : ∀ (w : World) (mg : Str → Option Value) (fa : Addr) (h : Heap), (K w.params).In h → h.Ns mainGlobals mg → mg d.name = some (.ref fa) →
      ∃ fd : FuncData, (∀ (s : Shared) (u : Value), BindsTo s fd ⟨[u], []⟩ [("script", u)]) ∧ ∀ base : Heap, (K w.params).In base → base.Ns mainGlobals mg → FnOk l.prog w (K w.params) mg base CX0 n fa fd ["script"] (spD (K w.params) R_law)) :
    PySem.W.WalkO q loose XP YP l.row.toRowW d [] (fun f vs => PySem.call f vs) :=
  L2.walk_of (n := 63) (k := n) (x := "script") (CX := fun _ => CX0) (sp := fun w => spD (K w.params) R_law) hn (by decide) hdf hr hY F
    (fun _ H a ns hl _ hS => ⟨[dL ns], .bl true, .cons (.lst hS (.ints ns)) .nil, ⟨ns, rfl, rfl⟩, fun v H' _ hv => by cases hv; rfl⟩) fun _ _ _ _ _ z => z
theorem init_mk {K : PySem.W.Frag} {C f : Addr} {oc : Value} {od an : Option Addr} {osl : Array (Option Value)} {kV doc pm cdv ct : Value} (m : PySem.W.makesIn K C = true) (a : PySem.W.findIn K (.ref C) "__init__" = some (some (.ref f))) (i : PySem.W.isFn K (.ref f) = true) (kc : PySem.W.keepIn K (.ref C) = true)
    (l : K.lookup f = some ⟨oc, od, .func (PySem.W.fnOf "__init__" "Rules.__init__" (defArgs st_Rules___init__) (defBody st_Rules___init__) (defScope st_Rules___init__) .none kV doc pm an cdv ct), osl⟩) (c : PySem.W.codeIn K cdv "Rules.__init__" = true) (k : PySem.W.keepIn K (.ref f) = true) :
    ∃ fI fdI, Mk K C fI ∧ Fun K "__init__" "Rules.__init__" st_Rules___init__ fI fdI ∧ Binds K fdI ["self", "points", "games", "sets"] [] :=
  let F := fun_mk (st := st_Rules___init__) l c k
  ⟨f, _, ⟨m, a, i, kc⟩, F, F.binds fun _ _ _ _ _ _ us hl => match us, hl with | [_, _, _, _], _ => rfl⟩
theorem tx_mk {K : PySem.W.Frag} {h : Heap} {mg : Str → Option Value} {C an : Addr} {t1 t2 t3 t4 t5 t6 : Tok} {n : Nat} {sl : Array (Option Value)} (X : K.In h) (G : h.Ns mainGlobals mg)
    (aC : PySem.W.nsIn K mainGlobals "Rules" = some (some (.ref C))) (pg : PySem.W.plainGet K C Str.empty = true) (hd : PySem.W.hasDictIn K C = true) (po : PySem.W.plainOver K C = true) (sa : PySem.W.findIn K (.ref C) "__setattr__" = some (some (.builtin "object.__setattr__")))
    (n1 : PySem.W.findIn K (.ref C) "point_goal" = some none) (n2 : PySem.W.findIn K (.ref C) "game_goal" = some none) (n3 : PySem.W.findIn K (.ref C) "set_goal" = some none)
    (z1 : PySem.W.nsIn K mainGlobals "max" = some none) (z2 : PySem.W.nsIn K mainGlobals "min" = some none) (z3 : PySem.W.nsIn K mainGlobals "abs" = some none) (z4 : PySem.W.nsIn K mainGlobals "len" = some none) (z5 : PySem.W.nsIn K mainGlobals "range" = some none)
    (z6 : PySem.W.nsIn K mainGlobals "int" = some none) (z7 : PySem.W.nsIn K mainGlobals "bool" = some none) (z8 : PySem.W.nsIn K mainGlobals "list" = some none) (z9 : PySem.W.nsIn K mainGlobals "tuple" = some none) (z10 : PySem.W.nsIn K mainGlobals "isinstance" = some none)
    (c1 : PySem.W.nsIn K mainGlobals "LEAD" = some (some (.int 2 t1))) (c2 : PySem.W.nsIn K mainGlobals "MOST_POINTS" = some (some (.int 5 t2))) (c3 : PySem.W.nsIn K mainGlobals "MOST_GAMES" = some (some (.int 6 t3))) (c4 : PySem.W.nsIn K mainGlobals "MOST_SETS" = some (some (.int 3 t4)))
    (c5 : PySem.W.nsIn K mainGlobals "NOUGHT" = some (some (.ref an))) (c6 : K.lookup an = some ⟨.type "tuple", none, .seq #[.int 0 t5, .int 0 t6] n, sl⟩) : Tx K mg C where
  cl := ⟨pg, hd, po, sa⟩
  n1 := n1
  n2 := n2
  n3 := n3
  mgC := PySem.W.mg_of X G aC
  max := PySem.W.mg_none_of X G z1
  min := PySem.W.mg_none_of X G z2
  abs := PySem.W.mg_none_of X G z3
  len := PySem.W.mg_none_of X G z4
  range := PySem.W.mg_none_of X G z5
  int := PySem.W.mg_none_of X G z6
  bool := PySem.W.mg_none_of X G z7
  list := PySem.W.mg_none_of X G z8
  tuple := PySem.W.mg_none_of X G z9
  isi := PySem.W.mg_none_of X G z10
  lead := ⟨t1, PySem.W.mg_of X G c1⟩
  mp := ⟨t2, PySem.W.mg_of X G c2⟩
  mgm := ⟨t3, PySem.W.mg_of X G c3⟩
  ms := ⟨t4, PySem.W.mg_of X G c4⟩
  nought := ⟨an, PySem.W.mg_of X G c5, fun H => .tup (xs := [.int 0, .int 0]) (.inr ⟨_, _, _, c6, rfl, rfl, rfl, (by rw [sizeLine_eq]; show 2 ≤ 16777216; decide), .cons (a := V.int 0) ⟨_, rfl⟩ (.cons (a := V.int 0) ⟨_, rfl⟩ .nil)⟩) (.cons (.int 0) (.cons (.int 0) .nil))⟩
end
theorem errcls_of {K : PySem.W.Frag} {C : Addr} {Bn newId inN B nid initId : String} {bmN bmB : List Value} (q : PySem.W.excIn K C bmB newId = true) (Fn : ExcBaseFacts Bn newId inN bmN) (F : ExcBaseFacts B nid initId bmB) (hBn : bmB.contains (.type Bn) = true) : ErrCls K C := by
  refine ⟨fun h X => ?_⟩
  unfold PySem.W.excIn at q
  split at q
  case h_2 => cases q
  case h_1 dd cd sl lk =>
    split at q
    case h_2 => cases q
    case h_1 c2 bm k0 k1 k2 k3 nw k5 em es =>
      simp only [Bool.not_eq_true', beq_iff_eq, Bool.and_eq_true] at q
      obtain ⟨⟨⟨⟨⟨e1, e2⟩, e3⟩, e4⟩, e5⟩, e6⟩ := q
      cases cd with
      | mk nm bs mro ns qn hd sn sub ab col del =>
        dsimp only at em e3 e5 e6
        subst em; subst e3; subst e1; subst e2
        cases sl with
        | mk l =>
          have es' : l = [k0, k1, k2, k3, some (.builtin nw), k5] := es
          subst es'
          have tl := PySem.W.tail_of_in X e4
          exact ⟨nm, qn, ns, bs, bm, hd, sn, sub, ab, col, dd, k0, k1, k2, k3, k5, Bn, nw, inN, B, nid, initId, bmN, bmB, h.nsMap ns, Fn, hBn, F, tl.hasType F.hasBase, PySem.W.nsMap_none_of_in X e5 e6, X _ _ lk, .of_isNs (PySem.W.isNs_of_in X e5), tl⟩
theorem caught_mk {K : PySem.W.Frag} {C CE : Addr} {cd : ClassData} (ty : PySem.W.typeIn K (.ref CE) = some (.type "type")) (cl : PySem.W.clsIn K CE = some cd) (ba : PySem.W.mroIn K CE (.type "BaseException") = some true) (su : PySem.W.mroIn K C (.ref CE) = some true) : Caught K C CE :=
  ⟨ty, by rw [cl]; rfl, ba, su⟩
theorem excget_mk {K : PySem.W.Frag} {C : Addr} {cd : ClassData} (ga : PySem.W.findIn K (.ref C) "__getattribute__" = some (some (.builtin "BaseException.__getattribute__"))) (hk : PySem.W.findIn K (.ref C) "__getattr__" = some none)
    (ca : PySem.W.findIn K (.ref C) "__class__" = some (some (.builtin "object.__class__"))) (gt : PySem.W.specialIn K (.builtin "object.__class__") "__get__" = some (some (.builtin "getset_descriptor.__get__"))) (tk : PySem.W.takesIn K (.builtin "object.__class__") = some true)
    (mo : PySem.W.mroIn K C (.type "object") = some true) (mb : PySem.W.mroIn K C (.type "BaseException") = some true) (cs : PySem.W.clsIn K C = some cd) : ExcGet K C :=
  ⟨ga, hk, ca, gt, tk, mo, mb, by rw [cs]; rfl⟩
theorem errs_mk {K : PySem.W.Frag} {h : Heap} {mg : Str → Option Value} {CE c0 c1 c2 c3 c4 c5 : Addr} (X : K.In h) (G : h.Ns mainGlobals mg)
    (a0 : PySem.W.nsIn K mainGlobals "BadRules" = some (some (.ref c0))) (a1 : PySem.W.nsIn K mainGlobals "BadStanding" = some (some (.ref c1))) (a2 : PySem.W.nsIn K mainGlobals "Over" = some (some (.ref c2))) (a3 : PySem.W.nsIn K mainGlobals "BadPart" = some (some (.ref c3)))
    (a4 : PySem.W.nsIn K mainGlobals "NoSuch" = some (some (.ref c4))) (a5 : PySem.W.nsIn K mainGlobals "NoText" = some (some (.ref c5))) (aE : PySem.W.nsIn K mainGlobals "CourtError" = some (some (.ref CE))) (aV : PySem.W.nsIn K mainGlobals "ValueError" = some none)
    (e0 : ErrAt K CE c0 c1 c2 c3 c4 c5 c0 true false false false) (e1 : ErrAt K CE c0 c1 c2 c3 c4 c5 c1 false true false false) (e2 : ErrAt K CE c0 c1 c2 c3 c4 c5 c2 false false true false) (e3 : ErrAt K CE c0 c1 c2 c3 c4 c5 c3 false false false true) :
    Errs K mg CE c0 c1 c2 c3 c4 c5 :=
  ⟨⟨PySem.W.mg_of X G a0, PySem.W.mg_of X G a1, PySem.W.mg_of X G a2, PySem.W.mg_of X G a3, PySem.W.mg_of X G a4, PySem.W.mg_of X G a5, PySem.W.mg_of X G aE, PySem.W.mg_none_of X G aV⟩, e0, e1, e2, e3⟩
theorem tv_mk {K : PySem.W.Frag} {h : Heap} {mg : Str → Option Value} {t1 : Tok} (X : K.In h) (G : h.Ns mainGlobals mg) (v1 : PySem.W.nsIn K mainGlobals "str" = some none) (v2 : PySem.W.nsIn K mainGlobals "BLOCK" = some (some (.int 1000000000 t1))) : Tv mg :=
  ⟨PySem.W.mg_none_of X G v1, ⟨t1, PySem.W.mg_of X G v2⟩⟩
theorem initR_mk {K : PySem.W.Frag} {C f : Addr} {oc : Value} {od an : Option Addr} {osl : Array (Option Value)} {kV doc pm cdv ct : Value} (m : PySem.W.makesIn K C = true) (a : PySem.W.findIn K (.ref C) "__init__" = some (some (.ref f))) (i : PySem.W.isFn K (.ref f) = true) (kc : PySem.W.keepIn K (.ref C) = true)
    (l : K.lookup f = some ⟨oc, od, .func (PySem.W.fnOf "__init__" "Race.__init__" (defArgs st_Race___init__) (defBody st_Race___init__) (defScope st_Race___init__) .none kV doc pm an cdv ct), osl⟩) (c : PySem.W.codeIn K cdv "Race.__init__" = true) (k : PySem.W.keepIn K (.ref f) = true) :
    ∃ fI fdI, Mk K C fI ∧ Fun K "__init__" "Race.__init__" st_Race___init__ fI fdI ∧ Binds K fdI ["self", "goal", "lead", "part", "cost"] [] :=
  let F := fun_mk (st := st_Race___init__) l c k
  ⟨f, _, ⟨m, a, i, kc⟩, F, F.binds fun _ _ _ _ _ _ us hl => match us, hl with | [_, _, _, _, _], _ => rfl⟩
theorem pair_mk {K : PySem.W.Frag} {a : Addr} {x y : Int} {t t' : Tok} {n : Nat} {sl : Array (Option Value)} (c : K.lookup a = some ⟨.type "tuple", none, .seq #[.int x t, .int y t'] n, sl⟩) : ∀ H, Is K H (dP (x, y)) (.ref a) :=
  fun H => .tup (xs := [.int x, .int y]) (.inr ⟨_, _, _, c, rfl, rfl, rfl, (by rw [sizeLine_eq]; show 2 ≤ 16777216; decide), .cons (a := V.int x) ⟨_, rfl⟩ (.cons (a := V.int y) ⟨_, rfl⟩ .nil)⟩) (.cons (.int x) (.cons (.int y) .nil))
theorem ty_mk {K : PySem.W.Frag} {h : Heap} {mg : Str → Option Value} {CR az ao : Addr} {t1 t2 t3 t4 t5 : Tok} {n1' n2' : Nat} {sl1 sl2 : Array (Option Value)} (X : K.In h) (G : h.Ns mainGlobals mg)
    (aC : PySem.W.nsIn K mainGlobals "Race" = some (some (.ref CR))) (pg : PySem.W.plainGet K CR Str.empty = true) (hd : PySem.W.hasDictIn K CR = true) (po : PySem.W.plainOver K CR = true) (sa : PySem.W.findIn K (.ref CR) "__setattr__" = some (some (.builtin "object.__setattr__")))
    (n1 : PySem.W.findIn K (.ref CR) "goal" = some none) (n2 : PySem.W.findIn K (.ref CR) "lead" = some none) (n3 : PySem.W.findIn K (.ref CR) "part" = some none) (n4 : PySem.W.findIn K (.ref CR) "cost" = some none)
    (c1 : PySem.W.nsIn K mainGlobals "MATCH_LEAD" = some (some (.int 1 t1))) (c2 : PySem.W.nsIn K mainGlobals "ZERO" = some (some (.ref az))) (c3 : K.lookup az = some ⟨.type "tuple", none, .seq #[.int 0 t2, .int 1 t3] n1', sl1⟩)
    (c4 : PySem.W.nsIn K mainGlobals "ONE" = some (some (.ref ao))) (c5 : K.lookup ao = some ⟨.type "tuple", none, .seq #[.int 1 t4, .int 1 t5] n2', sl2⟩) : Ty K mg CR where
  cl := ⟨pg, hd, po, sa⟩
  n1 := n1
  n2 := n2
  n3 := n3
  n4 := n4
  mgR := PySem.W.mg_of X G aC
  ml := ⟨t1, PySem.W.mg_of X G c1⟩
  zero := ⟨az, PySem.W.mg_of X G c2, pair_mk c3⟩
  one := ⟨ao, PySem.W.mg_of X G c4, pair_mk c5⟩
end Q
open PySem PySem.W PyProof.Rows
set_option maxRecDepth 100000 in
set_option maxHeartbeats 0 in
theorem PySem.Challenge.cw_courtscore_k02_rules_and_standings_refus_holds : PySem.Challenge.rw_courtscore_k02_rules_and_standings_refus.Holds := by
  w_on; o_law; k_head; (case hw => w_witness2)
  k_fill
  refine Q.walk (l := PySem.Challenge.rw_courtscore_k02_rules_and_standings_refus) (n := 9) rfl rfl ⟨rfl, by decide, by decide⟩ (fun w h Y => PySem.W.kIn_of Y) ?F
  case F =>
    intro w mg fa h KX G hmg
    have T : ∃ C, Q.Tx (L2.KOf KX) mg C ∧ L3.HasM (L2.KOf KX) C "points" "Rules.points" Q.st_Rules_points ["self"] ∧ L3.HasM (L2.KOf KX) C "games" "Rules.games" Q.st_Rules_games ["self"] ∧ L3.HasM (L2.KOf KX) C "sets" "Rules.sets" Q.st_Rules_sets ["self"] ∧
        ∃ fI fdI, L2.Mk (L2.KOf KX) C fI ∧ L2.Fun (L2.KOf KX) "__init__" "Rules.__init__" Q.st_Rules___init__ fI fdI ∧ L2.Binds (L2.KOf KX) fdI ["self", "points", "games", "sets"] [] := by
      dsimp only [L2.KOf]
      refine' ⟨_, Q.tx_mk KX G ?aC ?pg ?hd ?po ?sa ?n1 ?n2 ?n3 ?z1 ?z2 ?z3 ?z4 ?z5 ?z6 ?z7 ?z8 ?z9 ?z10 ?c1 ?c2 ?c3 ?c4 ?c5 ?c6, L3.hasM_mk ?a1 ?i1 ?l1 ?d1 ?k1 ?b1, L3.hasM_mk ?a2 ?i2 ?l2 ?d2 ?k2 ?b2, L3.hasM_mk ?a3 ?i3 ?l3 ?d3 ?k3 ?b3, Q.init_mk ?m1 ?a4 ?i4 ?kc ?l4 ?d4 ?k4⟩
      (case aC => k_is); (case pg => k_is); (case hd => k_is); (case po => k_is); (case sa => k_is); (case n1 => k_is); (case n2 => k_is); (case n3 => k_is)
      (case z1 => k_is); (case z2 => k_is); (case z3 => k_is); (case z4 => k_is); (case z5 => k_is); (case z6 => k_is); (case z7 => k_is); (case z8 => k_is); (case z9 => k_is); (case z10 => k_is)
      (case c1 => k_is); (case c2 => k_is); (case c3 => k_is); (case c4 => k_is); (case c5 => k_is); (case c6 => k_is)
      (case a1 => k_is); (case i1 => k_is); (case l1 => k_is); (case d1 => k_is); (case k1 => k_is)
      (case a2 => k_is); (case i2 => k_is); (case l2 => k_is); (case d2 => k_is); (case k2 => k_is)
      (case a3 => k_is); (case i3 => k_is); (case l3 => k_is); (case d3 => k_is); (case k3 => k_is)
      (case m1 => k_is); (case a4 => k_is); (case i4 => k_is); (case kc => k_is); (case l4 => k_is); (case d4 => k_is); (case k4 => k_is)
      (case b1 => exact fun _ _ _ _ _ _ us hl => match us, hl with | [_], _ => rfl); (case b2 => exact fun _ _ _ _ _ _ us hl => match us, hl with | [_], _ => rfl); (case b3 => exact fun _ _ _ _ _ _ us hl => match us, hl with | [_], _ => rfl)
    obtain ⟨C, T, M1, M2, M3, fI, fdI, MK, FI, BI⟩ := T
    have Y : ∃ CR, Q.Ty (L2.KOf KX) mg CR ∧ L3.HasM (L2.KOf KX) CR "worth_from" "Race.worth_from" Q.st_Race_worth_from ["self", "pair", "ends"] ∧ L3.HasM (L2.KOf KX) CR "lacks" "Race.lacks" Q.st_Race_lacks ["self", "pair"] ∧ L3.HasM (L2.KOf KX) CR "level" "Race.level" Q.st_Race_level ["self", "tops"] ∧ L3.HasM (L2.KOf KX) CR "top_from" "Race.top_from" Q.st_Race_top_from ["self", "lacks", "level_top", "scales", "tops"] ∧
        ∃ fI fdI, L2.Mk (L2.KOf KX) CR fI ∧ L2.Fun (L2.KOf KX) "__init__" "Race.__init__" Q.st_Race___init__ fI fdI ∧ L2.Binds (L2.KOf KX) fdI ["self", "goal", "lead", "part", "cost"] [] := by
      dsimp only [L2.KOf]
      refine' ⟨_, Q.ty_mk KX G ?aC ?pg ?hd ?po ?sa ?n1 ?n2 ?n3 ?n4 ?c1 ?c2 ?c3 ?c4 ?c5, L3.hasM_mk ?a1 ?i1 ?l1 ?d1 ?k1 ?b1, L3.hasM_mk ?a2 ?i2 ?l2 ?d2 ?k2 ?b2, L3.hasM_mk ?a3 ?i3 ?l3 ?d3 ?k3 ?b3, L3.hasM_mk ?a4 ?i4 ?l4 ?d4 ?k4 ?b4, Q.initR_mk ?m1 ?a5 ?i5 ?kc ?l5 ?d5 ?k5⟩
      (case aC => k_is); (case pg => k_is); (case hd => k_is); (case po => k_is); (case sa => k_is); (case n1 => k_is); (case n2 => k_is); (case n3 => k_is); (case n4 => k_is); (case c1 => k_is); (case c2 => k_is); (case c3 => k_is); (case c4 => k_is); (case c5 => k_is)
      (case a1 => k_is); (case i1 => k_is); (case l1 => k_is); (case d1 => k_is); (case k1 => k_is)
      (case a2 => k_is); (case i2 => k_is); (case l2 => k_is); (case d2 => k_is); (case k2 => k_is)
      (case a3 => k_is); (case i3 => k_is); (case l3 => k_is); (case d3 => k_is); (case k3 => k_is)
      (case a4 => k_is); (case i4 => k_is); (case l4 => k_is); (case d4 => k_is); (case k4 => k_is)
      (case m1 => k_is); (case a5 => k_is); (case i5 => k_is); (case kc => k_is); (case l5 => k_is); (case d5 => k_is); (case k5 => k_is)
      (case b1 => exact fun _ _ _ _ _ _ us hl => match us, hl with | [_, _, _], _ => rfl)
      (case b2 => exact fun _ _ _ _ _ _ us hl => match us, hl with | [_, _], _ => rfl)
      (case b3 => exact fun _ _ _ _ _ _ us hl => match us, hl with | [_, _], _ => rfl)
      (case b4 => exact fun _ _ _ _ _ _ us hl => match us, hl with | [_, _, _, _, _], _ => rfl)
    obtain ⟨CR, Y, MW, ML, MV, MT, fR, fdR, MKR, FR, BR⟩ := Y
    have Z : ∃ CE c0 c1 c2 c3 c4 c5, Q.Errs (L2.KOf KX) mg CE c0 c1 c2 c3 c4 c5 := by
      dsimp only [L2.KOf]
      refine' ⟨_, _, _, _, _, _, _, Q.errs_mk KX G ?a0 ?a1 ?a2 ?a3 ?a4 ?a5 ?aE ?aV (Q.errat_mk ?ec0 (Q.caught_mk ?p00 ?p01 ?p02 ?p03) (Q.excget_mk ?g00 ?g01 ?g02 ?g03 ?g04 ?g05 ?g06 ?g07) ?k00 ?k01 ?k02 ?k03 ?k04 ?k05 ?k0E ?k0V) (Q.errat_mk ?ec1 (Q.caught_mk ?p10 ?p11 ?p12 ?p13) (Q.excget_mk ?g10 ?g11 ?g12 ?g13 ?g14 ?g15 ?g16 ?g17) ?k10 ?k11 ?k12 ?k13 ?k14 ?k15 ?k1E ?k1V) (Q.errat_mk ?ec2 (Q.caught_mk ?p20 ?p21 ?p22 ?p23) (Q.excget_mk ?g20 ?g21 ?g22 ?g23 ?g24 ?g25 ?g26 ?g27) ?k20 ?k21 ?k22 ?k23 ?k24 ?k25 ?k2E ?k2V) (Q.errat_mk ?ec3 (Q.caught_mk ?p30 ?p31 ?p32 ?p33) (Q.excget_mk ?g30 ?g31 ?g32 ?g33 ?g34 ?g35 ?g36 ?g37) ?k30 ?k31 ?k32 ?k33 ?k34 ?k35 ?k3E ?k3V)⟩
      (case a0 => k_is); (case a1 => k_is); (case a2 => k_is); (case a3 => k_is); (case a4 => k_is); (case a5 => k_is); (case aE => k_is); (case aV => k_is)
      (case ec0 => first | exact Q.errcls_of (by k_exc) PySem.F.excBase_ValueError PySem.F.excBase_ValueError rfl | exact Q.errcls_of (by k_exc) PySem.F.excBase_Exception PySem.F.excBase_ValueError rfl)
      (case p00 => k_is); (case p01 => k_is); (case p02 => k_is); (case p03 => k_is)
      (case g00 => k_is); (case g01 => k_is); (case g02 => k_is); (case g03 => k_is); (case g04 => k_is); (case g05 => k_is); (case g06 => k_is); (case g07 => k_is)
      (case k00 => kit_is); (case k01 => kit_is); (case k02 => kit_is); (case k03 => kit_is); (case k04 => kit_is); (case k05 => kit_is); (case k0E => kit_is); (case k0V => kit_is)
      (case ec1 => first | exact Q.errcls_of (by k_exc) PySem.F.excBase_ValueError PySem.F.excBase_ValueError rfl | exact Q.errcls_of (by k_exc) PySem.F.excBase_Exception PySem.F.excBase_ValueError rfl)
      (case p10 => k_is); (case p11 => k_is); (case p12 => k_is); (case p13 => k_is)
      (case g10 => k_is); (case g11 => k_is); (case g12 => k_is); (case g13 => k_is); (case g14 => k_is); (case g15 => k_is); (case g16 => k_is); (case g17 => k_is)
      (case k10 => kit_is); (case k11 => kit_is); (case k12 => kit_is); (case k13 => kit_is); (case k14 => kit_is); (case k15 => kit_is); (case k1E => kit_is); (case k1V => kit_is)
      (case ec2 => first | exact Q.errcls_of (by k_exc) PySem.F.excBase_ValueError PySem.F.excBase_ValueError rfl | exact Q.errcls_of (by k_exc) PySem.F.excBase_Exception PySem.F.excBase_ValueError rfl)
      (case p20 => k_is); (case p21 => k_is); (case p22 => k_is); (case p23 => k_is)
      (case g20 => k_is); (case g21 => k_is); (case g22 => k_is); (case g23 => k_is); (case g24 => k_is); (case g25 => k_is); (case g26 => k_is); (case g27 => k_is)
      (case k20 => kit_is); (case k21 => kit_is); (case k22 => kit_is); (case k23 => kit_is); (case k24 => kit_is); (case k25 => kit_is); (case k2E => kit_is); (case k2V => kit_is)
      (case ec3 => first | exact Q.errcls_of (by k_exc) PySem.F.excBase_ValueError PySem.F.excBase_ValueError rfl | exact Q.errcls_of (by k_exc) PySem.F.excBase_Exception PySem.F.excBase_ValueError rfl)
      (case p30 => k_is); (case p31 => k_is); (case p32 => k_is); (case p33 => k_is)
      (case g30 => k_is); (case g31 => k_is); (case g32 => k_is); (case g33 => k_is); (case g34 => k_is); (case g35 => k_is); (case g36 => k_is); (case g37 => k_is)
      (case k30 => kit_is); (case k31 => kit_is); (case k32 => kit_is); (case k33 => kit_is); (case k34 => kit_is); (case k35 => kit_is); (case k3E => kit_is); (case k3V => kit_is)
    obtain ⟨CE, c0, c1, c2, c3, c4, c5, Z⟩ := Z
    have V : Q.Tv mg := by
      refine' Q.tv_mk KX G ?v1 ?v2
      (case v1 => k_is); (case v2 => k_is)
    have h_winner : L3.Has (L2.KOf KX) mg "winner" Q.st_winner ["rules", "standing"] := by
      dsimp only [L2.KOf]
      refine' L3.has_mk KX G ?a ?l ?c ?k ?b
      (case a => k_is); (case l => k_is); (case c => k_is); (case k => k_is); (case b => exact fun _ _ _ _ _ _ us hl => match us, hl with | [_, _], _ => rfl)
    have h_after : L3.Has (L2.KOf KX) mg "after" Q.st_after ["rules", "standing", "who"] := by
      dsimp only [L2.KOf]
      refine' L3.has_mk KX G ?a ?l ?c ?k ?b
      (case a => k_is); (case l => k_is); (case c => k_is); (case k => k_is); (case b => exact fun _ _ _ _ _ _ us hl => match us, hl with | [_, _, _], _ => rfl)
    have h_one_more : L3.Has (L2.KOf KX) mg "one_more" Q.st_one_more ["pair", "who"] := by
      dsimp only [L2.KOf]
      refine' L3.has_mk KX G ?a ?l ?c ?k ?b
      (case a => k_is); (case l => k_is); (case c => k_is); (case k => k_is); (case b => exact fun _ _ _ _ _ _ us hl => match us, hl with | [_, _], _ => rfl)
    have h_is_won : L3.Has (L2.KOf KX) mg "is_won" Q.st_is_won ["pair", "goal", "lead"] := by
      dsimp only [L2.KOf]
      refine' L3.has_mk KX G ?a ?l ?c ?k ?b
      (case a => k_is); (case l => k_is); (case c => k_is); (case k => k_is); (case b => exact fun _ _ _ _ _ _ us hl => match us, hl with | [_, _, _], _ => rfl)
    have h_goes_on : L3.Has (L2.KOf KX) mg "goes_on" Q.st_goes_on ["pair", "goal"] := by
      dsimp only [L2.KOf]
      refine' L3.has_mk KX G ?a ?l ?c ?k ?b
      (case a => k_is); (case l => k_is); (case c => k_is); (case k => k_is); (case b => exact fun _ _ _ _ _ _ us hl => match us, hl with | [_, _], _ => rfl)
    have h_is_reached : L3.Has (L2.KOf KX) mg "is_reached" Q.st_is_reached ["rules", "standing"] := by
      dsimp only [L2.KOf]
      refine' L3.has_mk KX G ?a ?l ?c ?k ?b
      (case a => k_is); (case l => k_is); (case c => k_is); (case k => k_is); (case b => exact fun _ _ _ _ _ _ us hl => match us, hl with | [_, _], _ => rfl)
    have h_refuse_unreached : L3.Has (L2.KOf KX) mg "refuse_unreached" Q.st_refuse_unreached ["rules", "standing"] := by
      dsimp only [L2.KOf]
      refine' L3.has_mk KX G ?a ?l ?c ?k ?b
      (case a => k_is); (case l => k_is); (case c => k_is); (case k => k_is); (case b => exact fun _ _ _ _ _ _ us hl => match us, hl with | [_, _], _ => rfl)
    have h_refuse_beyond : L3.Has (L2.KOf KX) mg "refuse_beyond" Q.st_refuse_beyond ["what", "number", "most"] := by
      dsimp only [L2.KOf]
      refine' L3.has_mk KX G ?a ?l ?c ?k ?b
      (case a => k_is); (case l => k_is); (case c => k_is); (case k => k_is); (case b => exact fun _ _ _ _ _ _ us hl => match us, hl with | [_, _, _], _ => rfl)
    have h_common_divisor : L3.Has (L2.KOf KX) mg "common_divisor" Q.st_common_divisor ["one", "other"] := by
      dsimp only [L2.KOf]
      refine' L3.has_mk KX G ?a ?l ?c ?k ?b
      (case a => k_is); (case l => k_is); (case c => k_is); (case k => k_is); (case b => exact fun _ _ _ _ _ _ us hl => match us, hl with | [_, _], _ => rfl)
    have h_common_multiple : L3.Has (L2.KOf KX) mg "common_multiple" Q.st_common_multiple ["one", "other"] := by
      dsimp only [L2.KOf]
      refine' L3.has_mk KX G ?a ?l ?c ?k ?b
      (case a => k_is); (case l => k_is); (case c => k_is); (case k => k_is); (case b => exact fun _ _ _ _ _ _ us hl => match us, hl with | [_, _], _ => rfl)
    have h_fraction : L3.Has (L2.KOf KX) mg "fraction" Q.st_fraction ["top", "bottom"] := by
      dsimp only [L2.KOf]
      refine' L3.has_mk KX G ?a ?l ?c ?k ?b
      (case a => k_is); (case l => k_is); (case c => k_is); (case k => k_is); (case b => exact fun _ _ _ _ _ _ us hl => match us, hl with | [_, _], _ => rfl)
    have h_refuse_bad_part : L3.Has (L2.KOf KX) mg "refuse_bad_part" Q.st_refuse_bad_part ["part"] := by
      dsimp only [L2.KOf]
      refine' L3.has_mk KX G ?a ?l ?c ?k ?b
      (case a => k_is); (case l => k_is); (case c => k_is); (case k => k_is); (case b => exact fun _ _ _ _ _ _ us hl => match us, hl with | [_], _ => rfl)
    have h_chance : L3.Has (L2.KOf KX) mg "chance" Q.st_chance ["rules", "standing", "part"] := by
      dsimp only [L2.KOf]
      refine' L3.has_mk KX G ?a ?l ?c ?k ?b
      (case a => k_is); (case l => k_is); (case c => k_is); (case k => k_is); (case b => exact fun _ _ _ _ _ _ us hl => match us, hl with | [_, _, _], _ => rfl)
    have h_points_to_come : L3.Has (L2.KOf KX) mg "points_to_come" Q.st_points_to_come ["rules", "standing", "part"] := by
      dsimp only [L2.KOf]
      refine' L3.has_mk KX G ?a ?l ?c ?k ?b
      (case a => k_is); (case l => k_is); (case c => k_is); (case k => k_is); (case b => exact fun _ _ _ _ _ _ us hl => match us, hl with | [_, _, _], _ => rfl)
    have h_worth : L3.Has (L2.KOf KX) mg "worth" Q.st_worth ["rules", "standing", "part", "cost", "ends"] := by
      dsimp only [L2.KOf]
      refine' L3.has_mk KX G ?a ?l ?c ?k ?b
      (case a => k_is); (case l => k_is); (case c => k_is); (case k => k_is); (case b => exact fun _ _ _ _ _ _ us hl => match us, hl with | [_, _, _, _, _], _ => rfl)
    have h_race_above : L3.Has (L2.KOf KX) mg "race_above" Q.st_race_above ["below", "goal", "lead"] := by
      dsimp only [L2.KOf]
      refine' L3.has_mk KX G ?a ?l ?c ?k ?b
      (case a => k_is); (case l => k_is); (case c => k_is); (case k => k_is); (case b => exact fun _ _ _ _ _ _ us hl => match us, hl with | [_, _, _], _ => rfl)
    have h_ends_behind_step : L3.Has (L2.KOf KX) mg "ends_behind_step" Q.st_ends_behind_step ["race", "pair", "ends"] := by
      dsimp only [L2.KOf]
      refine' L3.has_mk KX G ?a ?l ?c ?k ?b
      (case a => k_is); (case l => k_is); (case c => k_is); (case k => k_is); (case b => exact fun _ _ _ _ _ _ us hl => match us, hl with | [_, _, _], _ => rfl)
    have h_lowest : L3.Has (L2.KOf KX) mg "lowest" Q.st_lowest ["one"] := by
      dsimp only [L2.KOf]
      refine' L3.has_mk KX G ?a ?l ?c ?k ?b
      (case a => k_is); (case l => k_is); (case c => k_is); (case k => k_is); (case b => exact fun _ _ _ _ _ _ us hl => match us, hl with | [_], _ => rfl)
    have h_top_over : L3.Has (L2.KOf KX) mg "top_over" Q.st_top_over ["one", "bottom"] := by
      dsimp only [L2.KOf]
      refine' L3.has_mk KX G ?a ?l ?c ?k ?b
      (case a => k_is); (case l => k_is); (case c => k_is); (case k => k_is); (case b => exact fun _ _ _ _ _ _ us hl => match us, hl with | [_, _], _ => rfl)
    have h_shown : L3.Has (L2.KOf KX) mg "shown" Q.st_shown ["rules", "standing"] := by
      dsimp only [L2.KOf]
      refine' L3.has_mk KX G ?a ?l ?c ?k ?b
      (case a => k_is); (case l => k_is); (case c => k_is); (case k => k_is); (case b => exact fun _ _ _ _ _ _ us hl => match us, hl with | [_, _], _ => rfl)
    have h_pair_shown : L3.Has (L2.KOf KX) mg "pair_shown" Q.st_pair_shown ["pair"] := by
      dsimp only [L2.KOf]
      refine' L3.has_mk KX G ?a ?l ?c ?k ?b
      (case a => k_is); (case l => k_is); (case c => k_is); (case k => k_is); (case b => exact fun _ _ _ _ _ _ us hl => match us, hl with | [_], _ => rfl)
    have h_number_shown : L3.Has (L2.KOf KX) mg "number_shown" Q.st_number_shown ["number"] := by
      dsimp only [L2.KOf]
      refine' L3.has_mk KX G ?a ?l ?c ?k ?b
      (case a => k_is); (case l => k_is); (case c => k_is); (case k => k_is); (case b => exact fun _ _ _ _ _ _ us hl => match us, hl with | [_], _ => rfl)
    have h__law_cell_at : L3.Has (L2.KOf KX) mg "_law_cell_at" Q.st__law_cell_at ["script", "k"] := by
      dsimp only [L2.KOf]
      refine' L3.has_mk KX G ?a ?l ?c ?k ?b
      (case a => k_is); (case l => k_is); (case c => k_is); (case k => k_is); (case b => exact fun _ _ _ _ _ _ us hl => match us, hl with | [_, _], _ => rfl)
    have h__law_draw : L3.Has (L2.KOf KX) mg "_law_draw" Q.st__law_draw ["script", "k"] := by
      dsimp only [L2.KOf]
      refine' L3.has_mk KX G ?a ?l ?c ?k ?b
      (case a => k_is); (case l => k_is); (case c => k_is); (case k => k_is); (case b => exact fun _ _ _ _ _ _ us hl => match us, hl with | [_, _], _ => rfl)
    have h__law_rules : L3.Has (L2.KOf KX) mg "_law_rules" Q.st__law_rules ["script"] := by
      dsimp only [L2.KOf]
      refine' L3.has_mk KX G ?a ?l ?c ?k ?b
      (case a => k_is); (case l => k_is); (case c => k_is); (case k => k_is); (case b => exact fun _ _ _ _ _ _ us hl => match us, hl with | [_], _ => rfl)
    have h__law_made : L3.Has (L2.KOf KX) mg "_law_made" Q.st__law_made ["wanted"] := by
      dsimp only [L2.KOf]
      refine' L3.has_mk KX G ?a ?l ?c ?k ?b
      (case a => k_is); (case l => k_is); (case c => k_is); (case k => k_is); (case b => exact fun _ _ _ _ _ _ us hl => match us, hl with | [_], _ => rfl)
    have h__law_ahead : L3.Has (L2.KOf KX) mg "_law_ahead" Q.st__law_ahead ["pair", "wanted"] := by
      dsimp only [L2.KOf]
      refine' L3.has_mk KX G ?a ?l ?c ?k ?b
      (case a => k_is); (case l => k_is); (case c => k_is); (case k => k_is); (case b => exact fun _ _ _ _ _ _ us hl => match us, hl with | [_, _], _ => rfl)
    have h__law_more : L3.Has (L2.KOf KX) mg "_law_more" Q.st__law_more ["pair", "who"] := by
      dsimp only [L2.KOf]
      refine' L3.has_mk KX G ?a ?l ?c ?k ?b
      (case a => k_is); (case l => k_is); (case c => k_is); (case k => k_is); (case b => exact fun _ _ _ _ _ _ us hl => match us, hl with | [_, _], _ => rfl)
    have h__law_over : L3.Has (L2.KOf KX) mg "_law_over" Q.st__law_over ["wanted", "standing"] := by
      dsimp only [L2.KOf]
      refine' L3.has_mk KX G ?a ?l ?c ?k ?b
      (case a => k_is); (case l => k_is); (case c => k_is); (case k => k_is); (case b => exact fun _ _ _ _ _ _ us hl => match us, hl with | [_, _], _ => rfl)
    have h__law_after : L3.Has (L2.KOf KX) mg "_law_after" Q.st__law_after ["wanted", "standing", "who"] := by
      dsimp only [L2.KOf]
      refine' L3.has_mk KX G ?a ?l ?c ?k ?b
      (case a => k_is); (case l => k_is); (case c => k_is); (case k => k_is); (case b => exact fun _ _ _ _ _ _ us hl => match us, hl with | [_, _, _], _ => rfl)
    have h__law_walked : L3.Has (L2.KOf KX) mg "_law_walked" Q.st__law_walked ["script", "wanted", "start", "many"] := by
      dsimp only [L2.KOf]
      refine' L3.has_mk KX G ?a ?l ?c ?k ?b
      (case a => k_is); (case l => k_is); (case c => k_is); (case k => k_is); (case b => exact fun _ _ _ _ _ _ us hl => match us, hl with | [_, _, _, _], _ => rfl)
    have h__law_alone : L3.Has (L2.KOf KX) mg "_law_alone" Q.st__law_alone ["e"] := by
      dsimp only [L2.KOf]
      refine' L3.has_mk KX G ?a ?l ?c ?k ?b
      (case a => k_is); (case l => k_is); (case c => k_is); (case k => k_is); (case b => exact fun _ _ _ _ _ _ us hl => match us, hl with | [_], _ => rfl)
    have h__law_goes_on : L3.Has (L2.KOf KX) mg "_law_goes_on" Q.st__law_goes_on ["pair", "wanted"] := by
      dsimp only [L2.KOf]
      refine' L3.has_mk KX G ?a ?l ?c ?k ?b
      (case a => k_is); (case l => k_is); (case c => k_is); (case k => k_is); (case b => exact fun _ _ _ _ _ _ us hl => match us, hl with | [_, _], _ => rfl)
    have h__law_is_standing : L3.Has (L2.KOf KX) mg "_law_is_standing" Q.st__law_is_standing ["wanted", "standing"] := by
      dsimp only [L2.KOf]
      refine' L3.has_mk KX G ?a ?l ?c ?k ?b
      (case a => k_is); (case l => k_is); (case c => k_is); (case k => k_is); (case b => exact fun _ _ _ _ _ _ us hl => match us, hl with | [_, _], _ => rfl)
    have h__law_refusal : L3.Has (L2.KOf KX) mg "_law_refusal" Q.st__law_refusal ["call", "wanted", "rules", "standing", "who", "part"] := by
      dsimp only [L2.KOf]
      refine' L3.has_mk KX G ?a ?l ?c ?k ?b
      (case a => k_is); (case l => k_is); (case c => k_is); (case k => k_is); (case b => exact fun _ _ _ _ _ _ us hl => match us, hl with | [_, _, _, _, _, _], _ => rfl)
    have h__law_drawn : L3.Has (L2.KOf KX) mg "_law_drawn" Q.st__law_drawn ["script", "wanted"] := by
      dsimp only [L2.KOf]
      refine' L3.has_mk KX G ?a ?l ?c ?k ?b
      (case a => k_is); (case l => k_is); (case c => k_is); (case k => k_is); (case b => exact fun _ _ _ _ _ _ us hl => match us, hl with | [_, _], _ => rfl)
    have main : ∀ base : PySem.Heap, ∀ (f : PySem.Addr) (fd : PySem.FuncData), L2.Fun (L2.KOf KX) "law" "law" Q.st_law f fd → L2.FnOk PySem.Challenge.rw_courtscore_k02_rules_and_standings_refus.prog w (L2.KOf KX) mg base L2.CX0 9 f fd ["script"] (L3.spD (L2.KOf KX) Q.R_law) := by
      intro base f fd F
      have d1 := Q.ok_points (P := PySem.Challenge.rw_courtscore_k02_rules_and_standings_refus.prog) (w := w) (base := base) T M1
      have d2 := Q.ok_games (P := PySem.Challenge.rw_courtscore_k02_rules_and_standings_refus.prog) (w := w) (base := base) T M2
      have d3 := Q.ok_sets (P := PySem.Challenge.rw_courtscore_k02_rules_and_standings_refus.prog) (w := w) (base := base) T M3
      have dOne := Q.ok_one_more (P := PySem.Challenge.rw_courtscore_k02_rules_and_standings_refus.prog) (w := w) (base := base) h_one_more
      have dWon := Q.ok_is_won (P := PySem.Challenge.rw_courtscore_k02_rules_and_standings_refus.prog) (w := w) (base := base) T h_is_won
      have dOn := Q.ok_goes_on T dWon h_goes_on
      have dBey := Q.ok_refuse_beyond (P := PySem.Challenge.rw_courtscore_k02_rules_and_standings_refus.prog) (w := w) (base := base) h_refuse_beyond
      have dInit := Q.ok_Rules T dBey MK FI BI
      have dRea := Q.ok_is_reached T d1 d2 d3 dOn h_is_reached
      have dRef := Q.ok_refuse_unreached dRea h_refuse_unreached
      have dWin := Q.ok_winner T d3 dRef h_winner
      have dAft := Q.ok_after T d1 d2 dWin dOne dWon h_after
      have lCell := Q.ok_cell (P := PySem.Challenge.rw_courtscore_k02_rules_and_standings_refus.prog) (w := w) (base := base) T h__law_cell_at
      have lDraw := Q.ok_draw T lCell h__law_draw
      have lRules := Q.ok_rules lDraw h__law_rules
      have lMade := Q.ok_made dInit h__law_made
      have lAhead := Q.ok_ahead (P := PySem.Challenge.rw_courtscore_k02_rules_and_standings_refus.prog) (w := w) (base := base) T h__law_ahead
      have lMore := Q.ok_more (P := PySem.Challenge.rw_courtscore_k02_rules_and_standings_refus.prog) (w := w) (base := base) T h__law_more
      have lOver := Q.ok_over (P := PySem.Challenge.rw_courtscore_k02_rules_and_standings_refus.prog) (w := w) (base := base) T h__law_over
      have lAft := Q.ok_aft lMore lAhead h__law_after
      have lWalked := Q.ok_walked T lDraw lOver lAft h__law_walked
      have dGcd := Q.ok_gcd (P := PySem.Challenge.rw_courtscore_k02_rules_and_standings_refus.prog) (w := w) (base := base) T h_common_divisor
      have dCm := Q.ok_cm dGcd h_common_multiple
      have dFr := Q.ok_fraction dGcd h_fraction
      have dBad := Q.ok_badpart (P := PySem.Challenge.rw_courtscore_k02_rules_and_standings_refus.prog) (w := w) (base := base) h_refuse_bad_part
      have dLow := Q.ok_lowest dFr h_lowest
      have dTo := Q.ok_top_over (P := PySem.Challenge.rw_courtscore_k02_rules_and_standings_refus.prog) (w := w) (base := base) h_top_over
      have dRace := Q.ok_Race (P := PySem.Challenge.rw_courtscore_k02_rules_and_standings_refus.prog) (w := w) (base := base) Y MKR FR BR
      have dLa := Q.ok_lacks (P := PySem.Challenge.rw_courtscore_k02_rules_and_standings_refus.prog) (w := w) (base := base) T Y ML
      have dLe := Q.ok_level (P := PySem.Challenge.rw_courtscore_k02_rules_and_standings_refus.prog) (w := w) (base := base) Y MV
      have dTf := Q.ok_top_from (P := PySem.Challenge.rw_courtscore_k02_rules_and_standings_refus.prog) (w := w) (base := base) T Y MT
      have dWf := Q.ok_wf T Y dWon dCm dTo dLa dLe dTf MW
      have dAb := Q.ok_above T Y dRace dWf dLow h_race_above
      have dBe := Q.ok_behind Y dWf dOne h_ends_behind_step
      have dWorth := Q.ok_worth T Y d1 d2 d3 dWin dBad dRace dWf dLow dAb dBe h_worth
      have dCh := Q.ok_chance Y dWorth h_chance
      have dPt := Q.ok_points_to Y dWorth h_points_to_come
      have xBey := Q.ex_beyond (P := PySem.Challenge.rw_courtscore_k02_rules_and_standings_refus.prog) (w := w) (base := base) Z.e0.ec Z.m.m0 h_refuse_beyond
      have xInit := Q.ex_Rules T dBey xBey MK FI BI
      have xMade := Q.ex_made xInit h__law_made
      have xUnr := Q.ex_refuse_unreached Z.e1.ec Z.m.m1 dRea h_refuse_unreached
      have xWin := Q.ex_winner xUnr h_winner
      have xA1 := Q.ex_after1 xWin h_after
      have xA2 := Q.ex_after2 Z.e2.ec Z.m.m2 dWin h_after
      have xBad := Q.ex_badpart (P := PySem.Challenge.rw_courtscore_k02_rules_and_standings_refus.prog) (w := w) (base := base) Z.e3.ec Z.m.m3 h_refuse_bad_part
      have xW1 := Q.ex_worth1 xWin h_worth
      have xW3 := Q.ex_worth3 dWin xBad h_worth
      have xC1 := Q.ex_ch1 Y xW1 h_chance
      have xC3 := Q.ex_ch3 Y xW3 h_chance
      have xP1 := Q.ex_pt1 Y xW1 h_points_to_come
      have xP3 := Q.ex_pt3 Y xW3 h_points_to_come
      have xSh := Q.ex_shown xUnr h_shown
      have dNum := Q.ok_number_shown (P := PySem.Challenge.rw_courtscore_k02_rules_and_standings_refus.prog) (w := w) (base := base) V h_number_shown
      have dPs := Q.ok_pair_shown dNum h_pair_shown
      have dSh := Q.ok_shown dRef dPs h_shown
      have lAl := Q.ok_alone (P := PySem.Challenge.rw_courtscore_k02_rules_and_standings_refus.prog) (w := w) (base := base) T Z h__law_alone
      have lGo := Q.ok_lgo (P := PySem.Challenge.rw_courtscore_k02_rules_and_standings_refus.prog) (w := w) (base := base) T h__law_goes_on
      have lIs := Q.ok_lis T lGo h__law_is_standing
      have lRef := Q.ok_ref T Z lMade dWin dAft dCh dPt dSh xMade xWin xA1 xA2 xC1 xC3 xP1 xP3 xSh lAl h__law_refusal
      have lDrn := Q.ok_ldrawn T lDraw lCell lWalked h__law_drawn
      exact Q.ok_law T lRules lMade lDraw lDrn lIs lRef F
    refine' Q.law_mk KX G hmg ?a ?l ?c ?k main
    (case a => k_is); (case l => k_is); (case c => k_is); (case k => k_is)
