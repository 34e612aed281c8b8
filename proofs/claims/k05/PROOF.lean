import PyProof.Rows.All
import Wide.All
import OpenK.AllK
import Wide.FinOn
import HandS.ForMost
import HandS.Wide
import HandS.SortKw
import HandS.List
import HandS.More
import HandS.Conv
import HandS.Lambda
import PyProof.TypeEq
import HandS.SetKeys
import PyProof.InstEq
import HandS.SetBool
import HandS.Strs
import HandS.IsInst
import HandS.Walk
import HandS.Style
import HandS.Set
import HandS.TupAny
import PyProof.NeKinds
import HandS.SortInts
import HandS.Dict
import HandS.TupLen
import KE.KDictPairs
import HandS.NamedTupSort
import HandS.Sort
import KE.DataMinKey
import PyProof.WalksMore
import PyProof.ListMulRoad
import PyProof.TupleOfStr
import PyProof.FactsAll.tuple_2
import HandS.Base
import HandS.Call
import HandS.TupMul
import HandS.Zip0
import HandS.Defaults
import HandS.Text
import HandS.OwnEq
import HandS.Codes
import HandS.Deep
import HandS.Exc
import HandS.TryOnly
import KE.KExcIs
import HandS.ExcIs
import HandS.ExcField
import HandS.ExcInit
import PyProof.ReprRoads
import HandS.FStrTup
import HandS.Words
import HandS.Comp
import HandS.RaiseMore
import HandS.FStr
import HandS.WordsExc
import HandS.MakeKwOnly
import HandS.TupLe
import HandS.EndTab
import HandS.Head0
import HandS.Head1
import HandS.Head2
import HandS.HeadEnd
import HandS.HeadHook1
import HandS.HeadHook2
import HandS.HeadHook3
import HandS.HeadHook4
import PySem.Challenge.RW_turnless_k05_answers_of_few_truths
set_option Elab.async false
set_option linter.all false
set_option maxRecDepth 100000
set_option maxHeartbeats 0
-- part: A0
namespace Toy
open PySem L2
/-! ### readings, evaluated -/
section
variable {D : Ends} {σ : St} {H : Hp} {Q : VK}
theorem e_seq {t u : TS} : tSeq t u D σ H = t { D with nx := u D } σ H := rfl
theorem e_asg {te : TE} {i : Nat} : tAsg te (gName i) D σ H = te σ H fun x H1 => D.nx (σ.set i (some x)) H1 := rfl
theorem e_asgS {te to ti : TE} {t : TSet} : tAsg te (gSub to ti t) D σ H = te σ H fun v H1 => to σ H1 fun o H2 => ti σ H2 fun i H3 => t o i v H3 fun H4 => D.nx σ H4 := rfl
theorem e_ret {te : TE} : tRet te D σ H = te σ H D.rt := rfl
theorem e_ifS {c : TT} {t u : TS} : tIfS c t u D σ H = c σ H fun b H1 => if b = true then t D σ H1 else u D σ H1 := rfl
theorem e_c {v : V} : tC v σ H Q = Q v H := rfl
theorem e_op {r : R2} {ta tb : TE} : tOp r ta tb σ H Q = ta σ H fun x H1 => tb σ H1 fun y H2 => r x y H2 Q := rfl
theorem e_test {te : TE} {q : Bool → Hp → Prop} : tTest te σ H q = te σ H fun x H1 => ∃ c, x = .bl c ∧ q c H1 := rfl
theorem e_rI0 {g : Int → Int → V} {i j : Int} : rI0 g (.int i) (.int j) H Q = Q (g i j) H := by
  refine propext ⟨?_, fun h => ⟨_, _, rfl, rfl, h⟩⟩
  rintro ⟨a, b, e1, e2, h⟩; cases e1; cases e2; exact h
theorem e_rI {C : Int → Int → Prop} {g : Int → Int → V} {i j : Int} : rI C g (.int i) (.int j) H Q = (C i j ∧ Q (g i j) H) := by
  refine propext ⟨?_, fun h => ⟨_, _, rfl, rfl, h⟩⟩
  rintro ⟨a, b, e1, e2, h⟩; cases e1; cases e2; exact h
theorem e_var0 {v : V} {s : List (Option V)} : tVar 0 (some v :: s) H Q = Q v H := by
  refine propext ⟨?_, fun h => ⟨_, rfl, h⟩⟩
  rintro ⟨a, e, h⟩; cases e; exact h
theorem e_varS {o : Option V} {n : Nat} {s : List (Option V)} : tVar (n + 1) (o :: s) H Q = tVar n s H Q := rfl
theorem e_bl {b : Bool} {q : Bool → Prop} : (∃ c, V.bl b = V.bl c ∧ q c) = q b := by
  refine propext ⟨?_, fun h => ⟨_, rfl, h⟩⟩
  rintro ⟨a, e, h⟩; cases e; exact h
theorem e_nil {q : List V → Hp → Prop} : tNil σ H q = q [] H := rfl
theorem e_cons {ta : TE} {t : TA} {q : List V → Hp → Prop} : tCons ta t σ H q = ta σ H fun x H1 => t σ H1 fun xs H2 => q (x :: xs) H2 := rfl
theorem e_call {sp : Sp} {dvs : List V} {E : XK} {t : TA} : tCall sp dvs E t σ H Q = t σ H fun vs H1 => sp (vs ++ dvs) H1 Q E := rfl
theorem e_cb {r : List V → Hp → VK → Prop} {t : TA} : tCB r t σ H Q = t σ H fun vs H1 => r vs H1 Q := rfl
theorem e_next : tNext D σ H = D.nx σ H := rfl
theorem e_bl2 {b : Bool} {q : Bool → Hp → Prop} : (∃ c, V.bl b = V.bl c ∧ q c H) = q b H := by
  refine propext ⟨?_, fun h => ⟨_, rfl, h⟩⟩
  rintro ⟨a, e, h⟩; cases e; exact h
end
section
variable {D : Ends} {σ : St} {H : Hp} {Q : VK}
theorem e_and {a b : TE} : tAndV a b σ H Q = a σ H fun x H1 => ∃ c, x = .bl c ∧ if c = true then b σ H1 Q else Q (.bl false) H1 := rfl
theorem e_chain {r r' : R2} {a b c : TE} : tChain r r' a b c σ H Q = a σ H fun x H1 => b σ H1 fun y H2 => r x y H2 fun z H3 => ∃ k, z = .bl k ∧ (if k = true then c σ H3 fun w' H4 => r' y w' H4 Q else Q (.bl false) H3) := rfl
theorem e_tif {t : TT} {a b : TE} : tIf t a b σ H Q = t σ H fun c H1 => if c = true then a σ H1 Q else b σ H1 Q := rfl
theorem e_not {t : TT} {q : Bool → Hp → Prop} : tNot t σ H q = t σ H fun c H1 => q (!c) H1 := rfl
theorem e_tb {t : TE} {q : Bool → Hp → Prop} : tB t σ H q = t σ H fun x H1 => ∃ c, x = .bl c ∧ q c H1 := rfl
theorem e_drop {te : TE} : tDrop te D σ H = te σ H fun _ H1 => D.nx σ H1 := rfl
theorem e_or {t u : TT} {q : Bool → Hp → Prop} : tOr t u σ H q = t σ H fun c H1 => if c = true then q true H1 else u σ H1 q := rfl
theorem e_andT {t u : TT} {q : Bool → Hp → Prop} : tAnd t u σ H q = t σ H fun c H1 => if c = true then u σ H1 q else q false H1 := rfl
theorem e_din {ty td : TE} : tDIn ty td σ H Q = ty σ H fun y H1 => td σ H1 fun x H2 => ∃ a o, x = .ref a ∧ DGet H2 a y o ∧ Q (.bl o.isSome) H2 := rfl
theorem e_dnotin {ty td : TE} : tDNotIn ty td σ H Q = ty σ H fun y H1 => td σ H1 fun x H2 => ∃ a o, x = .ref a ∧ DGet H2 a y o ∧ Q (.bl (!o.isSome)) H2 := rfl
theorem e_un {r : V → Hp → VK → Prop} {ta : TE} : tUn r ta σ H Q = ta σ H fun x H1 => r x H1 Q := rfl
theorem e_rU {g : Int → V} {i : Int} : rU g (.int i) H Q = Q (g i) H := by
  refine propext ⟨?_, fun h => ⟨_, rfl, h⟩⟩
  rintro ⟨a, e, h⟩; cases e; exact h
theorem e_dput {td ty tv : TE} : sDPut td ty tv D σ H = tv σ H fun v H1 => td σ H1 fun x H2 => ty σ H2 fun y H3 => ∃ a H4, x = .ref a ∧ DPut H3 a y v H4 ∧ D.nx σ H4 := rfl
theorem e_x1 {v : V} {q : V → Prop} : (∃ x, [v] = [x] ∧ q x) = q v := by
  refine propext ⟨?_, fun h => ⟨_, rfl, h⟩⟩
  rintro ⟨i, e, h⟩; cases e; exact h
theorem e_notV {a : TE} : tNotV a σ H Q = a σ H fun x H1 => ∃ c, x = .bl c ∧ Q (.bl (!c)) H1 := rfl
theorem e_orV {a b : TE} : tOrV a b σ H Q = a σ H fun x H1 => ∃ c, x = .bl c ∧ if c = true then Q (.bl true) H1 else b σ H1 Q := rfl
theorem e_fld {K : PySem.W.Frag} {ta tv : TE} {f : Str} : sFld K ta tv f D σ H = tv σ H fun y H1 => ta σ H1 fun x H2 => ∃ a C dx fs, x = .ref a ∧ H2 a = some (.ins C dx fs) ∧ Cls K C ∧ NoAttr K C f ∧ fs.length < 1000 ∧ D.nx σ (upd H2 a (.ins C dx (putF f y fs))) := rfl
theorem e_par {i j : Nat} {ta : TA} : tPar i j ta D σ H = ta σ H fun vs H1 => ∃ v w, vs = [v, w] ∧ D.nx ((σ.set i (some v)).set j (some w)) H1 := rfl
theorem e_vw {a b : V} {q : V → V → Prop} : (∃ v w, [a, b] = [v, w] ∧ q v w) = q a b := by
  refine propext ⟨?_, fun h => ⟨_, _, rfl, h⟩⟩
  rintro ⟨i, j, e, h⟩; cases e; exact h
theorem e_dnewK : tDNewK σ H Q = ∀ p, H p = none → Q (.ref p) (upd H p (.dK [])) := rfl
theorem e_gName {i : Nat} {v : V} {q : St → Hp → Prop} : gName i v σ H q = q (σ.set i (some v)) H := rfl
theorem e_bm {K : PySem.W.Frag} {T : String} {r : V → List V → Hp → VK → Prop} {to : TE} {t : TA} : tBM K T r to t σ H Q = to σ H fun x H1 => tyV K T x H1 ∧ t σ H1 fun xs H2 => r x xs H2 Q := rfl
theorem e_i1 {a : Int} {q : Int → Prop} : (∃ i, [V.int a] = [V.int i] ∧ q i) = q a := by
  refine propext ⟨?_, fun h => ⟨_, rfl, h⟩⟩
  rintro ⟨i, e, h⟩; cases e; exact h
end
theorem p_ix {K : PySem.W.Frag} {H : Hp} {Q : VK} {p : Addr} {xs : List V} {i : Int} {v : V} (h : SqL K H p xs) (e : atI xs i = some v) (q : Q v H) : rIxL K (.ref p) (.int i) H Q := ⟨p, xs, i, v, rfl, rfl, h, e, q⟩
theorem p_set {H : Hp} {Q : Hp → Prop} {p : Addr} {xs : List V} {i : Int} {j : Nat} {v : V} (h : H p = some (.lst xs)) (e : ixN xs.length i = some j) (q : Q (upd H p (.lst (xs.set j v)))) : rSetL (.ref p) (.int i) v H Q := ⟨p, xs, i, j, rfl, rfl, h, e, q⟩
theorem e_cxK {CX : CXT} {P : Program} {w : World} {K : PySem.W.Frag} {mg : Str → Option Value} {base : Heap} {N : List Str} {qual : Str} {sc : Scope} {f : Addr} {cdv : Value} {A : Around} {outer : List Env} {s : Shared} {H : Hp} {E : XK} : (cxOf CX P w K mg base N qual sc f cdv A outer s H E).K = K := rfl
theorem e_ii {a b : Int} {q : Int → Int → Prop} : (∃ i j, [V.int a, V.int b] = [V.int i, V.int j] ∧ q i j) = q a b := by
  refine propext ⟨?_, fun h => ⟨_, _, rfl, h⟩⟩
  rintro ⟨i, j, e, h⟩; cases e; exact h
theorem e_lst {t : TA} {σ : St} {H : Hp} {Q : VK} : tLst t σ H Q = t σ H fun xs H1 => xs.length ≤ sizeLine ∧ ∀ p, H1 p = none → Q (.ref p) (upd H1 p (.lst xs)) := rfl
theorem e_tup {t : TA} {σ : St} {H : Hp} {Q : VK} : tTup t σ H Q = t σ H fun xs H1 => xs.length ≤ sizeLine ∧ ∀ p, H1 p = none → Q (.ref p) (upd H1 p (.tup xs)) := rfl
theorem p_neD {K : PySem.W.Frag} {H : Hp} {Q : VK} {x y : V} {d e : PyData} (hd : Dp K H x d) (he : Dp K H y e) (sd : SeqAt.shaped d = true) (se : SeqAt.shaped e = true) (q : Q (.bl (!PyData.eqv d e)) H) : rNeD K x y H Q := ⟨d, e, hd, he, sd, se, q⟩
theorem p_eqD {K : PySem.W.Frag} {H : Hp} {Q : VK} {x y : V} {d e : PyData} (hd : Dp K H x d) (he : Dp K H y e) (sd : SeqAt.shaped d = true) (se : SeqAt.shaped e = true) (q : Q (.bl (PyData.eqv d e)) H) : rEqD K x y H Q := ⟨d, e, hd, he, sd, se, q⟩
theorem at_ints {ns : List Int} {i : Int} (h0 : 0 ≤ i) (h1 : i < ns.length) : ∃ z, atI (ns.map V.int) i = some (V.int z) := by
  obtain ⟨j, rfl⟩ := Int.eq_ofNat_of_zero_le h0
  have hj : j < ns.length := by omega
  refine ⟨ns[j], atI_nat ?_⟩
  rw [List.getElem?_map, List.getElem?_eq_getElem hj]
  rfl
theorem p_app {H : Hp} {Q : VK} {l : Addr} {xs : List V} {y : V} (h : H l = some (.lst xs)) (z : xs.length < sizeLine) (q : Q .non (upd H l (.lst (xs ++ [y])))) : rAppend (.ref l) [y] H Q := ⟨l, xs, y, rfl, rfl, h, z, q⟩
/-! ### what stands but for one object -/
def Ex (d : Addr) (H H' : Hp) : Prop := ∀ b o, H b = some o → b ≠ d → H' b = some o
theorem Ex.refl (d : Addr) (H : Hp) : Ex d H H := fun _ _ h _ => h
theorem Ex.trans {d : Addr} {H H1 H2 : Hp} (a : Ex d H H1) (b : Ex d H1 H2) : Ex d H H2 := fun c o h n => b c o (a c o h n) n
theorem Ex.new {d p : Addr} {H : Hp} {o : HO} (h : H p = none) : Ex d H (upd H p o) := fun b u e _ => by rw [upd_ne (ne_of_none e h)]; exact e
theorem Ex.at {d : Addr} {H : Hp} {o : HO} : Ex d H (upd H d o) := fun b u e n => by rw [upd_ne n]; exact e
theorem Ex.same {d : Addr} {H H' : Hp} (e : Same H H') : Ex d H H' := fun b o h _ => e b o h
theorem Ex.sql {d : Addr} {K : PySem.W.Frag} {H H' : Hp} {a : Addr} {xs : List V} (e : Ex d H H') (n : a ≠ d) (h : SqL K H a xs) : SqL K H' a xs := by
  rcases h with (h | ⟨o, h⟩) | h
  · exact .inl (.inl (e _ _ h n))
  · exact .inl (.inr ⟨o, e _ _ h n⟩)
  · exact .inr h
theorem Same.new {p : Addr} {H : Hp} {o : HO} (h : H p = none) : Same H (upd H p o) := fun b u e => by rw [upd_ne (ne_of_none e h)]; exact e
/-- the draws: a list of the script and a count -/
structure Dr (K : PySem.W.Frag) (H : Hp) (d sc : Addr) (ns : List Int) (n : Int) : Prop where
  dr : H d = some (.lst [.ref sc, .int n])
  sq : SqL K H sc (ns.map V.int)
  len : ns.length ≤ 63
  pos : 0 ≤ n
def DrOk (K : PySem.W.Frag) (H : Hp) (d : Addr) : Prop := ∃ sc ns n, Dr K H d sc ns n
theorem DrOk.same {K : PySem.W.Frag} {H H' : Hp} {d : Addr} (e : Same H H') : DrOk K H d → DrOk K H' d := fun ⟨sc, ns, n, h⟩ => ⟨sc, ns, n, e _ _ h.dr, Same.seq e h.sq, h.len, h.pos⟩
theorem DrOk.nd {K : PySem.W.Frag} {H : Hp} {d p : Addr} (h : DrOk K H d) (hp : H p = none) : p ≠ d := fun e => by
  obtain ⟨sc, ns, n, D⟩ := h
  rw [e, D.dr] at hp
  cases hp
theorem ne_ints {sc : Addr} {n : V} {ns : List Int} {r : List V} : ns.map V.int ≠ V.ref sc :: r := fun e => by
  cases ns with
  | nil => cases e
  | cons a l => cases e
theorem Dr.sqx {K : PySem.W.Frag} {H H' : Hp} {d sc : Addr} {ns : List Int} {n : Int} (D : Dr K H d sc ns n) (e : Ex d H H') : SqL K H' sc (ns.map V.int) := by
  have h := D.sq
  have hd := D.dr
  rcases h with (h | ⟨o, h⟩) | h
  · exact .inl (.inl (e _ _ h fun z => by
      rw [z, hd] at h
      exact ne_ints (n := .non) (HO.lst.inj (Option.some.inj h)).symm))
  · exact .inl (.inr ⟨o, e _ _ h fun z => by
      rw [z, hd] at h
      cases h⟩)
  · exact .inr h
def DrA (K : PySem.W.Frag) (sc : Addr) (ns : List Int) (H : Hp) (d : Addr) : Prop := ∃ n, Dr K H d sc ns n
theorem DrA.same {K : PySem.W.Frag} {sc : Addr} {ns : List Int} {H H' : Hp} {d : Addr} (e : Same H H') : DrA K sc ns H d → DrA K sc ns H' d := fun ⟨n, h⟩ => ⟨n, e _ _ h.dr, Same.seq e h.sq, h.len, h.pos⟩
theorem DrA.nd {K : PySem.W.Frag} {sc : Addr} {ns : List Int} {H : Hp} {d p : Addr} (h : DrA K sc ns H d) (hp : H p = none) : p ≠ d := DrOk.nd ⟨_, _, h⟩ hp
/-- a write to an object that was made since -/
theorem DrA.up {K : PySem.W.Frag} {sc : Addr} {ns : List Int} {H0 H : Hp} {d p : Addr} {o : HO} (h0 : DrA K sc ns H0 d) (h : DrA K sc ns H d) (e : Ex d H0 H) (hp : H0 p = none) : DrA K sc ns (upd H p o) d := by
  obtain ⟨n0, D0⟩ := h0
  obtain ⟨n, D⟩ := h
  have nd := DrA.nd ⟨n0, D0⟩ hp
  exact ⟨n, by rw [upd_ne (Ne.symm nd)]; exact D.dr, Dr.sqx D0 (fun b o hb n => by rw [upd_ne (ne_of_none hb hp)]; exact e b o hb n), D.len, D.pos⟩
theorem Ex.up {d p : Addr} {H0 H : Hp} {o : HO} (e : Ex d H0 H) (hp : H0 p = none) : Ex d H0 (upd H p o) := fun b o hb n => by rw [upd_ne (ne_of_none hb hp)]; exact e b o hb n
theorem can_ints : ∀ (l : List Int), PyData.canLayAll0 (l.map PyData.int) = true
  | [] => by simp [PyData.canLayAll0]
  | i :: r => by simp [PyData.canLayAll0, PyData.canLay0, can_ints r]
theorem dep_ints : ∀ (l : List Int), PyData.depthAll (l.map PyData.int) ≤ 1
  | [] => by simp [PyData.depthAll]
  | i :: r => by
    have h := dep_ints r
    simp [PyData.depthAll, PyData.depth] <;> omega
theorem shaped_lints (l : List Int) : SeqAt.shaped (.list (l.map PyData.int)) = true := by
  have h := dep_ints l
  unfold SeqAt.shaped
  rw [Bool.and_eq_true]
  refine ⟨by simp [PyData.canLay0, can_ints], decide_eq_true ?_⟩
  simp only [PyData.depth]
  omega
theorem dp_ints {K : PySem.W.Frag} {H : Hp} : ∀ (l : List Int), DpAll K H (l.map V.int) (l.map PyData.int)
  | [] => .nil
  | i :: r => .cons (.int i) (dp_ints r)
end Toy

-- part: SK1
namespace SrtQ
open PySem PyProof.Rows Srt SrtO
section
variable {prog : Program} {w : World} {A : Around} {E : Value → Shared → Prop} {s : Shared} {a kS : Addr} {e1 : Nat} {vs : List Value}
/-- what runs behind the keys: out is made of the pairs (key, item) in order -/
def Good (ltk : Value → Value → Bool) (ks vs out : List Value) : Prop := ∃ ps : List Keyed, Srtd (lt2 ltk) ps ∧ Stb (lt2 ltk) ps (ks.zip vs) ∧ out = ps.map (·.2)
def endH (h : Heap) (a kS : Addr) (out : List Value) : Heap := (h.update kS (Obj.mapSeq fun _ => (#[] : Array Value))).update a (Obj.mapSeq fun _ => out.toArray)
theorem zip_arr (ks vs : List Value) : (ks.toArray.zip vs.toArray).toList = ks.zip vs := by
  rw [ksk_zip]
theorem tail_ {ltk : Value → Value → Bool} {ks : List Value} {e : Nat} {st : SortSt} {R : PySem.Fin → Shared → Prop} (hka : kS ≠ a) (hk : s.heap.get? kS = some (seqObj "list" ks.toArray e)) (ha : s.heap.get? a = some (seqObj "list" #[] e1))
    (hl : ks.length = vs.length) (hz : vs.length ≤ sizeLine) (h1 : Srtd (lt2 ltk) (arrOf st).toList) (h2 : Stb (lt2 ltk) (arrOf st).toList (ks.zip vs)) (hf : failedOf st = none)
    (h : ∀ out tk, Good ltk ks vs out → R (.done (.ret .none)) { s with heap := endH s.heap a kS out, toks := tk }) :
    wpAny (model prog w) A (ksk_tail a false e1 (.ref kS) st) R E s := by
  have s1 := Heap.SameBut.update s.heap kS (Obj.mapSeq fun _ => (#[] : Array Value))
  have na1 : (s.heap.update kS (Obj.mapSeq fun _ => (#[] : Array Value))).get? a = some (seqObj "list" #[] e1) := (s1.2 a hka.symm).trans ha
  have hsz : (arrOf st).size = vs.length := by
    have q := h2.len
    rw [Array.length_toList, List.length_zip, hl, Nat.min_self] at q
    exact q
  unfold ksk_tail
  try dsimp only
  refine wpAny_bind (listUpdate_at hk rfl ?_ (by rw [List.size_toArray, hl]; exact hz) (Nat.zero_le _))
  refine wpAny_bind (wpAny_letGo ?_)
  refine wpAny_bind (seqEpoch_at na1 rfl ?_)
  refine wpAny_bind (listUpdate_at na1 rfl ?_ (Nat.zero_le _) ?_)
  · rw [hf]
    simp only [bne_self_eq_false, Bool.false_eq_true, if_false]
    have q := h ((arrOf st).toList.map (·.2)) s.toks ⟨_, h1, h2, rfl⟩
    have e2 : ((arrOf st).toList.map (·.2)).toArray = (arrOf st).map (·.2) := by
      apply Array.ext'
      simp
    unfold endH at q
    rw [e2] at q
    exact wpAny_pure q
  · simp only [Bool.false_eq_true, if_false, Array.size_map]
    omega
theorem end_ {ltk : Value → Value → Bool} {ks : List Value} {e : Nat} {R : PySem.Fin → Shared → Prop} (O : Swo ltk) (hka : kS ≠ a) (hk : s.heap.get? kS = some (seqObj "list" ks.toArray e)) (ha : s.heap.get? a = some (seqObj "list" #[] e1))
    (hl : ks.length = vs.length) (hz : vs.length ≤ sizeLine)
    (hS : 2 ≤ vs.length → ∃ κ, (∀ (Q : SortKind → Shared → Prop) (E : Value → Shared → Prop), Q κ s → wpAny (model prog w) A (keyKind' ks.toArray) Q E s) ∧ Cmp prog w A s κ (fun p => p.1 ∈ ks) (lt2 ltk))
    (h : ∀ out tk, Good ltk ks vs out → R (.done (.ret .none)) { s with heap := endH s.heap a kS out, toks := tk }) :
    wpAny (model prog w) A (ksk_end a false vs.toArray e1 (.ref kS) ks.toArray) R E s := by
  unfold ksk_end
  try dsimp only
  simp only [Bool.false_eq_true, if_false]
  by_cases h2 : vs.toArray.size < 2
  · rw [if_pos h2, if_pos h2]
    refine wpAny_bind (wpAny_pure ?_)
    rw [StateT.run_pure]
    refine wpAny_bind (wpAny_pure ?_)
    try dsimp only
    refine tail_ (st := SortSt.mk' general' (ks.toArray.zip vs.toArray) #[] 7 none) hka hk ha hl hz ?_ ?_ rfl h
    · show Srtd (lt2 ltk) (ks.toArray.zip vs.toArray).toList
      rw [zip_arr]
      rw [List.size_toArray] at h2
      match ks, vs, hl, h2 with
      | [], [], _, _ => exact List.Pairwise.nil
      | [k], [v], _, _ => exact List.pairwise_singleton _ _
      | _ :: _ :: _, _, hl, h2 => exact absurd h2 (by rw [← hl, List.length_cons, List.length_cons]; omega)
    · show Stb (lt2 ltk) (ks.toArray.zip vs.toArray).toList _
      rw [zip_arr]
      exact Stb.refl _
  · rw [if_neg h2, if_neg h2]
    rw [List.size_toArray] at h2
    obtain ⟨κ, hkind, hT⟩ := hS (by omega)
    refine wpAny_bind (hkind _ _ ?_)
    have hall : AllL (fun p : Keyed => p.1 ∈ ks) (ks.toArray.zip vs.toArray).toList := fun p hm => by
      rw [zip_arr] at hm
      exact (List.of_mem_zip hm).1
    refine wpAny_bind (wpAny_mono (wpS_sortO (st0 := SortSt.mk' κ (ks.toArray.zip vs.toArray) #[] 7 none)
      (Q := fun _ st' => Srtd (lt2 ltk) (arrOf st').toList ∧ Stb (lt2 ltk) (arrOf st').toList (ks.toArray.zip vs.toArray).toList ∧ failedOf st' = none) (swo2 O) hT rfl hall rfl rfl fun st' a1 a2 a3 => ⟨a1, a2, a3⟩) ?_ fun _ _ e => e)
    rintro ⟨⟨⟩, st'⟩ s' ⟨rfl, hp1, hp2, hf⟩
    try dsimp only
    rw [zip_arr] at hp2
    exact tail_ hka hk ha hl hz hp1 hp2 hf h
/-- the keys are asked one by one; J: what is kept meanwhile, of the keys so far and of the list that takes them -/
theorem rest_ {f : Value} {R : PySem.Fin → Shared → Prop} (J : List Value → Obj → Shared → Prop) (hka : kS ≠ a)
    (hJ : ∀ ks o s', J ks o s' → s'.heap.get? kS = some o ∧ s'.heap.get? a = some (seqObj "list" #[] e1))
    (up : ∀ ks o s' ks' c, J ks o s' → (s'.heap.update kS (Obj.mapSeq fun x => x.push ks')).get? kS = some c → c.cls = .type "list" → (∀ v, c.data ≠ .cell v) → J ks c { s' with heap := s'.heap.update kS (Obj.mapSeq fun x => x.push ks') })
    (step : ∀ i x ks o s', vs[i]? = some x → ks.length = i → J ks o s' → wpAny (model prog w) A (call f [x]) (fun k s'' => J (ks ++ [k]) o s'') (fun _ _ => False) s')
    (hz : vs.length ≤ sizeLine) (h0 : J [] (seqObj "list" #[] 0) s)
    (fin : ∀ ks e s', J ks (seqObj "list" ks.toArray e) s' → ks.length = vs.length → ∃ ltk : Value → Value → Bool, Swo ltk ∧
      (2 ≤ vs.length → ∃ κ, (∀ (Q : SortKind → Shared → Prop) (E : Value → Shared → Prop), Q κ s' → wpAny (model prog w) A (keyKind' ks.toArray) Q E s') ∧ Cmp prog w A s' κ (fun p => p.1 ∈ ks) (lt2 ltk)) ∧
      ∀ out tk, Good ltk ks vs out → R (.done (.ret .none)) { s' with heap := endH s'.heap a kS out, toks := tk }) :
    wpAny (model prog w) A (ksk_rest a f false vs.toArray e1 (.ref kS)) R E s := by
  unfold ksk_rest
  refine wpAny_bind (wpAny_rule ?_)
  first
    | rw [List.forIn_toArray]
    | (rw [← Array.forIn_toList]; simp only [List.toList_toArray])
    | rw [← Array.forIn_toList]
  refine wpAny_bind (ksk_fold (fun i s' => ∃ ks e, ks.length = i ∧ J ks (seqObj "list" ks.toArray e) s') vs 0 s ⟨[], 0, rfl, h0⟩ ?step ?done)
  case step =>
    rintro j x s' hx ⟨ks, e, hl, hj⟩
    simp only [Nat.zero_add] at hl ⊢
    have hlt : j < vs.length := (List.getElem?_eq_some_iff.mp hx).1
    refine wpAny_bind (wpAny_attempt (wpAny_mono (step j x ks _ s' hx hl hj) (fun k s'' he => ?_) fun _ _ hF => hF.elim))
    have nk := (hJ _ _ _ he).1
    obtain ⟨c2, hc2⟩ : ∃ c2, (s''.heap.update kS (Obj.mapSeq (·.push k))).get? kS = some (seqObj "list" (ks.toArray.push k) c2) := ⟨_, get?_update_seq nk (·.push k)⟩
    try dsimp only
    refine wpAny_bind (listUpdate_at nk rfl ?_ (by rw [List.size_toArray]; omega) (by rw [Array.size_push, List.size_toArray]; omega))
    refine wpAny_pure ⟨rfl, ks ++ [k], c2, by rw [List.length_append, hl]; rfl, ?_⟩
    have q := up _ _ _ k _ he hc2 rfl (fun v z => by cases z)
    have e3 : (ks ++ [k]).toArray = ks.toArray.push k := by simp
    rw [e3]
    exact q
  case done =>
    rintro s' ⟨ks, e, hl, hj⟩
    simp only [Nat.zero_add] at hl
    obtain ⟨nk, na⟩ := hJ _ _ _ hj
    try dsimp only
    refine wpAny_bind (listItems_at nk rfl ?_)
    obtain ⟨ltk, O, h1, h2⟩ := fin _ _ _ hj hl
    exact end_ O hka nk na hl hz h1 h2
end
end SrtQ

-- part: SK2
namespace L2
open PySem PySem.Spec PyProof.Rows SrtO SrtQ
/-- a value without its token -/
def toV : Value → V
  | .none => .non
  | .bool b => .bl b
  | .int i _ => .int i
  | .str x _ => .str x
  | .bytes b _ => .byt b
  | .float b _ => .flt b
  | .ref a => .ref a
  | .type n => .ty n
  | _ => .non
theorem toV_of {x : V} {u : Value} (r : RelV x u) : toV u = x := by
  cases x with
  | non => cases r; rfl
  | bl b => cases r; rfl
  | int i => obtain ⟨t, rfl⟩ := r; rfl
  | str x => obtain ⟨t, rfl⟩ := r; rfl
  | byt b => obtain ⟨t, rfl⟩ := r; rfl
  | flt b => obtain ⟨t, rfl⟩ := r; rfl
  | ref a => cases r; rfl
  | ty n => cases r; rfl
theorem vals_toV : ∀ {xs : List V} {us : List Value}, Vals xs us → xs = us.map toV
  | _, _, .nil => rfl
  | _, _, .cons r t => by rw [List.map_cons, toV_of r, ← vals_toV t]
theorem vals_mem : ∀ {xs : List V} {us : List Value}, Vals xs us → ∀ u ∈ us, RelV (toV u) u
  | _, _, .cons r t, u, h => by
    rcases List.mem_cons.mp h with e | h
    · rw [e, toV_of r]; exact r
    · exact vals_mem t u h
theorem vals_of : ∀ {us : List Value}, (∀ u ∈ us, RelV (toV u) u) → Vals (us.map toV) us
  | [], _ => .nil
  | u :: us, h => .cons (h u List.mem_cons_self) (vals_of fun v hv => h v (List.mem_cons_of_mem _ hv))
/-- an untracked object of ours is tracked from here on -/
theorem Inv.track {X : Cx} {pins : List (Addr × Obj)} {σ : St} {H : Hp} {s : Shared} {D : Addr} {o : HO} (I : Inv X pins σ H s) (fD : FpOk X pins H D) (new : ObjOk X.prog X.w (upd H D o) s.heap D o) : Inv X pins σ (upd H D o) s := by
  have hok : HOk X.prog X.w (upd H D o) s.heap := fun b u e => by
    by_cases hb : b = D
    · subst hb; rw [upd_same] at e; cases e; exact new
    · rw [upd_ne hb] at e
      exact (I.hok b u e).stay (fun c v _ q => q) (fun c q => by rw [upd_ne (ne_of_none q fD.1)]; exact q) fun c xs q => by rw [upd_ne (ne_of_none q fD.1)]; exact q
  have q := I.step (g' := s.gens) (d' := s.drawn) (t' := s.toks) (h' := s.heap) (H' := upd H D o) (ch := [D]) (fun b hb => by
      rw [List.mem_singleton.mp hb]
      exact ⟨fD.2.2.2.1, fD.2.1, fD.2.2.2.2.1, fD.2.2.2.2.2⟩)
    (fun b o _ _ _ e _ => e) (fun b o _ _ _ e _ => ⟨o.slots, e⟩) (fun b o hc e n => by rw [upd_ne fun z => hc (by rw [z]; exact List.mem_singleton.mpr rfl)]; exact n) (fun b o _ e => ⟨o, e⟩)
    (fun b xs e => by rw [upd_ne (ne_of_none e fD.1)]; exact e) (fun b o u e => by rw [upd_ne (ne_of_none e fD.1)]; exact e) (fun b ps e => ⟨#[], by rw [upd_ne (ne_of_none e fD.1), e]; simp⟩) (fun m h => h) hok I.bare
  exact q
section
variable {X : Cx} {pins : List (Addr × Obj)} {σ : St} {H : Hp} {s : Shared} {f : Value} {its : List Value} {xs : List V} {R : Result → Shared → Prop} {Q : VK}
/-- what is left of sorted once the items are gathered -/
def sortRest (its : List Value) (kw : List (Str × Value)) : Sem PySem.Fin := do
  let l ← newList its
  let _ ← holding [l] (call (.builtin "list.sort") [l] kw)
  ret l
/-- the pairs (key, item) in order -/
def GoodP (ltk : Value → Value → Bool) (ks its : List Value) (ps : List (Value × Value)) : Prop := Srtd (lt2 ltk) ps ∧ ps.Perm (ks.zip its)
theorem sort_part {E : Value → Shared → Prop} {Z : PySem.Fin → Shared → Prop} (I : Inv X pins σ H s) (rv : Vals xs its) (hz : its.length ≤ sizeLine) (W : List V → Hp → Prop) (w0 : W [] H)
    (ht : ∀ a : Addr, Builtin.«list.sort» ⟨[.ref a], [(Str.ofString "key", f)]⟩ = ksk_tree a f false) (ha2 : ∀ a, argsOk "list.sort" ⟨[a], [(Str.ofString "key", f)]⟩)
    (step : ∀ (pins' : List (Addr × Obj)) (s' : Shared) (H' : Hp) (i : Nat) (x : V) (u : Value) (kv : List V), (∀ p ∈ pins, p ∈ pins') → Inv X pins' σ H' s' → RelV x u → xs[i]? = some x → kv.length = i → W kv H' →
      wpAny (model X.prog X.w) X.A.in1.in1 (call f [u]) (fun k s'' => ∃ kx H'', RelV kx k ∧ Inv X pins' σ H'' s'' ∧ W (kv ++ [kx]) H'') (fun _ _ => False) s')
    (fin : ∀ (pins : List (Addr × Obj)) (kv : List V) (ks : List Value) (H' : Hp) (s' : Shared), Inv X pins σ H' s' → Vals kv ks → W kv H' → kv.length = xs.length → ∃ ltk : Value → Value → Bool, Swo ltk ∧
      (2 ≤ its.length → ∃ κ, (∀ (Q : SortKind → Shared → Prop) (E : Value → Shared → Prop), Q κ s' → wpAny (model X.prog X.w) X.A.in1.in1 (keyKind' ks.toArray) Q E s') ∧ Cmp X.prog X.w X.A.in1.in1 s' κ (fun p => p.1 ∈ ks) (lt2 ltk)) ∧
      ∀ ps : List (Value × Value), GoodP ltk ks its ps → ∀ p, H' p = none → Q (.ref p) (upd H' p (.lst (ps.map fun q => toV q.2))))
    (hZ : ∀ v s', EP X pins σ Q v s' → Z (.done (.ret v)) s') :
    wpAny (model X.prog X.w) X.A.in1 (sortRest its [(Str.ofString "key", f)]) Z E s := by
  unfold sortRest
  refine wpAny_bind (wpAny_newList ?_ hz)
  have ho : (s.heap.push (seqObj "list" its.toArray 0)).get? s.heap.objs.size = some (seqObj "list" its.toArray 0) := Heap.get?_push_size _ rfl
  generalize hD : s.heap.objs.size = D at *
  show wpAny _ _ _ _ _ { s with heap := s.heap.push (seqObj "list" its.toArray 0) }
  refine wpAny_bind (wpAny_holding (wpAny_call_entry_kw slot_list_sort ⟨_, ho, rfl⟩ entry_list_sort ?body (ha2 _)))
  case body =>
    show wpAny (model X.prog X.w) X.A.in1.in1 (Builtin.«list.sort» ⟨[.ref D], [(Str.ofString "key", f)]⟩) _ _ _
    rw [ht]
    unfold ksk_tree
    refine wpAny_bind (listItems_at ho rfl ?_)
    refine wpAny_bind (listUpdate_at ho rfl ?_ (by rw [List.size_toArray]; exact hz) (Nat.zero_le _))
    obtain ⟨e1, ho1⟩ : ∃ e1, ((s.heap.push (seqObj "list" its.toArray 0)).update D (Obj.mapSeq fun _ => (#[] : Array Value))).get? D = some (seqObj "list" #[] e1) := ⟨_, get?_update_seq ho fun _ => #[]⟩
    refine wpAny_bind (seqEpoch_at ho1 rfl ?_)
    refine wpAny_bind (wpAny_newTuple ?_ (by show its.length ≤ _; exact hz))
    refine wpAny_bind (wpAny_newList ?_ (Nat.zero_le _))
    refine wpAny_holding ?_
    have z1 : ((s.heap.push (seqObj "list" its.toArray 0)).update D (Obj.mapSeq fun _ => (#[] : Array Value))).objs.size = D + 1 := by rw [Heap.size_update, size_push', hD]
    have z2 : (((s.heap.push (seqObj "list" its.toArray 0)).update D (Obj.mapSeq fun _ => (#[] : Array Value))).push (seqObj "tuple" its.toArray 0)).objs.size = D + 2 := by rw [size_push', z1]
    have hk0 : ((((s.heap.push (seqObj "list" its.toArray 0)).update D (Obj.mapSeq fun _ => (#[] : Array Value))).push (seqObj "tuple" its.toArray 0)).push (seqObj "list" #[] 0)).get? (D + 2) = some (seqObj "list" #[] 0) := by
      rw [← z2]; exact Heap.get?_push_size _ rfl
    have hD0 : ((((s.heap.push (seqObj "list" its.toArray 0)).update D (Obj.mapSeq fun _ => (#[] : Array Value))).push (seqObj "tuple" its.toArray 0)).push (seqObj "list" #[] 0)).get? D = some (seqObj "list" #[] e1) :=
      Heap.get?_push_of_some _ (Heap.get?_push_of_some _ ho1)
    have keep : ∀ b o, s.heap.get? b = some o → ((((s.heap.push (seqObj "list" its.toArray 0)).update D (Obj.mapSeq fun _ => (#[] : Array Value))).push (seqObj "tuple" its.toArray 0)).push (seqObj "list" #[] 0)).get? b = some o := fun b o q => by
      have hlt : b < D := by rw [← hD]; exact Heap.lt_size q
      refine Heap.get?_push_of_some _ (Heap.get?_push_of_some _ ?_)
      rw [Heap.get?_update_ne _ _ _ _ (Nat.ne_of_lt hlt)]
      exact Heap.get?_push_of_some _ q
    rw [z2]
    have hl : its.length = xs.length := rv.length.symm
    generalize hG : ((((s.heap.push (seqObj "list" its.toArray 0)).update D (Obj.mapSeq fun _ => (#[] : Array Value))).push (seqObj "tuple" its.toArray 0)).push (seqObj "list" #[] 0)) = G at hk0 hD0 keep
    show wpAny _ _ (ksk_rest D f false its.toArray e1 (.ref (D + 2))) _ _ { s with heap := G }
    have I0 : Inv X pins σ H { s with heap := G } := I.kept (t' := s.toks) keep
    have fD : FpOk X pins H D := I.fpOk (Nat.le_of_eq hD) (I.hok.fresh (Nat.le_of_eq hD))
    have fS : FpOk X pins H (D + 2) := I.fpOk (by omega) (I.hok.fresh (by omega))
    -- the pins of the two lists
    have pin2 : ∀ {H' : Hp} {s' : Shared} {o : Obj}, Inv X pins σ H' s' → H' D = none → H' (D + 2) = none → s'.heap.get? (D + 2) = some o → o.cls = .type "list" → (∀ v, o.data ≠ .cell v) → s'.heap.get? D = some (seqObj "list" #[] e1) → Inv X (((D + 2, o) : Addr × Obj) :: (D, seqObj "list" #[] e1) :: pins) σ H' s' := by
      intro H' s' o I' n1 n2 h2 _ nc h1
      refine I'.pins_of fun p hp => ?_
      rcases List.mem_cons.mp hp with rfl | hp
      · exact ⟨h2, n2, fS.2.1, fS.2.2.1, nc⟩
      · rcases List.mem_cons.mp hp with rfl | hp
        · exact ⟨h1, n1, fD.2.1, fD.2.2.1, fun v z => by cases z⟩
        · exact I'.pin p (List.mem_append_right _ hp)
    have unp : ∀ {H' : Hp} {s' : Shared} {o : Obj}, Inv X (((D + 2, o) : Addr × Obj) :: (D, seqObj "list" #[] e1) :: pins) σ H' s' → Inv X pins σ H' s' := fun I' => I'.pins_of fun p hp => I'.pin p (List.mem_append_right _ (List.mem_cons_of_mem _ (List.mem_cons_of_mem _ hp)))
    have atp : ∀ {H' : Hp} {s' : Shared} {o : Obj}, Inv X (((D + 2, o) : Addr × Obj) :: (D, seqObj "list" #[] e1) :: pins) σ H' s' → (s'.heap.get? (D + 2) = some o ∧ H' (D + 2) = none ∧ ∀ v, o.data ≠ .cell v) ∧ s'.heap.get? D = some (seqObj "list" #[] e1) ∧ H' D = none := fun I' => by
      have a1 := I'.pin _ (List.mem_append_right _ List.mem_cons_self)
      have a2 := I'.pin _ (List.mem_append_right _ (List.mem_cons_of_mem _ List.mem_cons_self))
      exact ⟨⟨a1.1, a1.2.1, a1.2.2.2.2⟩, a2.1, a2.2.1⟩
    refine rest_ (s := { s with heap := G }) (fun ks o s' => o.cls = .type "list" ∧ ∃ kv H', Vals kv ks ∧ W kv H' ∧ Inv X (((D + 2, o) : Addr × Obj) :: (D, seqObj "list" #[] e1) :: pins) σ H' s') (show (D + 2 : Nat) ≠ D by omega)
      (fun ks o s' ⟨_, kv, H', _, _, I'⟩ => ⟨(atp I').1.1, (atp I').2.1⟩) ?up ?step hz ⟨rfl, [], H, .nil, w0, pin2 I0 fD.1 fS.1 hk0 rfl (fun v z => by cases z) hD0⟩ ?fin
    case up =>
      rintro ks o s' k c ⟨_, kv, H', rk, wk, I'⟩ hc hcl hcd
      obtain ⟨⟨a1, a2, a3⟩, b1, b2⟩ := atp I'
      refine ⟨hcl, kv, H', rk, wk, ?_⟩
      have fS' : FpOk X pins H' (D + 2) := ⟨a2, fS.2⟩
      have I2 : Inv X pins σ H' { s' with heap := s'.heap.update (D + 2) (Obj.mapSeq fun x => x.push k), toks := s'.toks } := (unp I').turnedL (ch := [D + 2]) (fun b u hb hu => by
        have nb : b ≠ D + 2 := fun z => hb (by rw [z]; exact List.mem_singleton.mpr rfl)
        rw [Heap.get?_update_ne _ _ _ _ nb]
        exact hu) fun b hb => by rw [List.mem_singleton.mp hb]; exact fS'
      refine pin2 I2 b2 a2 hc hcl (fun v z => ?_) ?_
      · exact hcd v z
      · show (s'.heap.update (D + 2) _).get? D = _
        rw [Heap.get?_update_ne _ _ _ _ (show (D : Nat) ≠ D + 2 by omega)]
        exact b1
    case step =>
      rintro i u ks o s' hu hl' ⟨hcl, kv, H', rk, wk, I'⟩
      obtain ⟨x, hx, rx⟩ : ∃ x, xs[i]? = some x ∧ RelV x u := by
        have hi : i < xs.length := by rw [← hl]; exact (List.getElem?_eq_some_iff.mp hu).1
        obtain ⟨u', e1, e2⟩ := rv.get (List.getElem?_eq_getElem hi)
        rw [hu] at e1; cases e1
        exact ⟨_, List.getElem?_eq_getElem hi, e2⟩
      refine wpAny_mono (step _ s' H' i x u kv (fun p hp => List.mem_cons_of_mem _ (List.mem_cons_of_mem _ hp)) I' rx hx (by rw [rk.length, hl']) wk) (fun k s'' ⟨kx, H'', rk2, I2, w2⟩ => ?_) fun _ _ e => e
      exact ⟨hcl, kv ++ [kx], H'', rk.append (.cons rk2 .nil), w2, I2⟩
    case fin =>
      rintro ks e s' ⟨_, kv, H', rk, wk, I'⟩ hkl
      obtain ⟨⟨a1, a2, a3⟩, b1, b2⟩ := atp I'
      obtain ⟨ltk, O, h1, h2⟩ := fin _ kv ks H' s' I' rk wk (by rw [rk.length, hkl, hl])
      refine ⟨ltk, O, h1, ?_⟩
      rintro out tk ⟨ps, g1, g2, rfl⟩
      have hp2 : (ps.map (·.2)).Perm its := by
        have q := g2.perm.map (·.2)
        rw [List.map_snd_zip (by omega)] at q
        exact q
      have I2 : Inv X pins σ H' { s' with heap := endH s'.heap D (D + 2) (ps.map (·.2)), toks := tk } := (unp I').turnedL (ch := [D + 2, D]) (fun b u hb hu => by
        unfold endH
        rw [Heap.get?_update_ne _ _ _ _ (fun z => hb (by rw [z]; exact List.mem_cons_of_mem _ (List.mem_singleton.mpr rfl))), Heap.get?_update_ne _ _ _ _ (fun z => hb (by rw [z]; exact List.mem_cons_self))]
        exact hu) fun b hb => by
          rcases List.mem_cons.mp hb with rfl | hb
          · exact ⟨a2, fS.2⟩
          · rw [List.mem_singleton.mp hb]; exact ⟨b2, fD.2⟩
      obtain ⟨c2, hc2⟩ : ∃ c2, (endH s'.heap D (D + 2) (ps.map (·.2))).get? D = some (seqObj "list" (ps.map (·.2)).toArray c2) := by
        have b3 : (s'.heap.update (D + 2) (Obj.mapSeq fun _ => (#[] : Array Value))).get? D = some (seqObj "list" #[] e1) := by
          rw [Heap.get?_update_ne _ _ _ _ (show (D : Nat) ≠ D + 2 by omega)]; exact b1
        exact ⟨_, get?_update_seq b3 fun _ => (ps.map fun x : Keyed => x.2).toArray⟩
      refine ⟨_, rfl, wpAny_pure (hZ _ _ ?_)⟩
      have hv : Vals (ps.map fun q => toV q.2) (ps.map (·.2)) := by
        have q := vals_of (us := ps.map (·.2)) fun u hu => vals_mem rv u (hp2.mem_iff.mp hu)
        rw [List.map_map] at q
        exact q
      refine ⟨.ref D, upd H' D (.lst (ps.map fun q => toV q.2)), ?_, rfl, h2 ps ⟨g1, g2.perm⟩ D b2⟩
      refine I2.track ⟨b2, fD.2⟩ ⟨?_, ps.map (·.2), c2, hv, hc2⟩
      rw [List.length_map, ← List.length_map (f := fun x : Keyed => x.2), hp2.length_eq]
      exact hz
end
end L2

-- part: SK3
namespace L2
open PySem PySem.Spec PyProof.Rows SrtO SrtQ
/-! ### the order of the keys -/
def numV : Value → Int
  | .int i _ => i
  | _ => 0
theorem swo_of {α : Type} (k : Value → α) {lt : α → α → Bool} (O : Swo lt) : Swo fun u v => lt (k u) (k v) := ⟨fun _ _ => O.asym _ _, fun _ _ _ => O.tr _ _ _⟩
theorem swo_int : Swo (fun a b : Int => decide (a < b)) := by
  refine ⟨fun x y h => ?_, fun x y z h1 h2 => ?_⟩
  · have := of_decide_eq_true h
    exact decide_eq_false (by omega)
  · have a := of_decide_eq_false h1
    have b := of_decide_eq_false h2
    exact decide_eq_false (by omega)
section
variable {prog : Program} {w : World} {A : Around} {s : Shared}
theorem ints_kind {ks : List Value} {kz : List Int} (hk : IntsAre ks kz) (h2 : 2 ≤ ks.length) : ∃ κ, (∀ (Q : SortKind → Shared → Prop) (E : Value → Shared → Prop), Q κ s → wpAny (model prog w) A (keyKind' ks.toArray) Q E s) ∧
    Cmp prog w A s κ (fun p => p.1 ∈ ks) (lt2 fun u v => decide (numV u < numV v)) := by
  refine ⟨oneType', fun Q E q => ?_, fun p q hp hq => ?_⟩
  · rw [ksk_kind (kz := kz) (by simpa using hk) (by rw [List.size_toArray]; exact h2)]
    exact wpAny_pure q
  · have at_ : ∀ u ∈ ks, ∃ i t, u = Value.int i t := by
      clear h2 hp hq
      induction hk with
      | nil => intro u hu; exact nomatch hu
      | cons _ _ _ ih =>
        intro u hu
        rcases List.mem_cons.mp hu with rfl | hu
        · exact ⟨_, _, rfl⟩
        · exact ih u hu
    obtain ⟨i, t, e1⟩ := at_ _ hp
    obtain ⟨j, t', e2⟩ := at_ _ hq
    show wpAny _ _ (keyLt' oneType' p.1 q.1) (fun r s' => s' = s ∧ r = decide (numV p.1 < numV q.1)) _ _
    rw [e1, e2]
    exact PySem.W.kat_lt_int ⟨rfl, rfl⟩
end
/-- the tuple at v is (n, c), c a tuple of ints -/
def KeyT (K : PySem.W.Frag) (H : Hp) (v : V) (k : Int × List Int) : Prop := ∃ t c, v = .ref t ∧ SqT K H t [.int k.1, .ref c] ∧ SqT K H c (k.2.map V.int)
def ltKT (a b : Int × List Int) : Bool := if a.1 = b.1 then HT.lexLt a.2 b.2 else decide (a.1 < b.1)
theorem lex_irrefl : ∀ a : List Int, HT.lexLt a a = false
  | [] => rfl
  | x :: a => by rw [HT.lexLt_cons, if_pos rfl]; exact lex_irrefl a
theorem lex_asym : ∀ a b : List Int, HT.lexLt a b = true → HT.lexLt b a = false
  | [], [], h => by cases h
  | [], y :: b, _ => rfl
  | x :: a, [], h => by cases h
  | x :: a, y :: b, h => by
    rw [HT.lexLt_cons] at h ⊢
    by_cases e : x = y
    · rw [if_pos e] at h; rw [if_pos e.symm]; exact lex_asym a b h
    · rw [if_neg e] at h; rw [if_neg (Ne.symm e)]
      have := of_decide_eq_true h
      exact decide_eq_false (by omega)
theorem lex_tr : ∀ a b c : List Int, HT.lexLt a b = false → HT.lexLt c a = false → HT.lexLt c b = false
  | [], [], [], _, _ => rfl
  | [], [], z :: c, _, _ => rfl
  | [], y :: b, _, h, _ => by cases h
  | x :: a, b, [], _, h => by cases h
  | x :: a, [], z :: c, _, _ => rfl
  | x :: a, y :: b, z :: c, h1, h2 => by
    rw [HT.lexLt_cons] at h1 h2 ⊢
    by_cases e1 : x = y
    · rw [if_pos e1] at h1
      by_cases e2 : z = x
      · rw [if_pos e2] at h2
        rw [if_pos (e2.trans e1)]
        exact lex_tr a b c h1 h2
      · rw [if_neg e2] at h2
        rw [if_neg (by rw [← e1]; exact e2)]
        have := of_decide_eq_false h2
        exact decide_eq_false (by omega)
    · rw [if_neg e1] at h1
      have d1 := of_decide_eq_false h1
      by_cases e2 : z = x
      · rw [if_neg (by rw [e2]; exact e1)]
        exact decide_eq_false (by omega)
      · rw [if_neg e2] at h2
        have d2 := of_decide_eq_false h2
        rw [if_neg (by omega)]
        exact decide_eq_false (by omega)
theorem lex_total : ∀ a b : List Int, HT.lexLt a b = false → HT.lexLt b a = false → a = b
  | [], [], _, _ => rfl
  | [], y :: b, h, _ => by cases h
  | x :: a, [], _, h => by cases h
  | x :: a, y :: b, h1, h2 => by
    rw [HT.lexLt_cons] at h1 h2
    by_cases e : x = y
    · rw [if_pos e] at h1; rw [if_pos e.symm] at h2
      rw [e, lex_total a b h1 h2]
    · rw [if_neg e] at h1; rw [if_neg (Ne.symm e)] at h2
      have d1 := of_decide_eq_false h1
      have d2 := of_decide_eq_false h2
      omega
theorem swo_KT : Swo ltKT := by
  refine ⟨fun x y h => ?_, fun x y z h1 h2 => ?_⟩
  · unfold ltKT at *
    by_cases e : x.1 = y.1
    · rw [if_pos e] at h; rw [if_pos e.symm]; exact lex_asym _ _ h
    · rw [if_neg e] at h; rw [if_neg (Ne.symm e)]
      have := of_decide_eq_true h
      exact decide_eq_false (by omega)
  · unfold ltKT at *
    by_cases e1 : y.1 = x.1
    · rw [if_pos e1] at h1
      by_cases e2 : z.1 = y.1
      · rw [if_pos e2] at h2
        rw [if_pos (e2.trans e1)]
        exact lex_tr _ _ _ h1 h2
      · rw [if_neg e2] at h2
        rw [if_neg (by rw [← e1]; exact e2)]
        have := of_decide_eq_false h2
        exact decide_eq_false (by omega)
    · rw [if_neg e1] at h1
      have d1 := of_decide_eq_false h1
      by_cases e2 : z.1 = y.1
      · rw [if_neg (by rw [e2]; exact e1)]
        exact decide_eq_false (by omega)
      · rw [if_neg e2] at h2
        have d2 := of_decide_eq_false h2
        rw [if_neg (by omega)]
        exact decide_eq_false (by omega)
theorem can_intsD : ∀ (l : List Int), PyData.canLayAll0 (l.map PyData.int) = true
  | [] => by simp [PyData.canLayAll0]
  | i :: r => by simp [PyData.canLayAll0, PyData.canLay0, can_intsD r]
theorem dep_intsD : ∀ (l : List Int), PyData.depthAll (l.map PyData.int) ≤ 1
  | [] => by simp [PyData.depthAll]
  | i :: r => by
    have h := dep_intsD r
    simp [PyData.depthAll, PyData.depth] <;> omega
theorem dpAll_ints {K : PySem.W.Frag} {H : Hp} : ∀ (l : List Int), DpAll K H (l.map V.int) (l.map PyData.int)
  | [] => .nil
  | i :: r => .cons (.int i) (dpAll_ints r)
theorem eqvAll_ints : ∀ a b : List Int, PyData.eqvAll (a.map PyData.int) (b.map PyData.int) = decide (a = b)
  | [], [] => by simp [PyData.eqvAll]
  | [], y :: b => by simp [PyData.eqvAll]
  | x :: a, [] => by simp [PyData.eqvAll]
  | x :: a, y :: b => by
    simp only [List.map_cons, PyData.eqvAll, PyData.eqv, eqvAll_ints a b]
    by_cases h : x = y <;> by_cases h2 : a = b <;> simp [h, h2]
section
variable {X : Cx} {pins : List (Addr × Obj)} {σ : St} {H : Hp} {s : Shared} {A : Around}
theorem kt_cmp (I : Inv X pins σ H s) (hu : A.units + 64 < cLine) {u u' : Value} {v v' : V} {k k' : Int × List Int} (ru : RelV v u) (ru' : RelV v' u') (h : KeyT X.K H v k) (h' : KeyT X.K H v' k') :
    wpAny (model X.prog X.w) A (keyLt' (tuples' true) u u') (fun r s' => s' = s ∧ r = ltKT k k') (fun _ _ => False) s := by
  obtain ⟨t, c, rfl, ht, hc⟩ := h
  obtain ⟨t', c', rfl, ht', hc'⟩ := h'
  cases ru
  cases ru'
  obtain ⟨i1, r1, ⟨o1, ho1, hcl1, n1, hd1⟩, _⟩ := I.tuple ht
  obtain ⟨i2, r2, ⟨o2, ho2, hcl2, n2, hd2⟩, _⟩ := I.tuple ht'
  obtain ⟨a1, b1, rfl, ⟨ta, rfl⟩, rb⟩ := vals2 r1
  obtain ⟨a2, b2, rfl, ⟨tb, rfl⟩, rb'⟩ := vals2 r2
  obtain rfl : b1 = Value.ref c := rb
  obtain rfl : b2 = Value.ref c' := rb'
  refine PySem.W.kat_lt ho1 hd1 ho2 hd2 ?_
  show PySem.W.KatLex X.prog X.w A true (decide (2 < 2)) _ [(.int k.1 ta, .int k'.1 tb), (.ref c, .ref c')] 0 s
  unfold ltKT
  refine PySem.W.kat_cons (SeqAt.EqAt.int_int k.1 ta k'.1 tb X.prog X.w _ _ ?_)
  refine PySem.W.kat_go (fun e1 => ?_) (fun e1 => ?_)
  · have ex : k.1 = k'.1 := by simpa using e1
    rw [if_pos ex]
    obtain ⟨as, q1⟩ := Dp.reads I (.tuple (k.2.map .int)) (.ref c) (.ref c) (.tup hc (dpAll_ints _)) rfl
    obtain ⟨bs, q2⟩ := Dp.reads I (.tuple (k'.2.map .int)) (.ref c') (.ref c') (.tup hc' (dpAll_ints _)) rfl
    have cl : ∀ l : List Int, (PyData.tuple (l.map .int)).canLay0 = true := fun l => by simp [PyData.canLay0, can_intsD]
    have dl : ∀ l : List Int, (PyData.tuple (l.map .int)).depth ≤ 2 := fun l => by have := dep_intsD l; simp only [PyData.depth]; omega
    refine PySem.W.kat_yes (PySem.W.kat_cons (PySem.SeqAt.eqBoolOverData X.prog X.w A _ s _ _ _ _ as bs _ q1 q2 (cl _) (cl _) (by have := dl k.2; omega) ?_))
    have ev : PyData.eqv (.tuple (k.2.map .int)) (.tuple (k'.2.map .int)) = decide (k.2 = k'.2) := by
      simp only [PyData.eqv]
      exact eqvAll_ints _ _
    rw [ev]
    refine PySem.W.kat_go (fun e2 => ?_) (fun e2 => ?_)
    · have ey : k.2 = k'.2 := of_decide_eq_true e2
      rw [ey, lex_irrefl]
      exact PySem.W.kat_yes (PySem.W.kat_nil ⟨rfl, rfl⟩)
    · obtain ⟨j1, s1, p1, _⟩ := I.tuple hc
      obtain ⟨j2, s2, p2, _⟩ := I.tuple hc'
      have g1 : IntsAre j1.toArray.toList k.2 := intsAre_of s1
      have g2 : IntsAre j2.toArray.toList k'.2 := intsAre_of s2
      refine PySem.W.kat_no (PySem.W.kat_one _ _ (HT.lt_tupInts p1 p2 g1 g2 (by omega) ?_))
      exact (show s = s ∧ HT.lexLt k.2 k'.2 = HT.lexLt k.2 k'.2 from ⟨rfl, rfl⟩)
  · have ex : ¬ k.1 = k'.1 := by simpa using e1
    rw [if_neg ex]
    exact PySem.W.kat_no (oneLt_int ⟨rfl, rfl⟩)
/-- the kind of such keys -/
theorem kt_kind (I : Inv X pins σ H s) : ∀ {kv : List V} {ks : List Value} {kz : List (Int × List Int)}, Vals kv ks → Paired (KeyT X.K H) kv kz → ∃ fs, PySem.W.KatTups s.heap ks fs ∧ fs.length = ks.length ∧ ∀ v ∈ fs, ∃ i t, v = Value.int i t
  | _, _, _, .nil, .nil => ⟨[], .nil, rfl, fun v h => nomatch h⟩
  | _, _, _, .cons r rs, .cons h hs => by
    obtain ⟨t, c, rfl, ht, hc⟩ := h
    cases r
    obtain ⟨i1, r1, ⟨o1, ho1, hcl1, n1, hd1⟩, _⟩ := I.tuple ht
    obtain ⟨a1, b1, rfl, ⟨ta, rfl⟩, rb⟩ := vals2 r1
    obtain ⟨fs, q1, q2, q3⟩ := kt_kind I rs hs
    refine ⟨_ :: fs, .cons ho1 hcl1 hd1 (f := .int _ ta) rfl q1, by rw [List.length_cons, List.length_cons, q2], fun v hv => ?_⟩
    rcases List.mem_cons.mp hv with rfl | hv
    · exact ⟨_, _, rfl⟩
    · exact q3 v hv
theorem paired_mem {α β : Type} {F : α → β → Prop} : ∀ {l : List α} {m : List β}, Paired F l m → ∀ x ∈ l, ∃ y ∈ m, F x y
  | _, _, .cons h t, x, hx => by
    rcases List.mem_cons.mp hx with rfl | hx
    · exact ⟨_, List.mem_cons_self, h⟩
    · obtain ⟨y, hy, q⟩ := paired_mem t x hx
      exact ⟨y, List.mem_cons_of_mem _ hy, q⟩
theorem KeyT.inj (I : Inv X pins σ H s) {v : V} {k k' : Int × List Int} (h : KeyT X.K H v k) (h' : KeyT X.K H v k') : k = k' := by
  obtain ⟨t, c, rfl, ht, hc⟩ := h
  obtain ⟨t', c', e, ht', hc'⟩ := h'
  cases e
  have e1 := I.tuple_inj ht ht'
  cases k with | mk n l => cases k' with | mk n' l' =>
  simp only [List.cons.injEq, V.int.injEq, V.ref.injEq, and_true] at e1
  obtain ⟨rfl, rfl⟩ := e1
  have e2 := I.tuple_inj hc hc'
  have e3 : l = l' := by
    have : ∀ a b : List Int, a.map V.int = b.map V.int → a = b := fun a b h => (List.map_inj_right (fun x y h => by cases h; rfl)).mp h
    exact this _ _ e2
  rw [e3]
/-- the key of a value, by what stands -/
noncomputable def keyOfV (K : PySem.W.Frag) (H : Hp) (u : Value) : Int × List Int := by
  classical exact if h : ∃ k, KeyT K H (toV u) k then h.choose else (0, [])
theorem keyOfV_eq (I : Inv X pins σ H s) {v : V} {u : Value} {k : Int × List Int} (r : RelV v u) (h : KeyT X.K H v k) : keyOfV X.K H u = k := by
  unfold keyOfV
  have e : ∃ k, KeyT X.K H (toV u) k := ⟨k, by rw [toV_of r]; exact h⟩
  rw [dif_pos e]
  have q : ∀ x, x = v → KeyT X.K H x e.choose → e.choose = k := fun x hx q => KeyT.inj I (hx ▸ q) h
  exact q (toV u) (toV_of r) e.choose_spec
theorem kt_all (I : Inv X pins σ H s) (hu : A.units + 64 < cLine) {kv : List V} {ks : List Value} {kz : List (Int × List Int)} (r : Vals kv ks) (p : Paired (KeyT X.K H) kv kz) (h2 : 2 ≤ ks.length) :
    ∃ κ, (∀ (Q : SortKind → Shared → Prop) (E : Value → Shared → Prop), Q κ s → wpAny (model X.prog X.w) A (keyKind' ks.toArray) Q E s) ∧ Cmp X.prog X.w A s κ (fun p => p.1 ∈ ks) (lt2 fun u v => ltKT (keyOfV X.K H u) (keyOfV X.K H v)) := by
  refine ⟨tuples' true, fun Q E q => ?_, fun a b ha hb => ?_⟩
  · obtain ⟨fs, q1, q2, q3⟩ := kt_kind I r p
    refine PySem.W.kat_kind (T := .type "int") q1 (by omega) (fun f hm => ?_) (by rfl) ?_
    · obtain ⟨x, t, rfl⟩ := q3 f hm
      exact PySem.W.Looks.now
    · have e : (Value.type "int" != Value.type "tuple") = true := by first | decide +kernel | rfl | decide
      rw [e]
      exact q
  · have at_ : ∀ u ∈ ks, ∃ v k, RelV v u ∧ KeyT X.K H v k := fun u hu => by
      have hv := vals_mem r u hu
      have hm : toV u ∈ kv := by rw [vals_toV r]; exact List.mem_map.mpr ⟨u, hu, rfl⟩
      obtain ⟨k, _, q⟩ := paired_mem p _ hm
      exact ⟨_, k, hv, q⟩
    obtain ⟨v, k, r1, q1⟩ := at_ _ ha
    obtain ⟨v', k', r2, q2⟩ := at_ _ hb
    show wpAny _ _ (keyLt' (tuples' true) a.1 b.1) (fun r s' => s' = s ∧ r = ltKT (keyOfV X.K H a.1) (keyOfV X.K H b.1)) _ _
    rw [keyOfV_eq I r1 q1, keyOfV_eq I r2 q2]
    exact kt_cmp I hu r1 r2 q1 q2
end
end L2

-- part: SK4
namespace L2
open PySem PySem.Spec PyProof.Rows SrtO SrtQ
/-- the keys, one by one, then the items by their keys -/
def SortGo (K : PySem.W.Frag) (rel : V → Hp → VK → Prop) (xs : List V) (H1 : Hp) (Q : VK) : Prop := ∃ W : List V → Hp → Prop, W [] H1 ∧
  (∀ i v kv H', xs[i]? = some v → kv.length = i → W kv H' → rel v H' fun k H'' => W (kv ++ [k]) H'') ∧
  ∀ kv H', W kv H' → kv.length = xs.length →
    (∃ kz : List Int, kv = kz.map V.int ∧ ∀ zs : List (Int × V), zs.Perm (kz.zip xs) → zs.Pairwise (fun p q => p.1 ≤ q.1) → ∀ p, H' p = none → Q (.ref p) (upd H' p (.lst (zs.map (·.2))))) ∨
    (∃ kz : List (Int × List Int), Paired (KeyT K H') kv kz ∧ ∀ zs : List ((Int × List Int) × V), zs.Perm (kz.zip xs) → zs.Pairwise (fun p q => ltKT q.1 p.1 = false) → ∀ p, H' p = none → Q (.ref p) (upd H' p (.lst (zs.map (·.2)))))
/-- f is a key: what a call of it promises -/
def KeyRel (X : Cx) (P : List (Addr × Obj)) (f : Value) (rel : V → Hp → VK → Prop) : Prop := ∀ (pins : List (Addr × Obj)) (s : Shared) (σ : St) (H : Hp) (x : V) (u : Value) (Q : VK), (∀ p ∈ P, p ∈ pins) → Inv X pins σ H s → RelV x u → rel x H Q →
  wpAny (model X.prog X.w) X.A.in1.in1 (call f [u]) (EP X pins σ Q) (fun _ _ => False) s
theorem KeyRel.mono {X : Cx} {P P' : List (Addr × Obj)} {f : Value} {rel : V → Hp → VK → Prop} (h : KeyRel X P f rel) (hp : ∀ p ∈ P, p ∈ P') : KeyRel X P' f rel := fun pins s σ H x u Q z => h pins s σ H x u Q fun p q => z p (hp p q)
theorem nums_of {ks : List Value} {kz : List Int} (h : IntsAre ks kz) : ks.map numV = kz := by
  induction h with
  | nil => rfl
  | cons _ _ _ ih => rw [List.map_cons, ih]; rfl
theorem paired_len {α β : Type} {F : α → β → Prop} : ∀ {l : List α} {m : List β}, Paired F l m → l.length = m.length
  | _, _, .nil => rfl
  | _, _, .cons _ t => by rw [List.length_cons, List.length_cons, paired_len t]
theorem vals_at : ∀ {xs : List V} {us : List Value}, xs.length = us.length → (∀ (j : Nat) (u : Value), us[j]? = some u → ∃ x, xs[j]? = some x ∧ RelV x u) → Vals xs us
  | [], [], _, _ => .nil
  | [], _ :: _, h, _ => by simp at h
  | _ :: _, [], h, _ => by simp at h
  | x :: xs, u :: us, h, q => by
    obtain ⟨x', e, r⟩ := q 0 u rfl
    cases e
    exact .cons r (vals_at (by simpa using h) fun j u' hu => q (j + 1) u' hu)
section
variable {X : Cx} {pins : List (Addr × Obj)} {σ : St} {H : Hp} {s : Shared} {f : Value} {its : List Value} {xs : List V} {Q : VK} {rel : V → Hp → VK → Prop}
theorem keys_of {H' : Hp} {s' : Shared} (I : Inv X pins σ H' s') : ∀ {kv : List V} {ks : List Value} {kz : List (Int × List Int)}, Vals kv ks → Paired (KeyT X.K H') kv kz → ks.map (keyOfV X.K H') = kz
  | _, _, _, .nil, .nil => rfl
  | _, _, _, .cons r rs, .cons h hs => by rw [List.map_cons, keyOfV_eq I r h, keys_of I rs hs]
theorem sort_go {E : Value → Shared → Prop} {Z : PySem.Fin → Shared → Prop} (hu : X.A.units + 100 < cLine) (I : Inv X pins σ H s) (rv : Vals xs its) (hz : its.length ≤ sizeLine) (g : SortGo X.K rel xs H Q) (hf : KeyRel X pins f rel)
    (ht : ∀ a : Addr, Builtin.«list.sort» ⟨[.ref a], [(Str.ofString "key", f)]⟩ = ksk_tree a f false) (hZ : ∀ v s', EP X pins σ Q v s' → Z (.done (.ret v)) s') :
    wpAny (model X.prog X.w) X.A.in1 (sortRest its [(Str.ofString "key", f)]) Z E s := by
  obtain ⟨W, w0, w1, w2⟩ := g
  refine sort_part I rv hz W w0 ht (fun a => ksk_l1 _ _) (fun pins' s' H' i x u kv hp I' rx hx hl wk => ?_) (fun pins kv ks H' s' I' rk wk hl => ?_) hZ
  · refine wpAny_mono (hf pins' s' σ H' x u _ hp I' rx (w1 i x kv H' hx hl wk)) (fun k s'' ⟨kx, H'', a, b, c⟩ => ⟨kx, H'', b, a, c⟩) fun _ _ e => e
  · have lk : ks.length = its.length := by rw [← rk.length, hl, rv.length]
    rcases w2 kv H' wk hl with ⟨kz, rfl, q⟩ | ⟨kz, pk, q⟩
    · have ik := intsAre_of rk
      refine ⟨fun u v => decide (numV u < numV v), swo_of numV swo_int, fun h2 => ints_kind ik (by omega), fun ps g p hp => ?_⟩
      have e1 : (ps.map fun z => (numV z.1, toV z.2)).Perm (kz.zip xs) := by
        have q := g.2.map fun z : Value × Value => (numV z.1, toV z.2)
        have e : (ks.zip its).map (fun z : Value × Value => (numV z.1, toV z.2)) = kz.zip xs := by
          rw [vals_toV rv, ← nums_of ik, List.zip_map]
          rfl
        rw [e] at q
        exact q
      have e2 : (ps.map fun z => (numV z.1, toV z.2)).Pairwise (fun p q => p.1 ≤ q.1) := by
        refine List.pairwise_map.mpr (g.1.imp fun h => ?_)
        have := of_decide_eq_false h
        show numV _ ≤ numV _
        omega
      have z := q _ e1 e2 p hp
      rw [List.map_map] at z
      exact z
    · refine ⟨fun u v => ltKT (keyOfV X.K H' u) (keyOfV X.K H' v), swo_of (keyOfV X.K H') swo_KT, fun h2 => kt_all I' (by show X.A.units + 1 + 1 + 64 < _; omega) rk pk (by omega), fun ps g p hp => ?_⟩
      have e1 : (ps.map fun z => (keyOfV X.K H' z.1, toV z.2)).Perm (kz.zip xs) := by
        have q := g.2.map fun z : Value × Value => (keyOfV X.K H' z.1, toV z.2)
        have e : (ks.zip its).map (fun z : Value × Value => (keyOfV X.K H' z.1, toV z.2)) = kz.zip xs := by
          rw [vals_toV rv, ← keys_of I' rk pk, List.zip_map]
          rfl
        rw [e] at q
        exact q
      have e2 : (ps.map fun z => (keyOfV X.K H' z.1, toV z.2)).Pairwise (fun p q => ltKT q.1 p.1 = false) := List.pairwise_map.mpr (g.1.imp fun h => h)
      have z := q _ e1 e2 p hp
      rw [List.map_map] at z
      exact z
/-- the key's function: what the expression gives -/
def KeyOf (X : Cx) (ke : Expr) (f : Value) : Prop := ∀ (pins : List (Addr × Obj)) (s : Shared) (σ : St) (H : Hp) (R : Value → Shared → Prop), Inv X pins σ H s → R f s → wpAny (model X.prog X.w) X.A (eval ke X.env) R X.xe s
theorem key_abs {p : Pos} (hg : Gl X "abs") (hm : X.mg "abs" = none) : KeyOf X (.Name "abs" p) (.builtin "abs") := fun pins s σ H R I h => ld_blt I hg hm (by decide +kernel) h (by decide)
theorem key_def {x : Str} {p : Pos} {q : Addr} (hg : Gl X x) (hm : X.mg x = some (.ref q)) (hd : (x == ("__debug__" : Str)) = false := by decide) : KeyOf X (.Name x p) (.ref q) := fun pins s σ H R I h => ld_glob I hg hm h hd
theorem rel_abs {P : List (Addr × Obj)} : KeyRel X P (.builtin "abs") (fun x H Q => ∃ i, x = .int i ∧ Q (.int (if i < 0 then -i else i)) H) := by
  intro pins s σ H x u Q _ I r h
  obtain ⟨i, rfl, q⟩ := h
  obtain ⟨t, rfl⟩ := r
  exact call_abs_int fun u tk => ⟨.int (if i < 0 then -i else i), H, I.tok _, ⟨_, rfl⟩, q⟩
theorem rel_def {P : List (Addr × Obj)} {k : Nat} {q : Addr} {fd : FuncData} {x : Str} {sp : Sp} (F : FnOk X.prog X.w X.K X.mg X.base CX0 k q fd [x] sp) (hr : Room (k + 2) X.A) (hb : Binds X.K fd [x] []) : KeyRel X P (.ref q) (fun x H Q => sp [x] H Q E0) := by
  intro pins s σ H x u Q _ I r h
  have hl : ([u] ++ ([] : List Value)).length = 1 := rfl
  refine wpAny_call (codeAny_mono (F.run X.A.in1.in1 X.stack s H ⟨[u], []⟩ [u] [x] Q E0 hr.in1.in1 I.env0.in1.in1 (by have := hb s [u] I.kIn (by rfl); exact this) (.cons r .nil) h) fun r s' hq => ?_)
  cases r with
  | error e => exact hq.elim
  | ok fl =>
    cases fl with
    | ret u => exact I.after hq
    | next => exact False.elim hq
    | brk => exact False.elim hq
    | cont => exact False.elim hq
/-! ### sorted(e, key=ke) -/
/-- of a list; of a dict with ints and texts as keys; of one with tuples -/
def rSortL (K : PySem.W.Frag) (rel : V → Hp → VK → Prop) : V → Hp → VK → Prop := fun x H Q => ∃ a xs, x = .ref a ∧ SqL K H a xs ∧ SortGo K rel xs H Q
def rSortD (K : PySem.W.Frag) (rel : V → Hp → VK → Prop) : V → Hp → VK → Prop := fun x H Q => ∃ a kvs, x = .ref a ∧ Rd H a (.dK kvs) ∧ SortGo K rel (kvs.map fun z => kV z.1) H Q
def rSortTd (K : PySem.W.Frag) (rel : V → Hp → VK → Prop) : V → Hp → VK → Prop := fun x H Q => ∃ a kvs, x = .ref a ∧ Rd H a (.dT kvs) ∧ ∀ bs, IsKeys H kvs bs → SortGo K rel (bs.map V.ref) H Q
def tSorted (r : V → Hp → VK → Prop) (t : TA) : TE := fun σ H Q => t σ H fun vs H1 => ∃ x, vs = [x] ∧ r x H1 Q
def RunS (X : Cx) (P : List (Addr × Obj)) (f : Value) (r : V → Hp → VK → Prop) : Prop := ∀ (pins : List (Addr × Obj)) (s : Shared) (σ : St) (H : Hp) (x : V) (u : Value) (Q : VK), (∀ p ∈ P, p ∈ pins) → Inv X pins σ H s → RelV x u → r x H Q →
  wpAny (model X.prog X.w) X.A (call (.builtin "sorted") [u] [(Str.ofString "key", f)]) (EP X pins σ Q) X.xe s
theorem pe_sorted {e ke : Expr} {t : TA} {p pos kpos : Pos} {r : V → Hp → VK → Prop} (run : RunS X [] f r) (hk : KeyOf X ke f) (hg : Gl X "sorted") (hm : X.mg "sorted" = none) (ha : PA X [e] t)
    (h1 : backTo pos (starEach [e] X.env) = (false, eval e X.env) :: backTo pos (starEach [] X.env) := by rfl) (hpl : (backTo pos (starEach [e] X.env)).any (·.1) = false := by rfl)
    (hall : (backToKw pos (keywordEach [⟨some "key", ke, kpos⟩] X.env)).all (·.1.isSome) = true := by rfl) (hnone : (backToKw pos (keywordEach [⟨some "key", ke, kpos⟩] X.env)).any (·.1.isNone) = false := by rfl) :
    PE X (.Call (.Name "sorted" p) [e] [⟨some "key", ke, kpos⟩] pos) (tSorted r t) := by
  refine ⟨fun pins s σ H Q I h => ?_⟩
  refine wpAny_Call_Name_kw (ld_blt I hg hm (u := .builtin "sorted") (by decide +kernel) ?_ (by decide))
  refine PyProof.Rows.callWith_kw (thn (ha.run pos pins s σ H _ I h) fun us s1 ⟨vs, H1, I1, r1, x, ex, q1⟩ => ?_) h1 hpl hall hnone
  subst ex
  obtain ⟨u, rfl, ru⟩ := vals1 r1
  show wpAny _ _ (evalAll ((do let v ← eval ke X.env; standAt pos; pure v) :: [])) _ _ s1
  refine wpAny_evalAll_cons (wpAny_bind (hk pins s1 σ H1 _ I1 (wpAny_bind (wpAny_standAt (wpAny_pure ?_)))))
  refine wpAny_evalAll_nil ?_
  exact run pins s1 σ H1 x u Q (fun _ z => nomatch z) I1 ru q1
theorem run_list {P : List (Addr × Obj)} (hu : X.A.units + 100 < cLine) (hf : KeyRel X P f rel) (ht : ∀ a : Addr, Builtin.«list.sort» ⟨[.ref a], [(Str.ofString "key", f)]⟩ = ksk_tree a f false) : RunS X P f (rSortL X.K rel) := by
  intro pins s σ H x u Q hP I r h
  obtain ⟨a, xs, rfl, hs, g⟩ := h
  cases r
  obtain ⟨its, rv, hl, hz⟩ := I.list hs
  have hz' : its.length ≤ sizeLine := by rw [← rv.length]; exact hz
  refine call_function_entry_kw kind_sorted plain_sorted entry_sorted (ksk_s1 _ _) ?_
  unfold Builtin.«sorted»
  refine wpAny_bind (m := checkCount "sorted" 1 1 _) (wpAny_pure ?_)
  refine wpAny_bind (collect_list hl.isList ?_ hz')
  have I1 : Inv X pins σ H { s with heap := (s.heap.push (seqObj "list" #[] 0)).update s.heap.objs.size (Obj.mapSeq (· ++ its.toArray)) } := I.kept (t' := s.toks) fun b o e => by
    rw [Heap.get?_update_ne _ _ _ _ (Nat.ne_of_lt (Heap.lt_size e))]
    exact Heap.get?_push_of_some _ e
  exact sort_go hu I1 rv hz' g (hf.mono hP) ht fun v s' h => ⟨v, rfl, h⟩
theorem run_dict {P : List (Addr × Obj)} (hcalm : X.calm = true) (hu : X.A.units + 100 < cLine) (hf : KeyRel X P f rel) (ht : ∀ a : Addr, Builtin.«list.sort» ⟨[.ref a], [(Str.ofString "key", f)]⟩ = ksk_tree a f false) : RunS X P f (rSortD X.K rel) := by
  intro pins s σ H x u Q hP I r h
  obtain ⟨a, kvs, rfl, hd, g⟩ := h
  cases r
  obtain ⟨z, lo, vs, rel', dd⟩ := dk_rd I.hok hd
  obtain ⟨ep, hat⟩ := dd.dictAt
  have hkeys : vs.map (·.1) = kvs.map (·.1) := rel'.keys.symm
  have hl : vs.length = kvs.length := by
    have e := congrArg List.length hkeys
    rw [List.length_map, List.length_map] at e
    exact e
  refine call_function_entry_kw kind_sorted plain_sorted entry_sorted (ksk_s1 _ _) ?_
  unfold Builtin.«sorted»
  refine wpAny_bind (m := checkCount "sorted" 1 1 _) (wpAny_pure ?_)
  refine wpAny_bind (PySem.W.kdu_collect (A := X.A.in1) (PySem.W.kdl_dict (knd := mixKind X.prog X.w) (kvs := vs) (ep := ep) lo) (I.ok.hd hcalm) hat (by rw [hl]; exact z) fun h' tk acc hk hacc => ?_)
  have hal : acc.toList.length = kvs.length := by rw [Array.length_toList, hacc.1, hl]
  have rv : Vals (kvs.map fun z => kV z.1) acc.toList := vals_at (by rw [List.length_map, hal]) fun j v e => by
    obtain ⟨k, x, e1, e2⟩ := hacc.2 j v (by rw [← Array.getElem?_toList]; exact e)
    have e3 : (vs.map (·.1))[j]? = some k := by rw [List.getElem?_map, e1]; rfl
    rw [hkeys, List.getElem?_map] at e3
    rw [List.getElem?_map]
    cases e4 : kvs[j]? with
    | none => rw [e4] at e3; cases e3
    | some y =>
      rw [e4] at e3
      have e5 : y.1 = k := Option.some.inj e3
      refine ⟨kV y.1, rfl, ?_⟩
      rw [e5]
      exact keyIs_rel e2
  have I1 : Inv X pins σ H { s with heap := h', toks := tk } := I.kept hk
  exact sort_go hu I1 rv (by rw [hal]; exact z) g (hf.mono hP) ht fun v s' h => ⟨v, rfl, h⟩
theorem run_dictT {P : List (Addr × Obj)} (hcalm : X.calm = true) (hu : X.A.units + 100 < cLine) (hf : KeyRel X P f rel) (ht : ∀ a : Addr, Builtin.«list.sort» ⟨[.ref a], [(Str.ofString "key", f)]⟩ = ksk_tree a f false) : RunS X P f (rSortTd X.K rel) := by
  intro pins s σ H x u Q hP I r h
  obtain ⟨d, kvs, rfl, hd, g⟩ := h
  cases r
  obtain ⟨z, hs, ks, pr, o, es, ep, ho, hx, hdt, he, hn⟩ := (show ObjOk X.prog X.w H s.heap d (.dT kvs) from hd.ok I.hok)
  have l1 : es.size = ks.length := size_of_entries he
  have l2 : kvs.length = ks.length := Paired.length pr
  refine call_function_entry_kw kind_sorted plain_sorted entry_sorted (ksk_s1 _ _) ?_
  unfold Builtin.«sorted»
  refine wpAny_bind (m := checkCount "sorted" 1 1 _) (wpAny_pure ?_)
  refine wpAny_bind (PySem.W.kdu_collect (A := X.A.in1) (kdl_raw hs hx hdt) (I.ok.hd hcalm) ho (by omega) fun h' tk acc' kp it => ?_)
  have ea : acc'.toList = ks.map fun x => Value.ref x.2.1 := by
    have hl : acc'.toList.length = ks.length := by rw [Array.length_toList, it.1]; exact l1
    apply List.ext_getElem?
    intro j
    rw [List.getElem?_map]
    cases hj : acc'.toList[j]? with
    | none =>
      have h1 := List.getElem?_eq_none_iff.mp hj
      rw [List.getElem?_eq_none (by omega)]
      all_goals rfl
    | some v =>
      obtain ⟨en, hen, hv⟩ := it.2 j v (by rw [← Array.getElem?_toList]; exact hj)
      have qe := entry_at he j
      rw [hen] at qe
      cases hb : ks[j]? with
      | none =>
        rw [hb] at qe
        exact nomatch (show some en = none from qe)
      | some b =>
        rw [hb] at qe
        have e2 : en = entryOfKey (tupleKind (mixKind X.prog X.w)) b := Option.some.inj qe
        rw [hv, e2]
        all_goals rfl
  have eb : acc'.toList = (ks.map fun x => x.2.1).map Value.ref := by rw [ea, List.map_map]; all_goals rfl
  have rv : Vals ((ks.map fun x => x.2.1).map V.ref) acc'.toList := by rw [eb]; exact vals_refs _
  have I1 : Inv X pins σ H { s with heap := h', toks := tk } := I.kept kp
  exact sort_go hu I1 rv (by rw [ea, List.length_map]; omega) (g _ (isKeys_of pr)) (hf.mono hP) ht fun v s' h => ⟨v, rfl, h⟩
end
end L2

-- part: SK5
namespace L2
open PySem PySem.Spec PyProof.Rows SrtO SrtQ LamX
section
variable {X : Cx} {pins : List (Addr × Obj)} {σ : St} {H : Hp} {s : Shared} {xs : List V} {Q : VK}
abbrev lamQ (X : Cx) : Str := X.env.qual ++ "<lambda>"
/-- a lambda of one parameter, no captured names: its call -/
theorem rel_lam {k : Nat} {f c' : Addr} {x : Str} {params : Arguments} {body : Expr} {scope : Scope} {pm ctv : Value} {tb : TE} (S : FnScope [x] [x] scope) (hr : Room (k + 3) X.A)
    (hbind : ∀ u : Value, bindArgs (PySem.W.kla_fn "<lambda>" (lamQ X) params body scope [] pm (.ref c') ctv) ⟨[u], []⟩ = pure [(x, u)])
    (hbody : ∀ (A : Around) (outer : List Env) (s : Shared) (H : Hp), Room k (A.deeper (envOfC (lamQ X) scope s.heap.objs.size f (.ref c'))) → PE (cxOf CX0 X.prog X.w X.K X.mg X.base [x] (lamQ X) scope f (.ref c') A outer s H E0) body tb) :
    KeyRel X [(f, PySem.W.kla_obj "<lambda>" (lamQ X) params body scope [] pm c' ctv)] (.ref f) (fun v H Q => H c' = some (CodeO c' (lamQ X)) ∧ tb [some v] H Q) := by
  intro pins s σ H v u Q hP I r ⟨hc, ht⟩
  have hf : s.heap.get? f = some (PySem.W.kla_obj "<lambda>" (lamQ X) params body scope [] pm c' ctv) := (I.pin _ (List.mem_append_right _ (hP _ List.mem_cons_self))).1
  obtain ⟨⟨oc, vs, t, hoc, hdc, hvc⟩, _, _⟩ := I.hok c' _ hc
  have hr2 : Room (k + 1) X.A.in1.in1 := hr.in1.in1
  have rc : codeAny (model X.prog X.w) X.A.in1.in1 (.call (.ref f) ⟨[u], []⟩) (CR CX0 X.stack X.prog X.w H s Q E0) s := by
    refine PySem.W.kla_callFunE hr2.depth hf rfl S.co S.gen rfl ⟨c', oc, vs, t, rfl, hoc, hdc, hvc⟩ ?_
    rw [hbind]
    have hkind : ∀ y ∈ [x].zip [u], scope.names.lookup y.1 = some .local ∨ (scope.names.lookup y.1 = some .cell ∧ ((cellsFrom (s.heap.objs.size + 1) scope.names []).lookup y.1).isSome = true) := fun ⟨n, v⟩ hy => by
      rcases S.par n (List.of_mem_zip hy).1 with q | q
      · exact .inl q
      · exact .inr ⟨q, PySem.W.cellsFrom_some _ _ _ (.inl q)⟩
    refine wpAny_pure (wpAny_newFunctionEnv_cells S.kind hkind fun env he s1 z => ?_)
    subst he
    refine ⟨I.nolimit.keeps z.toInCall.keep, ?_⟩
    have J : Inv (cxOf CX0 X.prog X.w X.K X.mg X.base [x] (lamQ X) scope f (.ref c') X.A.in1.in1 X.stack s H E0) [] (start [x] [v]) H s1 := inv_start S hr2.hd I.env0.in1.in1 rfl (.cons r .nil) z
    refine PySem.W.kla_codeExpr (wpAny_mono ((hbody _ _ s H (hr2.deeper _)).run [] _ _ H Q J ht) (fun v' s' hq => ?_) fun e s' hq => hq)
    obtain ⟨w', H', J', rv, q⟩ := hq
    exact ⟨w', H', J'.os, J'.bare, J'.base, J'.hok, rv, q⟩
  refine wpAny_call (codeAny_mono rc fun r s' hq => ?_)
  cases r with
  | error e => exact hq.elim
  | ok fl =>
    cases fl with
    | ret u => exact I.after hq
    | next => exact False.elim hq
    | brk => exact False.elim hq
    | cont => exact False.elim hq
/-- sorted(e, key=lambda x: body) -/
def tSortedLam (X : Cx) (T : List (Addr × Str)) (r : Addr → V → Hp → VK → Prop) (t : TA) : TE := fun σ H Q => t σ H fun vs H1 => ∃ x, vs = [x] ∧ Tabs T H1 ∧ ∀ c' H2, ExtN H1 H2 → Tabs T H2 → H2 c' = some (CodeO c' (lamQ X)) → r c' x H2 Q
theorem pe_sortedLam {e : Expr} {t : TA} {p pos kpos lpos : Pos} {r : Addr → V → Hp → VK → Prop} {T : List (Addr × Str)} {c P : Addr} {params : Arguments} {body : Expr} {scope : Scope}
    (run : ∀ (f c' : Addr) (pm ctv : Value), RunS X [(f, PySem.W.kla_obj "<lambda>" (lamQ X) params body scope [] pm c' ctv)] (.ref f) (r c')) (TB : TabB X.base X.mg c P) (hcode : X.env.code = .ref c)
    (hT : (P, lamQ X) ∈ T) (hu : ∀ p ∈ T, p.1 = P → p.2 = lamQ X) (hcl : cloFrom X.env.cells scope.names [] = []) (hfree : ∀ y ∈ scope.names, y.2 ≠ .free)
    (hg : Gl X "sorted") (hm : X.mg "sorted" = none) (ha : PA X [e] t) (hdef : defaultsOf params X.env = ([], []) := by rfl)
    (h1 : backTo pos (starEach [e] X.env) = (false, eval e X.env) :: backTo pos (starEach [] X.env) := by rfl) (hpl : (backTo pos (starEach [e] X.env)).any (·.1) = false := by rfl)
    (hall : (backToKw pos (keywordEach [⟨some "key", .Lambda params body scope lpos, kpos⟩] X.env)).all (·.1.isSome) = true := by rfl) (hnone : (backToKw pos (keywordEach [⟨some "key", .Lambda params body scope lpos, kpos⟩] X.env)).any (·.1.isNone) = false := by rfl) :
    PE X (.Call (.Name "sorted" p) [e] [⟨some "key", .Lambda params body scope lpos, kpos⟩] pos) (tSortedLam X T r t) := by
  refine ⟨fun pins s σ H Q I h => ?_⟩
  refine wpAny_Call_Name_kw (ld_blt I hg hm (u := .builtin "sorted") (by decide +kernel) ?_ (by decide))
  refine PyProof.Rows.callWith_kw (thn (ha.run pos pins s σ H _ I h) fun us s1 ⟨vs, H1, I1, r1, x, ex, hTab, q1⟩ => ?_) h1 hpl hall hnone
  subst ex
  obtain ⟨u, rfl, ru⟩ := vals1 r1
  show wpAny _ _ (evalAll ((do let v ← eval (.Lambda params body scope lpos) X.env; standAt pos; pure v) :: [])) _ _ s1
  refine wpAny_evalAll_cons (wpAny_bind (lam_make2 I1 TB hcode hT hu hTab hdef (fun y hy e => absurd e (hfree y hy)) fun f c' pm ctv H2 s2 I2 e2 t2 hf nf nfr hc => wpAny_bind (wpAny_standAt (wpAny_pure ?_))))
  refine wpAny_evalAll_nil ?_
  rw [hcl] at hf
  have nL : f ≠ X.env.locals := fun z => by
    obtain ⟨m, ⟨o, es, ep, ho, hd, _⟩, _⟩ := I2.loc
    rw [z, ho] at hf; cases hf
    cases hd
  have nF : f ∉ X.fs := fun z => nfr (by
    rcases I2.ok.stk with e | ⟨e, hfr⟩
    · rw [e]; exact z
    · rw [e]
      show f ∈ frs (X.env :: X.outer)
      unfold frs
      rw [List.filterMap_cons, hfr]
      exact List.mem_cons_of_mem _ z)
  have I3 : Inv X ((f, PySem.W.kla_obj "<lambda>" (lamQ X) params body scope [] pm c' ctv) :: pins) σ H2 s2 := I2.pins_of fun p hp => by
    rcases List.mem_cons.mp hp with rfl | hp
    · exact ⟨hf, nf, nL, nF, fun v z => by cases z⟩
    · exact I2.pin p (List.mem_append_right _ hp)
  refine thn (run f c' pm ctv _ s2 σ H2 x u Q (fun p hp => by rw [List.mem_singleton.mp hp]; exact List.mem_cons_self) I3 ru (q1 c' H2 e2 t2 hc)) fun v s3 ⟨y, H3, I4, r4, q4⟩ => ?_
  exact ⟨y, H3, I4.pins_of fun p hp => I4.pin p (List.mem_append_right _ (List.mem_cons_of_mem _ hp)), r4, q4⟩
end
end L2

-- part: TY1
namespace L2
open PySem PySem.Spec PyProof.Rows
/-- the built-in classes that are compared -/
def Kn (n : String) : Prop := n = "int" ∨ n = "str" ∨ n = "bool" ∨ n = "NoneType" ∨ n = "list" ∨ n = "tuple" ∨ n = "dict" ∨ n = "bytes"
theorem Kn.is {n : String} (h : Kn n) (s : Shared) : s.TypeIs (.type n) "type" := by
  rcases h with rfl | rfl | rfl | rfl | rfl | rfl | rfl | rfl
  · exact TypeEq.meta_int s
  · exact TypeEq.meta_str s
  · exact TypeEq.meta_bool s
  · exact TypeEq.meta_NoneType s
  · exact TypeEq.meta_list s
  · exact TypeEq.meta_tuple s
  · exact TypeEq.meta_dict s
  · exact TypeEq.meta_bytes s
theorem Kn.ty {K : PySem.W.Frag} {H : Hp} {x : V} {T : String} (t : TyB K H x T) : Kn T := by cases t <;> simp [Kn]
theorem eqAt_ty {a b : String} (ha : Kn a) (hb : Kn b) (A : Around) (s : Shared) : SeqAt.EqAt A s (.type a) (.type b) (decide (a = b)) := by
  intro prog w E Q q
  by_cases e : a = b
  · subst e
    rw [decide_eq_true rfl] at q
    unfold eqBool
    refine wpAny_holding ?_
    rw [if_pos (by simp)]
    exact wpAny_bind (wpAny_rule (wpAny_pure q))
  · rw [decide_eq_false e] at q
    have hb' : (Value.type a == Value.type b) = false := by rw [ty_beq]; exact decide_eq_false e
    unfold eqBool
    refine wpAny_holding ?_
    rw [if_neg (by rw [hb']; decide)]
    refine wpAny_bind (wpAny_mono (TypeEq.eq_type_other (fun s' => ha.is s') (fun s' => hb.is s') hb' (Q := fun v s' => v = .bool false ∧ Q false s') ⟨rfl, q⟩) (fun v s' hv => ?_) fun _ _ x => x)
    obtain ⟨rfl, q⟩ := hv
    exact wpAny_truthy_bool q
section
variable {X : Cx}
theorem op_eqTy : OpR X (compareOp .Eq) (fun x y H Q => ∃ a b, x = .ty a ∧ y = .ty b ∧ Kn a ∧ Kn b ∧ Q (.bl (decide (a = b))) H) := by
  intro pins s σ H x y v u Q I rx ry h
  obtain ⟨a, b, rfl, rfl, ka, kb, q⟩ := h
  cases rx
  cases ry
  by_cases e : a = b
  · subst e
    rw [decide_eq_true rfl] at q
    exact TypeEq.eq_type_same (fun s' => ka.is s') ⟨.bl true, H, I, rfl, q⟩
  · rw [decide_eq_false e] at q
    exact TypeEq.eq_type_other (fun s' => ka.is s') (fun s' => kb.is s') (by rw [ty_beq]; exact decide_eq_false e) ⟨.bl false, H, I, rfl, q⟩
theorem op_neTy : OpR X (compareOp .NotEq) (fun x y H Q => False) := fun _ _ _ _ _ _ _ _ _ _ _ _ h => h.elim
theorem vals_tys : ∀ {bs : List String} {us : List Value}, Vals (bs.map V.ty) us → us = bs.map Value.type
  | [], _, .nil => rfl
  | b :: bs, _, .cons r t => by
    cases r
    rw [vals_tys t]; rfl
theorem op_inTy : OpR X (compareOp .In) (fun x y H Q => ∃ (a : String) (p : Addr) (bs : List String), x = .ty a ∧ y = .ref p ∧ SqT X.K H p (bs.map V.ty) ∧ Kn a ∧ (∀ b ∈ bs, Kn b) ∧ Q (.bl (bs.contains a)) H) := by
  intro pins s σ H x y v u Q I rx ry h
  obtain ⟨a, p, bs, rfl, rfl, hq, ka, kb, q⟩ := h
  cases rx
  cases ry
  obtain ⟨its, r, pl, hz⟩ := I.tuple hq
  have e := vals_tys r
  subst e
  refine SeqAt.in_tupleAt (fun y => match y with | .type n => decide (n = a) | _ => false) pl (fun y hy => ?_) ⟨.bl _, H, I, rfl, ?_⟩
  · have hy' : y ∈ bs.map Value.type := by simpa using hy
    obtain ⟨b, hb, rfl⟩ := List.mem_map.mp hy'
    exact eqAt_ty (kb b hb) ka _ _
  · have e2 : ((bs.map Value.type).toArray.any fun y => match y with | .type n => decide (n = a) | _ => false) = bs.contains a := by
      rw [List.any_toArray, List.any_map]
      rw [List.contains_eq_any_beq]
      congr 1
      funext n
      show decide (n = a) = (a == n)
      by_cases h : n = a
      · simp [h]
      · rw [decide_eq_false h]
        exact (beq_eq_false_iff_ne.mpr (Ne.symm h)).symm
    rw [e2]
    exact q
end
/-- walked as this or as that -/
def iOr (w1 w2 : TI) : TI := fun σ H R => w1 σ H R ∨ w2 σ H R
theorem pi_or {X : Cx} {tg it : Expr} {w1 w2 : TI} (h1 : PI X tg it w1) (h2 : PI X tg it w2) : PI X tg it (iOr w1 w2) :=
  ⟨fun pins s σ H R I h => h.elim (fun h => h1.run pins s σ H R I h) fun h => h2.run pins s σ H R I h⟩
end L2

-- part: G1
namespace Toy
open PySem L2
/-! ### letters and clauses -/
def absI (i : Int) : Int := if i < 0 then -i else i
theorem absI_nat (i : Int) : absI i = (i.natAbs : Int) := by unfold absI; split <;> omega
/-- the clause of a row: rising by truths, the same letters -/
structure IsCl (row c : List Int) : Prop where
  inc : c.Pairwise fun a b => a.natAbs < b.natAbs
  mem : ∀ x, x ∈ c ↔ x ∈ row
structure RowOk (t : Int) (row : List Int) : Prop where
  low : ∀ x ∈ row, 1 ≤ x.natAbs
  top : ∀ x ∈ row, (x.natAbs : Int) ≤ t
  one : ∀ x ∈ row, -x ∉ row
theorem inc_ext : ∀ {c d : List Int}, c.Pairwise (fun a b => a.natAbs < b.natAbs) → d.Pairwise (fun a b => a.natAbs < b.natAbs) → (∀ x, x ∈ c ↔ x ∈ d) → c = d
  | [], [], _, _, _ => rfl
  | [], y :: d, _, _, h => absurd ((h y).mpr List.mem_cons_self) (by simp)
  | x :: c, [], _, _, h => absurd ((h x).mp List.mem_cons_self) (by simp)
  | x :: c, y :: d, hc, hd, h => by
    have c1 := List.pairwise_cons.mp hc
    have d1 := List.pairwise_cons.mp hd
    have e : x = y := by
      rcases List.mem_cons.mp ((h x).mp List.mem_cons_self) with e | hx
      · exact e
      · rcases List.mem_cons.mp ((h y).mpr List.mem_cons_self) with e | hy
        · exact e.symm
        · have a1 := d1.1 x hx
          have a2 := c1.1 y hy
          omega
    subst e
    have nx : x ∉ c := fun z => by have := c1.1 x z; omega
    have ny : x ∉ d := fun z => by have := d1.1 x z; omega
    rw [inc_ext c1.2 d1.2 fun z => ⟨fun hz => (List.mem_cons.mp ((h z).mp (List.mem_cons_of_mem _ hz))).resolve_left fun e => nx (e ▸ hz), fun hz => (List.mem_cons.mp ((h z).mpr (List.mem_cons_of_mem _ hz))).resolve_left fun e => ny (e ▸ hz)⟩]
theorem IsCl.ext {row row' c c' : List Int} (h : IsCl row c) (h' : IsCl row' c') (e : ∀ x, x ∈ row ↔ x ∈ row') : c = c' :=
  inc_ext h.inc h'.inc fun x => (h.mem x).trans ((e x).trans (h'.mem x).symm)
/-- ints unlike by their truths, in order -/
theorem strict_of {ks out : List Int} (p : out.Perm ks) (nd : ks.Nodup) (one : ∀ x ∈ ks, -x ∉ ks) (low : ∀ x ∈ ks, 1 ≤ x.natAbs) (h : out.Pairwise fun a b => absI a ≤ absI b) : out.Pairwise fun a b => a.natAbs < b.natAbs := by
  have nd' : out.Nodup := p.nodup_iff.mpr nd
  have hm : ∀ x ∈ out, x ∈ ks := fun x hx => p.mem_iff.mp hx
  have q := h.imp_of_mem (S := fun a b => a ≠ b → a.natAbs < b.natAbs) fun {a b} ha hb hab ne => by
    rw [absI_nat, absI_nat] at hab
    have h1 := one a (hm a ha)
    have h2 := low a (hm a ha)
    have h3 : b ≠ -a := fun e => h1 (by rw [← e]; exact hm b hb)
    omega
  exact (q.and nd').imp fun h => h.1 h.2
section
variable {X : Cx} {H : Hp} {Q : VK}
/-- sorted by the truths -/
theorem go_abs {K : PySem.W.Frag} {ks : List Int} (q : ∀ (out : List Int) (p : Addr), out.Perm ks → out.Pairwise (fun a b => absI a ≤ absI b) → H p = none → Q (.ref p) (upd H p (.lst (out.map V.int)))) :
    SortGo K (fun x H Q => ∃ i, x = .int i ∧ Q (.int (if i < 0 then -i else i)) H) (ks.map V.int) H Q := by
  refine ⟨fun kv H' => H' = H ∧ kv = (ks.take kv.length).map fun i => V.int (absI i), ⟨rfl, by simp⟩, ?_, ?_⟩
  · rintro i v kv H' hi hl ⟨rfl, hk⟩
    rw [List.getElem?_map] at hi
    cases e : ks[i]? with
    | none => rw [e] at hi; cases hi
    | some z =>
      rw [e] at hi
      cases hi
      refine ⟨z, rfl, rfl, ?_⟩
      rw [List.length_append, List.length_singleton, hl, List.take_add_one, e]
      rw [hl] at hk
      simp only [Option.toList_some, List.map_append, List.map_cons, List.map_nil]
      rw [← hk]
      rfl
  · rintro kv H' ⟨rfl, hk⟩ hl
    rw [List.length_map] at hl
    rw [hl, List.take_length] at hk
    refine .inl ⟨ks.map absI, by rw [hk, List.map_map]; rfl, fun zs hp ho p hn => ?_⟩
    have e1 : (ks.map absI).zip (ks.map V.int) = ks.map fun i => (absI i, V.int i) := by
      rw [List.zip_map]
      have : ks.zip ks = ks.map fun i => (i, i) := by
        clear q hk hl hp
        induction ks with
        | nil => rfl
        | cons a r ih => rw [List.zip_cons_cons, ih]; rfl
      rw [this, List.map_map]
      rfl
    rw [e1] at hp
    have at_ : ∀ z ∈ zs, ∃ i, z = (absI i, V.int i) := fun z hz => by
      obtain ⟨i, _, e⟩ := List.mem_map.mp (hp.mem_iff.mp hz)
      exact ⟨i, e.symm⟩
    -- the ints of zs
    let f : Int × V → Int := fun z => match z.2 with | .int i => i | _ => 0
    have ef : zs.map (fun z => (absI (f z), V.int (f z))) = zs := by
      have : ∀ l : List (Int × V), (∀ z ∈ l, ∃ i, z = (absI i, V.int i)) → l.map (fun z => (absI (f z), V.int (f z))) = l := by
        intro l
        induction l with
        | nil => intro _; rfl
        | cons a r ih =>
          intro h
          obtain ⟨i, rfl⟩ := h a List.mem_cons_self
          rw [List.map_cons, ih fun z hz => h z (List.mem_cons_of_mem _ hz)]
      exact this zs at_
    have pk : (zs.map f).Perm ks := by
      have q1 := hp.map f
      rw [List.map_map] at q1
      have e2 : ks.map (f ∘ fun i => (absI i, V.int i)) = ks := by
        have : (f ∘ fun i => (absI i, V.int i)) = id := by funext i; rfl
        rw [this, List.map_id]
      rw [e2] at q1
      exact q1
    have po : (zs.map f).Pairwise fun a b => absI a ≤ absI b := by
      rw [← ef] at ho
      rw [List.pairwise_map] at ho ⊢
      exact ho
    have q2 := q (zs.map f) p pk po hn
    have e3 : (zs.map f).map V.int = zs.map (·.2) := by
      conv => rhs; rw [← ef]
      rw [List.map_map, List.map_map]
      rfl
    rw [e3] at q2
    exact q2
end
/-- tuples of ints at places -/
def TupsAt (H : Hp) (bs : List Addr) (cs : List (List Int)) : Prop := Paired (fun (b : Addr) (c : List Int) => H b = some (.tup (c.map V.int))) bs cs
theorem TupsAt.same {H H' : Hp} (e : Same H H') : ∀ {bs : List Addr} {cs : List (List Int)}, TupsAt H bs cs → TupsAt H' bs cs
  | _, _, .nil => .nil
  | _, _, .cons h t => .cons (e _ _ h) (TupsAt.same e t)
theorem TupsAt.len {H : Hp} : ∀ {bs : List Addr} {cs : List (List Int)}, TupsAt H bs cs → bs.length = cs.length
  | _, _, .nil => rfl
  | _, _, .cons _ t => by rw [List.length_cons, List.length_cons, TupsAt.len t]
theorem TupsAt.get {H : Hp} : ∀ {bs : List Addr} {cs : List (List Int)} {i : Nat} {b : Addr}, TupsAt H bs cs → bs[i]? = some b → ∃ c, cs[i]? = some c ∧ H b = some (.tup (c.map V.int))
  | _, _, _, _, .nil, h => by simp at h
  | _, _, 0, _, .cons h t, e => by cases e; exact ⟨_, rfl, h⟩
  | _, _, i + 1, _, .cons h t, e => TupsAt.get (i := i) t e
theorem TupsAt.zip {H : Hp} : ∀ {bs : List Addr} {cs : List (List Int)}, TupsAt H bs cs → ∀ p ∈ bs.zip cs, H p.1 = some (.tup (p.2.map V.int))
  | _, _, .nil, p, h => by simp at h
  | _, _, .cons h t, p, hp => by
    rw [List.zip_cons_cons] at hp
    rcases List.mem_cons.mp hp with rfl | hp
    · exact h
    · exact TupsAt.zip t p hp
theorem TupsAt.of_zip {H : Hp} : ∀ {zs : List (Addr × List Int)}, (∀ p ∈ zs, H p.1 = some (.tup (p.2.map V.int))) → TupsAt H (zs.map (·.1)) (zs.map (·.2))
  | [], _ => .nil
  | z :: zs, h => .cons (h z List.mem_cons_self) (TupsAt.of_zip fun p hp => h p (List.mem_cons_of_mem _ hp))
/-- shorter ones first, then rising -/
def ltC (a b : List Int) : Bool := ltKT ((a.length : Int), a) ((b.length : Int), b)
/-- what the key makes of a clause -/
def relLen (x : V) (H : Hp) (Q : VK) : Prop := ∃ c l, x = .ref c ∧ H c = some (.tup l) ∧ ∀ t, H t = none → Q (.ref t) (upd H t (.tup [.int (l.length : Int), .ref c]))
theorem go_cls {K : PySem.W.Frag} {rel : V → Hp → VK → Prop} {H : Hp} {Q : VK} {bs : List Addr} {cs : List (List Int)} (G : Hp → Prop) (g0 : G H) (gs : ∀ H1 H2, G H1 → Same H1 H2 → G H2)
    (hrel : ∀ x H Q, G H → relLen x H Q → rel x H Q) (T : TupsAt H bs cs)
    (q : ∀ (zs : List (Addr × List Int)) (H' : Hp) (p : Addr), zs.Perm (bs.zip cs) → zs.Pairwise (fun a b => ltC b.2 a.2 = false) → Same H H' → G H' → TupsAt H' (zs.map (·.1)) (zs.map (·.2)) → H' p = none → Q (.ref p) (upd H' p (.lst (zs.map fun z => V.ref z.1)))) :
    SortGo K rel (bs.map V.ref) H Q := by
  have hlen := T.len
  refine ⟨fun kv H' => Same H H' ∧ G H' ∧ ∃ ts : List Addr, kv = ts.map V.ref ∧ ∀ (i : Nat) (t b : Addr) (c : List Int), ts[i]? = some t → bs[i]? = some b → cs[i]? = some c → H' t = some (.tup [.int (c.length : Int), .ref b]), ⟨Same.refl H, g0, [], rfl, fun i t b c h => by simp at h⟩, ?_, ?_⟩
  · rintro i v kv H' hi hl ⟨sm, g, ts, rfl, hts⟩
    rw [List.getElem?_map] at hi
    cases e : bs[i]? with
    | none => rw [e] at hi; cases hi
    | some b =>
      rw [e] at hi
      cases hi
      obtain ⟨c, hc, hb⟩ := T.get e
      refine hrel _ _ _ g ⟨b, _, rfl, sm _ _ hb, fun t ht => ?_⟩
      have s2 : Same H' (upd H' t (.tup [.int ((c.map V.int).length : Int), .ref b])) := Same.new ht
      refine ⟨Same.trans sm s2, gs _ _ g s2, ts ++ [t], by rw [List.map_append]; rfl, fun j t' b' c' h1 h2 h3 => ?_⟩
      rw [List.length_map] at hl
      by_cases hj : j < ts.length
      · rw [List.getElem?_append_left hj] at h1
        exact s2 _ _ (hts j t' b' c' h1 h2 h3)
      · have hj' : j = ts.length := by
          have := (List.getElem?_eq_some_iff.mp h1).1
          rw [List.length_append, List.length_singleton] at this
          omega
        subst hj'
        rw [List.getElem?_append_right (Nat.le_refl _), Nat.sub_self] at h1
        cases h1
        rw [hl, e] at h2
        cases h2
        rw [hl, hc] at h3
        cases h3
        rw [upd_same, List.length_map]
  · rintro kv H' ⟨sm, g, ts, rfl, hts⟩ hl
    rw [List.length_map, List.length_map] at hl
    have T' := TupsAt.same sm T
    refine .inr ⟨cs.map fun c => ((c.length : Int), c), ?_, fun zs hp ho p hn => ?_⟩
    · -- the keys stand
      have : ∀ (ts bs : List Addr) (cs : List (List Int)), ts.length = bs.length → bs.length = cs.length → (∀ (i : Nat) (t b : Addr) (c : List Int), ts[i]? = some t → bs[i]? = some b → cs[i]? = some c → H' t = some (.tup [.int (c.length : Int), .ref b])) → TupsAt H' bs cs → Paired (KeyT K H') (ts.map V.ref) (cs.map fun c => ((c.length : Int), c)) := by
        intro ts
        induction ts with
        | nil =>
          intro bs cs h1 h2 _ _
          cases bs with
          | nil =>
            cases cs with
            | nil => exact .nil
            | cons c cs => simp at h2
          | cons b bs => simp at h1
        | cons t ts ih =>
          intro bs cs h1 h2 h3 h4
          cases h4 with
          | nil => simp at h1
          | cons hb ht =>
            refine .cons ⟨t, _, rfl, SqT.of (h3 0 _ _ _ rfl rfl rfl), SqT.of hb⟩ (ih _ _ (by simpa using h1) (by simpa using h2) (fun i t' b' c' a1 a2 a3 => h3 (i + 1) t' b' c' a1 a2 a3) ht)
      exact this ts bs cs hl hlen hts T'
    · have ez : (cs.map fun c => ((c.length : Int), c)).zip (bs.map V.ref) = (bs.zip cs).map fun z => (((z.2.length : Int), z.2), V.ref z.1) := by
        have : ∀ (bs : List Addr) (cs : List (List Int)), (cs.map fun c => ((c.length : Int), c)).zip (bs.map V.ref) = (bs.zip cs).map fun z => (((z.2.length : Int), z.2), V.ref z.1) := by
          intro bs
          induction bs with
          | nil => intro cs; cases cs <;> rfl
          | cons b bs ih =>
            intro cs
            cases cs with
            | nil => rfl
            | cons c cs =>
              rw [List.map_cons, List.map_cons, List.zip_cons_cons, List.zip_cons_cons, List.map_cons, ih]
        exact this bs cs
      rw [ez] at hp
      let f : (Int × List Int) × V → Addr × List Int := fun z => (match z.2 with | .ref a => a | _ => 0, z.1.2)
      have ef : zs.map (fun z => ((((f z).2.length : Int), (f z).2), V.ref (f z).1)) = zs := by
        have : ∀ l : List ((Int × List Int) × V), (∀ z ∈ l, ∃ y : Addr × List Int, z = (((y.2.length : Int), y.2), V.ref y.1)) → l.map (fun z => ((((f z).2.length : Int), (f z).2), V.ref (f z).1)) = l := by
          intro l
          induction l with
          | nil => intro _; rfl
          | cons a r ih =>
            intro h
            obtain ⟨y, rfl⟩ := h a List.mem_cons_self
            rw [List.map_cons, ih fun z hz => h z (List.mem_cons_of_mem _ hz)]
        exact this zs fun z hz => by
          obtain ⟨y, _, e⟩ := List.mem_map.mp (hp.mem_iff.mp hz)
          exact ⟨y, e.symm⟩
      have pk : (zs.map f).Perm (bs.zip cs) := by
        have q1 := hp.map f
        rw [List.map_map] at q1
        have e2 : (bs.zip cs).map (f ∘ fun z => (((z.2.length : Int), z.2), V.ref z.1)) = bs.zip cs := by
          have : (f ∘ fun z : Addr × List Int => (((z.2.length : Int), z.2), V.ref z.1)) = id := by funext z; rfl
          rw [this, List.map_id]
        rw [e2] at q1
        exact q1
      have po : (zs.map f).Pairwise fun a b => ltC b.2 a.2 = false := by
        rw [← ef] at ho
        rw [List.pairwise_map] at ho ⊢
        exact ho
      have tz : TupsAt H' ((zs.map f).map (·.1)) ((zs.map f).map (·.2)) := TupsAt.of_zip fun y hy => TupsAt.zip T' y (pk.mem_iff.mp hy)
      have q2 := q (zs.map f) H' p pk po sm g tz hn
      have e3 : (zs.map f).map (fun z => V.ref z.1) = zs.map (·.2) := by
        conv => rhs; rw [← ef]
        rw [List.map_map, List.map_map]
        rfl
      rw [e3] at q2
      exact q2
end Toy
namespace Toy
open PySem L2
/-! ### dicts by their keys -/
section
variable {κ α : Type} [DecidableEq κ] [DecidableEq α]
theorem valV_none {kvs : List (κ × V)} {k : κ} : valV kvs k = none ↔ k ∉ kvs.map (·.1) := by
  constructor
  · exact valV_not
  · intro h
    cases e : valV kvs k with
    | none => rfl
    | some v => exact absurd (valV_in e) h
/-- once more, at the end, if it isn't there -/
def addU (ks : List α) (n : α) : List α := if n ∈ ks then ks else ks ++ [n]
theorem keys_put {f : α → κ} (inj : ∀ a b, f a = f b → a = b) {kvs : List (κ × V)} {ks : List α} (h : kvs.map (·.1) = ks.map f) (n : α) (v : V) : (putK kvs (f n) v).map (·.1) = (addU ks n).map f := by
  unfold addU
  by_cases hn : n ∈ ks
  · rw [if_pos hn]
    have hm : f n ∈ kvs.map (·.1) := by rw [h]; exact List.mem_map.mpr ⟨n, hn, rfl⟩
    have ha : (kvs.any fun kv => decide (kv.1 = f n)) = true := by
      rw [List.any_eq_true]
      obtain ⟨p, hp, e⟩ := List.mem_map.mp hm
      exact ⟨p, hp, decide_eq_true e⟩
    unfold putK
    rw [if_pos ha, ← h, List.map_map]
    refine List.map_congr_left fun p _ => ?_
    show (if p.1 = f n then (p.1, v) else p).1 = p.1
    split <;> rfl
  · rw [if_neg hn]
    have hv : valV kvs (f n) = none := valV_none.mpr fun z => by
      rw [h] at z
      obtain ⟨m, hm, e⟩ := List.mem_map.mp z
      rw [inj _ _ e] at hm
      exact hn hm
    rw [putK_new v hv, List.map_append, h, List.map_append]
    rfl
theorem nd_add {ks : List α} (h : ks.Nodup) (n : α) : (addU ks n).Nodup := by
  unfold addU
  split
  · exact h
  · rename_i hn
    rw [List.nodup_append]
    exact ⟨h, by simp, fun a ha b hb => by rw [List.mem_singleton.mp hb]; exact fun e => hn (e ▸ ha)⟩
theorem mem_add {ks : List α} (n z : α) : z ∈ addU ks n ↔ z ∈ ks ∨ z = n := by
  unfold addU
  split
  · rename_i hn
    exact ⟨.inl, fun h => h.elim id fun e => e ▸ hn⟩
  · simp
theorem len_add {ks : List α} (n : α) : (addU ks n).length ≤ ks.length + 1 := by
  unfold addU
  split
  · omega
  · simp
theorem val_keys {f : α → κ} (inj : ∀ a b, f a = f b → a = b) {kvs : List (κ × V)} {ks : List α} (h : kvs.map (·.1) = ks.map f) (n : α) : (valV kvs (f n)).isSome = decide (n ∈ ks) := by
  by_cases hn : n ∈ ks
  · rw [decide_eq_true hn]
    cases e : valV kvs (f n) with
    | some v => rfl
    | none => exact absurd (by rw [h]; exact List.mem_map.mpr ⟨n, hn, rfl⟩) (valV_none.mp e)
  · rw [decide_eq_false hn, valV_none.mpr fun z => by
      rw [h] at z
      obtain ⟨m, hm, e⟩ := List.mem_map.mp z
      rw [inj _ _ e] at hm
      exact hn hm]
    rfl
end
theorem inl_inj (a b : Int) (h : (Sum.inl a : Key) = Sum.inl b) : a = b := Sum.inl.inj h
/-- a tuple of ints as a key -/
def tkey (c : List Int) : List Key := c.map Sum.inl
theorem tkey_inj (a b : List Int) (h : tkey a = tkey b) : a = b := (List.map_inj_right (fun x y h => Sum.inl.inj h)).mp h
theorem tkey_kV (c : List Int) : (tkey c).map kV = c.map V.int := by
  unfold tkey
  rw [List.map_map]
  rfl
end Toy
namespace Toy
open PySem L2
theorem e_sorted {r : V → Hp → VK → Prop} {t : TA} {σ : St} {H : Hp} {Q : VK} : tSorted r t σ H Q = t σ H fun vs H1 => ∃ x, vs = [x] ∧ r x H1 Q := rfl
end Toy
namespace Toy
open PySem L2
/-! ### the clauses of a problem -/
theorem ltC_irrefl (a : List Int) : ltC a a = false := by
  unfold ltC ltKT
  rw [if_pos rfl]
  exact lex_irrefl a
theorem ltC_total {a b : List Int} (h1 : ltC a b = false) (h2 : ltC b a = false) : a = b := by
  unfold ltC ltKT at h1 h2
  by_cases e : (a.length : Int) = (b.length : Int)
  · have h1 : HT.lexLt a b = false := by rw [if_pos e] at h1; exact h1
    have h2 : HT.lexLt b a = false := by rw [if_pos e.symm] at h2; exact h2
    exact lex_total a b h1 h2
  · rw [if_neg e] at h1
    rw [if_neg (Ne.symm e)] at h2
    have d1 := of_decide_eq_false h1
    have d2 := of_decide_eq_false h2
    omega
theorem ltC_asym {a b : List Int} (h : ltC a b = true) : ltC b a = false := swo_KT.asym _ _ h
theorem ltC_trans {a b c : List Int} (h1 : ltC a b = true) (h2 : ltC b c = true) : ltC a c = true := swo_KT.ltle h1 (swo_KT.asym _ _ h2)
/-- shorter ones first, rising: the unlike clauses of the rows -/
structure IsDue (rows cs : List (List Int)) : Prop where
  inc : cs.Pairwise fun a b => ltC a b = true
  mem : ∀ c, c ∈ cs ↔ ∃ row ∈ rows, IsCl row c
theorem ltC_ext : ∀ {c d : List (List Int)}, c.Pairwise (fun a b => ltC a b = true) → d.Pairwise (fun a b => ltC a b = true) → (∀ x, x ∈ c ↔ x ∈ d) → c = d
  | [], [], _, _, _ => rfl
  | [], y :: d, _, _, h => absurd ((h y).mpr List.mem_cons_self) (by simp)
  | x :: c, [], _, _, h => absurd ((h x).mp List.mem_cons_self) (by simp)
  | x :: c, y :: d, hc, hd, h => by
    have c1 := List.pairwise_cons.mp hc
    have d1 := List.pairwise_cons.mp hd
    have irr : ∀ z : List Int, ltC z z = true → False := fun z q => by rw [ltC_irrefl] at q; cases q
    have e : x = y := by
      rcases List.mem_cons.mp ((h x).mp List.mem_cons_self) with e | hx
      · exact e
      · rcases List.mem_cons.mp ((h y).mpr List.mem_cons_self) with e | hy
        · exact e.symm
        · exact (irr _ (ltC_trans (d1.1 x hx) (c1.1 y hy))).elim
    subst e
    have nx : x ∉ c := fun z => irr _ (c1.1 x z)
    have ny : x ∉ d := fun z => irr _ (d1.1 x z)
    rw [ltC_ext c1.2 d1.2 fun z => ⟨fun hz => (List.mem_cons.mp ((h z).mp (List.mem_cons_of_mem _ hz))).resolve_left fun e => nx (e ▸ hz), fun hz => (List.mem_cons.mp ((h z).mpr (List.mem_cons_of_mem _ hz))).resolve_left fun e => ny (e ▸ hz)⟩]
theorem IsDue.ext {r r' c c' : List (List Int)} (h : IsDue r c) (h' : IsDue r' c') (e : ∀ x, (∃ row ∈ r, IsCl row x) ↔ ∃ row ∈ r', IsCl row x) : c = c' :=
  ltC_ext h.inc h'.inc fun x => (h.mem x).trans ((e x).trans (h'.mem x).symm)
theorem inc_of {cs out : List (List Int)} (p : out.Perm cs) (nd : cs.Nodup) (h : out.Pairwise fun a b => ltC b a = false) : out.Pairwise fun a b => ltC a b = true := by
  have nd' : out.Nodup := p.nodup_iff.mpr nd
  refine (h.and nd').imp fun {a b} h => ?_
  cases e : ltC a b with
  | true => rfl
  | false => exact absurd (ltC_total e h.1) h.2
/-- the tuples that are the keys of a dict -/
theorem tups_of_keys {H : Hp} : ∀ {kvs : List (List Key × V)} {bs : List Addr} {cs : List (List Int)}, IsKeys H kvs bs → kvs.map (·.1) = cs.map tkey → TupsAt H bs cs
  | _, _, [], .nil, _ => .nil
  | _, _, _ :: _, .nil, h => by cases h
  | _, _, [], .cons _ _, h => by cases h
  | _, _, c :: cs, .cons hb t, h => by
    rw [List.map_cons, List.map_cons] at h
    have h1 := (List.cons.inj h).1
    have h2 := (List.cons.inj h).2
    refine .cons ?_ (tups_of_keys t h2)
    rw [h1, tkey_kV] at hb
    exact hb
end Toy
namespace Toy
open PySem L2
/-! ### clauses as data -/
def dTup (c : List Int) : PyData := .tuple (c.map PyData.int)
def dCls (cs : List (List Int)) : PyData := .tuple (cs.map dTup)
theorem dpAll_cls {K : PySem.W.Frag} {H : Hp} : ∀ {bs : List Addr} {cs : List (List Int)}, TupsAt H bs cs → DpAll K H (bs.map V.ref) (cs.map dTup)
  | _, _, .nil => .nil
  | _, _, .cons h t => .cons (.tup (SqT.of h) (dpAll_ints _)) (dpAll_cls t)
theorem can_cls : ∀ cs : List (List Int), PyData.canLayAll0 (cs.map dTup) = true
  | [] => by simp [PyData.canLayAll0]
  | c :: cs => by simp [PyData.canLayAll0, dTup, PyData.canLay0, can_intsD, can_cls cs]
theorem dep_cls : ∀ cs : List (List Int), PyData.depthAll (cs.map dTup) ≤ 2
  | [] => by simp [PyData.depthAll]
  | c :: cs => by
    have h1 := dep_cls cs
    have h2 := dep_intsD c
    simp only [List.map_cons, PyData.depthAll, dTup, PyData.depth]
    omega
theorem shaped_cls (cs : List (List Int)) : SeqAt.shaped (dCls cs) = true := by
  have h := dep_cls cs
  unfold SeqAt.shaped dCls
  rw [Bool.and_eq_true]
  refine ⟨by simp [PyData.canLay0, can_cls], decide_eq_true ?_⟩
  simp only [PyData.depth]
  omega
theorem eqvAll_cls : ∀ a b : List (List Int), PyData.eqvAll (a.map dTup) (b.map dTup) = decide (a = b)
  | [], [] => by simp [PyData.eqvAll]
  | [], y :: b => by simp [PyData.eqvAll]
  | x :: a, [] => by simp [PyData.eqvAll]
  | x :: a, y :: b => by
    simp only [List.map_cons, PyData.eqvAll, dTup, PyData.eqv, eqvAll_ints]
    rw [eqvAll_cls a b]
    by_cases h1 : x = y <;> by_cases h2 : a = b <;> simp [h1, h2]
theorem eqv_cls (a b : List (List Int)) : PyData.eqv (dCls a) (dCls b) = decide (a = b) := by
  unfold dCls
  simp only [PyData.eqv]
  exact eqvAll_cls a b
end Toy
namespace Toy
open PySem L2
theorem e_dsetd {td ty tx : TE} {σ : St} {H : Hp} {Q : VK} : tDSetd td ty tx σ H Q = td σ H fun x H1 => ∃ a, x = .ref a ∧ IsD H1 a ∧ ty σ H1 fun y H2 => tx σ H2 fun z H3 => ∃ (kvs : List (Key × V)) (k : Key), H3 a = some (.dK kvs) ∧ y = kV k ∧ kvs.length < sizeLine ∧
  (∀ v, valV kvs k = some v → Q v H3) ∧ (valV kvs k = none → Q z (upd H3 a (.dK (putK kvs k z)))) := rfl
/-- the draw of one of two -/
theorem at_two {a b : V} {r : Int} (h0 : 0 ≤ r) (h1 : r < 2) : (r = 0 ∧ atI [a, b] r = some a) ∨ (r = 1 ∧ atI [a, b] r = some b) := by
  have : r = 0 ∨ r = 1 := by omega
  rcases this with rfl | rfl
  · exact .inl ⟨rfl, rfl⟩
  · exact .inr ⟨rfl, rfl⟩
end Toy

local macro_rules | `(tactic| walk_at "rd") => `(tactic| try simp only [Toy.e_seq, Toy.e_asg, Toy.e_asgS, Toy.e_ret, Toy.e_ifS, Toy.e_c, Toy.e_op, Toy.e_test, Toy.e_rI0, Toy.e_rI, Toy.e_var0, Toy.e_varS, Toy.e_bl, Toy.e_nil, Toy.e_cons, Toy.e_call, Toy.e_cb, Toy.e_next, Toy.e_bl2, Toy.e_cxK, Toy.e_ii, Toy.e_lst, Toy.e_tup, Toy.e_and, Toy.e_chain, Toy.e_tif, Toy.e_not, Toy.e_tb, Toy.e_drop, Toy.e_i1, Toy.e_or, Toy.e_andT, Toy.e_din, Toy.e_dnotin, Toy.e_un, Toy.e_rU, Toy.e_dput, Toy.e_x1, Toy.e_notV, Toy.e_orV, Toy.e_sorted, Toy.e_fld, Toy.e_gName, Toy.e_bm, Toy.e_dsetd, Toy.e_par, Toy.e_vw, Toy.e_dnewK, List.set_cons_zero, List.set_cons_succ, List.append_nil, List.nil_append, List.cons_append])
-- part: IX
namespace Toy
open PySem L2
def topS (i : Nat) : Stmt := PySem.Challenge.pw_turnless_k05_answers_of_few_truths.main.body.getD i (.Pass ⟨0, 0, 0, 0⟩)
abbrev s_is_number : Stmt := topS 18
abbrev s_is_list : Stmt := topS 19
abbrev s_is_letter : Stmt := topS 20
abbrev s_clause_of : Stmt := topS 21
abbrev s_is_worths : Stmt := topS 22
abbrev s_letter_holds : Stmt := topS 23
abbrev s_clause_holds : Stmt := topS 24
abbrev s__unlike_clauses : Stmt := topS 29
abbrev s__by_length : Stmt := topS 30
abbrev s_is_answer : Stmt := topS 31
abbrev s_answers : Stmt := topS 32
abbrev s__longer_starts : Stmt := topS 33
abbrev s__some_way : Stmt := topS 34
abbrev s__choices : Stmt := topS 35
abbrev s__once_so : Stmt := topS 36
abbrev s__without : Stmt := topS 37
abbrev s__law_mixed : Stmt := topS 39
abbrev s__law_next : Stmt := topS 40
abbrev s__law_clause : Stmt := topS 41
abbrev s__law_holds : Stmt := topS 42
abbrev s__law_word : Stmt := topS 43
abbrev s__law_refused : Stmt := topS 44
abbrev s__law_fixed : Stmt := topS 45
abbrev s__law_due : Stmt := topS 46
abbrev s_law : Stmt := topS 47
/-- a def of the top -/
structure Df (K : PySem.W.Frag) (mg : Str → Option Value) (x : Str) (st : Stmt) (ps : List Str) (f : Addr) (fd : FuncData) : Prop where
  F : Fun K x x st f fd
  g : mg x = some (.ref f)
  b : Binds K fd ps []
/-- the built-in names -/
structure Bl (mg : Str → Option Value) : Prop where
  max : mg "max" = none
  min : mg "min" = none
  len : mg "len" = none
  range : mg "range" = none
  type : mg "type" = none
  int : mg "int" = none
  list : mg "list" = none
  tuple : mg "tuple" = none
  dict : mg "dict" = none
  bool : mg "bool" = none
  abs : mg "abs" = none
  sorted : mg "sorted" = none
  enumerate : mg "enumerate" = none
  isinstance : mg "isinstance" = none
  repr : mg "repr" = none
  str : mg "str" = none
  all : mg "all" = none
  any : mg "any" = none
  zip : mg "zip" = none
  reversed : mg "reversed" = none
  sum : mg "sum" = none
  set : mg "set" = none
  ValueError : mg "ValueError" = none
end Toy

-- part: P1q
namespace Toy
open PySem L2
section
variable {P : Program} {w : World} {K : PySem.W.Frag} {mg : Str → Option Value} {base : Heap}
abbrev sIsNum : Stmt := s_is_number
theorem scIsNum : FnScope ["thing"] ["thing"] (defScope sIsNum) := ⟨rfl, rfl, rfl, by decide +kernel, rfl, by decide +kernel, by decide +kernel⟩
def spIsNum (K : PySem.W.Frag) : Sp := fun vs H Q _ => ∃ x T, vs = [x] ∧ TyB K H x T ∧ Q (.bl (decide (T = "int"))) H
theorem ok_isNum {f : Addr} {fd : FuncData} (F : Fun K "is_number" "is_number" sIsNum f fd) (B : Bl mg) : FnOk P w K mg base CX0 1 f fd ["thing"] (spIsNum K) := by
  refine F.ok scIsNum (fun vs H Q E h => ?_) (fun cdv A outer s H vs Q E hr h => ?_)
  · obtain ⟨x, T, rfl, _⟩ := h
    rfl
  · obtain ⟨x, T, rfl, ty, q⟩ := h
    refine ⟨_, pss_one (ps_ret (pe_cmpR op_eqTy (pe_callTy call_type1 (by rfl) B.type (by decide +kernel) (pa_cons (pv 0) pa_nil)) (pe_bltn (v := .ty "int") (by rfl) B.int (by decide +kernel) rfl) (nomark _))), ?_⟩
    show tRet _ _ [some x] H
    walk_at "rd"
    exact ⟨x, T, rfl, ty, _, _, rfl, rfl, Kn.ty ty, .inl rfl, q⟩
abbrev sIsLet : Stmt := s_is_letter
theorem scIsLet : FnScope ["thing", "many"] ["thing", "many"] (defScope sIsLet) := ⟨rfl, rfl, rfl, by decide +kernel, rfl, by decide +kernel, by decide +kernel⟩
/-- whether x is a letter of t truths -/
def letB (x : V) (t : Int) : Bool := match x with
  | .int i => decide (1 ≤ absI i) && decide (absI i ≤ t)
  | _ => false
def spIsLet (K : PySem.W.Frag) : Sp := fun vs H Q _ => ∃ x T t, vs = [x, .int t] ∧ TyB K H x T ∧ Q (.bl (letB x t)) H
theorem ok_isLet {f fN : Addr} {fd fdN : FuncData} (F : Fun K "is_letter" "is_letter" sIsLet f fd) (B : Bl mg) (N : Df K mg "is_number" sIsNum ["thing"] fN fdN) : FnOk P w K mg base CX0 2 f fd ["thing", "many"] (spIsLet K) := by
  have GN : FnOk P w K mg base CX0 1 fN fdN ["thing"] (spIsNum K) := ok_isNum N.F B
  refine F.ok scIsLet (fun vs H Q E h => ?_) (fun cdv A outer s H vs Q E hr h => ?_)
  · obtain ⟨x, T, t, rfl, _⟩ := h
    rfl
  · obtain ⟨x, T, t, rfl, ty, q⟩ := h
    refine ⟨_, pss_one (ps_ret (pe_and (pe_call GN hr rfl N.g N.F.kp N.b .nil pass0 (pa_cons (pv 0) pa_nil)) (pe_one (pe_chain op_le op_le pe_int (pe_callB call_abs (by rfl) B.abs (by decide +kernel) (pa_cons (pv 0) pa_nil)) (pv 1))))), ?_⟩
    show tRet _ _ [some x, some (.int t)] H
    walk_at "rd"
    refine ⟨x, T, rfl, ty, ?_⟩
    walk_at "rd"
    cases ty with
    | int i =>
      refine iteT ?_
      walk_at "rd"
      by_cases h1 : 1 ≤ absI i
      · have e : decide (1 ≤ if i < 0 then -i else i) = true := decide_eq_true h1
        rw [e]
        refine iteT ?_
        have q' := q
        unfold letB at q'
        simp only [h1, decide_true, Bool.true_and] at q'
        exact q'
      · have e : decide (1 ≤ if i < 0 then -i else i) = false := decide_eq_false h1
        rw [e]
        refine iteF ?_
        have q' := q
        unfold letB at q'
        simp only [h1, decide_false, Bool.false_and] at q'
        exact q'
    | _ => exact q
end
end Toy

-- part: L0q
namespace Toy
open PySem L2
abbrev sMixed : Stmt := s__law_mixed
theorem scMixed : FnScope ["cell", "k", "mix"] ["cell", "k"] (defScope sMixed) := ⟨rfl, rfl, rfl, by decide +kernel, rfl, by decide +kernel, by decide +kernel⟩
def spMixed : Sp := fun vs H Q _ => ∃ (c k : Int), vs = [.int c, .int k] ∧ 0 ≤ k ∧ k < 127 ∧ ∀ r : Int, 0 ≤ r → r < 2147483399 → Q (.int r) H
section
variable {P : Program} {w : World} {K : PySem.W.Frag} {mg : Str → Option Value} {base : Heap}
theorem ok_mixed {f : Addr} {fd : FuncData} (F : Fun K "_law_mixed" "_law_mixed" sMixed f fd) : FnOk P w K mg base CX0 1 f fd ["cell", "k"] spMixed := by
  refine F.ok scMixed (fun vs H Q E h => ?_) (fun cdv A outer s H vs Q E hr h => ?_)
  · obtain ⟨c, k, rfl, _⟩ := h
    rfl
  · obtain ⟨c, k, rfl, k0, k1, q⟩ := h
    refine ⟨_, pss_cons (ps_set (i := 2) scMixed.nd rfl (Or.inl rfl)
        (pe_op op_modN (pe_op op_pow (pe_op op_modN (pe_op op_mul (pe_op op_add (pe_op op_add (pe_op op_modN (pv 0) pe_int) (pe_op op_mul pe_int (pv 1))) pe_int) pe_int) pe_int) pe_int) pe_int))
      (pss_cons (ps_if (pt_cmpR op_lt (pv 0) (pe_op op_pow pe_int pe_int) (nomark _)) (pss_one (ps_ret (pv 2))) pss_nil)
      (pss_one (ps_ret (pe_op op_modN (pe_op op_add (pv 2) (pe_op op_modN (pe_op op_fdivW (pv 0) (pe_op op_pow pe_int pe_int)) (pe_op op_add pe_int (pe_op op_mul (pe_op op_add (pv 1) pe_int) pe_int)))) pe_int)))), ?_⟩
    show tSeq _ _ _ [some (.int c), some (.int k), none] H
    walk_at "rd"
    have m0 : ∀ a : Int, 0 ≤ a.fmod 2147483399 ∧ a.fmod 2147483399 < 2147483399 := fun a => by
      rw [Int.fmod_eq_emod_of_nonneg _ (by decide)]
      omega
    have m1 := m0 c
    have m2 := m0 ((c.fmod 2147483399 + 104729 * k + 11) * 48271)
    generalize c.fmod 2147483399 = x at *
    generalize ((x + 104729 * k + 11) * 48271).fmod 2147483399 = y at *
    have m3 := m0 (y ^ Int.toNat 5)
    refine ⟨by decide, .inl ⟨by decide, by decide⟩, .inl ⟨by omega, by omega⟩, by decide, ⟨by decide, by decide, by omega⟩, by decide, ⟨by decide, by decide, by decide⟩, ite2 (fun _ => q _ m3.1 m3.2) (fun _ => ?_)⟩
    have big : (1 : Int) + (k + 1) * 4014476939333036189094441199026045136645885247730 ≠ 0 := by omega
    refine ⟨⟨by decide, by decide, by decide⟩, wide_div (b := 60) (by decide) (by decide) (by decide) (by decide), .inl ⟨by omega, by omega⟩, big, by decide, q _ (m0 _).1 (m0 _).2⟩
abbrev sNext : Stmt := s__law_next
theorem scNext : FnScope ["draw", "size", "at", "many", "cell"] ["draw", "size"] (defScope sNext) := ⟨rfl, rfl, rfl, by decide +kernel, rfl, by decide +kernel, by decide +kernel⟩
def spNext (K : PySem.W.Frag) : Sp := fun vs H Q _ => ∃ (d : Addr) (z : Int) (sc : Addr) (ns : List Int), vs = [.ref d, .int z] ∧ 0 < z ∧ DrA K sc ns H d ∧ ∀ (r : Int) (H' : Hp), 0 ≤ r → r < z → Ex d H H' → DrA K sc ns H' d → Q (.int r) H'
theorem ok_next {f fM : Addr} {fd fdM : FuncData} (F : Fun K "_law_next" "_law_next" sNext f fd) (B : Bl mg) (M : Df K mg "_law_mixed" sMixed ["cell", "k"] fM fdM) : FnOk P w K mg base CX0 2 f fd ["draw", "size"] (spNext K) := by
  have GM : FnOk P w K mg base CX0 1 fM fdM ["cell", "k"] spMixed := ok_mixed M.F
  refine F.ok scNext (fun vs H Q E h => ?_) (fun cdv A outer s H vs Q E hr h => ?_)
  · obtain ⟨c, k, sc, ns, rfl, _⟩ := h
    rfl
  · obtain ⟨d, z, sc, ns, rfl, z0, ⟨n, D⟩, q⟩ := h
    have hu := hu_of hr
    refine ⟨_, pss_cons (ps_set (i := 2) scNext.nd rfl (Or.inl rfl) (pe_ix ix_list (pv 0) pe_int (fun _ _ => rfl)))
      (pss_cons (ps_asg (pe_op op_add (pv 2) pe_int) (pg_sub (pv 0) pe_int set_list))
      (pss_cons (ps_set (i := 3) scNext.nd rfl (Or.inl rfl) (pe_callB (call_max2 rfl) (by rfl) B.max (by decide +kernel) (pa_cons pe_int (pa_cons (pe_callB call_len_seq (by rfl) B.len PySem.boot_len (pa_cons (pe_ix ix_list (pv 0) pe_int (fun _ _ => rfl)) pa_nil)) pa_nil))))
      (pss_cons (ps_set (i := 4) scNext.nd rfl (Or.inl rfl) pe_int)
      (pss_cons (ps_if (pt_cmpR (op_neD hr.units) (pe_ix ix_list (pv 0) pe_int (fun _ _ => rfl)) (pe_lst pa_nil) (nomark _)) (pss_one (ps_set (i := 4) scNext.nd rfl (Or.inl rfl) (pe_ix ix_list (pe_ix ix_list (pv 0) pe_int (fun _ _ => rfl)) (pe_op op_modN (pv 2) (pv 3)) (fun _ _ => rfl)))) pss_nil)
      (pss_one (ps_ret (pe_op op_modN (pe_op op_fdivN (pe_call GM hr rfl M.g M.F.kp M.b .nil pass0 (pa_cons (pv 4) (pa_cons (pe_op op_modN (pe_op op_fdivN (pv 2) (pv 3)) pe_int) pa_nil))) pe_int) (pv 1)))))))), ?_⟩
    show tSeq _ _ _ [some (.ref d), some (.int z), none, none, none] H
    walk_at "rd"
    refine p_ix (SqL.of D.dr) (i := 1) (v := .int n) rfl ?_
    walk_at "rd"
    refine p_set D.dr (j := 1) rfl ?_
    have D1 : Dr K (upd H d (.lst [.ref sc, .int (n + 1)])) d sc ns (n + 1) := ⟨upd_same, Dr.sqx D Ex.at, D.len, by have := D.pos; omega⟩
    refine p_ix (SqL.of D1.dr) (i := 0) (v := .ref sc) rfl ?_
    refine ⟨_, _, rfl, .inl D1.sq, ?_⟩
    walk_at "rd"
    refine p_ix (SqL.of D1.dr) (i := 0) (v := .ref sc) rfl ?_
    walk_at "rd"
    refine ⟨Nat.zero_le _, fun p hp => ?_⟩
    refine p_neD (.lst (Same.seq (Same.new hp) D1.sq) (dp_ints ns)) (.lst (SqL.of upd_same) .nil) (shaped_lints ns) (by decide) ?_
    walk_at "rd"
    rw [List.length_map]
    have D2 : Dr K (upd (upd H d (.lst [.ref sc, .int (n + 1)])) p (.lst [])) d sc ns (n + 1) := ⟨Same.new hp _ _ D1.dr, Same.seq (Same.new hp) D1.sq, D.len, D1.pos⟩
    have X2 : Ex d H (upd (upd H d (.lst [.ref sc, .int (n + 1)])) p (.lst [])) := Ex.trans Ex.at (Ex.same (Same.new hp))
    generalize upd (upd H d (.lst [.ref sc, .int (n + 1)])) p (.lst []) = H2 at *
    have hm : ∃ m : Int, (if (ns.length : Int) > 1 then (ns.length : Int) else 1) = m ∧ 0 < m ∧ m ≤ 63 ∧ (ns ≠ [] → m = ns.length) := by
      have l := D.len
      refine ⟨_, rfl, ?_⟩
      by_cases c : (ns.length : Int) > 1
      · rw [if_pos c]
        exact ⟨by omega, by omega, fun _ => rfl⟩
      · rw [if_neg c]
        refine ⟨by decide, by decide, fun e => ?_⟩
        have := List.length_pos_iff.mpr e
        omega
    obtain ⟨m, em, m0, m1, m2⟩ := hm
    rw [em]
    have n0 := D.pos
    have fin : ∀ c : Int, CDivN n m ∧ (127 : Int) ≠ 0 ∧ spMixed [V.int c, V.int ((n.fdiv m).fmod 127)] H2 (fun x H1 => rI CDivN (fun i j => V.int (i.fdiv j)) x (V.int 7) H1 fun x H1 => rI (fun x j => j ≠ 0) (fun i j => V.int (i.fmod j)) x (V.int z) H1 Q) E0 := by
      intro c
      refine ⟨⟨by omega, by omega⟩, by decide, c, _, rfl, ?_, ?_, fun r r0 r1 => ?_⟩
      · rw [Int.fmod_eq_emod_of_nonneg _ (by decide)]; omega
      · rw [Int.fmod_eq_emod_of_nonneg _ (by decide)]; omega
      · walk_at "rd"
        refine ⟨⟨by decide, by decide⟩, by omega, ?_⟩
        rw [Int.fmod_eq_emod_of_nonneg _ (by omega)]
        exact q _ _ (Int.emod_nonneg _ (by omega)) (Int.emod_lt_of_pos _ z0) X2 ⟨_, D2⟩
    refine ite2 (fun hc => ?_) (fun _ => fin 0)
    have hne : ns ≠ [] := fun e => by subst e; exact absurd hc (by decide)
    refine p_ix (SqL.of D2.dr) (i := 0) (v := .ref sc) rfl ?_
    refine ⟨by omega, ?_⟩
    obtain ⟨c, hc⟩ := at_ints (ns := ns) (i := n.fmod m) (by rw [Int.fmod_eq_emod_of_nonneg _ (by omega)]; exact Int.emod_nonneg _ (by omega)) (by rw [Int.fmod_eq_emod_of_nonneg _ (by omega), ← m2 hne]; exact Int.emod_lt_of_pos _ m0)
    exact p_ix D2.sq hc (fin c)
end
end Toy

-- part: TN1
namespace L2
open PySem PySem.Spec PySem.Calls PyProof.Rows
theorem slot_type_ne : Slot "type" (cmpInfo .NotEq).2.1 "object.__ne__" :=
  .of (owner := "object") (n := "__ne__") (by rw [typeLookup_type, builtinLookup_eq_fast]; kernel_rfl) (by decide +kernel) (by decide +kernel) (by decide +kernel)
    (by first | exact .inl (by decide +kernel) | exact .inr (by decide +kernel)) (by rw [isSubtype_type]; kernel_rfl)
theorem slot_type_ne_refl : Slot "type" (cmpInfo .NotEq).2.2 "object.__ne__" :=
  .of (owner := "object") (n := "__ne__") (by rw [typeLookup_type, builtinLookup_eq_fast]; kernel_rfl) (by decide +kernel) (by decide +kernel) (by decide +kernel)
    (by first | exact .inl (by decide +kernel) | exact .inr (by decide +kernel)) (by rw [isSubtype_type]; kernel_rfl)
theorem slot_type_eq1 : Slot "type" "__eq__" "object.__eq__" := TypeEq.slot_type_eq
section
variable {prog : Program} {w : World} {A : Around} {E : Value → Shared → Prop} {s : Shared}
theorem ne_same_entry {a : String} (ha : ∀ s' : Shared, s'.TypeIs (.type a) "type") {Q : Fin → Shared → Prop} (q : Q (.done (.ret (.bool false))) s) :
    wpAny (model prog w) A (Builtin.«object.__ne__» ⟨[.type a, .type a], []⟩) Q E s := by
  unfold Builtin.«object.__ne__»
  repeat (first
    | with_reducible refine wpAny_cRoomFor_byValue rfl ?_
    | (refine wpAny_bind (m := callSpecialIfBound? (.type a) (Str.ofString "__eq__") [.type a]) (wpAny_callSpecialIfBound?_slot (ha s) slot_type_eq1
        (call_gives slot_type_eq1 (ha s) F.entry_object_eq (F.args_object_eq_2 _ _) (TypeEq.object_eq_same rfl (by simp)) ?_)); try dsimp only [Made.post])
    | (refine wpAny_bind (m := truthy (.bool _)) (wpAny_truthy_bool ?_))
    | wp_step)
  exact q
theorem ne_other_entry {a b : String} (ha : ∀ s' : Shared, s'.TypeIs (.type a) "type") (hne : (Value.type a == Value.type b) = false) {Q : Fin → Shared → Prop} (q : Q (.done (.ret .notImplemented)) s) :
    wpAny (model prog w) A (Builtin.«object.__ne__» ⟨[.type a, .type b], []⟩) Q E s := by
  unfold Builtin.«object.__ne__»
  repeat (first
    | with_reducible refine wpAny_cRoomFor_byValue rfl ?_
    | (refine wpAny_bind (m := callSpecialIfBound? (.type a) (Str.ofString "__eq__") [.type b]) (wpAny_callSpecialIfBound?_slot (ha s) slot_type_eq1
        (call_gives slot_type_eq1 (ha s) F.entry_object_eq (F.args_object_eq_2 _ _) (TypeEq.object_eq_other rfl hne) ?_)); try dsimp only [Made.post])
    | wp_step)
  exact q
theorem ne_type_same {a : String} (ha : ∀ s' : Shared, s'.TypeIs (.type a) "type") {Q : Value → Shared → Prop} (q : Q (.bool false) s) : wpAny (model prog w) A (compareOp .NotEq (.type a) (.type a)) Q E s := by
  show wpAny _ A (richCompare .NotEq _ _) Q E s
  exact wpAny_richCompare_same (T := "type") (ha s) (ha s) slot_type_ne (wpAny_call_entry slot_type_ne (ha s) F.cmpEntry_ne (ne_same_entry ha ⟨_, rfl, (by intro e; cases e), q⟩) (F.cmpArgs_ne _ _))
theorem ne_type_other {a b : String} (ha : ∀ s' : Shared, s'.TypeIs (.type a) "type") (hb : ∀ s' : Shared, s'.TypeIs (.type b) "type") (hne : (Value.type a == Value.type b) = false) {Q : Value → Shared → Prop} (q : Q (.bool true) s) :
    wpAny (model prog w) A (compareOp .NotEq (.type a) (.type b)) Q E s := by
  have hne' : (Value.type b == Value.type a) = false := by
    rw [Bool.eq_false_iff] at hne ⊢
    intro e
    exact hne (by rw [beq_iff_eq] at e ⊢; exact e.symm)
  show wpAny _ A (richCompare .NotEq _ _) Q E s
  rcases hi : cmpInfo CmpOp.NotEq with ⟨sym, f, r⟩
  have h1 : Slot "type" f "object.__ne__" := by have := slot_type_ne; rw [hi] at this; exact this
  have h2 : Slot "type" r "object.__ne__" := by have := slot_type_ne_refl; rw [hi] at this; exact this
  simp only [richCompare, hi, (ha s).oneThing_none]
  try with_reducible refine wpAny_holding ?_
  refine wpAny_bind (wpAny_cRoomFor_byValue rfl ?_)
  refine wpAny_bind (wpAny_typeOf (ha s) (wpAny_bind (wpAny_typeOf (hb s) ?_)))
  simp only [bne_self_eq_false, Bool.false_eq_true, if_false, pure_bind, Bool.not_false, if_true]
  refine wpAny_bind (m := tryCompare (.type a) _ (.type b)) (wpAny_tryCompare_declines (ha s) h1 (wpAny_call_entry h1 (ha s) F.cmpEntry_ne (ne_other_entry ha hne ⟨_, rfl, rfl, ?_⟩) (F.cmpArgs_ne _ _)))
  refine wpAny_bind (m := tryCompare (.type b) _ (.type a)) (wpAny_tryCompare_declines (hb s) h2 (wpAny_call_entry h2 (hb s) F.cmpEntry_ne (ne_other_entry hb hne' ⟨_, rfl, rfl, ?_⟩) (F.cmpArgs_ne _ _)))
  have hk : isSame (.type a) (.type b) = pure false := by rw [isSame_plain rfl, hne]
  exact wpAny_bind (wpAny_rule (wpAny_bind (wpAny_of_eq hk (wpAny_pure q))))
end
section
variable {X : Cx}
theorem op_neT : OpR X (compareOp .NotEq) (fun x y H Q => ∃ a b, x = .ty a ∧ y = .ty b ∧ Kn a ∧ Kn b ∧ Q (.bl (!decide (a = b))) H) := by
  intro pins s σ H x y v u Q I rx ry h
  obtain ⟨a, b, rfl, rfl, ka, kb, q⟩ := h
  cases rx
  cases ry
  by_cases e : a = b
  · subst e
    rw [decide_eq_true rfl] at q
    exact ne_type_same (fun s' => ka.is s') ⟨.bl false, H, I, rfl, q⟩
  · rw [decide_eq_false e] at q
    exact ne_type_other (fun s' => ka.is s') (fun s' => kb.is s') (by rw [ty_beq]; exact decide_eq_false e) ⟨.bl true, H, I, rfl, q⟩
end
end L2

-- part: SC1
namespace L2
open PySem PySem.Spec PySem.Calls PyProof.Rows
/-- one turn of {a number for a target in ..}: what was a turn's state W goes on to the next, the number in the set at D -/
def SetTurn (w : World) (g : TG) (te : TE) (vs : List Nat) (σ : St) (D : Addr) (Nx : Hp → Prop) (x : V) (H : Hp) : Prop :=
  g x (wipe σ vs) H fun τ H2 => wipe τ vs = wipe σ vs ∧ te τ H2 fun y H3 => ∃ (k : Int) (S : Int → Bool) (n : Nat), y = .int k ∧ H3 D = some (SetO w D S n) ∧ n + 1 < scanBound ∧ Nx (upd H3 D (SetO w D (fun j => S j || decide (j = k)) (if S k = true then n else n + 1)))
/-- the reading of {number for target in it} -/
def tSetI (w : World) (wi : TI) (g : TG) (te : TE) (vs : List Nat) : TE := fun σ H Q => wi σ H fun J H1 => ∀ D, H1 D = none →
  ∃ W : Nat → Nat → Hp → Prop, (∃ m, W 0 m (upd H1 D (SetO w D (fun _ => false) 0))) ∧
    ∀ i m Hi, W i m Hi → (J.stop i Hi ∧ Q (.ref D) Hi) ∨ (J.go i Hi ∧ ∃ Nx : Hp → Prop, (∀ H', Nx H' → ∃ m', m' < m ∧ W (i + 1) m' H') ∧ ∀ x H', J.yld i Hi x H' → SetTurn w g te vs σ D Nx x H')
section
variable {X : Cx}
theorem pe_setI {el tg src : Expr} {sc : Scope} {own : List (Str × Nat)} {at_ : Pos} {wi : TI} {g : TG} {te : TE} (calm : X.calm = true) (nd : X.N.Nodup) (pi : PI X tg src wi) (blk : BlkOk X.N X.env.scope sc own)
    (hg : ∀ (s : Shared) (H : Hp) (C : Addr) (cl : List (Str × Addr)) (fp : List Addr), PG (X.blk s H sc (compEnvC sc cl C X.env) fp) tg g)
    (he : ∀ (s : Shared) (H : Hp) (C : Addr) (cl : List (Str × Addr)) (fp : List Addr), PE (X.blk s H sc (compEnvC sc cl C X.env) fp) el te) (plain : ∀ x, foldedSetIterable src X.env x = pure x := by intro _; rfl) :
    PE X (.SetComp el [⟨tg, src, [], 0⟩] sc at_) (tSetI X.w wi g te (own.map (·.2))) := by
  refine ⟨fun pins s σ H Q I0 rd => ?_⟩
  rw [PpSet.eval_SetComp]
  have cells : ∀ y ∈ sc.names, y.2 = .free → ∃ c, X.env.cells.lookup y.1 = some c := fun y hy e => (blk.free y hy e).elim (fun k => I0.ok.has _ (.inl k)) fun k => I0.ok.has _ (.inr k)
  refine wpAny_comprehension_free (use := none) rfl plain (closure_ok cells) blk.kind (fun y hy e => by rw [blk.uniq y hy, e]) (thn (pi.run pins s σ H _ I0 rd) fun _ sa hx => thn hx fun _ sb ⟨it, fp, tn, J, Ha, ev, Ia, T, sta, fa, rdA⟩ => ?_)
  cases ev
  refine PpSet.newSet_ok (newEnv_comp ?_)
  obtain ⟨D, eD⟩ : ∃ D, sb.heap.objs.size = D := ⟨_, rfl⟩
  rw [eD]
  obtain ⟨W, ⟨m0, w0⟩, turn⟩ := rdA D (Ia.hok.fresh (Nat.le_of_eq eD))
  -- the new set stands
  obtain ⟨sn, esn⟩ : ∃ sn : Shared, sn = { sb with heap := sb.heap.push { cls := .type "set", dict := none, data := .set #[] 0 (.fresh 0 0 (!X.w.params.followText "set-order")) } } := ⟨_, rfl⟩
  obtain ⟨Hn, eHn⟩ : ∃ Hn : Hp, Hn = upd Ha D (SetO X.w D (fun _ => false) 0) := ⟨_, rfl⟩
  rw [← eHn] at w0
  rw [← esn]
  have older : ∀ b o, sb.heap.get? b = some o → sn.heap.get? b = some o := fun b o e => by rw [esn]; exact Heap.get?_push_of_some _ e
  have In : Inv X pins σ Hn sn := by
    rw [eHn, esn]
    exact Ia.laid (t' := sb.toks) (fun b o e => Heap.get?_push_of_some _ e) (Nat.le_of_eq eD) (by rw [← eD]; exact setO_new (setR_fresh X.w))
  have fn : ∀ b ∈ fp, FpOk X pins Hn b ∧ b < sn.heap.objs.size := fun b hb => by
    obtain ⟨o, e, _⟩ := T.obj _ _ sta b hb
    have lt := Heap.lt_size e
    have nb : b ≠ D := by rw [← eD]; exact Nat.ne_of_lt lt
    refine ⟨⟨by rw [eHn, upd_ne nb]; exact (fa b hb).1, (fa b hb).2⟩, ?_⟩
    rw [esn, Heap.size_push]
    exact Nat.lt_succ_of_lt lt
  have free : ∀ b ∈ fp, Hn b = none := fun b hb => (fn b hb).1.1
  have stn : tn 0 sn.heap := T.keep _ _ _ sta fun b _ o e => older b o e
  have Iblk := block_start In blk nd fn
  obtain ⟨cl, ecl⟩ : ∃ cl, cl = cellsFrom (sn.heap.objs.size + 1) sc.names (cloFrom X.env.cells sc.names []) := ⟨_, rfl⟩
  rw [← ecl] at Iblk
  have rg := hg sn Hn sn.heap.objs.size cl fp
  have re := he sn Hn sn.heap.objs.size cl fp
  obtain ⟨ce, ece⟩ : ∃ ce, ce = compEnvC sc cl sn.heap.objs.size X.env := ⟨_, rfl⟩
  rw [← ece] at Iblk rg re
  have here : ce.locals = sn.heap.objs.size := by rw [ece]; rfl
  obtain ⟨s4, es4⟩ : ∃ s4 : Shared, s4 = { sn with heap := pushCells (sn.heap.push { cls := .type "dict", data := .dict #[] }) sc.names } := ⟨_, rfl⟩
  have Iblk : Inv (X.blk sn Hn sc ce fp) [] (wipe σ (own.map (·.2))) Hn s4 := by rw [es4]; exact Iblk
  have st4 : tn 0 s4.heap := T.keep _ _ _ stn fun b _ o e => by rw [es4]; exact pushCells_keeps _ _ _ _ (Heap.get?_push_of_some _ e)
  suffices z : codeAny (model X.prog X.w) X.A (.compStart (.SetComp el [⟨tg, src, [], 0⟩] sc at_) 0 (.ref it) (.ref D) ce) (compPost (model X.prog X.w) X.A X.xe none (EP X pins σ Q) (.ref D) sn.heap.objs.size) s4 by
    subst ecl ece es4
    exact z
  have known : ∀ {τ : St} {H' : Hp} {s' : Shared}, Inv (X.blk sn Hn sc ce fp) [] τ H' s' → (∀ b ∈ fp, H' b = none) → ∀ b ∈ fp, FpOk (X.blk sn Hn sc ce fp) [] H' b := fun {τ H' s'} I' out b hb =>
    ⟨out b hb, (I'.ok.exf b hb).1, I'.ok.exfs b hb, .inl hb, fun x c e => (I'.ok.exf b hb).2 x c e, fun p hp => absurd (show p ∈ ([] : List (Addr × Obj)) ++ [] from hp) (by simp)⟩
  have loop : codeAny (model X.prog X.w) X.A (.compLoop (.SetComp el [⟨tg, src, [], 0⟩] sc at_) 0 (.ref it) (.ref D) ce) (compPost (model X.prog X.w) X.A X.xe none (EP X pins σ Q) (.ref D) sn.heap.objs.size) s4 := by
    refine PpSet.compLoopS_any (fun n s' => ∃ i H', Inv (X.blk sn Hn sc ce fp) [] (wipe σ (own.map (·.2))) H' s' ∧ tn i s'.heap ∧ (∀ b ∈ fp, H' b = none) ∧ W i n H') (fun n s5 ⟨i, H5, I5, st5, out5, w5⟩ => ?_) m0 ⟨0, Hn, Iblk, st4, free, w0⟩
    rcases turn i n H5 w5 with ⟨stop, fin⟩ | ⟨goes, Nx, less, step⟩
    · refine thnF (T.done (X.blk sn Hn sc ce fp) rfl rfl rfl calm i [] s5 _ H5 (fun _ _ => False) I5 (known I5 out5) st5 stop) fun r s6 ⟨er, I6⟩ => ?_
      cases er
      have back : Inv X pins σ H5 s6 := In.call' (ch := fp) I6.os I6.base I6.hok I6.bare fun b hb => by
        obtain ⟨⟨_, q1, q2, q3, q4, q5⟩, _⟩ := fn b hb
        exact ⟨q3, q1, q4, q5⟩
      obtain ⟨m, ns, _⟩ := I6.loc
      have ns : s6.heap.Ns ce.locals m := ns
      have out : H5 ce.locals = none := I6.free
      rw [here] at ns out
      obtain ⟨f0, f1, f2, f3, f4, f5⟩ := In.fpOk (Nat.le_refl _) out
      exact ⟨m, ns, fun h' same => ⟨.ref D, H5, back.turned (t' := s6.toks) (fun b o nb e => (same.2 b nb).trans e) f0 f1 f3 f4 f5, rfl, fin⟩⟩
    · refine thnF (T.item (X.blk sn Hn sc ce fp) rfl rfl rfl calm i [] s5 _ H5 (fun _ _ => False) I5 (known I5 out5) st5 goes) fun r s6 ⟨u, er, h6⟩ => ?_
      cases er
      refine thnF h6 fun _ s7 ⟨x, H7, I7, r7, y7, st7, out7⟩ => ?_
      refine thnF (rg.run _ s7 _ H7 x u _ (I7.pinned (known I7 out7) (T.obj _ _ st7)) r7 (step x H7 y7)) fun _ s8 ⟨τ, H8, I8, ew, q8⟩ => ?_
      refine wpAny_pure ?_
      simp only [if_true]
      refine thnF (re.run _ s8 τ H8 _ I8 q8) fun z s9 ⟨y, H9, I9, r9, k, S, c, ey, hD, room, nx⟩ => ?_
      cases ey
      obtain ⟨tk, rfl⟩ := r9
      refine thnF (mt_sadd (X := X.blk sn Hn sc ce fp) _ s9 τ H9 (.ref D) [.int k] (.ref D) [.int k tk] (fun _ H' => Nx H') I9 rfl (.cons ⟨tk, rfl⟩ .nil) ⟨D, k, S, c, rfl, rfl, hD, room, nx⟩) fun _ s10 ⟨_, H10, I10, _, nx10⟩ => ?_
      obtain ⟨m', lt, w'⟩ := less H10 nx10
      have stay : ∀ b ∈ fp, ∀ o, s7.heap.get? b = some o → s10.heap.get? b = some o ∧ H10 b = none := fun b hb o e => by
        have p := I10.pin (b, o) (List.mem_append_right _ (List.mem_append_right _ (mem_pinsAt hb e)))
        exact ⟨p.1, p.2.1⟩
      refine ⟨m', lt, i + 1, H10, (I10.unpinned (pins := [])).weak (by rw [← ew, wipe_length]) (fun j v e => by rw [← ew] at e; exact (wipe_some e).1), T.keep _ _ _ st7 fun b hb o e => (stay b hb o e).1, fun b hb => ?_, w'⟩
      obtain ⟨o, e, _⟩ := T.obj _ _ st7 b hb
      exact (stay b hb o e).2
  exact PpSet.codeAny_compStart_set loop (T.self X.A 0 _ _ _ st4 loop)
/-- len of such a set -/
theorem call_len_ints : CallR X (.builtin "len") (fun xs H Q => ∃ (a : Addr) (S : Int → Bool) (n : Nat), xs = [.ref a] ∧ H a = some (SetO X.w a S n) ∧ n < 1000000 ∧ Q (.int n) H) := by
  intro pins s σ H xs us Q I r h
  obtain ⟨a, S, n, rfl, ha, hn, q⟩ := h
  obtain ⟨o, es, ep, t, ho, hex, hd, _, _, _, _, hf, hs, _⟩ := setO_get I ha
  cases r with
  | cons r rr =>
    cases rr
    cases r
    exact call_len_set ho hex hd hf (by rw [hs]; omega) ⟨.int n, H, I.tok _, ⟨_, by rw [hs]⟩, q⟩
end
end L2

-- part: D1
namespace Toy
open PySem L2
/-! ### how many unlike ones -/
def dist (l : List Int) : Nat := (l.foldl addU []).length
theorem dist_snoc (l : List Int) (k : Int) : dist (l ++ [k]) = if k ∈ l then dist l else dist l + 1 := by
  unfold dist
  rw [List.foldl_append]
  show (addU (l.foldl addU []) k).length = _
  have m : k ∈ l.foldl addU [] ↔ k ∈ l := by
    have : ∀ (l ks : List Int), k ∈ l.foldl addU ks ↔ k ∈ ks ∨ k ∈ l := by
      intro l
      induction l with
      | nil => intro ks; simp
      | cons a l ih =>
        intro ks
        rw [List.foldl_cons, ih, mem_add, List.mem_cons]
        constructor
        · rintro ((h | h) | h)
          · exact .inl h
          · exact .inr (.inl h)
          · exact .inr (.inr h)
        · rintro (h | h | h)
          · exact .inl (.inl h)
          · exact .inl (.inr h)
          · exact .inr h
    rw [this]
    simp
  generalize l.foldl addU [] = R at *
  unfold addU
  by_cases h : k ∈ l
  · rw [if_pos (m.mpr h), if_pos h]
  · rw [if_neg fun z => h (m.mp z), if_neg h, List.length_append]
    rfl
theorem dist_le : ∀ n : Nat, ∀ l : List Int, l.length = n → dist l ≤ n
  | 0, l, h => by
    rw [List.eq_nil_of_length_eq_zero h]
    exact Nat.le_refl _
  | n + 1, l, h => by
    obtain ⟨r, k, rfl⟩ : ∃ (r : List Int) (k : Int), l = r ++ [k] := ⟨_, _, (List.dropLast_concat_getLast (fun z => by rw [z] at h; cases h)).symm⟩
    have hr : r.length = n := by
      rw [List.length_append] at h
      exact Nat.succ.inj h
    have ih := dist_le n r hr
    rw [dist_snoc]
    split <;> omega
theorem dist_nodup : ∀ n : Nat, ∀ l : List Int, l.length = n → (dist l = n ↔ l.Nodup)
  | 0, l, h => by
    rw [List.eq_nil_of_length_eq_zero h]
    exact ⟨fun _ => List.nodup_nil, fun _ => rfl⟩
  | n + 1, l, h => by
    obtain ⟨r, k, rfl⟩ : ∃ (r : List Int) (k : Int), l = r ++ [k] := ⟨_, _, (List.dropLast_concat_getLast (fun z => by rw [z] at h; cases h)).symm⟩
    have hr : r.length = n := by
      rw [List.length_append] at h
      exact Nat.succ.inj h
    have ih := dist_nodup n r hr
    have le := dist_le n r hr
    rw [dist_snoc, List.nodup_append]
    constructor
    · intro e
      split at e
      · omega
      · rename_i hk
        refine ⟨ih.mp (by omega), by simp, fun a ha b hb => ?_⟩
        rw [List.mem_singleton.mp hb]
        exact fun z => hk (z ▸ ha)
    · rintro ⟨h1, _, h3⟩
      rw [if_neg fun hk => h3 k hk k (List.mem_singleton.mpr rfl) rfl, ih.mpr h1]
/-! ### types -/
def SqA (K : PySem.W.Frag) (H : Hp) (p : Addr) (xs : List V) : Prop := SqL K H p xs ∨ SqT K H p xs
theorem Same.sqt {K : PySem.W.Frag} {H H' : Hp} {a : Addr} {xs : List V} (e : Same H H') (h : SqT K H a xs) : SqT K H' a xs := by
  rcases h with (h | ⟨o, h⟩) | h
  · exact .inl (.inl (e _ _ h))
  · exact .inl (.inr ⟨o, e _ _ h⟩)
  · exact .inr h
theorem SqA.same {K : PySem.W.Frag} {H H' : Hp} {p : Addr} {xs : List V} (e : Same H H') (h : SqA K H p xs) : SqA K H' p xs := h.elim (fun h => .inl (Same.seq e h)) fun h => .inr (Same.sqt e h)
theorem SqA.ty {K : PySem.W.Frag} {H : Hp} {p : Addr} {xs : List V} (h : SqA K H p xs) : ∃ T, TyB K H (.ref p) T ∧ (["list", "tuple"].contains T) = true := h.elim (fun h => ⟨"list", .lst h, by decide⟩) fun h => ⟨"tuple", .tup h, by decide⟩

theorem Kn.tup {K : PySem.W.Frag} {T : String} (h : Kn T) : PySem.W.kitOne K (.type T) (.type "tuple") = some (decide (T = "tuple")) := by
  rcases h with rfl | rfl | rfl | rfl | rfl | rfl | rfl | rfl <;> rfl
theorem Kn.bool {K : PySem.W.Frag} {T : String} (h : Kn T) : PySem.W.kitOne K (.type T) (.type "bool") = some (decide (T = "bool")) := by
  rcases h with rfl | rfl | rfl | rfl | rfl | rfl | rfl | rfl <;> rfl
theorem Kn.int {K : PySem.W.Frag} {T : String} (h : Kn T) : PySem.W.kitOne K (.type T) (.type "int") = some (decide (T = "int" ∨ T = "bool")) := by
  rcases h with rfl | rfl | rfl | rfl | rfl | rfl | rfl | rfl <;> rfl
theorem TyB.x {K : PySem.W.Frag} {H : Hp} {x : V} {T : String} (t : TyB K H x T) : TyX K H x (.type T) := by
  cases t with
  | non => exact .base .non
  | bl b => exact .base (.bl b)
  | int i => exact .base (.int i)
  | str z => exact .base (.str z)
  | byt b => exact .byt b
  | lst h =>
    rcases h with (h | ⟨o, h⟩) | ⟨o, its, n, lk, c, _⟩
    · exact .base (.lst h)
    · exact .base (.frz h)
    · exact .kList lk c
  | tup h =>
    rcases h with (h | ⟨o, h⟩) | ⟨o, its, n, lk, c, _⟩
    · exact .base (.tup h)
    · exact .fTuple h
    · exact .kTuple lk c
  | dK h => exact .base (.dK h)
theorem TyB.same {K : PySem.W.Frag} {H H' : Hp} (e : Same H H') {y : V} {T : String} (t : TyB K H y T) : TyB K H' y T := by
  cases t with
  | non => exact .non
  | bl b => exact .bl b
  | int i => exact .int i
  | str z => exact .str z
  | byt b => exact .byt b
  | lst h => exact .lst (Same.seq e h)
  | tup h => exact .tup (Same.sqt e h)
  | dK h => exact .dK (e _ _ h)
theorem seq_gen {t1 rest : TS} {D : Ends} {σ : St} {H : Hp} (Good : St → Hp → Prop) (h1 : ∀ nx : St → Hp → Prop, (∀ σ' H', Good σ' H' → nx σ' H') → t1 { D with nx := nx } σ H) (h2 : ∀ σ' H', Good σ' H' → rest D σ' H') : tSeq t1 rest D σ H := h1 _ h2
/-- the turns of a comprehension of numbers, whatever it goes over -/
theorem st_it {J : It} {n : Nat} {G : Hp → Prop} {Y : Nat → Hp → V → Hp → Prop} (wk : Walk J n G Y) {w : World} {g : TG} {te : TE} {vs : List Nat} {σ : St} {H1 : Hp} {D : Addr} {Qd : Hp → Prop} (Pv : Nat → Hp → Prop) (h0 : Pv 0 (upd H1 D (SetO w D (fun _ => false) 0)))
    (hG : ∀ i H, i ≤ n → Pv i H → G H) (hs : ∀ i x H H', i < n → Pv i H → Y i H x H' → SetTurn w g te vs σ D (Pv (i + 1)) x H') (hd : ∀ H, Pv n H → Qd H) :
    ∃ W : Nat → Nat → Hp → Prop, (∃ m, W 0 m (upd H1 D (SetO w D (fun _ => false) 0))) ∧
      ∀ i m Hi, W i m Hi → (J.stop i Hi ∧ Qd Hi) ∨ (J.go i Hi ∧ ∃ Nx : Hp → Prop, (∀ H', Nx H' → ∃ m', m' < m ∧ W (i + 1) m' H') ∧ ∀ x H', J.yld i Hi x H' → SetTurn w g te vs σ D Nx x H') := by
  refine ⟨fun i m H => i + m = n ∧ Pv i H, ⟨n, Nat.zero_add n, h0⟩, fun i m Hi ⟨e, p⟩ => ?_⟩
  have st := hG i Hi (by omega) p
  cases m with
  | zero =>
    have e0 : i = n := e
    subst e0
    exact .inl ⟨wk.stops Hi st, hd Hi p⟩
  | succ m => exact .inr ⟨wk.goes i Hi (by omega) st, Pv (i + 1), fun H' p' => ⟨m, Nat.lt_succ_self m, by omega, p'⟩, fun x H' y => hs i x Hi H' (by omega) p (wk.yields i Hi x H' (by omega) st y)⟩
theorem itT {A B : Prop} (h : A) : if True then A else B := by rw [if_pos trivial]; exact h
theorem kn_tup : Kn "tuple" := .inr (.inr (.inr (.inr (.inr (.inl rfl)))))
theorem yesT {σ : St} {H : Hp} {a b : Hp → Prop} (h : a H) : tYes σ H fun b' H3 => if b' = true then a H3 else b H3 := h
end Toy

-- part: D2
namespace Toy
open PySem L2
/-- 1, 2, .. n -/
def up (n : Nat) : List Int := (List.range n).map fun (i : Nat) => 1 + (i : Int)
theorem up_len (n : Nat) : (up n).length = n := by unfold up; rw [List.length_map, List.length_range]
theorem up_rg (m : Int) (h : 0 ≤ m) : rgV 1 (m + 1) = (up m.toNat).map V.int := by
  unfold rgV up
  rw [List.map_map, show (m + 1 - 1).toNat = m.toNat by omega]
  rfl
theorem up_abs (n : Nat) : (up n).map absI = up n := by
  unfold up
  rw [List.map_map]
  refine List.map_congr_left fun i _ => ?_
  show absI (1 + (i : Int)) = 1 + (i : Int)
  unfold absI
  rw [if_neg (by omega)]
theorem up_mem {n : Nat} {x : Int} : x ∈ up n ↔ 1 ≤ x ∧ x ≤ n := by
  unfold up
  rw [List.mem_map]
  constructor
  · rintro ⟨i, hi, rfl⟩
    have := List.mem_range.mp hi
    omega
  · rintro ⟨h1, h2⟩
    exact ⟨(x - 1).toNat, List.mem_range.mpr (by omega), by omega⟩
theorem up_nodup (n : Nat) : (up n).Nodup := by
  unfold up
  refine List.pairwise_map.mpr ?_
  refine List.Pairwise.imp ?_ (List.nodup_range (n := n))
  intro a b h e
  exact h (by omega)
theorem absI_neg (x : Int) : absI (-x) = absI x := by
  unfold absI
  split <;> split <;> omega
/-- a turn of n truths -/
def Trn (n : Nat) (L : List Int) : Prop := (L.map absI).Perm (up n)
theorem Trn.len {n : Nat} {L : List Int} (h : Trn n L) : L.length = n := by
  have := h.length_eq
  rw [List.length_map, up_len] at this
  exact this
theorem Trn.bd {n : Nat} {L : List Int} (h : Trn n L) {x : Int} (hx : x ∈ L) : 1 ≤ absI x ∧ absI x ≤ n := up_mem.mp (h.mem_iff.mp (List.mem_map.mpr ⟨x, hx, rfl⟩))
theorem Trn.small {n : Nat} {L : List Int} (h : Trn n L) {x : Int} (hx : x ∈ L) : x.natAbs ≤ n := by
  have := (h.bd hx).2
  rw [absI_nat] at this
  omega
theorem trn_up (n : Nat) : Trn n (up n) := by
  unfold Trn
  rw [up_abs]
theorem trn_swap {n : Nat} {L : List Int} (h : Trn n L) {i j : Nat} {a b a' b' : Int} (hi : L[i]? = some a) (hj : L[j]? = some b) (ea : absI a' = absI a) (eb : absI b' = absI b) : Trn n ((L.set i b').set j a') := by
  obtain ⟨i1, e1⟩ := List.getElem?_eq_some_iff.mp hi
  obtain ⟨j1, e2⟩ := List.getElem?_eq_some_iff.mp hj
  unfold Trn
  rw [List.map_set, List.map_set, ea, eb, ← e1, ← e2]
  have p := List.set_set_perm (as := L.map absI) (i := i) (j := j) (by rw [List.length_map]; exact i1) (by rw [List.length_map]; exact j1)
  rw [List.getElem_map, List.getElem_map] at p
  exact p.trans h
theorem trn_neg {n : Nat} {L : List Int} (h : Trn n L) {i : Nat} {a a' : Int} (hi : L[i]? = some a) (ea : absI a' = absI a) : Trn n (L.set i a') := by
  obtain ⟨i1, e1⟩ := List.getElem?_eq_some_iff.mp hi
  unfold Trn
  rw [List.map_set, ea, ← e1]
  have e : (L.map absI).set i (absI L[i]) = L.map absI := by
    have := List.set_getElem_self (as := L.map absI) (i := i) (by rw [List.length_map]; exact i1)
    rw [List.getElem_map] at this
    exact this
  rw [e]
  exact h
theorem trn_rot {n k : Nat} {L : List Int} (h : Trn n L) : Trn n (L.drop k ++ L.take k) := by
  unfold Trn
  rw [List.map_append]
  refine List.Perm.trans List.perm_append_comm ?_
  rw [← List.map_append, List.take_append_drop]
  exact h
theorem cut_ints (L : List Int) (lo hi : Option Int) : ∃ a b, cutV (L.map V.int) lo hi = ((L.drop a).take b).map V.int := by
  unfold cutV
  exact ⟨_, _, by rw [List.map_take, List.map_drop]⟩
theorem cut_from (L : List Int) (k : Nat) (h : k ≤ L.length) : cutV (L.map V.int) (some (k : Int)) none = (L.drop k).map V.int := by
  unfold cutV
  have e1 : HT.sIx (L.map V.int).length 0 (some (k : Int)) = k := by
    unfold HT.sIx
    rw [List.length_map]
    simp only
    split <;> omega
  have e2 : HT.sIx (L.map V.int).length (L.map V.int).length none = L.length := by
    unfold HT.sIx
    rw [List.length_map]
  rw [e1, e2, List.map_drop]
  refine List.take_of_length_le ?_
  rw [List.length_drop, List.length_map]
  exact Nat.le_refl _
theorem cut_to (L : List Int) (k : Nat) (h : k ≤ L.length) : cutV (L.map V.int) none (some (k : Int)) = (L.take k).map V.int := by
  unfold cutV
  have e1 : HT.sIx (L.map V.int).length (L.map V.int).length (some (k : Int)) = k := by
    unfold HT.sIx
    rw [List.length_map]
    simp only
    split <;> omega
  have e2 : HT.sIx (L.map V.int).length 0 none = 0 := by
    unfold HT.sIx
    rfl
  rw [e1, e2, List.drop_zero, Nat.sub_zero, List.map_take]
end Toy

-- part: SK6
namespace L2
open PySem PySem.Spec PyProof.Rows
section
variable {prog : Program} {w : World} {A : Around} {E : Value → Shared → Prop} {s : Shared}
/-- the items of a tuple, collected -/
theorem collect_tupK {t : Addr} {us : List Value} {Q : List Value → Shared → Prop} (ht : IsTup s.heap t us.toArray) (hz : us.length ≤ sizeLine)
    (q : Q us { s with heap := (s.heap.push (seqObj "list" #[] 0)).update s.heap.objs.size (Obj.mapSeq (· ++ us.toArray)) }) : wpAny (model prog w) A (collect (.ref t)) Q E s := by
  obtain ⟨o, ho, hc, n, hd⟩ := id ht
  have ho2 : (s.heap.push (seqObj "list" #[] 0)).get? t = some o := Heap.get?_push_of_some _ ho
  have fits : ((#[] : Array Value) ++ us.toArray).size ≤ sizeLine + 1 := by simp only [Array.size_append, List.size_toArray, List.length_nil]; omega
  unfold collect
  refine wpAny_bind (wpAny_runValue (codeAny_builtin entry_proto_collect' ?_))
  show wpAny _ _ (newList [] >>= fun r => again (.builtin "list.__iadd__" ⟨[r, .ref t], []⟩)) _ _ s
  refine wpAny_bind (wpAny_newList (wpAny_pure ⟨Code.quiet_builtin _ (by decide +kernel), codeAny_builtin entry_list_iadd' ?_⟩))
  show wpAny _ _ (Builtin.List.listExtendWith (.ref s.heap.objs.size) (.ref t) (.ref s.heap.objs.size)) _ _ { s with heap := s.heap.push (seqObj "list" #[] 0) }
  unfold Builtin.List.listExtendWith
  refine wpAny_bind (wpAny_typeOf (T := "tuple") ⟨o, ho2, hc⟩ ?_)
  rw [if_pos (by rw [show (Value.type "tuple" == Value.type "tuple") = true from rfl, Bool.or_true])]
  refine wpAny_bind (listItems_at ho2 hd (wpAny_bind (listItems_at (xs := #[]) (n := 0) (Heap.get?_push_size _ rfl) rfl ?_)))
  rw [if_neg (by simp)]
  refine wpAny_bind (listUpdate_at (xs := #[]) (n := 0) (Heap.get?_push_size _ rfl) rfl ?_ (Nat.zero_le _) fits)
  refine wpAny_pure (wpAny_bind (wpAny_load (get?_update_seq (Heap.get?_push_size _ rfl) _) ?_))
  have e : ((#[] : Array Value) ++ us.toArray).toList = us := by simp
  show wpAny _ _ (pure ((#[] : Array Value) ++ us.toArray).toList) Q E _
  rw [e]
  exact wpAny_pure q
end
def rSortUd (K : PySem.W.Frag) (rel : V → Hp → VK → Prop) : V → Hp → VK → Prop := fun x H Q => ∃ a xs, x = .ref a ∧ SqT K H a xs ∧ SortGo K rel xs H Q
theorem run_tup {X : Cx} {f : Value} {rel : V → Hp → VK → Prop} {P : List (Addr × Obj)} (hu : X.A.units + 100 < cLine) (hf : KeyRel X P f rel) (ht : ∀ a : Addr, Builtin.«list.sort» ⟨[.ref a], [(Str.ofString "key", f)]⟩ = ksk_tree a f false) : RunS X P f (rSortUd X.K rel) := by
  intro pins s σ H x u Q hP I r ⟨a, xs, ex, hs, g⟩
  cases ex
  cases r
  obtain ⟨its, rv, hl, hz⟩ := I.tuple hs
  have hz' : its.length ≤ sizeLine := by rw [← rv.length]; exact hz
  refine call_function_entry_kw kind_sorted plain_sorted entry_sorted (ksk_s1 _ _) ?_
  unfold Builtin.«sorted»
  refine wpAny_bind (m := checkCount "sorted" 1 1 _) (wpAny_pure (wpAny_bind (collect_tupK hl hz' ?_)))
  have I1 : Inv X pins σ H { s with heap := (s.heap.push (seqObj "list" #[] 0)).update s.heap.objs.size (Obj.mapSeq (· ++ its.toArray)) } := I.kept (t' := s.toks) fun b o e => by
    rw [Heap.get?_update_ne _ _ _ _ (Nat.ne_of_lt (Heap.lt_size e))]
    exact Heap.get?_push_of_some _ e
  exact sort_go hu I1 rv hz' g (hf.mono hP) ht fun v s' h => ⟨v, rfl, h⟩
end L2

-- part: W1
namespace Toy
open PySem L2
section
variable {P : Program} {w : World} {K : PySem.W.Frag} {mg : Str → Option Value} {base : Heap}
theorem p_ixT {H : Hp} {Q : VK} {p : Addr} {xs : List V} {i : Int} {v : V} (h : SqT K H p xs) (e : atI xs i = some v) (q : Q v H) : rIxT K (.ref p) (.int i) H Q := ⟨p, xs, i, v, rfl, rfl, h, e, q⟩
/-- what a letter goes to -/
def gL (L : List Int) (l : Int) : Int := if l > 0 then L.getD (l - 1).toNat 0 else -(L.getD (-l - 1).toNat 0)
theorem at_nat {L : List Int} {j : Nat} (h : j < L.length) : atI (L.map V.int) (j : Int) = some (V.int (L.getD j 0)) := atI_nat (by rw [List.getElem?_map, List.getElem?_eq_getElem h, List.getD_eq_getElem?_getD, List.getElem?_eq_getElem h]; rfl)
theorem at_pos {L : List Int} {l : Int} (h1 : 1 ≤ absI l) (h2 : absI l ≤ L.length) (p : l > 0) : atI (L.map V.int) (l - 1) = some (V.int (gL L l)) := by
  unfold absI at h1 h2
  rw [if_neg (by omega)] at h1 h2
  obtain ⟨j, e⟩ := Int.eq_ofNat_of_zero_le (by omega : 0 ≤ l - 1)
  rw [e, at_nat (by omega)]
  unfold gL
  rw [if_pos p, e, Int.toNat_natCast]
theorem at_neg {L : List Int} {l : Int} (h1 : 1 ≤ absI l) (h2 : absI l ≤ L.length) (p : ¬ l > 0) : atI (L.map V.int) (-l - 1) = some (V.int (-(gL L l))) := by
  unfold absI at h1 h2
  have hl : l < 0 := by
    by_cases z : l < 0
    · exact z
    · rw [if_neg z] at h1
      omega
  rw [if_pos hl] at h1 h2
  obtain ⟨j, e⟩ := Int.eq_ofNat_of_zero_le (by omega : 0 ≤ -l - 1)
  rw [e, at_nat (by omega)]
  unfold gL
  rw [if_neg p, e, Int.toNat_natCast, Int.neg_neg]
theorem gL_abs {n : Nat} {L : List Int} (t : Trn n L) {l : Int} (h1 : 1 ≤ absI l) (h2 : absI l ≤ n) : 1 ≤ absI (gL L l) ∧ absI (gL L l) ≤ n := by
  have ll := t.len
  unfold gL
  by_cases p : l > 0
  · rw [if_pos p]
    have : absI l = l := by unfold absI; rw [if_neg (by omega)]
    have hj : (l - 1).toNat < L.length := by omega
    rw [List.getD_eq_getElem?_getD, List.getElem?_eq_getElem hj]
    exact t.bd (List.getElem_mem hj)
  · rw [if_neg p, absI_neg]
    have hj : (-l - 1).toNat < L.length := by
      unfold absI at h1 h2
      by_cases z : l < 0
      · rw [if_pos z] at h1 h2
        omega
      · rw [if_neg z] at h1
        omega
    rw [List.getD_eq_getElem?_getD, List.getElem?_eq_getElem hj]
    exact t.bd (List.getElem_mem hj)
def spGoes (K : PySem.W.Frag) : Sp := fun vs H Q _ => ∃ (a : Addr) (L : List Int) (l : Int), vs = [.ref a, .int l] ∧ SqT K H a (L.map V.int) ∧ 1 ≤ absI l ∧ absI l ≤ L.length ∧ Q (.int (gL L l)) H
theorem u100 {k : Nat} {A : Around} (hr : Room k A) : A.units + 100 < cLine := by have := hr.un; omega
end
end Toy

-- part: RT1
namespace L2
open PySem PySem.Spec PySem.Calls PyProof.Rows HT
section
variable {prog : Program} {w : World} {A : Around} {E : Value → Shared → Prop} {s : Shared}
theorem adjust_back (n : Nat) : Builtin.Slice.sliceAdjust none none (-1) (n : Int) = ((n : Int) - 1, -1) := rfl
theorem places_back (n : Nat) : Builtin.Slice.slicePlaces ((n : Int) - 1) (-1) (-1) = n := by
  unfold Builtin.Slice.slicePlaces
  rw [if_neg (by decide : ¬ ((-1 : Int) > 0))]
  by_cases h : (n : Int) - 1 > -1
  · rw [if_pos h]
    show (((n : Int) - 1 - -1 - 1) / 1 + 1).toNat = n
    rw [Int.ediv_one]
    omega
  · rw [if_neg h]
    show (0 : Int).toNat = n
    omega
theorem fm_congr {α β : Type} {f g : α → Option β} : ∀ {l : List α}, (∀ x ∈ l, f x = g x) → l.filterMap f = l.filterMap g
  | [], _ => rfl
  | x :: l, h => by
    rw [List.filterMap_cons, List.filterMap_cons, h x List.mem_cons_self, fm_congr fun y hy => h y (List.mem_cons_of_mem _ hy)]
theorem picked_back (xs : Array Value) : ((List.range xs.size).filterMap fun (m : Nat) => xs[((xs.size : Int) - 1 + (m : Int) * -1).toNat]?) = xs.toList.reverse := by
  have e1 : ((List.range xs.size).filterMap fun (m : Nat) => xs[((xs.size : Int) - 1 + (m : Int) * -1).toNat]?) = (((List.range xs.size).map fun k => xs.size - 1 - k).filterMap fun i => xs[i]?) := by
    rw [List.filterMap_map]
    refine fm_congr fun m hm => ?_
    have := List.mem_range.mp hm
    show xs[((xs.size : Int) - 1 + (m : Int) * -1).toNat]? = xs[xs.size - 1 - m]?
    have e : ((xs.size : Int) - 1 + (m : Int) * -1).toNat = xs.size - 1 - m := by omega
    rw [e]
  rw [e1, PySem.W.krv_range, List.filterMap_reverse, PySem.W.krv_all]
theorem applied_back {sl : Addr} {t : Tok} {n : Nat} {Q : Int × Int × Nat → Shared → Prop} (hs : s.heap.IsSliceOf sl .none .none (.int (-1) t)) (q : Q ((n : Int) - 1, -1, n) s) : wpAny (model prog w) A (Builtin.Slice.sliceApplied (.ref sl) (pure (n : Int))) Q E s := by
  obtain ⟨o, ho, _, hd⟩ := id hs
  unfold Builtin.Slice.sliceApplied Builtin.Slice.sliceFields
  refine wpAny_bind (wpAny_bind (wpAny_field ho hd (x := .none) rfl (wpAny_bind (wpAny_field ho hd (x := .none) rfl (wpAny_bind (wpAny_field ho hd (x := .int (-1) t) rfl (wpAny_pure ?_)))))))
  refine wpAny_bind (slicePart_int ?_)
  show wpAny _ _ (if ((-1 : Int) == 0) = true then _ else _) _ _ s
  rw [if_neg (by decide)]
  refine wpAny_bind (slicePart_none (wpAny_bind (slicePart_none (wpAny_bind (wpAny_pure ?_)))))
  show wpAny _ _ (pure ((Builtin.Slice.sliceAdjust none none (-1) (n : Int)).1, (-1 : Int), Builtin.Slice.slicePlaces (Builtin.Slice.sliceAdjust none none (-1) (n : Int)).1 (Builtin.Slice.sliceAdjust none none (-1) (n : Int)).2 (-1))) _ _ s
  rw [adjust_back]
  show wpAny _ _ (pure ((n : Int) - 1, (-1 : Int), Builtin.Slice.slicePlaces ((n : Int) - 1) (-1) (-1))) _ _ s
  rw [places_back]
  exact wpAny_pure q
theorem back_tuple {t sl : Addr} {items : Array Value} {k : Tok} {Q : Value → Shared → Prop} (ht : IsTup s.heap t items) (hs : s.heap.IsSliceOf sl .none .none (.int (-1) k)) (hz : items.size ≤ sizeLine)
    (q : Q (.ref s.heap.objs.size) { s with heap := s.heap.push { cls := .type "tuple", data := .seq items.toList.reverse.toArray } }) : wpAny (model prog w) A (getItem (.ref t) (.ref sl)) Q E s := by
  obtain ⟨o, ho, hc, _⟩ := id hs
  have isSl : s.TypeIs (.ref sl) "slice" := ⟨o, ho, hc⟩
  have fits : sizeOk (.seq items.toList.reverse.toArray) := by
    show items.toList.reverse.toArray.size ≤ sizeLine
    rw [List.size_toArray, List.length_reverse, Array.length_toList]
    exact hz
  unfold getItem
  try with_reducible refine wpAny_holding ?_
  first | refine wpAny_bind (wpAny_pure ?_) | skip
  refine wpAny_bind (wpAny_sequenceKey ht.typeIs (by decide) (wpAny_bind (wpAny_callSpecial?_slot (name := Str.ofString "__getitem__") ht.typeIs slot_tuple_getitem (wpAny_call_entry slot_tuple_getitem ht.typeIs entry_tuple_getitem ?_ (args_tuple_getitem _ _)))))
  show wpAny _ _ (Builtin.Tuple.tupleItemsOf (.ref t) >>= _) _ _ s
  refine wpAny_bind (tupleItemsOf_ ht (wpAny_bind (wpAny_typeOf isSl ?_)))
  rw [if_pos (by decide)]
  refine wpAny_bind (applied_back hs ?_)
  show wpAny _ _ (if (((items.size : Int) - 1 == 0 && (-1 : Int) == 1) && items.size == items.size) = true then _ else _) _ _ s
  rw [if_neg (by rw [show ((-1 : Int) == 1) = false from rfl, Bool.and_false, Bool.false_and]; exact Bool.false_ne_true), picked_back]
  first
    | exact wpAny_bind (m := Builtin.Tuple.tupleExact _) (wpAny_newObj_type (wpAny_pure ⟨_, rfl, wpAny_pure q⟩) fits)
    | exact wpAny_bind (m := Builtin.Tuple.tupleExact _) (wpAny_newObj_type (wpAny_bind (wpAny_pure (wpAny_pure ⟨_, rfl, wpAny_pure q⟩))) fits)
    | exact wpAny_bind (wpAny_bind (m := Builtin.Tuple.tupleExact _) (wpAny_newObj_type (wpAny_pure (wpAny_pure ⟨_, rfl, wpAny_pure q⟩)) fits))
    | exact wpAny_bind (wpAny_bind (m := Builtin.Tuple.tupleExact _) (wpAny_newObj_type (wpAny_pure ⟨_, rfl, wpAny_pure q⟩) fits))
end
/-- t[::-1], t a tuple -/
def tRevT (K : PySem.W.Frag) (te : TE) : TE := fun σ H Q => te σ H fun x H1 => ∃ a xs, x = .ref a ∧ SqT K H1 a xs ∧ ∀ p, H1 p = none → Q (.ref p) (upd H1 p (.tup xs.reverse))
theorem pe_revT {X : Cx} {e : Expr} {te : TE} {k : Nat} {p1 p2 p3 pos : Pos} (he : PE X e te) : PE X (.Subscript e (.Slice none none (some (.UnaryOp .USub (.Constant (.int 1) k p1) p2)) p3) pos) (tRevT X.K te) := by
  refine ⟨fun pins s σ H Q I h => Subscript_ (thn (he.run pins s σ H _ I h) fun v s1 ⟨x, H1, I1, r1, a, xs, ex, hx, q⟩ => ?_)⟩
  cases ex
  cases r1
  have step : PO X (some (.UnaryOp .USub (.Constant (.int 1) k p1) p2)) (tPart (tUn (rU fun i => .int (-i)) (tC (.int 1)))) := po_some (pe_un un_neg pe_int)
  refine wpAny_Slice (thn (po_none.run pins s1 σ H1 (fun o H2 => o = none ∧ H2 = H1) I1 ⟨rfl, rfl⟩) fun ua s2 ⟨_, _, I2, part1, e1, e2⟩ => thn (po_none.run pins s2 σ H1 (fun o H3 => o = none ∧ H3 = H1) (e2 ▸ I2) ⟨rfl, rfl⟩) fun ub s3 ⟨_, _, I3, part2, e3, e4⟩ =>
    thn (step.run pins s3 σ H1 (fun o H4 => o = some (-1) ∧ H4 = H1) (e4 ▸ I3) ⟨1, rfl, -1, rfl, rfl, rfl⟩) fun uc s4 ⟨_, _, I4, part3, e5, e6⟩ => ?_)
  subst e1 e3 e5 e6
  cases part1
  cases part2
  cases part3
  have I5 := I4.kept (h' := s4.heap.push { cls := .type "slice", data := .fields #[.none, .none, .int (-1) ‹Tok›] }) (t' := s4.toks) fun b ob q => Heap.get?_push_of_some _ q
  obtain ⟨its, r, ht, hz⟩ := I5.tuple hx
  have hlen := r.length
  refine tail_any (ops := [.ref a, .ref s4.heap.objs.size]) ht.typeIs slot_tuple_getitem.lookup (back_tuple ht (Heap.IsSliceOf.new _ _ _ _) (by rw [List.size_toArray]; omega) ?_) (by with_unfolding_all rfl)
  refine ⟨.ref _, _, I5.laid (t' := s4.toks) (o := .tup xs.reverse) (fun b ob q => Heap.get?_push_of_some _ q) (Nat.le_refl _) ⟨?_, _, r.reverse, IsTup.new _ _⟩, rfl, q _ (I5.hok.fresh (Nat.le_refl _))⟩
  rw [List.length_reverse]
  exact hz
end L2

-- part: M2
namespace Toy
open PySem L2
section
variable {P : Program} {w : World} {K : PySem.W.Frag} {mg : Str → Option Value} {base : Heap}
abbrev nLTu : List Str := ["draw", "many", "sort", "one", "other", "found", "pool", "k", "truth"]
def spLTu (K : PySem.W.Frag) : Sp := fun vs H Q _ => ∃ d m sc ns, vs = [.ref d, .int m] ∧ 1 ≤ m ∧ m ≤ 400 ∧ DrA K sc ns H d ∧
  ∀ (a : Addr) (L : List Int) (H' : Hp), Trn m.toNat L → Ex d H H' → DrA K sc ns H' d → H' a = some (.tup (L.map V.int)) → H a = none → Q (.ref a) H'
theorem none_back {d sc a : Addr} {ns : List Int} {H H' : Hp} (e : Ex d H H') (D : DrA K sc ns H' d) (ha : H' a = none) : H a = none := by
  cases h : H a with
  | none => rfl
  | some o =>
    have := e a o h (D.nd ha)
    rw [ha] at this
    cases this
theorem ixN_nat {n j : Nat} (h : j < n) : ixN n (j : Int) = some j := by
  unfold ixN
  rw [if_pos (by omega), if_pos (by omega), Int.toNat_natCast]
theorem get_int {L : List Int} {j : Nat} (h : j < L.length) : ∃ y, L[j]? = some y ∧ atI (L.map V.int) (j : Int) = some (V.int y) := ⟨L[j], List.getElem?_eq_getElem h, atI_nat (by rw [List.getElem?_map, List.getElem?_eq_getElem h]; rfl)⟩
theorem map_erase {α β : Type} (f : α → β) : ∀ (l : List α) (k : Nat), (l.map f).eraseIdx k = (l.eraseIdx k).map f
  | [], _ => rfl
  | _ :: _, 0 => rfl
  | x :: l, k + 1 => by
    show f x :: (l.map f).eraseIdx k = f x :: (l.eraseIdx k).map f
    rw [map_erase f l k]
theorem seqIx {k n : Nat} (h : k < n) : seqIndex? (k : Int) n = some k := by
  unfold seqIndex?
  have h0 : ¬ ((k : Int) < 0) := by omega
  have h1 : decide ((k : Int) < (n : Int)) = true := decide_eq_true (by omega)
  have h2 : decide (0 ≤ (k : Int)) = true := decide_eq_true (by omega)
  simp only [h0, if_false, h1, h2, Bool.and_self, if_true, Int.toNat_natCast]
theorem if_eq {k : Int} {A B : TS} {D : Ends} {σ : St} {H : Hp} (h : σ[2]? = some (some (.int k))) (q : A D σ H) : tIfS (tTest (tOp rEq (tVar 2) (tC (.int k)))) A B D σ H := ⟨_, h, rfl, true, by rw [decide_eq_true rfl], iteT q⟩
theorem if_ne {k r : Int} {A B : TS} {D : Ends} {σ : St} {H : Hp} (h : σ[2]? = some (some (.int r))) (n : r ≠ k) (q : B D σ H) : tIfS (tTest (tOp rEq (tVar 2) (tC (.int k)))) A B D σ H := ⟨_, h, rfl, false, by rw [decide_eq_false fun e => n (V.int.inj e)], iteF q⟩
def tPopAt (K : PySem.W.Frag) : TE := tBM K "list" rPopAt (tVar 6) (tCons (tCall (spNext K) [] E0 (tCons (tVar 0) (tCons (tCB (fun xs H Q => ∃ p ys, xs = [.ref p] ∧ (SqL K H p ys ∨ SqT K H p ys) ∧ Q (.int ys.length) H) (tCons (tVar 6) tNil)) tNil))) tNil)
def tSign (K : PySem.W.Frag) : TE := tOp (rIxL K) (tLst (tCons (tVar 8) (tCons (tUn (rU fun i => .int (-i)) (tVar 8)) tNil))) (tCall (spNext K) [] E0 (tCons (tVar 0) (tCons (tC (V.int 2)) tNil)))
end
end Toy

-- part: NE1
namespace L2
open PySem PySem.Spec PySem.Calls PyProof.Rows
/-- xs != [], whatever stands in xs -/
def rNeE (K : PySem.W.Frag) : R2 := fun x y H Q => ∃ a b xs, x = .ref a ∧ y = .ref b ∧ SqL K H a xs ∧ SqL K H b [] ∧ Q (.bl (!xs.isEmpty)) H
theorem op_neE {X : Cx} (hu : X.A.units + 64 < cLine) : OpR X (compareOp .NotEq) (rNeE X.K) := by
  intro pins s σ H x y v u Q I rx ry ⟨a, b, xs, ex, ey, ha, hb, q⟩
  subst ex ey
  cases xs with
  | nil => exact op_neD hu pins s σ H _ _ v u Q I rx ry ⟨.list [], .list [], .lst ha .nil, .lst hb .nil, by decide, by decide, q⟩
  | cons z zs =>
    cases rx
    cases ry
    obtain ⟨its, rv, pl, _⟩ := I.list ha
    obtain ⟨its2, rv2, pl2, _⟩ := I.list hb
    have e2 : its2 = [] := by cases rv2; rfl
    subst e2
    have n1 : its.length = zs.length + 1 := by rw [← rv.length]; rfl
    have big : (its.toArray.size != ([] : List Value).toArray.size) = true := by
      rw [List.size_toArray, n1]
      rfl
    exact SeqAt.RcNeAt.lists_lengths pl.isList pl2.isList big (by omega) X.prog X.w X.xe _ ⟨.bl true, H, I, rfl, q⟩
end L2

-- part: D3
namespace Toy
open PySem L2
theorem rise_up : ∀ (S : List Int) (lo : Int), S.Pairwise (· < ·) → (∀ x ∈ S, lo ≤ x ∧ x < lo + S.length) → S = (List.range S.length).map fun (i : Nat) => lo + (i : Int)
  | [], _, _, _ => rfl
  | a :: r, lo, h, b => by
    have h1 := List.pairwise_cons.mp h
    have ba := b a List.mem_cons_self
    have ih := rise_up r (lo + 1) h1.2 fun x hx => by
      have := h1.1 x hx
      have := b x (List.mem_cons_of_mem _ hx)
      rw [List.length_cons] at this
      omega
    have ea : a = lo := by
      cases r with
      | nil =>
        rw [List.length_cons, List.length_nil] at ba
        omega
      | cons c r =>
        have hc := h1.1 c List.mem_cons_self
        have e0 : c = lo + 1 := by
          rw [List.length_cons, List.range_succ_eq_map, List.map_cons] at ih
          have := (List.cons.inj ih).1
          omega
        omega
    rw [List.length_cons, List.range_succ_eq_map, List.map_cons, List.map_map]
    refine List.cons_eq_cons.mpr ⟨by omega, ?_⟩
    refine ih.trans (List.map_congr_left fun i _ => ?_)
    show lo + 1 + (i : Int) = lo + ((i + 1 : Nat) : Int)
    omega
theorem sorted_turn {n : Nat} {A S : List Int} (hl : A.length = n) (pm : S.Perm A) (rise : S.Pairwise (· ≤ ·)) : S = up n ↔ (∀ x ∈ A, 1 ≤ x ∧ x ≤ n) ∧ A.Nodup := by
  constructor
  · intro e
    subst e
    exact ⟨fun x hx => up_mem.mp (pm.mem_iff.mpr hx), (pm.nodup_iff).mp (up_nodup n)⟩
  · rintro ⟨hb, nd⟩
    have ndS : S.Nodup := (pm.nodup_iff).mpr nd
    have lS : S.length = n := pm.length_eq.trans hl
    have st : S.Pairwise (· < ·) := by
      have := List.Pairwise.and rise ndS
      exact this.imp fun {a b} h => by have h1 := h.1; have h2 := h.2; omega
    have := rise_up S 1 st fun x hx => by
      have := hb x (pm.mem_iff.mp hx)
      rw [lS]
      omega
    rw [lS] at this
    exact this
end Toy

-- part: MT
namespace Toy
open PySem L2
theorem gL_absI (L : List Int) {l : Int} (h1 : 1 ≤ absI l) : absI (gL L l) = absI (L.getD (absI l - 1).toNat 0) := by
  unfold gL
  by_cases p : l > 0
  · have : absI l = l := by unfold absI; rw [if_neg (by omega)]
    rw [if_pos p, this]
  · have : absI l = -l := by
      unfold absI at h1 ⊢
      by_cases z : l < 0
      · rw [if_pos z]
      · rw [if_neg z] at h1
        omega
    rw [if_neg p, absI_neg, this]
/-- the letter of a bit -/
def lOf (W : List Int) (i : Nat) : Int := if W.getD i 0 = 1 then 1 + (i : Int) else -(1 + (i : Int))
theorem lOf_abs (W : List Int) (i : Nat) : absI (lOf W i) = 1 + (i : Int) := by
  unfold lOf
  split
  · unfold absI; rw [if_neg (by omega)]
  · rw [absI_neg]; unfold absI; rw [if_neg (by omega)]
/-- where the letters go that hold -/
def imgs (L W : List Int) : List Int := (List.range W.length).map fun i => gL L (lOf W i)
theorem imgs_abs {L W : List Int} (h : W.length = L.length) : (imgs L W).map absI = L.map absI := by
  unfold imgs
  rw [List.map_map, h]
  refine List.ext_getElem (by simp) fun i h1 h2 => ?_
  rw [List.length_map] at h2
  rw [List.getElem_map, List.getElem_range, List.getElem_map]
  show absI (gL L (lOf W i)) = _
  have ea := lOf_abs W i
  rw [gL_absI L (by rw [ea]; omega), ea, show (1 + (i : Int) - 1).toNat = i by omega, List.getD_eq_getElem?_getD, List.getElem?_eq_getElem h2]
  rfl
theorem trn_imgs {n : Nat} {L W : List Int} (t : Trn n L) (h : W.length = n) : Trn n (imgs L W) := by
  unfold Trn
  rw [imgs_abs (h.trans t.len.symm)]
  exact t
theorem Trn.nd {n : Nat} {L : List Int} (t : Trn n L) : (L.map absI).Nodup := (t.nodup_iff).mpr (up_nodup n)
theorem srt_up {n : Nat} {S I : List Int} (t : Trn n I) (pm : S.Perm I) (rise : S.Pairwise fun a b => absI a ≤ absI b) : S.map absI = up n := by
  refine (sorted_turn (A := I.map absI) (by rw [List.length_map]; exact t.len) (pm.map absI) (List.pairwise_map.mpr rise)).mpr ⟨fun x hx => ?_, t.nd⟩
  obtain ⟨i, hi, rfl⟩ := List.mem_map.mp hx
  exact t.bd hi
theorem same_abs {I : List Int} (nd : (I.map absI).Nodup) {x y : Int} (hx : x ∈ I) (hy : y ∈ I) (e : absI x = absI y) : x = y := by
  induction I with
  | nil => cases hx
  | cons a I ih =>
    have h := List.nodup_cons.mp nd
    rcases List.mem_cons.mp hx with q | q
    · rcases List.mem_cons.mp hy with r | r
      · rw [q, r]
      · exact absurd (List.mem_map.mpr ⟨y, r, by rw [← e, q]⟩) h.1
    · rcases List.mem_cons.mp hy with r | r
      · exact absurd (List.mem_map.mpr ⟨x, q, by rw [e, r]⟩) h.1
      · exact ih h.2 q r
theorem bits_eq {n : Nat} {S I : List Int} (t : Trn n I) (pm : S.Perm I) (rise : S.Pairwise fun a b => absI a ≤ absI b) : S.map (fun l => if 0 < l then (1 : Int) else 0) = (up n).map fun k => if k ∈ I then (1 : Int) else 0 := by
  rw [← srt_up t pm rise, List.map_map]
  refine List.map_congr_left fun l hl => ?_
  have hI := pm.mem_iff.mp hl
  have b := t.bd hI
  show (if 0 < l then (1 : Int) else 0) = if absI l ∈ I then 1 else 0
  by_cases p : 0 < l
  · have : absI l = l := by unfold absI; rw [if_neg (by omega)]
    rw [if_pos p, this, if_pos hI]
  · rw [if_neg p, if_neg]
    intro h
    have h0 : ∀ z : Int, 1 ≤ z → absI z = z := fun z hz => by unfold absI; rw [if_neg (by omega)]
    have a2 := h0 _ b.1
    have := same_abs t.nd h hI a2
    omega
theorem strict_abs {S I : List Int} (pm : S.Perm I) (nd : (I.map absI).Nodup) (rise : S.Pairwise fun a b => absI a ≤ absI b) : S.Pairwise fun a b => a.natAbs < b.natAbs := by
  have n2 : (S.map absI).Nodup := ((pm.map absI).nodup_iff).mpr nd
  have n3 : S.Pairwise fun a b => absI a ≠ absI b := List.pairwise_map.mp n2
  refine (rise.and n3).imp fun {a b} h => ?_
  have h1 := h.1
  have h2 := h.2
  rw [absI_nat, absI_nat] at h1 h2
  omega
theorem ext_abs {S S' I I' : List Int} (p1 : S.Perm I) (p2 : S'.Perm I') (p : I.Perm I') (nd : (I.map absI).Nodup) (r1 : S.Pairwise fun a b => absI a ≤ absI b) (r2 : S'.Pairwise fun a b => absI a ≤ absI b) : S = S' :=
  inc_ext (strict_abs p1 nd r1) (strict_abs p2 (((p.map absI).nodup_iff).mp nd) r2) fun x => (p1.mem_iff.trans p.mem_iff).trans p2.mem_iff.symm
theorem nd_gL {n : Nat} {L C : List Int} (t : Trn n L) (b : ∀ l ∈ C, 1 ≤ absI l ∧ absI l ≤ n) (nd : (C.map absI).Nodup) : ((C.map (gL L)).map absI).Nodup := by
  rw [List.map_map]
  refine List.pairwise_map.mpr ((List.pairwise_map.mp nd).imp_of_mem fun {x y} hx hy h => ?_)
  have bx := b x hx
  have by_ := b y hy
  have ll := t.len
  show absI (gL L x) ≠ absI (gL L y)
  rw [gL_absI L bx.1, gL_absI L by_.1]
  obtain ⟨i, ei⟩ := Int.eq_ofNat_of_zero_le (by omega : 0 ≤ absI x - 1)
  obtain ⟨j, ej⟩ := Int.eq_ofNat_of_zero_le (by omega : 0 ≤ absI y - 1)
  rw [ei, ej, Int.toNat_natCast, Int.toNat_natCast]
  have hi : i < L.length := by omega
  have hj : j < L.length := by omega
  rw [List.getD_eq_getElem?_getD, List.getD_eq_getElem?_getD, List.getElem?_eq_getElem hi, List.getElem?_eq_getElem hj]
  show absI L[i] ≠ absI L[j]
  have pw := List.pairwise_iff_getElem.mp t.nd
  have hi' : i < (L.map absI).length := by rw [List.length_map]; exact hi
  have hj' : j < (L.map absI).length := by rw [List.length_map]; exact hj
  rcases Nat.lt_trichotomy i j with q | q | q
  · have := pw i j hi' hj' q
    rw [List.getElem_map, List.getElem_map] at this
    exact this
  · omega
  · have := pw j i hj' hi' q
    rw [List.getElem_map, List.getElem_map] at this
    exact fun e => this e.symm
theorem mem_fold : ∀ (l ks : List Int) (k : Int), k ∈ l.foldl addU ks ↔ k ∈ ks ∨ k ∈ l := by
  intro l
  induction l with
  | nil => intro ks k; simp
  | cons a l ih =>
    intro ks k
    rw [List.foldl_cons, ih, mem_add, List.mem_cons]
    constructor
    · rintro ((h | h) | h)
      · exact .inl h
      · exact .inr (.inl h)
      · exact .inr (.inr h)
    · rintro (h | h | h)
      · exact .inl (.inl h)
      · exact .inl (.inr h)
      · exact .inr h
theorem nd_fold : ∀ (l ks : List Int), ks.Nodup → (l.foldl addU ks).Nodup
  | [], _, h => h
  | a :: l, ks, h => nd_fold l _ (nd_add h a)
theorem len_fold : ∀ (l ks : List Int), (l.foldl addU ks).length ≤ ks.length + l.length
  | [], _ => Nat.le_refl _
  | a :: l, ks => by
    have h := len_fold l (addU ks a)
    have h2 := len_add (ks := ks) a
    show (l.foldl addU (addU ks a)).length ≤ _
    rw [List.length_cons]
    omega
theorem keys_fold (v : V) : ∀ (l : List Int) (kvs : List (Key × V)) (ks : List Int), kvs.map (·.1) = ks.map Sum.inl → (mergeK kvs (l.map fun i => (Sum.inl i, v))).map (·.1) = (l.foldl addU ks).map Sum.inl
  | [], _, _, h => h
  | a :: l, kvs, ks, h => keys_fold v l (putK kvs (Sum.inl a) v) (addU ks a) (keys_put inl_inj h a v)
end Toy

-- part: B1
namespace Toy
open PySem L2
theorem gD {L : List Int} {j : Nat} (h : j < L.length) : L.getD j 0 = L[j] := by rw [List.getD_eq_getElem?_getD, List.getElem?_eq_getElem h]; rfl
theorem absI_pos {x : Int} (h : 0 < x) : absI x = x := by unfold absI; rw [if_neg (by omega)]
theorem absI_neg' {x : Int} (h : ¬ 0 < x) (h1 : 1 ≤ absI x) : absI x = -x ∧ x < 0 := by
  unfold absI at h1 ⊢
  by_cases z : x < 0
  · rw [if_pos z]
    exact ⟨rfl, z⟩
  · rw [if_neg z] at h1
    omega
theorem gL_neg (L : List Int) {l : Int} (h : 1 ≤ absI l) : gL L (-l) = -(gL L l) := by
  unfold gL
  by_cases p : 0 < l
  · rw [if_neg (by omega), if_pos p, Int.neg_neg]
  · have := (absI_neg' p h).2
    rw [if_pos (by omega), if_neg p, Int.neg_neg]
theorem gL_nat (L : List Int) (j : Nat) : gL L (1 + (j : Int)) = L.getD j 0 := by
  unfold gL
  rw [if_pos (by omega), show (1 + (j : Int) - 1).toNat = j by omega]
theorem trn_of {n : Nat} {L : List Int} (hl : L.length = n) (hb : ∀ x ∈ L, 1 ≤ absI x ∧ absI x ≤ n) (nd : (L.map absI).Nodup) : Trn n L := by
  let S := (L.map absI).mergeSort fun a b => decide (a ≤ b)
  have pm : S.Perm (L.map absI) := List.mergeSort_perm _ _
  have so : S.Pairwise fun a b => decide (a ≤ b) = true := List.pairwise_mergeSort (le := fun a b : Int => decide (a ≤ b)) (fun a b c h1 h2 => decide_eq_true (Int.le_trans (of_decide_eq_true h1) (of_decide_eq_true h2))) (fun a b => (Int.le_total a b).elim (fun h => by rw [decide_eq_true h]; rfl) (fun h => by rw [decide_eq_true h, Bool.or_true])) _
  have e := (sorted_turn (n := n) (A := L.map absI) (by rw [List.length_map]; exact hl) pm (so.imp fun h => of_decide_eq_true h)).mpr ⟨fun x hx => by
    obtain ⟨i, hi, rfl⟩ := List.mem_map.mp hx
    exact hb i hi, nd⟩
  unfold Trn
  rw [← e]
  exact pm.symm
/-- a letter of one of n truths -/
def Lt (n : Nat) (l : Int) : Prop := 1 ≤ absI l ∧ absI l ≤ n
theorem Lt.nat {n j : Nat} (h : j < n) : Lt n (1 + (j : Int)) := by
  unfold Lt
  rw [absI_pos (by omega)]
  omega
theorem Lt.neg {n : Nat} {l : Int} (h : Lt n l) : Lt n (-l) := by
  unfold Lt at *
  rw [absI_neg]
  exact h
theorem Trn.lt {n : Nat} {L : List Int} (t : Trn n L) {l : Int} (h : Lt n l) : Lt n (gL L l) := gL_abs t h.1 h.2
/-- a letter is a truth's or its negative -/
theorem Lt.two {n : Nat} {l : Int} (h : Lt n l) : ∃ j : Nat, j < n ∧ (l = 1 + (j : Int) ∨ l = -(1 + (j : Int))) := by
  obtain ⟨h1, h2⟩ := h
  by_cases p : 0 < l
  · rw [absI_pos p] at h1 h2
    exact ⟨(l - 1).toNat, by omega, .inl (by omega)⟩
  · obtain ⟨e, z⟩ := absI_neg' p h1
    rw [e] at h1 h2
    exact ⟨(-l - 1).toNat, by omega, .inr (by omega)⟩
def joined (L M : List Int) : List Int := L.map (gL M)
theorem gL_joined {n : Nat} {L M : List Int} (t : Trn n L) {l : Int} (h : Lt n l) : gL (joined L M) l = gL M (gL L l) := by
  have ll := t.len
  obtain ⟨j, hj, e⟩ := h.two
  have hj' : j < L.length := by omega
  have main : gL (joined L M) (1 + (j : Int)) = gL M (gL L (1 + (j : Int))) := by
    rw [gL_nat, gL_nat, gD hj', gD (by unfold joined; rw [List.length_map]; exact hj')]
    unfold joined
    rw [List.getElem_map]
  rcases e with rfl | rfl
  · exact main
  · have a1 : 1 ≤ absI (1 + (j : Int)) := (Lt.nat hj).1
    rw [gL_neg _ a1, gL_neg _ a1, gL_neg _ (t.lt (Lt.nat hj)).1, main]
theorem trn_joined {n : Nat} {L M : List Int} (t : Trn n L) (u : Trn n M) : Trn n (joined L M) := by
  refine trn_of (by unfold joined; rw [List.length_map]; exact t.len) (fun x hx => ?_) (nd_gL u (fun l hl => t.bd hl) t.nd)
  obtain ⟨l, hl, rfl⟩ := List.mem_map.mp hx
  exact u.lt (t.bd hl)
theorem ext_gL {n : Nat} {X Y : List Int} (hx : X.length = n) (hy : Y.length = n) (h : ∀ l, Lt n l → gL X l = gL Y l) : X = Y := by
  refine List.ext_getElem (hx.trans hy.symm) fun j h1 h2 => ?_
  have := h _ (Lt.nat (n := n) (j := j) (by omega))
  rw [gL_nat, gL_nat, gD h1, gD h2] at this
  exact this
theorem onto {n : Nat} {Z : List Int} (t : Trn n Z) {x : Int} (h : Lt n x) : ∃ l, Lt n l ∧ gL Z l = x := by
  have hm : absI x ∈ Z.map absI := t.mem_iff.mpr (up_mem.mpr h)
  obtain ⟨z, hz, e⟩ := List.mem_map.mp hm
  obtain ⟨j, hj, rfl⟩ := List.getElem_of_mem hz
  have ll := t.len
  have lt : Lt n (1 + (j : Int)) := Lt.nat (by omega)
  have ez : Z[j] = x ∨ Z[j] = -x := by
    rw [absI_nat, absI_nat] at e
    omega
  rcases ez with e2 | e2
  · exact ⟨_, lt, by rw [gL_nat, gD hj, e2]⟩
  · exact ⟨_, lt.neg, by rw [gL_neg _ lt.1, gL_nat, gD hj, e2, Int.neg_neg]⟩
theorem inj_gL {n : Nat} {L : List Int} (t : Trn n L) {l m : Int} (hl : Lt n l) (hm : Lt n m) (e : gL L l = gL L m) : l = m := by
  by_cases h : absI l = absI m
  · have : l = m ∨ l = -m := by
      rw [absI_nat, absI_nat] at h
      omega
    rcases this with h2 | h2
    · exact h2
    · rw [h2, gL_neg _ hm.1] at e
      have := (t.lt hm).1
      have z : gL L m = 0 := by omega
      rw [z] at this
      unfold absI at this
      rw [if_neg (by omega)] at this
      omega
  · have nd := nd_gL (C := [l, m]) t (fun x hx => by
      simp only [List.mem_cons, List.not_mem_nil, or_false] at hx
      rcases hx with rfl | rfl
      · exact hl
      · exact hm) (by simpa using h)
    simp only [List.map_cons, List.map_nil, e] at nd
    simp at nd
/-! ### leading back -/
structure Bk (n : Nat) (L B : List Int) : Prop where
  len : B.length = n
  inv : ∀ l, Lt n l → gL B (gL L l) = l
theorem Bk.of {n : Nat} {L B : List Int} (t : Trn n L) (hl : B.length = n) (h : ∀ j : Nat, j < n → gL B (L.getD j 0) = 1 + (j : Int)) : Bk n L B := by
  refine ⟨hl, fun l hl' => ?_⟩
  obtain ⟨j, hj, e⟩ := hl'.two
  have main : gL B (gL L (1 + (j : Int))) = 1 + (j : Int) := by rw [gL_nat, h j hj]
  rcases e with rfl | rfl
  · exact main
  · rw [gL_neg _ (Lt.nat hj).1, gL_neg _ (t.lt (Lt.nat hj)).1, main]
theorem Bk.back {n : Nat} {L B : List Int} (b : Bk n L B) (t : Trn n L) {x : Int} (h : Lt n x) : Lt n (gL B x) ∧ gL L (gL B x) = x := by
  obtain ⟨l, hl, rfl⟩ := onto t h
  rw [b.inv l hl]
  exact ⟨hl, rfl⟩
theorem Bk.trn {n : Nat} {L B : List Int} (b : Bk n L B) (t : Trn n L) : Trn n B := by
  have get : ∀ j (h : j < B.length), gL B (1 + (j : Int)) = B[j] := fun j h => by rw [gL_nat, gD h]
  have lb := b.len
  refine trn_of b.len (fun x hx => ?_) (List.pairwise_iff_getElem.mpr fun i j hi hj hij => ?_)
  · obtain ⟨j, hj, rfl⟩ := List.getElem_of_mem hx
    rw [← get j hj]
    exact (b.back t (Lt.nat (by omega))).1
  · rw [List.length_map] at hi hj
    rw [List.getElem_map, List.getElem_map]
    intro e
    have e1 := (b.back t (Lt.nat (n := n) (j := i) (by omega))).2
    have e2 := (b.back t (Lt.nat (n := n) (j := j) (by omega))).2
    have b1 := (b.back t (Lt.nat (n := n) (j := j) (by omega))).1
    rw [get i hi] at e1
    rw [get j hj] at e2 b1
    have : B[i] = B[j] ∨ B[i] = -B[j] := by
      rw [absI_nat, absI_nat] at e
      omega
    rcases this with h | h
    · rw [h, e2] at e1
      omega
    · rw [h, gL_neg _ b1.1, e2] at e1
      omega
theorem Bk.uniq {n : Nat} {L B B' : List Int} (t : Trn n L) (b : Bk n L B) (b' : Bk n L B') : B = B' := ext_gL b.len b'.len fun x hx => by
  obtain ⟨l, hl, rfl⟩ := onto t hx
  rw [b.inv l hl, b'.inv l hl]
theorem gL_up {n : Nat} {l : Int} (h : Lt n l) : gL (up n) l = l := by
  obtain ⟨j, hj, e⟩ := h.two
  have main : gL (up n) (1 + (j : Int)) = 1 + (j : Int) := by
    rw [gL_nat, gD (by rw [up_len]; exact hj)]
    unfold up
    rw [List.getElem_map, List.getElem_range]
  rcases e with rfl | rfl
  · exact main
  · rw [gL_neg _ (Lt.nat hj).1, main]
theorem join_len {L M : List Int} : (joined L M).length = L.length := by unfold joined; rw [List.length_map]
theorem Bk.r {n : Nat} {L B : List Int} (t : Trn n L) (b : Bk n L B) : joined L B = up n := ext_gL (join_len.trans t.len) (up_len n) fun l hl => by rw [gL_joined t hl, b.inv l hl, gL_up hl]
theorem Bk.l {n : Nat} {L B : List Int} (t : Trn n L) (b : Bk n L B) : joined B L = up n := ext_gL (join_len.trans b.len) (up_len n) fun l hl => by rw [gL_joined (b.trn t) hl, (b.back t hl).2, gL_up hl]
theorem Bk.two {n : Nat} {L M B C : List Int} (t : Trn n L) (u : Trn n M) (b : Bk n L B) (c : Bk n M C) : Bk n (joined L M) (joined C B) := ⟨join_len.trans c.len, fun l hl => by
  rw [gL_joined (c.trn u) (by rw [gL_joined t hl]; exact u.lt (t.lt hl)), gL_joined t hl, c.inv _ (t.lt hl), b.inv l hl]⟩
theorem join_assoc {n : Nat} {L M N : List Int} (t : Trn n L) (u : Trn n M) : joined (joined L M) N = joined L (joined M N) := ext_gL (join_len.trans (join_len.trans t.len)) (join_len.trans t.len) fun l hl => by
  rw [gL_joined (trn_joined t u) hl, gL_joined t hl, gL_joined t hl, gL_joined u (t.lt hl)]
theorem set_same {G : List Int} {x v : Int} (h : Lt G.length x) : gL (G.set (absI x - 1).toNat (if x > 0 then v else -v)) x = v := by
  obtain ⟨h1, h2⟩ := h
  unfold gL
  by_cases p : x > 0
  · rw [if_pos p, if_pos p, absI_pos p, gD (by rw [List.length_set]; rw [absI_pos p] at h1 h2; omega), List.getElem_set_self]
  · obtain ⟨e, z⟩ := absI_neg' p h1
    rw [if_neg p, if_neg p, e, gD (by rw [List.length_set]; rw [e] at h1 h2; omega), List.getElem_set_self, Int.neg_neg]
theorem set_other {G : List Int} {x y z : Int} (hx : 1 ≤ absI x) (hy : 1 ≤ absI y) (n : absI y ≠ absI x) : gL (G.set (absI x - 1).toNat z) y = gL G y := by
  have key : ∀ k : Nat, k ≠ (absI x - 1).toNat → (G.set (absI x - 1).toNat z).getD k 0 = G.getD k 0 := fun k hk => by
    rw [List.getD_eq_getElem?_getD, List.getD_eq_getElem?_getD, List.getElem?_set_ne (Ne.symm hk)]
  unfold gL
  by_cases p : y > 0
  · rw [if_pos p, if_pos p, key]
    rw [absI_pos p] at hy n
    omega
  · have e := (absI_neg' p hy).1
    rw [if_neg p, if_neg p, key]
    rw [e] at hy n
    omega
/-! ### what holds -/
def hd (W : List Int) (l : Int) : Bool := decide (W.getD (absI l - 1).toNat 0 = if 0 < l then 1 else 0)
end Toy

-- part: AN0
namespace Toy
open PySem L2
/-! ### the search for answers, in numbers -/
def once (cs : List (List Int)) (l : Int) : List (List Int) := (cs.filter fun c => decide (l ∉ c)).map fun c => c.filter fun x => decide (x ≠ -l)
def Bits (n : Nat) (W : List Int) : Prop := W.length = n ∧ ∀ x ∈ W, x = 0 ∨ x = 1
def holdsC (W : List Int) (cs : List (List Int)) : Bool := cs.all fun c => c.any (hd W)
def LtCs (n : Nat) (cs : List (List Int)) : Prop := ∀ c ∈ cs, ∀ x ∈ c, Lt n x
theorem hd_neg {n : Nat} {W : List Int} (b : Bits n W) {l : Int} (h : Lt n l) : hd W (-l) = !hd W l := by
  unfold hd
  have hl := h
  unfold Lt at hl
  have hb : W.getD (absI l - 1).toNat 0 = 0 ∨ W.getD (absI l - 1).toNat 0 = 1 := by
    have hj : (absI l - 1).toNat < W.length := by rw [b.1]; omega
    rw [gD hj]
    exact b.2 _ (List.getElem_mem hj)
  rw [absI_neg]
  by_cases p : 0 < l
  · rw [if_neg (by omega), if_pos p]
    rcases hb with e | e <;> rw [e] <;> decide
  · have hz : l ≠ 0 := by
      intro z
      rw [z] at hl
      have : absI 0 = 0 := rfl
      omega
    rw [if_pos (by omega), if_neg p]
    rcases hb with e | e <;> rw [e] <;> decide
theorem lt_ne {n : Nat} {l : Int} (h : Lt n l) : l ≠ -l := by
  intro e
  unfold Lt absI at h
  split at h <;> omega
theorem mem_once {cs : List (List Int)} {l : Int} {d : List Int} : d ∈ once cs l ↔ ∃ c ∈ cs, l ∉ c ∧ d = c.filter fun x => decide (x ≠ -l) := by
  unfold once
  rw [List.mem_map]
  constructor
  · rintro ⟨c, hc, rfl⟩
    obtain ⟨h1, h2⟩ := List.mem_filter.mp hc
    exact ⟨c, h1, of_decide_eq_true h2, rfl⟩
  · rintro ⟨c, h1, h2, rfl⟩
    exact ⟨c, List.mem_filter.mpr ⟨h1, decide_eq_true h2⟩, rfl⟩
theorem holds_iff {W : List Int} {cs : List (List Int)} : holdsC W cs = true ↔ ∀ c ∈ cs, ∃ x ∈ c, hd W x = true := by
  unfold holdsC
  rw [List.all_eq_true]
  exact ⟨fun h c hc => List.any_eq_true.mp (h c hc), fun h c hc => List.any_eq_true.mpr (h c hc)⟩
theorem holds_once {n : Nat} {W : List Int} {cs : List (List Int)} {l : Int} (b : Bits n W) (hl : Lt n l) (t : hd W l = true) : holdsC W (once cs l) = holdsC W cs := by
  rw [Bool.eq_iff_iff, holds_iff, holds_iff]
  constructor
  · intro h c hc
    by_cases m : l ∈ c
    · exact ⟨l, m, t⟩
    · obtain ⟨x, hx, hx2⟩ := h _ (mem_once.mpr ⟨c, hc, m, rfl⟩)
      exact ⟨x, (List.mem_filter.mp hx).1, hx2⟩
  · intro h d hd'
    obtain ⟨c, hc, m, rfl⟩ := mem_once.mp hd'
    obtain ⟨x, hx, hx2⟩ := h c hc
    refine ⟨x, List.mem_filter.mpr ⟨hx, decide_eq_true fun e => ?_⟩, hx2⟩
    rw [e, hd_neg b hl, t] at hx2
    cases hx2
theorem lt_once {n : Nat} {cs : List (List Int)} {l : Int} (h : LtCs n cs) : LtCs n (once cs l) := fun d hd' x hx => by
  obtain ⟨c, hc, _, rfl⟩ := mem_once.mp hd'
  exact h c hc x (List.mem_filter.mp hx).1
/-- how much is left -/
def szC (cs : List (List Int)) : Nat := (cs.map fun c => c.length + 1).sum
theorem sz_cons (c : List Int) (cs : List (List Int)) : szC (c :: cs) = c.length + 1 + szC cs := by unfold szC; rw [List.map_cons, List.sum_cons]
theorem once_cons (c : List Int) (cs : List (List Int)) (l : Int) : once (c :: cs) l = if l ∈ c then once cs l else (c.filter fun x => decide (x ≠ -l)) :: once cs l := by
  unfold once
  rw [List.filter_cons]
  by_cases h : l ∈ c
  · rw [if_pos h, if_neg (by rw [decide_eq_false (not_not_intro h)]; decide)]
  · rw [if_neg h, if_pos (decide_eq_true h), List.map_cons]
theorem sz_le (l : Int) : ∀ cs : List (List Int), szC (once cs l) ≤ szC cs
  | [] => Nat.le_refl _
  | c :: r => by
    have ih := sz_le l r
    rw [once_cons, sz_cons]
    split
    · omega
    · rw [sz_cons]
      have := List.length_filter_le (fun x => decide (x ≠ -l)) c
      omega
theorem filter_lt {c : List Int} {p : Int → Bool} {x : Int} (hx : x ∈ c) (hp : p x = false) : (c.filter p).length < c.length := by
  have h1 := List.length_filter_le p c
  rcases Nat.lt_or_eq_of_le h1 with h | h
  · exact h
  · have := (List.length_filter_eq_length_iff.mp h) x hx
    rw [hp] at this
    cases this
theorem sz_lt {l : Int} : ∀ {cs : List (List Int)} {d : List Int}, d ∈ cs → (l ∈ d ∨ -l ∈ d) → szC (once cs l) < szC cs
  | c :: r, d, hd', hl => by
    rw [once_cons, sz_cons]
    rcases List.mem_cons.mp hd' with rfl | hd'
    · have := sz_le l r
      split
      · omega
      · rename_i nm
        rw [sz_cons]
        have hm : -l ∈ d := hl.resolve_left nm
        have := filter_lt (p := fun x => decide (x ≠ -l)) hm (by rw [decide_eq_false (not_not_intro rfl)])
        omega
    · have ih := sz_lt hd' hl
      split
      · omega
      · rw [sz_cons]
        have := List.length_filter_le (fun x => decide (x ≠ -l)) c
        omega
/-- letters by which some hold of each clause -/
structure WayOk (n : Nat) (way : List Int) (cs : List (List Int)) : Prop where
  lt : ∀ l ∈ way, Lt n l
  one : ∀ l ∈ way, -l ∉ way
  hit : ∀ c ∈ cs, ∃ l ∈ way, l ∈ c
theorem WayOk.once {n : Nat} {way : List Int} {cs : List (List Int)} {l : Int} (h : WayOk n way cs) (nl : -l ∉ way) : WayOk n way (once cs l) := by
  refine ⟨h.lt, h.one, fun d hd' => ?_⟩
  obtain ⟨c, hc, _, rfl⟩ := mem_once.mp hd'
  obtain ⟨x, hx, hx2⟩ := h.hit c hc
  exact ⟨x, hx, List.mem_filter.mpr ⟨hx2, decide_eq_true fun e => nl (e ▸ hx)⟩⟩
/-- the worths by a way -/
def wayW (n : Nat) (way : List Int) : List Int := (List.range n).map fun (i : Nat) => if (1 + (i : Int)) ∈ way then 1 else 0
theorem wayW_bits (n : Nat) (way : List Int) : Bits n (wayW n way) := by
  refine ⟨by unfold wayW; rw [List.length_map, List.length_range], fun x hx => ?_⟩
  unfold wayW at hx
  obtain ⟨i, _, rfl⟩ := List.mem_map.mp hx
  split
  · exact .inr rfl
  · exact .inl rfl
theorem wayW_hd {n : Nat} {way : List Int} (one : ∀ l ∈ way, -l ∉ way) {l : Int} (h : Lt n l) (hl : l ∈ way) : hd (wayW n way) l = true := by
  obtain ⟨j, hj, e⟩ := h.two
  unfold hd wayW
  rcases e with rfl | rfl
  · rw [absI_pos (by omega), show (1 + (j : Int) - 1).toNat = j by omega, List.getD_eq_getElem?_getD, List.getElem?_map, List.getElem?_range hj]
    rw [if_pos (by omega)]
    exact decide_eq_true (if_pos hl)
  · have e : absI (-(1 + (j : Int))) = 1 + (j : Int) := by rw [absI_neg, absI_pos (by omega)]
    rw [e, show (1 + (j : Int) - 1).toNat = j by omega, List.getD_eq_getElem?_getD, List.getElem?_map, List.getElem?_range hj]
    rw [if_neg (by omega)]
    refine decide_eq_true (if_neg fun z => ?_)
    have := one _ hl
    rw [Int.neg_neg] at this
    exact this z
theorem WayOk.sat {n : Nat} {way : List Int} {cs : List (List Int)} (h : WayOk n way cs) : ∃ W, Bits n W ∧ holdsC W cs = true := by
  refine ⟨wayW n way, wayW_bits n way, holds_iff.mpr fun c hc => ?_⟩
  obtain ⟨l, hl, hl2⟩ := h.hit c hc
  exact ⟨l, hl2, wayW_hd h.one (h.lt l hl) hl⟩
/-- a node: letters that were made so, and what is left of the clauses -/
structure NodeOk (n : Nat) (cs : List (List Int)) (z : List Int × List (List Int)) : Prop where
  lt : ∀ l ∈ z.1, Lt n l
  one : ∀ l ∈ z.1, -l ∉ z.1
  cov : ∀ c ∈ cs, (∃ l ∈ z.1, l ∈ c) ∨ ∃ d ∈ z.2, ∀ x ∈ d, x ∈ c
  off : ∀ d ∈ z.2, ∀ x ∈ d, x ∉ z.1 ∧ -x ∉ z.1
  ltc : LtCs n z.2
theorem NodeOk.root {n : Nat} {cs : List (List Int)} (h : LtCs n cs) : NodeOk n cs ([], cs) :=
  ⟨(fun _ h => nomatch h), (fun _ h => nomatch h), fun c hc => .inr ⟨c, hc, fun _ h => h⟩, fun _ _ _ _ => ⟨(fun h => nomatch h), (fun h => nomatch h)⟩, h⟩
theorem NodeOk.done {n : Nat} {cs : List (List Int)} {ls : List Int} (h : NodeOk n cs (ls, [])) : WayOk n ls cs :=
  ⟨h.lt, h.one, fun c hc => (h.cov c hc).elim id fun ⟨_, hd', _⟩ => nomatch hd'⟩
theorem NodeOk.next {n : Nat} {cs : List (List Int)} {z : List Int × List (List Int)} (h : NodeOk n cs z) {l : Int} {d : List Int} (hd' : d ∈ z.2) (hl : l ∈ d ∨ -l ∈ d) : NodeOk n cs (z.1 ++ [l], Toy.once z.2 l) := by
  have lt : Lt n l := by
    rcases hl with hl | hl
    · exact h.ltc d hd' l hl
    · have := (h.ltc d hd' _ hl).neg
      rw [Int.neg_neg] at this
      exact this
  have off : l ∉ z.1 ∧ -l ∉ z.1 := by
    rcases hl with hl | hl
    · exact h.off d hd' l hl
    · have := h.off d hd' _ hl
      rw [Int.neg_neg] at this
      exact ⟨this.2, this.1⟩
  refine ⟨fun x hx => ?_, fun x hx => ?_, fun c hc => ?_, fun e he x hx => ?_, lt_once h.ltc⟩
  · rcases List.mem_append.mp hx with hx | hx
    · exact h.lt x hx
    · rw [List.mem_singleton.mp hx]
      exact lt
  · intro hm
    rcases List.mem_append.mp hx with hx | hx
    · rcases List.mem_append.mp hm with hm | hm
      · exact h.one x hx hm
      · have e : l = -x := (List.mem_singleton.mp hm).symm
        refine off.2 ?_
        rw [e, Int.neg_neg]
        exact hx
    · rw [List.mem_singleton.mp hx] at hm
      rcases List.mem_append.mp hm with hm | hm
      · exact off.2 hm
      · exact lt_ne lt (List.mem_singleton.mp hm).symm
  · rcases h.cov c hc with ⟨x, hx, hxc⟩ | ⟨e, he, hs⟩
    · exact .inl ⟨x, List.mem_append_left _ hx, hxc⟩
    · by_cases m : l ∈ e
      · exact .inl ⟨l, List.mem_append_right _ (List.mem_singleton.mpr rfl), hs l m⟩
      · exact .inr ⟨_, mem_once.mpr ⟨e, he, m, rfl⟩, fun x hx => hs x (List.mem_filter.mp hx).1⟩
  · obtain ⟨c, hc, nm, rfl⟩ := mem_once.mp he
    obtain ⟨hx1, hx2⟩ := List.mem_filter.mp hx
    have hx2 : x ≠ -l := of_decide_eq_true hx2
    have o := h.off c hc x hx1
    refine ⟨fun hm => ?_, fun hm => ?_⟩
    · rcases List.mem_append.mp hm with hm | hm
      · exact o.1 hm
      · rw [List.mem_singleton.mp hm] at hx1
        exact nm hx1
    · rcases List.mem_append.mp hm with hm | hm
      · exact o.2 hm
      · refine hx2 ?_
        rw [← List.mem_singleton.mp hm, Int.neg_neg]
/-- what is chosen of a clause -/
def choiceL (c : List Int) : List Int := match c with
  | [] => []
  | [x] => [x]
  | x :: _ :: _ => [-x, x]
theorem choice_in {c : List Int} {l : Int} (h : l ∈ choiceL c) : l ∈ c ∨ -l ∈ c := by
  match c, h with
  | [x], h => exact .inl h
  | x :: y :: r, h =>
    simp only [choiceL, List.mem_cons, List.not_mem_nil, or_false] at h
    rcases h with rfl | rfl
    · exact .inr (by rw [Int.neg_neg]; exact List.mem_cons_self)
    · exact .inl List.mem_cons_self
theorem choice_some {n : Nat} {W : List Int} {cs : List (List Int)} (b : Bits n W) (lt : LtCs n cs) (h : holdsC W cs = true) {d : List Int} (hd' : d ∈ cs) : ∃ l ∈ choiceL d, Lt n l ∧ hd W l = true := by
  have h1 := holds_iff.mp h d hd'
  match d, hd', h1 with
  | [], _, ⟨x, hx, _⟩ => cases hx
  | [x], hd', ⟨y, hy, t⟩ =>
    rw [List.mem_singleton.mp hy] at t
    exact ⟨x, List.mem_singleton.mpr rfl, lt _ hd' x (List.mem_singleton.mpr rfl), t⟩
  | x :: y :: r, hd', _ =>
    have hx := lt _ hd' x List.mem_cons_self
    cases e : hd W x with
    | true => exact ⟨x, by simp [choiceL], hx, e⟩
    | false => exact ⟨-x, by simp [choiceL], hx.neg, by rw [hd_neg b hx, e]; rfl⟩
/-! ### all worths, rising -/
def allb : Nat → List (List Int)
  | 0 => [[]]
  | n + 1 => (allb n).flatMap fun p => [p ++ [0], p ++ [1]]
theorem allb_len : ∀ {n : Nat} {p : List Int}, p ∈ allb n → Bits n p
  | 0, p, h => by
    rw [List.mem_singleton.mp h]
    exact ⟨rfl, fun _ h => nomatch h⟩
  | n + 1, p, h => by
    obtain ⟨q, hq, hp⟩ := List.mem_flatMap.mp h
    obtain ⟨l, b⟩ := allb_len hq
    simp only [List.mem_cons, List.not_mem_nil, or_false] at hp
    rcases hp with rfl | rfl
    · refine ⟨by rw [List.length_append, l]; rfl, fun x hx => ?_⟩
      rcases List.mem_append.mp hx with hx | hx
      · exact b x hx
      · exact .inl (List.mem_singleton.mp hx)
    · refine ⟨by rw [List.length_append, l]; rfl, fun x hx => ?_⟩
      rcases List.mem_append.mp hx with hx | hx
      · exact b x hx
      · exact .inr (List.mem_singleton.mp hx)
theorem allb_mem : ∀ {n : Nat} {p : List Int}, Bits n p → p ∈ allb n
  | 0, p, ⟨l, _⟩ => by
    rw [List.eq_nil_of_length_eq_zero l]
    exact List.mem_singleton.mpr rfl
  | n + 1, p, ⟨l, b⟩ => by
    obtain ⟨q, x, rfl⟩ : ∃ (q : List Int) (x : Int), p = q ++ [x] := ⟨_, _, (List.dropLast_concat_getLast (fun z => by rw [z] at l; cases l)).symm⟩
    have lq : q.length = n := by
      rw [List.length_append] at l
      exact Nat.succ.inj l
    refine List.mem_flatMap.mpr ⟨q, allb_mem ⟨lq, fun y hy => b y (List.mem_append_left _ hy)⟩, ?_⟩
    rcases b x (List.mem_append_right _ (List.mem_singleton.mpr rfl)) with rfl | rfl <;> simp
/-- the clauses behind the first worths -/
def resW (cs : List (List Int)) (p : List Int) : List (List Int) := (List.range p.length).foldl (fun acc (i : Nat) => once acc (if p.getD i 0 = 1 then 1 + (i : Int) else -(1 + (i : Int)))) cs
theorem res_snoc (cs : List (List Int)) (p : List Int) (x : Int) : resW cs (p ++ [x]) = once (resW cs p) (if x = 1 then 1 + (p.length : Int) else -(1 + (p.length : Int))) := by
  unfold resW
  rw [List.length_append, List.length_singleton, List.range_succ, List.foldl_append]
  have e1 : ∀ (l : List Nat) (acc : List (List Int)), (∀ i ∈ l, i < p.length) → l.foldl (fun acc (i : Nat) => once acc (if (p ++ [x]).getD i 0 = 1 then 1 + (i : Int) else -(1 + (i : Int)))) acc = l.foldl (fun acc (i : Nat) => once acc (if p.getD i 0 = 1 then 1 + (i : Int) else -(1 + (i : Int)))) acc := by
    intro l
    induction l with
    | nil => intro _ _; rfl
    | cons a r ih =>
      intro acc h
      have ha := h a List.mem_cons_self
      have e : (p ++ [x]).getD a 0 = p.getD a 0 := by
        rw [List.getD_eq_getElem?_getD, List.getD_eq_getElem?_getD, List.getElem?_append_left ha]
      rw [List.foldl_cons, List.foldl_cons, e]
      exact ih _ fun i hi => h i (List.mem_cons_of_mem _ hi)
  rw [e1 _ _ fun i hi => List.mem_range.mp hi]
  show once _ _ = _
  have e2 : (p ++ [x]).getD p.length 0 = x := by
    rw [List.getD_eq_getElem?_getD, List.getElem?_append_right (Nat.le_refl _), Nat.sub_self]
    rfl
  rw [e2]
def Sat (n : Nat) (cs : List (List Int)) : Prop := ∃ W, Bits n W ∧ holdsC W cs = true
theorem lt_res {n : Nat} {cs : List (List Int)} (h : LtCs n cs) (p : List Int) : LtCs n (resW cs p) := by
  unfold resW
  generalize List.range p.length = l
  revert h
  induction l generalizing cs with
  | nil => exact fun h => h
  | cons a r ih => exact fun h => ih (lt_once h)

theorem res_far {n : Nat} {cs : List (List Int)} (h : LtCs n cs) : ∀ (k : Nat) (p : List Int), p.length = k → ∀ d ∈ resW cs p, ∀ x ∈ d, (k : Int) < absI x
  | 0, p, l => by
    rw [List.eq_nil_of_length_eq_zero l]
    intro d hd' x hx
    have := (h d hd' x hx).1
    omega
  | k + 1, p, l => by
    obtain ⟨q, y, rfl⟩ : ∃ (q : List Int) (y : Int), p = q ++ [y] := ⟨_, _, (List.dropLast_concat_getLast (fun z => by rw [z] at l; cases l)).symm⟩
    have lq : q.length = k := by
      rw [List.length_append] at l
      exact Nat.succ.inj l
    have ih := res_far h k q lq
    intro d hd' x hx
    rw [res_snoc, lq] at hd'
    obtain ⟨c, hc, nm, rfl⟩ := mem_once.mp hd'
    obtain ⟨hx1, hx2⟩ := List.mem_filter.mp hx
    have hx2 := of_decide_eq_true hx2
    have i1 := ih c hc x hx1
    have n1 : x ≠ (if y = 1 then 1 + (k : Int) else -(1 + (k : Int))) := fun e => nm (e ▸ hx1)
    have n2 : absI x ≠ 1 + (k : Int) := by
      intro e
      unfold absI at e
      split at n1 <;> split at e <;> simp_all <;> omega
    omega
theorem hd_take {V : List Int} {k : Nat} {x y : Int} {q : List Int} (hl : q.length = k) (h : V.take (k + 1) = q ++ [y]) (hy : y = 0 ∨ y = 1) : hd V (if y = 1 then 1 + (k : Int) else -(1 + (k : Int))) = true := by
  have e : V.getD k 0 = y := by
    have h1 : (V.take (k + 1))[k]? = some y := by
      rw [h, List.getElem?_append_right (by omega), hl, Nat.sub_self]
      rfl
    rw [List.getElem?_take_of_lt (Nat.lt_succ_self k)] at h1
    rw [List.getD_eq_getElem?_getD, h1]
    rfl
  unfold hd
  rcases hy with rfl | rfl
  · rw [if_neg (by decide), absI_neg, absI_pos (by omega), show (1 + (k : Int) - 1).toNat = k by omega, e, if_neg (by omega)]
    rfl
  · rw [if_pos rfl, absI_pos (by omega), show (1 + (k : Int) - 1).toNat = k by omega, e, if_pos (by omega)]
    rfl
theorem res_agree {n : Nat} {cs : List (List Int)} {V : List Int} (b : Bits n V) (h : LtCs n cs) : ∀ (k : Nat) (p : List Int), p.length = k → k ≤ n → V.take k = p → holdsC V (resW cs p) = holdsC V cs
  | 0, p, l, _, _ => by
    rw [List.eq_nil_of_length_eq_zero l]
    rfl
  | k + 1, p, l, hk, ht => by
    obtain ⟨q, y, rfl⟩ : ∃ (q : List Int) (y : Int), p = q ++ [y] := ⟨_, _, (List.dropLast_concat_getLast (fun z => by rw [z] at l; cases l)).symm⟩
    have lq : q.length = k := by
      rw [List.length_append] at l
      exact Nat.succ.inj l
    have hy : y = 0 ∨ y = 1 := b.2 y (List.mem_of_mem_take (ht ▸ List.mem_append_right _ (List.mem_singleton.mpr rfl)))
    have tq : V.take k = q := by
      have := congrArg (List.take k) ht
      rw [List.take_take, Nat.min_eq_left (Nat.le_succ k), List.take_append_of_le_length (by omega), List.take_of_length_le (Nat.le_of_eq lq : q.length ≤ k)] at this
      exact this
    have lt : Lt n (if y = 1 then 1 + (k : Int) else -(1 + (k : Int))) := by
      have := Lt.nat (n := n) (j := k) (by omega)
      split
      · exact this
      · exact this.neg
    rw [res_snoc, lq, holds_once b lt (hd_take (x := 0) lq ht hy)]
    exact res_agree b h k q lq (by omega) tq
theorem sat_res {n : Nat} {cs : List (List Int)} (h : LtCs n cs) {p : List Int} (hp : p.length ≤ n) (bp : ∀ x ∈ p, x = 0 ∨ x = 1) : Sat n (resW cs p) ↔ ∃ V, Bits n V ∧ V.take p.length = p ∧ holdsC V cs = true := by
  constructor
  · rintro ⟨W, bW, hW⟩
    have bV : Bits n (p ++ W.drop p.length) := by
      refine ⟨by rw [List.length_append, List.length_drop, bW.1]; omega, fun x hx => ?_⟩
      rcases List.mem_append.mp hx with hx | hx
      · exact bp x hx
      · exact bW.2 x (List.mem_of_mem_drop hx)
    have tV : (p ++ W.drop p.length).take p.length = p := by rw [List.take_append_of_le_length (Nat.le_refl _), List.take_length]
    refine ⟨_, bV, tV, ?_⟩
    rw [← res_agree bV h p.length p rfl hp tV]
    refine holds_iff.mpr fun d hd' => ?_
    obtain ⟨x, hx, t⟩ := holds_iff.mp hW d hd'
    refine ⟨x, hx, ?_⟩
    have far := res_far h p.length p rfl d hd' x hx
    have e : (p ++ W.drop p.length).getD (absI x - 1).toNat 0 = W.getD (absI x - 1).toNat 0 := by
      rw [List.getD_eq_getElem?_getD, List.getD_eq_getElem?_getD, List.getElem?_append_right (by omega), List.getElem?_drop]
      congr 2
      omega
    unfold hd at t ⊢
    rw [e]
    exact t
  · rintro ⟨V, bV, tV, hV⟩
    exact ⟨V, bV, by rw [res_agree bV h p.length p rfl hp tV]; exact hV⟩
def ansL (n : Nat) (cs : List (List Int)) : List (List Int) := (allb n).filter fun p => holdsC p cs
open Classical in
noncomputable def stL (n : Nat) (cs : List (List Int)) : Nat → List (List Int)
  | 0 => if Sat n cs then [[]] else []
  | k + 1 => (stL n cs k).flatMap fun p => [p ++ [0], p ++ [1]].filter fun q => decide (Sat n (resW cs q))
open Classical in
theorem st_filter {n : Nat} {cs : List (List Int)} (h : LtCs n cs) : ∀ k, k ≤ n → stL n cs k = (allb k).filter fun p => decide (Sat n (resW cs p))
  | 0, _ => by
    show (if Sat n cs then [[]] else []) = ([[]] : List (List Int)).filter fun p => decide (Sat n (resW cs p))
    have e : resW cs [] = cs := rfl
    by_cases s : Sat n cs
    · rw [if_pos s, List.filter_cons, if_pos (by rw [e]; exact decide_eq_true s)]
      rfl
    · rw [if_neg s, List.filter_cons, if_neg (by rw [e, decide_eq_false s]; decide)]
      rfl
  | k + 1, hk => by
    have ih := st_filter h k (by omega)
    have up : ∀ p ∈ allb k, ∀ x : Int, (x = 0 ∨ x = 1) → Sat n (resW cs (p ++ [x])) → Sat n (resW cs p) := by
      intro p hp x hx s
      obtain ⟨lp, bp⟩ := allb_len hp
      have l1 : (p ++ [x]).length = k + 1 := by rw [List.length_append, lp]; rfl
      obtain ⟨V, bV, tV, hV⟩ := (sat_res h (p := p ++ [x]) (by omega) fun y hy => (List.mem_append.mp hy).elim (bp y) fun hy => by rw [List.mem_singleton.mp hy]; exact hx).mp s
      refine (sat_res h (by omega) bp).mpr ⟨V, bV, ?_, hV⟩
      have := congrArg (List.take k) tV
      rw [l1, List.take_take, Nat.min_eq_left (Nat.le_succ k), List.take_append_of_le_length (by omega), List.take_of_length_le (Nat.le_of_eq lp : p.length ≤ k)] at this
      rw [lp]
      exact this
    show (stL n cs k).flatMap _ = _
    rw [ih]
    show _ = ((allb k).flatMap fun p => [p ++ [0], p ++ [1]]).filter _
    have key : ∀ l : List (List Int), (∀ p ∈ l, p ∈ allb k) → (l.filter fun p => decide (Sat n (resW cs p))).flatMap (fun p => [p ++ [0], p ++ [1]].filter fun q => decide (Sat n (resW cs q))) = (l.flatMap fun p => [p ++ [0], p ++ [1]]).filter fun q => decide (Sat n (resW cs q)) := by
      intro l
      induction l with
      | nil => intro _; rfl
      | cons a r ih2 =>
        intro hl
        have i2 := ih2 fun p hp => hl p (List.mem_cons_of_mem _ hp)
        rw [List.flatMap_cons, List.filter_append, ← i2, List.filter_cons]
        by_cases s : Sat n (resW cs a)
        · rw [if_pos (decide_eq_true s), List.flatMap_cons]
        · rw [if_neg (by rw [decide_eq_false s]; decide)]
          have e : ([a ++ [0], a ++ [1]].filter fun q => decide (Sat n (resW cs q))) = [] := by
            rw [List.filter_eq_nil_iff]
            intro q hq
            have ha := hl a List.mem_cons_self
            simp only [List.mem_cons, List.not_mem_nil, or_false] at hq
            rcases hq with rfl | rfl
            · rw [decide_eq_false fun z => s (up a ha 0 (.inl rfl) z)]
              decide
            · rw [decide_eq_false fun z => s (up a ha 1 (.inr rfl) z)]
              decide
          rw [e, List.nil_append]
    exact key (allb k) fun p hp => hp
open Classical in
theorem st_ans {n : Nat} {cs : List (List Int)} (h : LtCs n cs) : stL n cs n = ansL n cs := by
  rw [st_filter h n (Nat.le_refl n)]
  unfold ansL
  refine List.filter_congr fun p hp => ?_
  obtain ⟨lp, bp⟩ := allb_len hp
  rw [Bool.eq_iff_iff, decide_eq_true_eq, sat_res h (by omega) bp]
  constructor
  · rintro ⟨V, bV, tV, hV⟩
    rw [lp, List.take_of_length_le (Nat.le_of_eq bV.1)] at tV
    rw [← tV]
    exact hV
  · intro hV
    exact ⟨p, ⟨lp, bp⟩, List.take_length, hV⟩
theorem ans_mem {n : Nat} {cs : List (List Int)} {p : List Int} : p ∈ ansL n cs ↔ Bits n p ∧ holdsC p cs = true := by
  unfold ansL
  rw [List.mem_filter]
  exact ⟨fun h => ⟨allb_len h.1, h.2⟩, fun h => ⟨allb_mem h.1, h.2⟩⟩
end Toy

-- part: P2
namespace Toy
open PySem L2
section
variable {P : Program} {w : World} {K : PySem.W.Frag} {mg : Str → Option Value} {base : Heap}
abbrev sIsList : Stmt := s_is_list
theorem scIsList : FnScope ["thing"] ["thing"] (defScope sIsList) := ⟨rfl, rfl, rfl, by decide +kernel, rfl, by decide +kernel, by decide +kernel⟩
def spIsList (K : PySem.W.Frag) : Sp := fun vs H Q _ => ∃ x T, vs = [x] ∧ TyB K H x T ∧ ∀ H', Same H H' → Q (.bl (["list", "tuple"].contains T)) H'
theorem ok_isList {f : Addr} {fd : FuncData} (F : Fun K "is_list" "is_list" sIsList f fd) (B : Bl mg) : FnOk P w K mg base CX0 1 f fd ["thing"] (spIsList K) := by
  refine F.ok scIsList (fun vs H Q E h => ?_) (fun cdv A outer s H vs Q E hr h => ?_)
  · obtain ⟨x, T, rfl, _⟩ := h
    rfl
  · obtain ⟨x, T, rfl, ty, q⟩ := h
    refine ⟨_, pss_one (ps_ret (pe_cmpR op_inTy (pe_callTy call_type1 (by rfl) B.type (by decide +kernel) (pa_cons (pv 0) pa_nil)) (pe_tup (pa_cons (pe_bltn (v := .ty "list") (by rfl) B.list (by decide +kernel) rfl) (pa_cons (pe_bltn (v := .ty "tuple") (by rfl) B.tuple (by decide +kernel) rfl) pa_nil))) (by rfl))), ?_⟩
    show tRet _ _ [some x] H
    walk_at "rd"
    refine ⟨x, T, rfl, ty, by show 2 ≤ sizeLine; decide, fun p hp => ?_⟩
    exact ⟨T, p, ["list", "tuple"], rfl, rfl, SqT.of upd_same, Kn.ty ty, by simp [Kn], q _ (Same.new hp)⟩
abbrev sClause : Stmt := s_clause_of
theorem scClause : FnScope ["thing", "many", "letters", "letter"] ["thing", "many"] (defScope sClause) := ⟨rfl, rfl, rfl, by decide +kernel, rfl, by decide +kernel, by decide +kernel⟩
def spClause (K : PySem.W.Frag) : Sp := fun vs H Q _ => ∃ p row t, vs = [.ref p, .int t] ∧ SqA K H p (row.map V.int) ∧ RowOk t row ∧ row.length ≤ 1000 ∧ ∀ (c : List Int) (a : Addr) (H' : Hp), IsCl row c → Same H H' → H' a = some (.tup (c.map V.int)) → Q (.ref a) H'
theorem ok_clause {f fN fL fT : Addr} {fd fdN fdL fdT : FuncData} (F : Fun K "clause_of" "clause_of" sClause f fd) (B : Bl mg) (N : Df K mg "is_number" sIsNum ["thing"] fN fdN) (L : Df K mg "is_list" sIsList ["thing"] fL fdL) (T : Df K mg "is_letter" sIsLet ["thing", "many"] fT fdT) :
    FnOk P w K mg base CX0 3 f fd ["thing", "many"] (spClause K) := by
  have GL : FnOk P w K mg base CX0 1 fL fdL ["thing"] (spIsList K) := ok_isList L.F B
  have GT : FnOk P w K mg base CX0 2 fT fdT ["thing", "many"] (spIsLet K) := ok_isLet T.F B N
  refine F.ok scClause (fun vs H Q E h => ?_) (fun cdv A outer s H vs Q E hr h => ?_)
  · obtain ⟨p, row, t, rfl, _⟩ := h
    rfl
  · obtain ⟨p, row, t, rfl, hS, ok, hlen, q⟩ := h
    have hu := hu_of hr
    refine ⟨_, pss_cons (ps_if (pt_not (pt_val (pe_call GL (hr.mono (by decide)) rfl L.g L.F.kp L.b .nil pass0 (pa_cons (pv 0) pa_nil)))) (pss_one (ps_ret pe_non)) pss_nil)
      (pss_cons (ps_set (i := 2) scClause.nd rfl (Or.inl rfl) pe_dnewK)
      (pss_cons (ps_for PassesOwn.never rfl (pi_or (pi_list (pv 0)) (pi_tup (pv 0))) (pg_name (i := 3) scClause.nd rfl (Or.inl rfl))
        (pss_cons (ps_if (PW.pt (pw_or (pt_not (pt_val (pe_call GT hr rfl T.g T.F.kp T.b .nil pass0 (pa_cons (pv 3) (pa_cons (pv 1) pa_nil))))) (pw_or1 (pt_cmp (pc_din hu (pe_un un_neg (pv 3)) (pv 2)))))) (pss_one (ps_ret pe_non)) pss_nil)
        (pss_one (ps_dput hu (pv 2) (pv 3) pe_bl rfl))))
      (pss_one (ps_ret (pe_callTy call_tuple_of (by rfl) B.tuple (by decide +kernel) (pa_cons (pe_sorted (run_list (u100 hr) rel_abs fun a => PyProof.Rows.ksk_t4 "abs" a) (key_abs (by rfl) B.abs) (by rfl) B.sorted
        (pa_cons (pe_callTy (call_listD rfl) (by rfl) B.list (by decide +kernel) (pa_cons (pv 2) pa_nil)) pa_nil)) pa_nil)))))), ?_⟩
    show tSeq _ _ _ [some (.ref p), some (.int t), none, none] H
    walk_at "rd"
    obtain ⟨Ty, ty, hty⟩ := hS.ty
    refine ⟨.ref p, Ty, rfl, ty, fun H1 s1 => ?_⟩
    rw [hty]
    walk_at "rd"
    refine iteF ?_
    walk_at "rd"
    intro d hd
    walk_at "rd"
    have nd1 : Same H1 (upd H1 d (.dK [])) := Same.new hd
    let Pv : Nat → St → Hp → Prop := fun i σ H' => ∃ (kvs : List (Key × V)) (ks : List Int) (lv : Option V), σ = [some (.ref p), some (.int t), some (.ref d), lv] ∧ Same H1 H' ∧ H' d = some (.dK kvs) ∧ kvs.map (·.1) = ks.map Sum.inl ∧ ks.Nodup ∧ (∀ z, z ∈ ks ↔ z ∈ row.take i) ∧ ks.length ≤ i
    have h0 : Pv 0 [some (.ref p), some (.int t), some (.ref d), none] (upd H1 d (.dK [])) := ⟨[], [], none, rfl, nd1, upd_same, rfl, List.nodup_nil, by simp, Nat.le_refl _⟩
    have sS : ∀ i σ H', Pv i σ H' → SqA K H' p (row.map V.int) := fun i σ H' ⟨_, _, _, _, e, _⟩ => SqA.same (Same.trans s1 e) hS
    have hs : ∀ (D : Ends) i x σ H', (row.map V.int)[i]? = some x → Pv i σ H' → (tSeq (tIfS (tOr (tNot (tB (tCall (spIsLet K) [] E0 (tCons (tVar 3) (tCons (tVar 1) tNil))))) (tB (tDIn (tUn (rU fun i => V.int (-i)) (tVar 3)) (tVar 2)))) (tRet (tC V.non)) tNext) (sDPut (tVar 2) (tVar 3) (tC (V.bl true)))) { D with nx := Pv (i + 1), ct := Pv (i + 1), bk := D.nx } (σ.set 3 (some x)) H' := by
      rintro D i x σ H' hi ⟨kvs, ks, lv, rfl, e1, hk, hkeys, hnd, hmem, hkl⟩
      rw [List.getElem?_map] at hi
      cases ez : row[i]? with
      | none => rw [ez] at hi; cases hi
      | some z =>
        rw [ez] at hi
        cases hi
        have zr : z ∈ row := List.mem_of_getElem? ez
        have hz1 := ok.low z zr
        have hz2 := ok.top z zr
        have hil : i < row.length := (List.getElem?_eq_some_iff.mp ez).1
        walk_at "rd"
        refine ⟨.int z, "int", t, rfl, .int z, ?_⟩
        have el : letB (.int z) t = true := by
          show (decide (1 ≤ absI z) && decide (absI z ≤ t)) = true
          rw [absI_nat]
          simp only [Bool.and_eq_true, decide_eq_true_eq]
          omega
        rw [el]
        walk_at "rd"
        refine iteF ?_
        refine ⟨d, _, rfl, DGet.k (k := Sum.inl (-z)) hk, ?_⟩
        rw [val_keys inl_inj hkeys (-z), decide_eq_false (fun h => ok.one z zr (List.mem_of_mem_take ((hmem _).mp h)))]
        walk_at "rd"
        refine iteF ?_
        walk_at "rd"
        refine ⟨d, _, rfl, DPut.k (k := Sum.inl z) hk ?_, ?_⟩
        · have := congrArg List.length hkeys
          rw [List.length_map, List.length_map] at this
          exact small1000 (by omega)
        · refine ⟨_, addU ks z, _, rfl, fun b o e => ?_, upd_same, keys_put inl_inj hkeys z _, nd_add hnd z, fun y => ?_, Nat.le_trans (len_add z) (by omega)⟩
          · have hb : b ≠ d := ne_of_none e hd
            rw [upd_ne hb]
            exact e1 b o e
          · rw [mem_add, hmem, List.take_add_one, ez]
            simp
    have hd' : ∀ σ H', Pv (row.map V.int).length σ H' → (tRet (tCB (fun xs H Q => ∃ p ys, xs = [V.ref p] ∧ ((SqL K H p ys ∧ ∀ (l : Addr), H l = none → Q (V.ref l) (upd H l (HO.tup ys))) ∨ SqT K H p ys ∧ Q (V.ref p) H)) (tCons (tSorted (rSortL K fun x H Q => ∃ i, x = V.int i ∧ Q (V.int (if i < 0 then -i else i)) H)
        (tCons (tCB (fun xs H Q => ∃ a kvs, xs = [V.ref a] ∧ Rd H a (HO.dK kvs) ∧ ∀ (p : Addr), H p = none → Q (V.ref p) (upd H p (HO.lst (List.map (fun kv => kV kv.fst) kvs)))) (tCons (tVar 2) tNil)) tNil)) tNil))) { nx := fun x H' => Q V.non H', rt := Q } σ H' := by
      rintro σ H' ⟨kvs, ks, lv, rfl, e1, hk, hkeys, hnd, hmem, hkl⟩
      rw [List.length_map] at hmem hkl
      rw [List.take_length] at hmem
      walk_at "rd"
      refine ⟨d, kvs, rfl, .inl hk, fun l hl => ?_⟩
      walk_at "rd"
      refine ⟨l, _, rfl, SqL.of upd_same, ?_⟩
      have ek : kvs.map (fun kv => kV kv.1) = ks.map V.int := by
        have := congrArg (List.map kV) hkeys
        rw [List.map_map, List.map_map] at this
        exact this
      rw [ek]
      refine go_abs fun out p2 hp ho hn => ?_
      refine ⟨p2, _, rfl, .inl ⟨SqL.of upd_same, fun l2 hl2 => ?_⟩⟩
      refine q out l2 _ ⟨strict_of hp hnd (fun x hx h => ok.one x ((hmem x).mp hx) ((hmem _).mp h)) (fun x hx => ok.low x ((hmem x).mp hx)) ho, fun x => (hp.mem_iff).trans (hmem x)⟩ ?_ upd_same
      exact Same.trans s1 (Same.trans e1 (Same.trans (Same.new hl) (Same.trans (Same.new hn) (Same.new hl2))))
    rcases hS with hS | hS
    · exact Or.inl ⟨_, rfl, p, rfl, ⟨_, Same.seq (Same.trans s1 nd1) hS⟩, for_list (K := K) (a := p) (xs := row.map V.int) Pv h0 (fun i σ H' _ ⟨_, _, _, _, e, _⟩ => Same.seq (Same.trans s1 e) hS) (hs _) hd'⟩
    · exact Or.inr ⟨_, rfl, p, rfl, ⟨_, Same.sqt (Same.trans s1 nd1) hS⟩, for_tup (K := K) (a := p) (xs := row.map V.int) Pv h0 (fun i σ H' _ ⟨_, _, _, _, e, _⟩ => Same.sqt (Same.trans s1 e) hS) (hs _) hd'⟩
end
end Toy

-- part: B3
namespace Toy
open PySem L2
section
variable {P : Program} {w : World} {K : PySem.W.Frag} {mg : Str → Option Value} {base : Heap}
/-! ### a clause -/
abbrev sCs : Stmt := s__law_clause
abbrev nCs : List Str := ["draw", "many", "top", "pool", "size", "truths", "k", "truth"]
theorem scCs : FnScope nCs ["draw", "many", "top"] (defScope sCs) := ⟨rfl, rfl, rfl, by decide +kernel, rfl, by decide +kernel, by decide +kernel⟩
def spCs (K : PySem.W.Frag) : Sp := fun vs H Q _ => ∃ (d : Addr) (n : Nat) (t : Int) (sc : Addr) (ns : List Int), vs = [.ref d, .int n, .int t] ∧ 1 ≤ n ∧ n ≤ 400 ∧ 0 ≤ t ∧ DrA K sc ns H d ∧
  ∀ (a : Addr) (C : List Int) (H' : Hp), C.length ≤ n → (C.map absI).Nodup → C.Pairwise (fun x y => absI x ≤ absI y) → (∀ x ∈ C, Lt n x) → Ex d H H' → DrA K sc ns H' d → H' a = some (.tup (C.map V.int)) → H a = none → Q (.ref a) H'
def tPop3 (K : PySem.W.Frag) : TE := tBM K "list" rPopAt (tVar 3) (tCons (tCall (spNext K) [] E0 (tCons (tVar 0) (tCons (tCB (fun xs H Q => ∃ p ys, xs = [.ref p] ∧ (SqL K H p ys ∨ SqT K H p ys) ∧ Q (.int ys.length) H) (tCons (tVar 3) tNil)) tNil))) tNil)
def tSg7 (K : PySem.W.Frag) : TE := tOp (rIxL K) (tLst (tCons (tVar 7) (tCons (tUn (rU fun i => .int (-i)) (tVar 7)) tNil))) (tCall (spNext K) [] E0 (tCons (tVar 0) (tCons (tC (V.int 2)) tNil)))
theorem ok_cs {f fM fX : Addr} {fd fdM fdX : FuncData} (F : Fun K "_law_clause" "_law_clause" sCs f fd) (B : Bl mg) (M : Df K mg "_law_mixed" sMixed ["cell", "k"] fM fdM) (X : Df K mg "_law_next" sNext ["draw", "size"] fX fdX) :
    FnOk P w K mg base CX0 3 f fd ["draw", "many", "top"] (spCs K) := by
  have GX : FnOk P w K mg base CX0 2 fX fdX ["draw", "size"] (spNext K) := ok_next X.F B M
  refine F.ok scCs (fun vs H Q E h => ?_) (fun cdv A outer s H vs Q E hr h => ?_)
  · obtain ⟨d, n, t, sc, ns, rfl, _⟩ := h
    rfl
  · obtain ⟨d, n, t, sc, ns, rfl, n1, n4, t0, hD, q⟩ := h
    have hu := hu_of hr
    refine ⟨_, pss_cons (ps_set (i := 3) scCs.nd rfl (Or.inr rfl) (pe_listRg rfl (by rfl) B.list (prg_2 (by rfl) B.range pe_int (pe_op op_add (pv 1) pe_int))))
      (pss_cons (ps_set (i := 4) scCs.nd rfl (Or.inl rfl) (pe_callB (call_max2 rfl) (by rfl) B.max (by decide +kernel) (pa_cons (pe_callTy call_int1 (by rfl) B.int (by decide +kernel) (pa_cons (pe_cmpR op_gt (pe_call GX hr rfl X.g X.F.kp X.b .nil pass0 (pa_cons (pv 0) (pa_cons pe_int pa_nil))) pe_int (nomark _)) pa_nil))
        (pa_cons (pe_call GX hr rfl X.g X.F.kp X.b .nil pass0 (pa_cons (pv 0) (pa_cons (pe_op op_add (pv 2) pe_int) pa_nil))) pa_nil))))
      (pss_cons (ps_set (i := 5) scCs.nd rfl (Or.inl rfl) (pe_callB cr_sortedI (by rfl) B.sorted (by decide +kernel) (pa_cons
        (pe_lc (own := [("k", 6)]) (g := gName 6) (tt := tYes) (te := tPop3 K) rfl scCs.nd (pi_range1 rfl B.range (pa_cons (pe_callB (call_min2 rfl) (by rfl) B.min (by decide +kernel) (pa_cons (pv 1) (pa_cons (pv 4) pa_nil))) pa_nil)) (blkOk_by (own := [("k", 6)]) (N := nCs) (sc := defScope sCs) (by decide +kernel))
          (fun _ _ _ _ _ => pg_name (i := 6) scCs.nd rfl (Or.inl rfl)) (fun _ _ _ _ _ => pts_nil)
          (fun _ _ _ _ _ => pe_bm PySem.F.plainAttrs_list PySem.F.slot_list_pop PySem.F.type_list_pop mt_popAt (pv 3) (pa_cons (pe_call GX hr rfl X.g X.F.kp X.b .nil pass0 (pa_cons (pv 0) (pa_cons (pe_callB call_len_seq (by rfl) B.len PySem.boot_len (pa_cons (pv 3) pa_nil)) pa_nil))) pa_nil))) pa_nil)))
      (pss_one (ps_ret (pe_callTy call_tuple_of (by rfl) B.tuple (by decide +kernel) (pa_cons
        (pe_lc (own := [("truth", 7)]) (g := gName 7) (tt := tYes) (te := tSg7 K) rfl scCs.nd (pi_list (pv 5)) (blkOk_by (own := [("truth", 7)]) (N := nCs) (sc := defScope sCs) (by decide +kernel))
          (fun _ _ _ _ _ => pg_name (i := 7) scCs.nd rfl (Or.inl rfl)) (fun _ _ _ _ _ => pts_nil)
          (fun _ _ _ _ _ => pe_ix ix_list (pe_lst (pa_cons (pv 7) (pa_cons (pe_un un_neg (pv 7)) pa_nil))) (pe_call GX hr rfl X.g X.F.kp X.b .nil pass0 (pa_cons (pv 0) (pa_cons pe_int pa_nil))) (fun _ _ => rfl))) pa_nil)))))), ?_⟩
    show tSeq _ _ _ [some (.ref d), some (.int n), some (.int t), none, none, none, none, none] H
    refine seq_gen (fun σ' H' => ∃ pl, σ' = [some (.ref d), some (.int n), some (.int t), some (.ref pl), none, none, none, none] ∧ Same H H' ∧ H' pl = some (.lst ((up n).map V.int)) ∧ H pl = none) (fun nx hnx => ?_) ?_
    · walk_at "rd"
      refine ⟨_, rfl, (n : Int), 1, rfl, rfl, 1, (n : Int) + 1, rfl, rfl, RgOk.of_le (by decide) (by omega) (by decide) (by omega), fun fl hfl => ?_⟩
      rw [up_rg n (by omega), Int.toNat_natCast]
      exact hnx _ _ ⟨fl, rfl, Same.new hfl, upd_same, hfl⟩
    rintro σ H1 ⟨pl, rfl, s1, hpl, npl⟩
    have D1 := DrA.same s1 hD
    have npd : pl ≠ d := hD.nd npl
    refine seq_gen (fun σ' H' => ∃ z : Int, σ' = [some (.ref d), some (.int n), some (.int t), some (.ref pl), some (.int z), none, none, none] ∧ 0 ≤ z ∧ Ex d H H' ∧ DrA K sc ns H' d ∧ H' pl = some (.lst ((up n).map V.int))) (fun nx hnx => ?_) ?_
    · walk_at "rd"
      refine ⟨d, 3, sc, ns, rfl, by decide, D1, fun r H2 r0 r1 E2 D2 => ?_⟩
      walk_at "rd"
      refine .inr ⟨_, rfl, ?_⟩
      walk_at "rd"
      refine ⟨d, t + 1, sc, ns, rfl, by omega, D2, fun r' H3 r0' r1' E3 D3 => ?_⟩
      walk_at "rd"
      refine hnx _ _ ⟨_, rfl, ?_, Ex.trans (Ex.same s1) (Ex.trans E2 E3), D3, E3 _ _ (E2 _ _ hpl npd) npd⟩
      split
      · omega
      · split <;> omega
    rintro σ H2 ⟨z, rfl, z0, E2, D2, hpl2⟩
    refine seq_gen (fun σ' H' => ∃ (tl : Addr) (ts : List Int), σ' = [some (.ref d), some (.int n), some (.int t), some (.ref pl), some (.int z), some (.ref tl), none, none] ∧ ts.length ≤ n ∧ ts.Nodup ∧ ts.Pairwise (· ≤ ·) ∧ (∀ x ∈ ts, 1 ≤ x ∧ x ≤ n) ∧ Ex d H H' ∧ DrA K sc ns H' d ∧ H' tl = some (.lst (ts.map V.int)) ∧ tl ≠ d) (fun nx hnx => ?_) ?_
    · unfold tAsg tCB tCons tLc iRng1
      walk_at "rd"
      obtain ⟨m, em, mn⟩ : ∃ m : Nat, (if z < (n : Int) then z else (n : Int)) = (m : Int) ∧ m ≤ n := by
        by_cases h : z < (n : Int)
        · rw [if_pos h]
          exact ⟨z.toNat, by omega, by omega⟩
        · rw [if_neg h]
          exact ⟨n, rfl, Nat.le_refl n⟩
      rw [em]
      refine ⟨by omega, by omega, fun D hD' => ?_⟩
      have nD := none_back E2 D2 hD'
      have nDd := D2.nd hD'
      have nDp : D ≠ pl := fun e => by rw [e, hpl2] at hD'; cases hD'
      rw [Int.toNat_natCast]
      refine lc_range (lo := 0) (n := m) (g := gName 6) (tt := tYes) (te := tPop3 K) (fun j Hj => Ex d H Hj ∧ DrA K sc ns Hj d ∧ ∃ fs rest : List Int, Hj D = some (.lst (fs.map V.int)) ∧ Hj pl = some (.lst (rest.map V.int)) ∧ fs.length = j ∧ (fs ++ rest).Perm (up n))
        ⟨Ex.up E2 nD, DrA.up hD D2 E2 nD, [], up n, upd_same, Same.new hD' _ _ hpl2, rfl, List.Perm.refl _⟩ ?_ ?_
      · rintro k Hj hk ⟨Ej, Dj, fs, rest, hDj, hpj, lf, pm⟩
        have lr : fs.length + rest.length = n := by
          have := pm.length_eq
          rw [List.length_append, up_len] at this
          exact this
        refine ⟨rfl, yesT ?_⟩
        show tPop3 K [some (.ref d), some (.int n), some (.int t), some (.ref pl), some (.int z), none, some (.int (0 + (k : Int))), none] Hj _
        unfold tPop3
        walk_at "rd"
        refine ⟨.inl ⟨rfl, _, SqL.of hpj⟩, pl, _, rfl, .inl (SqL.of hpj), ?_⟩
        rw [List.length_map]
        refine ⟨d, (rest.length : Int), sc, ns, rfl, by omega, Dj, fun r H' r0' r1' E' D' => ?_⟩
        obtain ⟨z, rfl⟩ := Int.eq_ofNat_of_zero_le r0'
        have zl : z < rest.length := by omega
        have hp' := E' _ _ hpj npd
        have hd' := E' _ _ hDj nDd
        have gz : (rest.map V.int)[z]? = some (V.int rest[z]) := by rw [List.getElem?_map, List.getElem?_eq_getElem zl]; rfl
        refine ⟨pl, _, (z : Int), z, _, rfl, rfl, hp', by omega, by omega, seqIx (by rw [List.length_map]; exact zl), gz, fs.map V.int, ?_, by rw [List.length_map]; exact small1000 (by omega), ?_⟩
        · rw [upd_ne nDp]
          exact hd'
        have Ea := Ex.trans Ej E'
        have Eb := Ex.up (o := .lst ((rest.map V.int).eraseIdx z)) Ea npl
        have Db := DrA.up (o := .lst ((rest.map V.int).eraseIdx z)) hD D' Ea npl
        refine ⟨Ex.up Eb nD, DrA.up hD Db Eb nD, fs ++ [rest[z]], rest.eraseIdx z, by rw [upd_same, List.map_append]; rfl, by rw [upd_ne (Ne.symm nDp), upd_same, map_erase], by rw [List.length_append, lf]; rfl, ?_⟩
        rw [List.append_assoc]
        exact (List.Perm.append_left fs (erase_perm rest z _ (List.getElem?_eq_getElem zl))).trans pm
      · rintro H4 ⟨E4, D4, fs, rest, hD4, _, lf, pm⟩
        refine ⟨D, fs, rfl, SqL.of hD4, fun S p pmS rise hp => ?_⟩
        have ndf : fs.Nodup := (List.nodup_append.mp ((pm.nodup_iff).mpr (up_nodup n))).1
        have s5 := Same.new (o := .lst (S.map V.int)) hp
        refine hnx _ _ ⟨p, S, rfl, by rw [pmS.length_eq]; omega, (pmS.nodup_iff).mpr ndf, rise, fun x hx => up_mem.mp (pm.mem_iff.mp (List.mem_append_left _ (pmS.mem_iff.mp hx))), Ex.trans E4 (Ex.same s5), DrA.same s5 D4, upd_same, D4.nd hp⟩
    rintro σ' H3 ⟨tl, ts, rfl, lt, nt, rt, bt, E3, D3, htl, ntd⟩
    walk_at "rd"
    refine ⟨_, rfl, tl, rfl, ⟨_, SqL.of htl⟩, fun D hD' => ?_⟩
    have nD := none_back E3 D3 hD'
    have nDd := D3.nd hD'
    have ba : ∀ x ∈ ts, absI x = x := fun x hx => by
      have := bt x hx
      unfold absI
      rw [if_neg (by omega)]
    refine lc_list (K := K) (a := tl) (xs := ts.map V.int) (fun j Hj => Ex d H3 Hj ∧ Ex d H Hj ∧ DrA K sc ns Hj d ∧ ∃ gs : List Int, Hj D = some (.lst (gs.map V.int)) ∧ gs.length = j ∧ gs.map absI = ts.take j)
      ⟨Ex.new hD', Ex.up E3 nD, DrA.up hD D3 E3 nD, [], upd_same, rfl, rfl⟩ (fun j Hj _ ⟨e, _⟩ => SqL.of (e _ _ htl ntd)) ?_ ?_
    · rintro k x Hj hk ⟨Ek, Ej, Dj, gs, hDj, lg, ag⟩
      rw [List.getElem?_map] at hk
      cases ez : ts[k]? with
      | none => rw [ez] at hk; cases hk
      | some v =>
      rw [ez] at hk
      cases hk
      have kl : k < ts.length := (List.getElem?_eq_some_iff.mp ez).1
      have bv := ba v (List.mem_of_getElem? ez)
      refine ⟨rfl, yesT ?_⟩
      show tSg7 K [some (.ref d), some (.int n), some (.int t), some (.ref pl), some (.int z), some (.ref tl), none, some (.int v)] Hj _
      unfold tSg7
      walk_at "rd"
      refine ⟨by show 2 ≤ sizeLine; decide, fun p hp => ?_⟩
      have sp1 : Same Hj (upd Hj p (.lst [V.int v, V.int (-v)])) := Same.new hp
      have hp1 : upd Hj p (.lst [V.int v, V.int (-v)]) p = some (.lst [V.int v, V.int (-v)]) := upd_same
      have npd := Dj.nd hp
      generalize upd Hj p (.lst [V.int v, V.int (-v)]) = Hk at *
      refine ⟨d, 2, sc, ns, rfl, by decide, DrA.same sp1 Dj, fun r Hm r0 r1' Em Dm => ?_⟩
      have pick : ∃ y : Int, atI [V.int v, V.int (-v)] r = some (.int y) ∧ absI y = absI v := by
        rcases at_two (a := V.int v) (b := V.int (-v)) r0 r1' with ⟨_, e⟩ | ⟨_, e⟩
        · exact ⟨_, e, rfl⟩
        · exact ⟨_, e, absI_neg v⟩
      obtain ⟨y, haty, hy⟩ := pick
      refine p_ix (SqL.of (Em _ _ hp1 npd)) haty ?_
      have Ejm : Ex d Hj Hm := Ex.trans (Ex.same sp1) Em
      refine ⟨gs.map V.int, Ejm _ _ hDj nDd, by rw [List.length_map]; exact small1000 (by omega), Ex.up (Ex.trans Ek Ejm) hD', Ex.up (Ex.trans Ej Ejm) nD, DrA.up hD Dm (Ex.trans Ej Ejm) nD, gs ++ [y], by rw [upd_same, List.map_append]; rfl, by rw [List.length_append, lg]; rfl, ?_⟩
      rw [List.map_append, ag, List.take_add_one, ez]
      simp [hy, bv]
    · rintro H5 ⟨_, E5, D5, gs, hD5, lg, ag⟩
      rw [List.length_map, List.take_length] at ag
      rw [List.length_map] at lg
      walk_at "rd"
      refine ⟨D, _, rfl, .inl ⟨SqL.of hD5, fun a ha => ?_⟩⟩
      refine q a gs _ (by omega) (by rw [ag]; exact nt) ?_ (fun x hx => bt _ ?_) (Ex.trans E5 (Ex.same (Same.new ha))) (DrA.same (Same.new ha) D5) upd_same (none_back E5 D5 ha)
      · have : (gs.map absI).Pairwise (· ≤ ·) := by rw [ag]; exact rt
        exact List.pairwise_map.mp this
      · rw [← ag]
        exact List.mem_map.mpr ⟨x, hx, rfl⟩
/-! ### whether a clause holds -/
abbrev sHo : Stmt := s__law_holds
abbrev nHo : List Str := ["clause", "answer", "letter"]
theorem scHo : FnScope nHo ["clause", "answer"] (defScope sHo) := ⟨rfl, rfl, rfl, by decide +kernel, rfl, by decide +kernel, by decide +kernel⟩
def spHo (K : PySem.W.Frag) : Sp := fun vs H Q _ => ∃ (c b : Addr) (n : Nat) (C W : List Int), vs = [.ref c, .ref b] ∧ SqT K H c (C.map V.int) ∧ C.length ≤ 1000 ∧ (∀ l ∈ C, Lt n l) ∧ SqT K H b (W.map V.int) ∧ W.length = n ∧ ∀ H', Same H H' → Q (.bl (C.any (hd W))) H'
def tHo (K : PySem.W.Frag) : TE := tOp rEq (tOp (rIxT K) (tVar 1) (tOp (rI0 fun i j => .int (i - j)) (tCB (fun xs H Q => ∃ i, xs = [.int i] ∧ Q (.int (if i < 0 then -i else i)) H) (tCons (tVar 2) tNil)) (tC (V.int 1))))
  (tCB (fun xs H Q => (∃ i, xs = [.int i] ∧ Q (.int i) H) ∨ ∃ k, xs = [.bl k] ∧ Q (.int (if k then 1 else 0)) H) (tCons (tOp (rI0 fun i j => .bl (decide (j < i))) (tVar 2) (tC (V.int 0))) tNil))
theorem ok_ho {f : Addr} {fd : FuncData} (F : Fun K "_law_holds" "_law_holds" sHo f fd) (B : Bl mg) : FnOk P w K mg base CX0 1 f fd ["clause", "answer"] (spHo K) := by
  refine F.ok scHo (fun vs H Q E h => ?_) (fun cdv A outer s H vs Q E hr h => ?_)
  · obtain ⟨c, b, n, C, W, rfl, _⟩ := h
    rfl
  · obtain ⟨c, b, n, C, W, rfl, hc, lC, bC, hb, lW, q⟩ := h
    refine ⟨_, pss_one (ps_ret (pe_callB (cr_any rfl) (by rfl) B.any (by decide +kernel) (pa_cons
        (pe_lc (own := [("letter", 2)]) (g := gName 2) (tt := tYes) (te := tHo K) rfl scHo.nd (pi_tup (pv 0)) (blkOk_by (own := [("letter", 2)]) (N := nHo) (sc := defScope sHo) (by decide +kernel))
          (fun _ _ _ _ _ => pg_name (i := 2) scHo.nd rfl (Or.inl rfl)) (fun _ _ _ _ _ => pts_nil)
          (fun _ _ _ _ _ => pe_cmpR op_eq (pe_ix ix_tup (pv 1) (pe_op op_sub (pe_callB call_abs (by rfl) B.abs (by decide +kernel) (pa_cons (pv 2) pa_nil)) pe_int) (fun _ _ => rfl)) (pe_callTy call_int1 (by rfl) B.int (by decide +kernel) (pa_cons (pe_cmpR op_gt (pv 2) pe_int (nomark _)) pa_nil)) (nomark _))) pa_nil))), ?_⟩
    show tRet _ _ [some (.ref c), some (.ref b), none] H
    walk_at "rd"
    refine ⟨_, rfl, c, rfl, ⟨_, hc⟩, fun D hD => lc_tup (K := K) (a := c) (xs := C.map V.int) (fun j Hj => Same H Hj ∧ Hj D = some (.lst (((C.take j).map (hd W)).map V.bl))) ⟨Same.new hD, upd_same⟩ (fun j Hj _ ⟨e, _⟩ => Same.sqt e hc) ?_ ?_⟩
    · rintro j x Hj hj ⟨ej, hDj⟩
      rw [List.getElem?_map] at hj
      cases ez : C[j]? with
      | none => rw [ez] at hj; cases hj
      | some z =>
      rw [ez] at hj
      cases hj
      have hjl : j < C.length := (List.getElem?_eq_some_iff.mp ez).1
      obtain ⟨b1, b2⟩ := bC z (List.mem_of_getElem? ez)
      refine ⟨rfl, yesT ?_⟩
      show tHo K [some (.ref c), some (.ref b), some (.int z)] Hj _
      unfold tHo
      walk_at "rd"
      obtain ⟨k, ek⟩ := Int.eq_ofNat_of_zero_le (by omega : 0 ≤ absI z - 1)
      refine p_ixT (Same.sqt ej hb) (v := .int (W.getD (absI z - 1).toNat 0)) (by rw [show (if z < 0 then -z else z) - 1 = absI z - 1 from rfl, ek, Int.toNat_natCast]; exact at_nat (by omega)) ?_
      refine .inr ⟨_, rfl, rfl, ?_⟩
      have e : decide (V.int (W.getD (absI z - 1).toNat 0) = V.int (if decide (0 < z) = true then 1 else 0)) = hd W z := by
        unfold hd
        by_cases p : 0 < z
        · simp only [p, decide_true, if_true]
          rw [Bool.eq_iff_iff, decide_eq_true_eq, decide_eq_true_eq]
          exact ⟨V.int.inj, congrArg V.int⟩
        · simp only [p, decide_false, if_false, Bool.false_eq_true]
          rw [Bool.eq_iff_iff, decide_eq_true_eq, decide_eq_true_eq]
          exact ⟨V.int.inj, congrArg V.int⟩
      rw [e]
      refine ⟨_, hDj, by rw [List.length_map, List.length_map, List.length_take]; exact small1000 (by omega), fun c o hc => ?_, ?_⟩
      · rw [upd_ne (ne_of_none hc hD)]
        exact ej c o hc
      · rw [upd_same, List.take_add_one, ez]
        simp only [Option.toList_some, List.map_append, List.map_cons, List.map_nil]
    rintro H5 ⟨s5, hD5⟩
    rw [List.length_map, List.take_length] at hD5
    refine ⟨D, C.map (hd W), rfl, SqL.of hD5, ?_⟩
    have e : (C.map (hd W)).any id = C.any (hd W) := by rw [List.any_map]; rfl
    rw [e]
    exact q H5 s5
end
end Toy

-- part: DP1
/-! dict(xs) of a list of pairs (tuple of ints and texts, value) -/
namespace L2
open PySem PySem.Spec PyProof.Rows
def mergeT (acc more : List (List Key × V)) : List (List Key × V) := more.foldl (fun acc kv => putK acc kv.1 kv.2) acc
section
variable {X : Cx}
/-- the pair at p: the key's tuple at b, and the value -/
def PairT (K : PySem.W.Frag) (H : Hp) (p : Addr) (e : Addr × List Key × V) : Prop := SqT K H p [.ref e.1, e.2.2] ∧ H e.1 = some (.tup (e.2.1.map kV))
theorem pairsT_of {pins : List (Addr × Obj)} {σ : St} {H : Hp} {s : Shared} (I : Inv X pins σ H s) : ∀ {ps : List Addr} {es : List (Addr × List Key × V)}, Paired (PairT X.K H) ps es →
    ∃ prs : List (List Key × Addr × Value), Paired (fun (e : Addr × List Key × V) (q : List Key × Addr × Value) => e.2.1 = q.1 ∧ e.1 = q.2.1 ∧ H e.1 = some (.tup (e.2.1.map kV)) ∧ RelV e.2.2 q.2.2) es prs ∧ prs.length = ps.length ∧
      ∀ (j : Nat) (q : List Key × Addr × Value), prs[j]? = some q → ∃ c : Addr, ps[j]? = some c ∧ IsTup s.heap c #[.ref q.2.1, q.2.2]
  | _, _, .nil => ⟨[], .nil, rfl, fun j q e => by simp at e⟩
  | _, _, .cons (a := p) (b := e) h t => by
    obtain ⟨prs, r, hl, hp⟩ := pairsT_of I t
    obtain ⟨its, rv, ht, _⟩ := I.tuple h.1
    obtain ⟨u, y, ei, ru, ry⟩ := vals2 rv
    subst ei
    cases ru
    refine ⟨(e.2.1, e.1, y) :: prs, .cons ⟨rfl, rfl, h.2, ry⟩ r, by rw [List.length_cons, List.length_cons, hl], fun j q eq => ?_⟩
    cases j with
    | zero =>
      have e' : (e.2.1, e.1, y) = q := Option.some.inj eq
      subst e'
      exact ⟨p, rfl, ht⟩
    | succ j =>
      obtain ⟨c, e1, e2⟩ := hp j q (by simpa using eq)
      exact ⟨c, by simpa using e1, e2⟩
theorem KT.merge {H : Hp} {es : List (Addr × List Key × V)} {prs : List (List Key × Addr × Value)} (w : Paired (fun (e : Addr × List Key × V) (q : List Key × Addr × Value) => e.2.1 = q.1 ∧ e.1 = q.2.1 ∧ H e.1 = some (.tup (e.2.1.map kV)) ∧ RelV e.2.2 q.2.2) es prs) :
    ∀ {kvs : List (List Key × V)} {xs : List (List Key × Addr × Value)}, KT H kvs xs → KT H (mergeT kvs (es.map (·.2))) (storedAllH xs prs) := by
  induction w with
  | nil => intro kvs xs r; exact r
  | @cons e q es prs h t ih =>
    intro kvs xs r
    have r2 : KT H (putK kvs e.2.1 e.2.2) (storedH xs q.1 q.2.1 q.2.2) := by
      have := KT.put r q.1 (b := q.2.1) (y := e.2.2) (u := q.2.2) (by rw [← h.1, ← h.2.1]; exact h.2.2.1) h.2.2.2
      rw [h.1]
      exact this
    exact ih r2
theorem length_mergeT : ∀ (more kvs : List (List Key × V)), (mergeT kvs more).length ≤ kvs.length + more.length
  | [], kvs => by show kvs.length ≤ kvs.length + 0; omega
  | p :: r, kvs => by
    have h1 := length_mergeT r (putK kvs p.1 p.2)
    have h2 := length_putK kvs p.1 p.2
    show (mergeT (putK kvs p.1 p.2) r).length ≤ _
    rw [List.length_cons]; omega
theorem call_dictPT (hcalm : X.calm = true) (hu : X.A.units + 64 < cLine) : CallR X (.type "dict") (fun xs H Q => ∃ (a : Addr) (ps : List Addr) (es : List (Addr × List Key × V)), xs = [.ref a] ∧ SqL X.K H a (ps.map V.ref) ∧ Paired (PairT X.K H) ps es ∧
    ∀ p, H p = none → Q (.ref p) (upd H p (.dT (mergeT [] (es.map (·.2)))))) := by
  intro pins s σ H xs us Q I r q
  obtain ⟨a, ps, es, ex, hq, hp, q⟩ := q
  subst ex
  obtain ⟨u, eu, rx⟩ := vals1 r
  subst eu
  cases rx
  obtain ⟨its, rv, pl, hz⟩ := I.list hq
  have ei := refs_at rv
  subst ei
  rw [List.length_map] at hz
  obtain ⟨prs, rel, hl, hpr⟩ := pairsT_of I hp
  obtain ⟨o, n, ho, hc, hd, hdat⟩ := pl
  let Ts : Nat → Addr := fun j => (ps[j]?).getD 0
  let pairs : List (Value × Value) := prs.map fun q => (Value.ref q.2.1, q.2.2)
  have keyAt : ∀ x ∈ prs, H x.2.1 = some (.tup (x.1.map kV)) := by
    have all : ∀ {l : List (Addr × List Key × V)} {m : List (List Key × Addr × Value)}, Paired (fun (e : Addr × List Key × V) (q : List Key × Addr × Value) => e.2.1 = q.1 ∧ e.1 = q.2.1 ∧ H e.1 = some (.tup (e.2.1.map kV)) ∧ RelV e.2.2 q.2.2) l m → ∀ x ∈ m, H x.2.1 = some (.tup (x.1.map kV)) := by
      intro l m w
      induction w with
      | nil => intro x hx; exact nomatch hx
      | @cons p q ps qs hq t ih =>
        intro x hx
        rcases List.mem_cons.mp hx with e | hx
        · subst e
          rw [← hq.1, ← hq.2.1]
          exact hq.2.2.1
        · exact ih x hx
    exact all rel
  have he : es.length = prs.length := Paired.length rel
  have hm : (s.heap.objs.size == sysModules) = false := beq_eq_false_iff_ne.mpr (Nat.ne_of_gt I.big)
  have nf : H s.heap.objs.size = none := I.hok.fresh (Nat.le_refl _)
  refine PySem.call_dict_pairsH (knd := tupleKind (mixKind X.prog X.w)) (ps := prs) (PySem.PairArg.list a (ps.map Value.ref).toArray Ts pairs) (I.ok.hd hcalm) ?_ ⟨⟨o, n, ho, hc, hd, hdat⟩, ?_, ?_⟩ ⟨?_, ?_⟩ ?_ ?_ fun h' tk hd' hk => ?_
  · show X.A.units + 1 + 1 < cLine
    omega
  · simp [pairs, hl]
  · intro j k v hj
    have hj' : (prs.map fun q => (Value.ref q.2.1, q.2.2))[j]? = some (k, v) := hj
    rw [List.getElem?_map] at hj'
    cases ez : prs[j]? with
    | none => rw [ez] at hj'; cases hj'
    | some x =>
    rw [ez] at hj'
    cases hj'
    obtain ⟨c, e1, e2⟩ := hpr j x ez
    have eT : Ts j = c := by show (ps[j]?).getD 0 = c; rw [e1]; rfl
    rw [eT]
    exact ⟨by simp [e1], .inl e2⟩
  · simp [pairs]
  · intro i key v hj
    have hj' : (prs.map fun q => (Value.ref q.2.1, q.2.2))[i]? = some (key, v) := hj
    rw [List.getElem?_map] at hj'
    cases ez : prs[i]? with
    | none => rw [ez] at hj'; cases hj'
    | some x =>
    rw [ez] at hj'
    cases hj'
    exact ⟨x.1, x.2.1, rfl, rfl⟩
  · intro h' hk x hx
    obtain ⟨z, its, rr, ob, h1, h2, m, h3⟩ := (show ObjOk X.prog X.w H s.heap x.2.1 (.tup (x.1.map kV)) from I.hok _ _ (keyAt x hx))
    exact ⟨ob, its.toArray, m, hk _ _ (Nat.ne_of_lt (Heap.lt_size h1)) (by simp) h1, h2, h3, by simpa using items_are rr⟩
  · show pairs.length ≤ _
    simp [pairs, hl]
    exact hz
  · have hlen : (mergeT [] (es.map (·.2))).length ≤ sizeLine := by
      refine Nat.le_trans (length_mergeT _ []) ?_
      rw [List.length_nil, Nat.zero_add, List.length_map, he, hl]
      exact hz
    obtain ⟨ob, des, ep, g1, g2, g3, g4, g5, g6⟩ := hd'
    have kt0 : KT H (mergeT [] (es.map (·.2))) (storedAllH [] prs) := KT.merge rel .nil
    refine ⟨.ref s.heap.objs.size, upd H s.heap.objs.size (.dT (mergeT [] (es.map (·.2)))), I.laid (t' := tk) (fun b o e => hk b o (by simp) e) (Nat.le_refl _) (show ObjOk X.prog X.w _ _ _ (.dT (mergeT [] (es.map (·.2)))) from ⟨hlen, hm, storedAllH [] prs, KT.keeps kt0 (fun b ys e => ?_), ob, des, ep, g1, g2, g3, g4, g6⟩), rfl, q _ nf⟩
    rw [upd_ne (fun z => by rw [z, nf] at e; cases e)]
    exact e
end
end L2

-- part: TS1
/-! sorted(xs): tuples of ints, of any lengths, any number of them -/
namespace TI
open PySem PySem.Spec PySem.Calls PyProof.Rows SrtO PySem.W
section
variable {prog : Program} {w : World} {A : Around} {E : Value → Shared → Prop} {s : Shared}
/-- v is a tuple of these numbers -/
def TupI (h : Heap) (v : Value) (k : List Int) : Prop := ∃ (a : Addr) (dd : Option Addr) (items : Array Value) (n : Nat) (sl : Array (Option Value)), v = .ref a ∧ h.get? a = some { cls := .type "tuple", dict := dd, data := .seq items n, slots := sl } ∧ IntsAre items.toList k
theorem TupI.keeps {h h' : Heap} {v : Value} {k : List Int} (x : TupI h v k) (q : ∀ b o, v = .ref b → h.get? b = some o → h'.get? b = some o) : TupI h' v k := by
  obtain ⟨a, dd, items, n, sl, e, g, i⟩ := x
  exact ⟨a, dd, items, n, sl, e, q _ _ e g, i⟩
theorem TupI.of {h : Heap} {a : Addr} {items : Array Value} {k : List Int} (t : IsTup h a items) (i : IntsAre items.toList k) : TupI h (.ref a) k := by
  obtain ⟨⟨cls, dd, data, sl⟩, ho, hc, n, hd⟩ := t
  simp only at hc hd
  subst hc hd
  exact ⟨a, dd, items, n, sl, rfl, ho, i⟩
theorem TupI.tup {h : Heap} {v : Value} {k : List Int} (x : TupI h v k) : ∃ (a : Addr) (items : Array Value), v = .ref a ∧ IsTup h a items ∧ IntsAre items.toList k := by
  obtain ⟨a, dd, items, n, sl, rfl, g, i⟩ := x
  exact ⟨a, items, rfl, ⟨_, g, rfl, n, rfl⟩, i⟩
theorem TupI.type {M : Model} {h : Heap} {v : Value} {k : List Int} (x : TupI h v k) : Looks M h (typeOf v) (.type "tuple") := by
  obtain ⟨a, dd, items, n, sl, rfl, g, i⟩ := x
  exact (Looks.ld g).andThen .now
/-- compared by tuple.__lt__ itself -/
theorem lt_one {v u : Value} {ns ms : List Int} {Q : Bool → Shared → Prop} (hu : A.units < cLine) (hv : TupI s.heap v ns) (hw : TupI s.heap u ms) (h : Q (HT.lexLt ns ms) s) : wpAny (model prog w) A (oneLt' true v u) Q E s := by
  obtain ⟨a, dd, items, n, sl, rfl, ga, ia⟩ := hv
  obtain ⟨b, dd2, items2, n2, sl2, rfl, gb, ib⟩ := hw
  rw [oneLt'_eq]
  simp only [if_true]
  refine wpAny_bind (wpAny_cRoomFor hu ?_)
  refine wpAny_bind (wpAny_callSpecialIfBound?_slot (T := "tuple") ⟨_, ga, rfl⟩ PySem.F.slot_tuple_lt (call_meets PySem.F.slot_tuple_lt ⟨_, ga, rfl⟩ PySem.F.entry_tuple_lt (PySem.F.args_tuple_lt_2 _ _) (HT.tuple_lt_ints a b items items2 n n2 dd dd2 sl sl2 ns ms ia ib) ⟨ga, gb, ?_⟩))
  exact wpAny_truthy_bool h
theorem lt_gen {v u : Value} {ns ms : List Int} {Q : Bool → Shared → Prop} (hu : A.units < cLine) (hv : TupI s.heap v ns) (hw : TupI s.heap u ms) (h : Q (HT.lexLt ns ms) s) : wpAny (model prog w) A (oneLt' false v u) Q E s := by
  obtain ⟨a, items, rfl, ta, ia⟩ := hv.tup
  obtain ⟨b, items2, rfl, tb, ib⟩ := hw.tup
  exact kat_one _ _ (HT.lt_tupInts ta tb ia ib hu h)
theorem kat_lex {fin : Bool} {Q : Bool → Shared → Prop} {m n : Nat} (hf : fin = decide (m < n)) : ∀ {vs us : List Value} {ns ms : List Int} (i : Nat), IntsAre vs ns → IntsAre us ms → ns.length + n = ms.length + m → Q (HT.lexLt ns ms) s → KatLex prog w A true fin Q (vs.zip us) i s
  | _, _, _, _, i, .nil, .nil, hl, q => by
    have : fin = false := by rw [hf]; exact decide_eq_false (by simp at hl; omega)
    refine kat_nil ?_
    rw [this]
    exact q
  | _, _, _, _, i, .nil, .cons b u hb, hl, q => by
    have : fin = true := by rw [hf]; exact decide_eq_true (by simp at hl; omega)
    refine kat_nil ?_
    rw [this]
    exact q
  | _, _, _, _, i, .cons a t ha, .nil, hl, q => by
    have : fin = false := by rw [hf]; exact decide_eq_false (by simp at hl; omega)
    refine kat_nil ?_
    rw [this]
    exact q
  | _, _, _, _, i, .cons a t ha, .cons b u hb, hl, q => by
    rw [List.zip_cons_cons]
    rw [HT.lexLt_cons] at q
    refine kat_cons (SeqAt.EqAt.int_int a t b u prog w _ _ ?_)
    refine kat_go (fun e => ?_) (fun e => ?_)
    · have ex : a = b := by simpa using e
      rw [if_pos ex] at q
      exact kat_yes (kat_lex hf (i + 1) ha hb (by simp only [List.length_cons] at hl; omega) q)
    · have ex : ¬ a = b := by simpa using e
      rw [if_neg ex] at q
      exact kat_no (TS.oneLt_ints _ q)
theorem lt_tup {v u : Value} {ns ms : List Int} {Q : Bool → Shared → Prop} (hv : TupI s.heap v ns) (hw : TupI s.heap u ms) (h : Q (HT.lexLt ns ms) s) : wpAny (model prog w) A (keyLt' (tuples' true) v u) Q E s := by
  obtain ⟨a, dd, items, n, sl, rfl, ga, ia⟩ := hv
  obtain ⟨b, dd2, items2, n2, sl2, rfl, gb, ib⟩ := hw
  refine kat_lt ga rfl gb rfl ?_
  have z1 : items.size = ns.length := by rw [← ia.length]; simp
  have z2 : items2.size = ms.length := by rw [← ib.length]; simp
  exact kat_lex (m := items.size) (n := items2.size) rfl 0 ia ib (by omega) h
/-- what stands first in each -/
theorem firsts {M : Model} {k : Value → List Int} : ∀ (vs : List Value) {Q : List (Option Value) → Shared → Prop}, (∀ v ∈ vs, TupI s.heap v (k v)) → (∀ fs : List (Option Value), (fs.map fun f => f.isSome) = (vs.map fun v => !(k v).isEmpty) → (∀ f ∈ fs, ∀ x, f = some x → ∃ i t, x = Value.int i t) → Q fs s) → wpAny M A (vs.mapM firstOfTuple') Q E s
  | [], _, _, h => by rw [List.mapM_nil]; exact wpAny_pure (h [] rfl fun _ z => nomatch z)
  | v :: vs, Q, t, h => by
    have tv := t v List.mem_cons_self
    obtain ⟨a, dd, items, n, sl, ev, g, ia⟩ := tv
    rw [List.mapM_cons]
    refine wpAny_bind ?_
    rw [kas_first_eq]
    subst ev
    refine wpAny_bind (Looks.here (show Looks M s.heap (typeOf (.ref a)) (.type "tuple") from (Looks.ld g).andThen .now) ?_)
    rw [if_neg (by first | decide | simp)]
    refine wpAny_bind (listItems_at g rfl (wpAny_pure ?_))
    refine wpAny_bind (firsts vs (fun u hu => t u (List.mem_cons_of_mem _ hu)) fun fs hl hf => wpAny_pure (h _ ?_ fun f hm x e => ?_))
    · rw [List.map_cons, List.map_cons, hl]
      congr 1
      have e0 : items[0]? = items.toList[0]? := by simp
      rw [e0]
      generalize k (.ref a) = kk at ia
      cases hi : items.toList with
      | nil =>
        rw [hi] at ia
        cases ia
        rfl
      | cons y r =>
        rw [hi] at ia
        cases ia
        rfl
    · rcases List.mem_cons.mp hm with rfl | hm
      · have e2 : items.toList[0]? = some x := by simpa using e
        generalize k (.ref a) = kk at ia
        cases hi : items.toList with
        | nil => rw [hi] at e2; cases e2
        | cons y r =>
          rw [hi] at e2 ia
          cases e2
          cases ia with
          | cons i t _ => exact ⟨_, _, rfl⟩
      · exact hf f hm x e
/-- by what such tuples are compared -/
def kd (vs : List Value) (k : Value → List Int) : SortKind := if (vs.all fun v => !(k v).isEmpty) = true then tuples' true else if ((vs[0]?.map fun v => !(k v).isEmpty).getD false) = true then general' else oneType'
theorem kind_of {vs : List Value} {k : Value → List Int} (h1 : vs ≠ []) (ht : ∀ v ∈ vs, TupI s.heap v (k v)) {Q : SortKind → Shared → Prop} (q : Q (kd vs k) s) : wpAny (model prog w) A (keyKind' vs.toArray) Q E s := by
  rw [kat_kind_eq, List.mapM_toArray, map_eq_pure_bind]
  refine wpAny_bind (wpAny_bind (firsts vs ht fun fs hl hf => wpAny_pure ?_))
  have hal : (fs.toArray.all fun x => x.isSome) = (vs.all fun v => !(k v).isEmpty) := by
    have : (fs.map fun f => f.isSome).all id = (vs.map fun v => !(k v).isEmpty).all id := by rw [hl]
    rw [List.all_map, List.all_map] at this
    simpa using this
  have hlen : fs.length = vs.length := by
    have := congrArg List.length hl
    rw [List.length_map, List.length_map] at this
    exact this
  have h0' : (fs.toArray[0]?.bind id).isSome = ((vs[0]?.map fun v => !(k v).isEmpty).getD false) := by
    cases fs with
    | nil =>
      cases vs with
      | nil => rfl
      | cons v vs => cases hl
    | cons f fs =>
      cases vs with
      | nil => cases hl
      | cons v vs =>
        have := (List.cons.inj hl).1
        simp only [List.getElem?_toArray, List.getElem?_cons_zero, Option.map_some, Option.getD_some, Option.bind_some, id_eq]
        exact this
  unfold kd at q
  by_cases hall : (fs.toArray.all fun x => x.isSome) = true
  · rw [if_pos hall]
    rw [hal] at hall
    rw [if_pos hall] at q
    refine wpAny_bind (wpAny_rule ?_)
    have hfm : (fs.toArray.filterMap id) = (fs.filterMap id).toArray := by simp
    rw [hfm, oneTypeOnly'_eq, List.mapM_toArray, map_eq_pure_bind]
    have hints : ∀ x ∈ fs.filterMap id, ∃ i t, x = Value.int i t := fun x hx => by
      obtain ⟨f, hm, e⟩ := List.mem_filterMap.mp hx
      exact hf f hm x e
    refine wpAny_bind (wpAny_bind (wpAny_bind (kas_mapM (r := .type "int") _ (fun v hv Q' hq => ?_) (wpAny_pure ?_))))
    · obtain ⟨i, t, rfl⟩ := hints v hv
      exact (show Looks (model prog w) s.heap (typeOf (.int i t)) (.type "int") from Looks.now).here hq
    · have hne : fs.filterMap id ≠ [] := by
        cases fs with
        | nil => rw [List.length_nil] at hlen; exact absurd (List.eq_nil_of_length_eq_zero hlen.symm) h1
        | cons f r =>
          cases f with
          | none =>
            rw [← hal] at hall
            simp at hall
          | some x => simp
      obtain ⟨f₁, fr, ef⟩ := List.exists_cons_of_ne_nil hne
      rw [ef]
      have hall2 : ((List.map (fun _ => Value.type "int") (f₁ :: fr)).toArray.all fun x => x == Value.type "int") = true := by
        simp only [List.all_toArray, List.all_map, List.all_eq_true]
        intro _ _
        rfl
      have h0 : (List.map (fun _ => Value.type "int") (f₁ :: fr)).toArray[0]? = some (Value.type "int") := by simp
      rw [h0]
      simp only [hall2, if_true]
      exact wpAny_pure (wpAny_pure q)
  · rw [if_neg hall]
    rw [hal] at hall
    rw [if_neg hall] at q
    by_cases h0 : (fs.toArray[0]?.bind id).isSome = true
    · rw [if_pos h0]
      rw [h0'] at h0
      rw [if_pos h0] at q
      exact wpAny_pure q
    · rw [if_neg h0]
      rw [h0'] at h0
      rw [if_neg h0] at q
      rw [oneTypeOnly'_eq, List.mapM_toArray, map_eq_pure_bind]
      refine wpAny_bind (wpAny_bind (wpAny_bind (kas_mapM (r := .type "tuple") _ (fun v hv Q' hq => ?_) (wpAny_pure ?_))))
      · exact Looks.here (ht v hv).type hq
      · obtain ⟨v₁, vr, ev⟩ := List.exists_cons_of_ne_nil h1
        rw [ev]
        have hall2 : ((List.map (fun _ => Value.type "tuple") (v₁ :: vr)).toArray.all fun x => x == Value.type "tuple") = true := by
          simp only [List.all_toArray, List.all_map, List.all_eq_true]
          intro _ _
          rfl
        have h0 : (List.map (fun _ => Value.type "tuple") (v₁ :: vr)).toArray[0]? = some (Value.type "tuple") := by simp
        rw [h0]
        simp only [hall2, if_true]
        exact wpAny_pure (wpAny_pure q)
theorem cmp_of {vs : List Value} {k : Value → List Int} (hu : A.units < cLine) (hv : ∀ v ∈ vs, TupI s.heap v (k v)) {κ : SortKind} (hκ : κ = tuples' true ∨ κ = general' ∨ κ = oneType') : Cmp prog w A s κ (fun p => p.1 ∈ vs) (lt2 fun v u => HT.lexLt (k v) (k u)) := by
  intro p q hp hq
  rcases hκ with rfl | rfl | rfl
  · exact lt_tup (Q := fun r s' => s' = s ∧ r = HT.lexLt (k p.1) (k q.1)) (E := fun _ _ => False) (hv p.1 hp) (hv q.1 hq) ⟨rfl, rfl⟩
  · exact lt_gen (Q := fun r s' => s' = s ∧ r = HT.lexLt (k p.1) (k q.1)) (E := fun _ _ => False) hu (hv p.1 hp) (hv q.1 hq) ⟨rfl, rfl⟩
  · exact lt_one (Q := fun r s' => s' = s ∧ r = HT.lexLt (k p.1) (k q.1)) (E := fun _ _ => False) hu (hv p.1 hp) (hv q.1 hq) ⟨rfl, rfl⟩
theorem sortable {a : Addr} {vs : List Value} {k : Value → List Int} (h2 : 2 ≤ vs.length) (hu : A.units < cLine) (hv : ∀ v ∈ vs, TupI s.heap v (k v)) (ha : ∀ v ∈ vs, v ≠ .ref a) : SortableO prog w A s a vs fun v u => HT.lexLt (k v) (k u) := by
  intro h' keep
  have hv' : ∀ v ∈ vs, TupI h' v (k v) := fun v hm => (hv v hm).keeps fun b o e g => keep b o (fun z => ha v hm (by rw [e, z])) g
  refine ⟨kd vs k, fun Q E hq => ?_, cmp_of (s := { s with heap := h' }) hu hv' ?_⟩
  · exact kind_of (s := { s with heap := h' }) (fun e => by rw [e] at h2; cases h2) hv' hq
  · unfold kd
    split
    · exact .inl rfl
    · split
      · exact .inr (.inl rfl)
      · exact .inr (.inr rfl)
end
end TI
namespace L2
open PySem PySem.Spec PyProof.Rows
/-- tuples of numbers at places -/
def TsAt (H : Hp) (bs : List Addr) (cs : List (List Int)) : Prop := Paired (fun (b : Addr) (c : List Int) => H b = some (.tup (c.map V.int))) bs cs
end L2

-- part: TS2
/-! sorted(d) of a dict with tuples of numbers as keys; sorted(xs) of a list of such tuples -/
namespace Toy
open PySem PySem.Spec PyProof.Rows L2
def intV : V → Int
  | .int i => i
  | _ => 0
/-- the numbers of the tuple at b -/
def ctOf (H : Hp) (b : Addr) : List Int := match H b with
  | some (.tup xs) => xs.map intV
  | _ => []
theorem ctOf_eq {H : Hp} {b : Addr} {c : List Int} (h : H b = some (.tup (c.map V.int))) : ctOf H b = c := by
  unfold ctOf
  rw [h]
  show (c.map V.int).map intV = c
  rw [List.map_map]
  exact (List.map_congr_left fun _ _ => rfl).trans (List.map_id c)
theorem TupsAt.ct {H : Hp} : ∀ {bs : List Addr} {cs : List (List Int)}, TupsAt H bs cs → bs.map (ctOf H) = cs
  | _, _, .nil => rfl
  | _, _, .cons h t => by rw [List.map_cons, ctOf_eq h, TupsAt.ct t]
theorem TupsAt.mem {H : Hp} : ∀ {bs : List Addr} {cs : List (List Int)}, TupsAt H bs cs → ∀ b ∈ bs, H b = some (.tup ((ctOf H b).map V.int))
  | _, _, .cons h t, b, hb => by
    rcases List.mem_cons.mp hb with rfl | hb
    · rw [ctOf_eq h]
      exact h
    · exact TupsAt.mem t b hb
theorem TupsAt.of_mem {H : Hp} : ∀ {bs : List Addr}, (∀ b ∈ bs, H b = some (.tup ((ctOf H b).map V.int))) → TupsAt H bs (bs.map (ctOf H))
  | [], _ => .nil
  | b :: bs, h => .cons (h b List.mem_cons_self) (TupsAt.of_mem fun x hx => h x (List.mem_cons_of_mem _ hx))
section
variable {X : Cx} {pins : List (Addr × Obj)} {σ : L2.St} {H : Hp} {s : Shared}
theorem tupI_of (I : Inv X pins σ H s) {b : Addr} {c : List Int} (h : H b = some (.tup (c.map V.int))) : TI.TupI s.heap (.ref b) c := by
  obtain ⟨_, its, r, t⟩ := (show ObjOk X.prog X.w H s.heap b (.tup (c.map V.int)) from I.hok b _ h)
  exact TI.TupI.of t (by simpa using intsAre_of r)
/-- what sorting gives, told by places -/
def SrtTo (H : Hp) (bs : List Addr) (Q : VK) : Prop := ∀ (bs' : List Addr) (p : Addr), bs'.Perm bs → bs'.Pairwise (fun x y => HT.lexLt (ctOf H y) (ctOf H x) = false) → H p = none → Q (.ref p) (upd H p (.lst (bs'.map V.ref)))
theorem out_refs {bs : List Addr} {out : List Value} {lt : Value → Value → Bool} (h2 : SrtO.Stb lt out (bs.map Value.ref)) : out = (out.map adO).map Value.ref ∧ (out.map adO).Perm bs := by
  refine ⟨ref_map fun u hm => ?_, ?_⟩
  · obtain ⟨t, _, e⟩ := List.mem_map.mp (h2.perm.mem_iff.mp hm)
    exact ⟨t, e.symm⟩
  · have p1 := h2.perm.map adO
    rw [ad_map] at p1
    exact p1
theorem cr_sortedTL (hu : X.A.units + 64 < cLine) : CallR X (.builtin "sorted") (fun vs H Q => ∃ (a : Addr) (bs : List Addr) (cs : List (List Int)), vs = [.ref a] ∧ SqL X.K H a (bs.map V.ref) ∧ TupsAt H bs cs ∧ SrtTo H bs Q) := by
  intro pins s σ H vs us Q I r h
  obtain ⟨a, bs, cs, rfl, hs, ts, q⟩ := h
  obtain ⟨its, rv, hl, hz⟩ := I.list hs
  rw [Vals.ref1 r]
  have ei := nts_of rv
  subst ei
  rw [List.length_map] at hz
  have hm := TupsAt.mem ts
  have hna : ∀ b ∈ bs, b < s.heap.objs.size := fun b hb => by
    obtain ⟨_, _, _, o, ho, _⟩ := (show ObjOk X.prog X.w H s.heap b (.tup ((ctOf H b).map V.int)) from I.hok b _ (hm b hb))
    exact Heap.lt_size ho
  refine SrtO.sorted_ord (NtL.swo_lexL fun u => ctOf H (adO u)) hl.isList (by rw [List.length_map]; exact hz) (fun h2 h₁ a' g1 g2 => TI.sortable (s := { s with heap := h₁ }) h2 (by show X.A.units + 1 + 1 < cLine; omega) (fun v hv => ?_) fun v hv => ?_) fun out h1 h2 => ?_
  · obtain ⟨b, hb, rfl⟩ := List.mem_map.mp hv
    exact (tupI_of I (hm b hb)).keeps fun c o _ e => (g2 c o e).2
  · obtain ⟨b, hb, rfl⟩ := List.mem_map.mp hv
    intro e
    obtain ⟨_, _, _, o, ho, _⟩ := (show ObjOk X.prog X.w H s.heap b (.tup ((ctOf H b).map V.int)) from I.hok b _ (hm b hb))
    exact (g2 b o ho).1 (Value.ref.inj e)
  · obtain ⟨eo, hp⟩ := out_refs h2
    obtain ⟨ep, he'⟩ := PyProof.Rows.sortedAll_at s.heap (bs.map Value.ref) out.toArray
    have hlen : ((out.map adO).map V.ref).length ≤ sizeLine := by
      rw [List.length_map, hp.length_eq]
      exact hz
    have rvo : Vals ((out.map adO).map V.ref) out := by
      have z := of_nts (out.map adO)
      rw [← eo] at z
      exact z
    exact ⟨.ref _, upd H (s.heap.objs.size + 1) (.lst ((out.map adO).map V.ref)), I.laid (t' := s.toks) (fun _ _ => PyProof.Rows.sortedAll_old) (Nat.le_succ _) ⟨hlen, out, ep, rvo, he'⟩, rfl, q _ _ hp (List.pairwise_map.mpr (h1.imp fun {x y} z => z)) (I.hok.fresh (Nat.le_succ _))⟩
theorem cr_sortedTD (hcalm : X.calm = true) (hu : X.A.units + 64 < cLine) : CallR X (.builtin "sorted") (fun vs H Q => ∃ (d : Addr) (kvs : List (List Key × V)) (cs : List (List Int)), vs = [.ref d] ∧ Rd H d (.dT kvs) ∧ kvs.map (·.1) = cs.map tkey ∧ ∀ bs, TupsAt H bs cs → SrtTo H bs Q) := by
  intro pins s σ H vs us Q I r h
  obtain ⟨d, kvs, cs, rfl, hd, hk, q⟩ := h
  obtain ⟨u, rfl, rx⟩ := vals1 r
  cases rx
  obtain ⟨z, hs, ks, pr, o, es, ep, ho, hx, hdt, he, hn⟩ := (show ObjOk X.prog X.w H s.heap d (.dT kvs) from hd.ok I.hok)
  have l1 : es.size = ks.length := size_of_entries he
  have l2 : kvs.length = ks.length := Paired.length pr
  have ts : TupsAt H (ks.map fun x => x.2.1) cs := tups_of_keys (isKeys_of pr) hk
  refine Calls.call_function_entry PyProof.Rows.kind_sorted PyProof.Rows.plain_sorted PyProof.Rows.entry_sorted (PyProof.Rows.args_sorted1 _) ?_
  unfold Builtin.«sorted»
  refine wpAny_bind (m := checkCount "sorted" 1 1 _) (wpAny_pure ?_)
  refine wpAny_bind (PySem.W.kdu_collect (A := X.A.in1) (kdl_raw hs hx hdt) (I.ok.hd hcalm) ho (by omega) fun h' tk acc' kp it => ?_)
  have ea : acc'.toList = ks.map fun x => Value.ref x.2.1 := by
    have hl : acc'.toList.length = ks.length := by rw [Array.length_toList, it.1]; exact l1
    apply List.ext_getElem?
    intro j
    rw [List.getElem?_map]
    cases hj : acc'.toList[j]? with
    | none =>
      have h1 := List.getElem?_eq_none_iff.mp hj
      rw [List.getElem?_eq_none (by omega)]
      all_goals rfl
    | some v =>
      obtain ⟨en, hen, hv⟩ := it.2 j v (by rw [← Array.getElem?_toList]; exact hj)
      have qe := entry_at he j
      rw [hen] at qe
      cases hb : ks[j]? with
      | none =>
        rw [hb] at qe
        exact nomatch (show some en = none from qe)
      | some b =>
        rw [hb] at qe
        have e2 : en = entryOfKey (tupleKind (mixKind X.prog X.w)) b := Option.some.inj qe
        rw [hv, e2]
        all_goals rfl
  have eb : acc'.toList = (ks.map fun x => x.2.1).map Value.ref := by rw [ea, List.map_map]; all_goals rfl
  generalize (ks.map fun x => x.2.1) = bs at *
  have I1 : Inv X pins σ H { s with heap := h', toks := tk } := I.kept kp
  have hlb : bs.length ≤ sizeLine := by
    have := congrArg List.length eb
    rw [Array.length_toList, List.length_map, it.1] at this
    omega
  rw [eb]
  refine wpAny_bind (wpAny_newList ?_ (by rw [List.length_map]; exact hlb))
  have hoL : (h'.push (seqObj "list" (bs.map Value.ref).toArray 0)).get? h'.objs.size = some (seqObj "list" (bs.map Value.ref).toArray 0) := Heap.get?_push_size _ rfl
  show wpAny _ _ _ _ _ { s with heap := h'.push (seqObj "list" (bs.map Value.ref).toArray 0), toks := tk }
  have hm := TupsAt.mem ts
  refine wpAny_bind (wpAny_holding (wpAny_call_entry PyProof.Rows.slot_list_sort ⟨_, hoL, rfl⟩ PyProof.Rows.entry_list_sort
    (SrtO.list_sort_ord (s := { s with heap := h'.push (seqObj "list" (bs.map Value.ref).toArray 0), toks := tk }) (NtL.swo_lexL fun u => ctOf H (adO u)) hoL (by rw [List.length_map]; exact hlb) (fun h2 => TI.sortable h2 (by show X.A.units + 1 + 1 < cLine; omega) (fun v hv => ?_) fun v hv => ?_) fun out h1 h2 => ⟨_, rfl, ?_⟩) (PyProof.Rows.args_list_sort _)))
  · obtain ⟨b, hb, rfl⟩ := List.mem_map.mp hv
    have tb : TI.TupI h' (.ref b) (ctOf H b) := tupI_of I1 (hm b hb)
    exact tb.keeps fun c o _ e => Heap.get?_push_of_some _ e
  · obtain ⟨b, hb, rfl⟩ := List.mem_map.mp hv
    intro e
    obtain ⟨_, _, _, o, ho, _⟩ := (show ObjOk X.prog X.w H h' b (.tup ((ctOf H b).map V.int)) from I1.hok b _ (hm b hb))
    exact Nat.ne_of_lt (Heap.lt_size ho) (Value.ref.inj e)
  · obtain ⟨eo, hp⟩ := out_refs h2
    obtain ⟨e', he'⟩ := PyProof.Rows.sortedHeap_at (vs := bs.map Value.ref) (out := out.toArray) hoL
    have hlen : ((out.map adO).map V.ref).length ≤ sizeLine := by
      rw [List.length_map, hp.length_eq]
      exact hlb
    have rvo : Vals ((out.map adO).map V.ref) out := by
      have z := of_nts (out.map adO)
      rw [← eo] at z
      exact z
    refine wpAny_pure ⟨_, rfl, .ref h'.objs.size, upd H h'.objs.size (.lst ((out.map adO).map V.ref)), I1.laid (t' := tk) (fun b u e => ?_) (Nat.le_refl _)
      (show ObjOk X.prog X.w _ _ _ (.lst ((out.map adO).map V.ref)) from ⟨hlen, out, e', rvo, he'⟩), rfl, q bs ts _ _ hp (List.pairwise_map.mpr (h1.imp fun {x y} z => z)) (I1.hok.fresh (Nat.le_refl _))⟩
    have hb : b < h'.objs.size := Heap.lt_size e
    rw [PyProof.Rows.sortedHeap_old (Nat.ne_of_lt hb) (by rw [size_push']; exact Nat.lt_succ_of_lt hb)]
    exact Heap.get?_push_of_some _ e
end
end Toy

-- part: C1
namespace Toy
open PySem L2
/-- a clause of n truths -/
structure OkC (n : Nat) (c : List Int) : Prop where
  len : c.length ≤ n
  nd : (c.map absI).Nodup
  rise : c.Pairwise fun x y => absI x ≤ absI y
  lt : ∀ x ∈ c, Lt n x
theorem OkC.led {n : Nat} {L c S : List Int} (h : OkC n c) (t : Trn n L) (pm : S.Perm (c.map (gL L))) (r : S.Pairwise fun x y => absI x ≤ absI y) : OkC n S :=
  ⟨by rw [pm.length_eq, List.length_map]; exact h.len, ((pm.map absI).nodup_iff).mpr (nd_gL t h.lt h.nd), r, fun x hx => by
    obtain ⟨l, hl, rfl⟩ := List.mem_map.mp (pm.mem_iff.mp hx)
    exact t.lt (h.lt l hl)⟩
section
variable {P : Program} {w : World} {K : PySem.W.Frag} {mg : Str → Option Value} {base : Heap}
/-! ### led -/
abbrev nLed : List Str := ["turn", "clause", "letter"]
def spLed (K : PySem.W.Frag) : Sp := fun vs H Q _ => ∃ (a c : Addr) (n : Nat) (L C : List Int), vs = [.ref a, .ref c] ∧ SqT K H a (L.map V.int) ∧ Trn n L ∧ SqT K H c (C.map V.int) ∧ C.length ≤ 1000 ∧ (∀ l ∈ C, 1 ≤ absI l ∧ absI l ≤ n) ∧
  ∀ (b : Addr) (S : List Int) (H' : Hp), Same H H' → S.Perm (C.map (gL L)) → S.Pairwise (fun x y => absI x ≤ absI y) → H' b = some (.tup (S.map V.int)) → H b = none → Q (.ref b) H'
theorem Same.none {H H' : Hp} {b : Addr} (e : Same H H') (h : H' b = none) : H b = none := by
  cases z : H b with
  | none => rfl
  | some o =>
    rw [e _ _ z] at h
    cases h
/-! ### closed -/
theorem pairT_of {H : Hp} : ∀ {ps bs : List Addr} {cs : List (List Int)}, Paired (fun (p b : Addr) => H p = some (.tup [.ref b, .bl true])) ps bs → TupsAt H bs cs → Paired (PairT K H) ps ((bs.zip cs).map fun z => (z.1, tkey z.2, V.bl true))
  | _, _, _, .nil, .nil => .nil
  | _, _, _, .cons h t, .cons g u => .cons ⟨SqT.of h, by rw [tkey_kV]; exact g⟩ (pairT_of t u)
theorem keys_foldT (v : V) : ∀ (l : List (List Int)) (kvs : List (List Key × V)) (ks : List (List Int)), kvs.map (·.1) = ks.map tkey → (mergeT kvs (l.map fun c => (tkey c, v))).map (·.1) = (l.foldl addU ks).map tkey
  | [], _, _, h => h
  | a :: l, kvs, ks, h => keys_foldT v l (putK kvs (tkey a) v) (addU ks a) (keys_put tkey_inj h a v)
theorem mem_foldT : ∀ (l ks : List (List Int)) (k : List Int), k ∈ l.foldl addU ks ↔ k ∈ ks ∨ k ∈ l := by
  intro l
  induction l with
  | nil => intro ks k; simp
  | cons a l ih =>
    intro ks k
    rw [List.foldl_cons, ih, mem_add, List.mem_cons]
    constructor
    · rintro ((h | h) | h)
      · exact .inl h
      · exact .inr (.inl h)
      · exact .inr (.inr h)
    · rintro (h | h | h)
      · exact .inl (.inl h)
      · exact .inl (.inr h)
      · exact .inr h
theorem len_foldT : ∀ (l ks : List (List Int)), (l.foldl addU ks).length ≤ ks.length + l.length
  | [], _ => Nat.le_refl _
  | a :: l, ks => by
    have h := len_foldT l (addU ks a)
    have h2 := len_add (ks := ks) a
    show (l.foldl addU (addU ks a)).length ≤ _
    rw [List.length_cons]
    omega
theorem zip_keys {bs : List Addr} {cs : List (List Int)} {H : Hp} (h : TupsAt H bs cs) : ((bs.zip cs).map fun z => (z.1, tkey z.2, V.bl true)).map (·.2) = cs.map fun c => (tkey c, V.bl true) := by
  induction h with
  | nil => rfl
  | cons _ _ ih => rw [List.zip_cons_cons, List.map_cons, List.map_cons, ih]; rfl
def lenT (H : Hp) (g : Addr) : Nat := match H g with
  | some (.dT kvs) => kvs.length
  | _ => 0
def lenL (H : Hp) (l : Addr) : Nat := match H l with
  | some (.lst xs) => xs.length
  | _ => 0
theorem lenT_eq {H : Hp} {g : Addr} {kvs : List (List Key × V)} (h : H g = some (.dT kvs)) : lenT H g = kvs.length := by unfold lenT; rw [h]
theorem lenL_eq {H : Hp} {l : Addr} {xs : List V} (h : H l = some (.lst xs)) : lenL H l = xs.length := by unfold lenL; rw [h]
theorem TupsAt.last {H : Hp} : ∀ {r : List Addr} {k : Addr} {ls : List (List Int)}, TupsAt H (r ++ [k]) ls → ∃ li c, ls = li ++ [c] ∧ TupsAt H r li ∧ H k = some (.tup (c.map V.int))
  | [], k, _, .cons h .nil => ⟨[], _, rfl, .nil, h⟩
  | x :: r, k, _, .cons h t => by
    obtain ⟨li, c, e, t2, hk⟩ := TupsAt.last t
    exact ⟨_ :: li, c, by rw [e]; rfl, .cons h t2, hk⟩
theorem TupsAt.upd {H : Hp} {a : Addr} {o o' : HO} (h : H a = some o) (nt : ∀ ys, o ≠ .tup ys) {bs : List Addr} {cs : List (List Int)} (t : TupsAt H bs cs) : TupsAt (upd H a o') bs cs := Paired.mapP t fun b c e => by
  rw [upd_ne (fun z => by rw [z, h] at e; exact nt _ (Option.some.inj e))]
  exact e
abbrev nCd : List Str := ["clauses", "makers", "bound", "found", "clause", "line", "maker", "other"]
def spCd (K : PySem.W.Frag) : Sp := fun vs H Q _ => ∃ (cl ml : Addr) (bd n : Nat) (bs ms : List Addr) (cs Ls : List (List Int)), vs = [.ref cl, .ref ml, .int bd] ∧ bd ≤ 400 ∧ n ≤ 400 ∧ SqL K H cl (bs.map V.ref) ∧ TupsAt H bs cs ∧ (∀ c ∈ cs, OkC n c) ∧ cs.length ≤ 100 ∧
  SqL K H ml (ms.map V.ref) ∧ TupsAt H ms Ls ∧ (∀ L ∈ Ls, Trn n L) ∧ Ls.length ≤ 10 ∧
  ∀ (l : Addr) (bs' : List Addr) (cs' : List (List Int)) (H' : Hp), Same H H' → H' l = some (.lst (bs'.map V.ref)) → TupsAt H' bs' cs' → (∀ c ∈ cs', OkC n c) → cs'.length ≤ bd → H l = none → Q (.ref l) H'
def tPr4 : TE := tTup (tCons (tVar 4) (tCons (tC (V.bl true)) tNil))
end
end Toy

-- part: MK1
/-! min(e, key=len) of a list or a tuple of tuples: one of them (which is the shortest is not told) -/
namespace L2
open PySem PySem.Spec PyProof.Rows
theorem lens_of {K : PySem.W.Frag} {H : Hp} : ∀ {xs : List V}, (∀ y ∈ xs, ∃ b ys, y = V.ref b ∧ SqT K H b ys) → ∃ ls : List Nat, ls.length = xs.length ∧ ∀ (i : Nat) (y : V), xs[i]? = some y → ∃ b ys, y = V.ref b ∧ SqT K H b ys ∧ ls[i]? = some ys.length
  | [], _ => ⟨[], rfl, fun i y h => by simp at h⟩
  | x :: r, h => by
    obtain ⟨b, ys, e, hb⟩ := h x List.mem_cons_self
    obtain ⟨ls, l1, l2⟩ := lens_of (xs := r) fun y hy => h y (List.mem_cons_of_mem _ hy)
    refine ⟨ys.length :: ls, by rw [List.length_cons, List.length_cons, l1], fun i y hi => ?_⟩
    cases i with
    | zero =>
      rw [List.getElem?_cons_zero] at hi
      cases hi
      exact ⟨b, ys, e, hb, rfl⟩
    | succ i =>
      rw [List.getElem?_cons_succ] at hi ⊢
      exact l2 i y hi
def rMinLen (K : PySem.W.Frag) : V → Hp → VK → Prop := fun x H Q => ∃ a xs, x = .ref a ∧ (SqL K H a xs ∨ SqT K H a xs) ∧ xs ≠ [] ∧ (∀ y ∈ xs, ∃ b ys, y = V.ref b ∧ SqT K H b ys) ∧ ∀ y ∈ xs, Q y H
section
variable {X : Cx}
def KeepsS (s s' : Shared) : Prop := (∀ b o, s.heap.get? b = some o → s'.heap.get? b = some o) ∧ s'.gens = s.gens ∧ s'.drawn = s.drawn ∧ s'.os = s.os
theorem KeepsS.inv {pins : List (Addr × Obj)} {σ : St} {H : Hp} {s s' : Shared} (k : KeepsS s s') (I : Inv X pins σ H s) : Inv X pins σ H s' := by
  obtain ⟨h', g', d', tk', os'⟩ := s'
  obtain ⟨k1, k2, k3, k4⟩ := k
  simp only at k1 k2 k3 k4
  subst k2 k3 k4
  exact I.kept (t' := tk') k1
theorem min_keys {pins : List (Addr × Obj)} {σ : St} {H : Hp} {s : Shared} {I0 S : Addr} {xs : List V} {its : List Value} {ls : List Nat} {St' : Nat → Shared → Prop} (I : Inv X pins σ H s) (rv : Vals xs its) (hls : ∀ (i : Nat) (y : V), xs[i]? = some y → ∃ b ys, y = V.ref b ∧ SqT X.K H b ys ∧ ls[i]? = some ys.length)
    (hI : s.heap.objs.size ≤ I0) (hS : s.heap.objs.size ≤ S) (hst : ∀ i (s' : Shared) tk, St' i s' → St' i { s' with toks := tk }) :
    KeyRun X.prog X.w X.A.in1 (.builtin "len") .Lt S [I0] (fun a b => b = a) its.toArray.size (fun i v => its.toArray[i]? = some v) St' (KeepsS s) (fun i k _ => ∃ t, k = Value.int (ls.getD i 0 : Nat) t) (fun i j => decide ((ls.getD i 0 : Int) < (ls.getD j 0 : Int))) where
  keep := fun s1 s2 j m => by
    refine ⟨fun b o e => m.heap b o (fun hm => ?_) (j.1 b o e), (show s2.gens = s1.gens from m.gens).trans j.2.1, m.drawn.trans j.2.2.1, m.os.trans j.2.2.2⟩
    have hb := Heap.lt_size e
    rcases List.mem_cons.mp hm with e1 | e1
    · rw [e1] at hb
      exact absurd hb (Nat.not_lt.mpr hS)
    · rw [List.mem_singleton.mp e1] at hb
      exact absurd hb (Nat.not_lt.mpr hI)
  keepV := fun _ _ _ _ h _ => h
  turn := fun i v s1 o Q E hi hP j st hS' hQ => by
    have hv : its[i]? = some v := by simpa using hP
    have hil : i < xs.length := by
      have := rv.length
      have := (List.getElem?_eq_some_iff.mp hv).1
      omega
    obtain ⟨y, hy⟩ : ∃ y, xs[i]? = some y := ⟨_, List.getElem?_eq_getElem hil⟩
    obtain ⟨u, hu, ru⟩ := rv.get hy
    rw [hv] at hu
    cases hu
    obtain ⟨b, ys, rfl, hb, hl⟩ := hls i y hy
    cases ru
    have I1 := j.inv I
    obtain ⟨its', r', pl, hz⟩ := I1.tuple hb
    have hlen := r'.length
    have hn := line63
    have e : ls.getD i 0 = ys.length := by
      rw [List.getD_eq_getElem?_getD, hl]
      rfl
    have e2 : ((its'.toArray.size : Nat) : Int) = ((ls.getD i 0 : Nat) : Int) := by rw [e, List.size_toArray, hlen]
    exact len_tuple pl (by simp only [List.size_toArray]; omega) (hQ (Value.int ((its'.toArray.size : Nat) : Int) (s1.toks + 1)) { s1 with toks := s1.toks + 1 + 1 } ⟨j.1, j.2.1, j.2.2.1, j.2.2.2⟩ (hst _ _ _ st) hS' ⟨_, by rw [e2]⟩ fun _ _ h => h)
  cmp := fun i j ki kj s1 Q E _ ⟨t, ei⟩ ⟨u, ej⟩ hQ => by
    exact CmpOf.ints_lt (P := fun (i : Nat) v => ∃ t, v = Value.int ((ls.getD i 0 : Nat) : Int) t) (fun i => ((ls.getD i 0 : Nat) : Int)) (fun i v h => h) i j _ _ _ _ _ ⟨t, ei⟩ ⟨u, ej⟩ hQ
/-- what min does, walked this way -/
theorem min_walk {pins : List (Addr × Obj)} {σ : St} {H : Hp} {s : Shared} {xs : List V} {its : List Value} {Q : VK} (I : Inv X pins σ H s) (rv : Vals xs its) (hne : xs ≠ []) (hx : ∀ y ∈ xs, ∃ b ys, y = V.ref b ∧ SqT X.K H b ys) (q : ∀ y ∈ xs, Q y H) :
    0 < its.toArray.size ∧ ∀ (I0 S : Addr) (St' : Nat → Shared → Prop), s.heap.objs.size ≤ I0 → s.heap.objs.size ≤ S → (∀ i (s' : Shared) tk, St' i s' → St' i { s' with toks := tk }) →
      ∃ (V' : Nat → Value → Shared → Prop) (bt : Nat → Nat → Bool), KeyRun X.prog X.w X.A.in1 (.builtin "len") .Lt S [I0] (fun a b => b = a) its.toArray.size (fun i v => its.toArray[i]? = some v) St' (KeepsS s) V' bt ∧ ∀ v s', its.toArray[argBest bt (its.toArray.size - 1)]? = some v → KeepsS s s' → EP X pins σ Q v s' := by
  have hl := rv.length
  have h0 : 0 < its.toArray.size := by
    rw [List.size_toArray, ← hl]
    exact List.length_pos_iff.mpr hne
  refine ⟨h0, fun I0 S St' hI hS hst => ?_⟩
  obtain ⟨ls, _, hls⟩ := lens_of hx
  refine ⟨_, _, min_keys I rv hls hI hS hst, fun v s' hv k => ?_⟩
  have hv' : its[argBest (fun i j => decide ((ls.getD i 0 : Int) < (ls.getD j 0 : Int))) (its.toArray.size - 1)]? = some v := by simpa using hv
  have hil := (List.getElem?_eq_some_iff.mp hv').1
  rw [← hl] at hil
  have hy := List.getElem?_eq_getElem hil
  obtain ⟨u, hu, ru⟩ := rv.get hy
  rw [hv'] at hu
  cases hu
  exact ⟨_, H, k.inv I, ru, q _ (List.getElem_mem hil)⟩
theorem run_minLen (hc : X.calm = true) {pins : List (Addr × Obj)} {s : Shared} {σ : St} {H : Hp} {x : V} {u : Value} {Q : VK} (I : Inv X pins σ H s) (rx : RelV x u) (h : rMinLen X.K x H Q) :
    wpAny (model X.prog X.w) X.A (call (.builtin "min") [u] [(Str.ofString "key", .builtin "len")]) (EP X pins σ Q) X.xe s := by
  obtain ⟨a, xs, rfl, hs, hne, hx, q⟩ := h
  cases rx
  have hh : X.A.handled = none := I.ok.hd hc
  have hh1 : X.A.in1.handled = none := hh
  refine call_min_walkKB ?_
  rcases hs with hs | hs
  · obtain ⟨its, rv, pl, hz⟩ := I.list hs
    obtain ⟨h0, g⟩ := min_walk I rv hne hx q
    have ha : a < s.heap.objs.size := by
      obtain ⟨o, ho, _⟩ := id pl.isList
      exact Heap.lt_size ho
    refine wpAny_pyIter_list pl.isList ?_
    have hne2 : a ≠ s.heap.objs.size := Nat.ne_of_lt ha
    have hgrow : (s.heap.push { cls := .type "list_iterator", data := .fields #[.ref a, .int 0 0] }).objs.size = s.heap.objs.size + 1 := PyProof.Rows.size_push' ..
    obtain ⟨V', bt, K, fin⟩ := g s.heap.objs.size (s.heap.push { cls := .type "list_iterator", data := .fields #[.ref a, .int 0 0] }).objs.size (fun i s => s.heap.IsListIter _ a i ∧ s.heap.IsList a its.toArray) (Nat.le_refl _) (by rw [hgrow]; exact Nat.le_succ _) fun i s' tk h => h
    have hkeep : KeepsS s { s with heap := s.heap.push { cls := .type "list_iterator", data := .fields #[.ref a, .int 0 0] } } := ⟨fun b o e => Heap.get?_push_of_some _ e, rfl, rfl, rfl⟩
    refine ⟨s.heap.objs.size, [s.heap.objs.size, a], [s.heap.objs.size], _, its.toArray.size, _, _, _, V', bt, rfl, (Walks.list hh1 s.heap.objs.size a hne2 its.toArray).toS, ⟨⟨_, Heap.get?_push_size _ rfl, rfl, rfl⟩, ?_⟩, ?_, h0, K, hkeep, fun v s' hv k => fin v s' hv k⟩
    · obtain ⟨o, ho, r⟩ := id pl.isList
      exact ⟨o, Heap.get?_push_of_some _ ho, r⟩
    · intro b hb
      rw [hgrow]
      rcases List.mem_cons.mp hb with e | e
      · rw [e]
        exact Nat.lt_succ_self _
      · rw [List.mem_singleton.mp e]
        exact Nat.lt_succ_of_lt ha
  · obtain ⟨its, rv, pl, hz⟩ := I.tuple hs
    obtain ⟨h0, g⟩ := min_walk I rv hne hx q
    have pl' : s.heap.IsTuple a its.toArray := by
      obtain ⟨o, ho, hc, n, hd⟩ := pl
      exact ⟨o, ho, hc, n, hd⟩
    have ha : a < s.heap.objs.size := by
      obtain ⟨o, ho, _⟩ := id pl'
      exact Heap.lt_size ho
    refine wpAny_pyIter_tuple pl' ?_
    have hne2 : a ≠ s.heap.objs.size := Nat.ne_of_lt ha
    have hgrow : (s.heap.push { cls := .type "tuple_iterator", data := .fields #[.ref a, .int 0 0] }).objs.size = s.heap.objs.size + 1 := PyProof.Rows.size_push' ..
    obtain ⟨V', bt, K, fin⟩ := g s.heap.objs.size (s.heap.push { cls := .type "tuple_iterator", data := .fields #[.ref a, .int 0 0] }).objs.size (fun i s => s.heap.IsTupleIter _ a i ∧ s.heap.IsTuple a its.toArray) (Nat.le_refl _) (by rw [hgrow]; exact Nat.le_succ _) fun i s' tk h => h
    have hkeep : KeepsS s { s with heap := s.heap.push { cls := .type "tuple_iterator", data := .fields #[.ref a, .int 0 0] } } := ⟨fun b o e => Heap.get?_push_of_some _ e, rfl, rfl, rfl⟩
    refine ⟨s.heap.objs.size, [s.heap.objs.size, a], [s.heap.objs.size], _, its.toArray.size, _, _, _, V', bt, rfl, (Walks.tuple hh1 s.heap.objs.size a hne2 its.toArray).toS, ⟨⟨_, Heap.get?_push_size _ rfl, rfl, rfl⟩, ?_⟩, ?_, h0, K, hkeep, fun v s' hv k => fin v s' hv k⟩
    · obtain ⟨o, ho, r⟩ := id pl'
      exact ⟨o, Heap.get?_push_of_some _ ho, r⟩
    · intro b hb
      rw [hgrow]
      rcases List.mem_cons.mp hb with e | e
      · rw [e]
        exact Nat.lt_succ_self _
      · rw [List.mem_singleton.mp e]
        exact Nat.lt_succ_of_lt ha
theorem key_len {p : Pos} (hg : Gl X "len") (hm : X.mg "len" = none) : KeyOf X (.Name "len" p) (.builtin "len") := fun pins s σ H R I h => ld_blt I hg hm (by decide +kernel) h (by decide)
def tMinLen (K : PySem.W.Frag) (t : TA) : TE := fun σ H Q => t σ H fun vs H1 => ∃ x, vs = [x] ∧ rMinLen K x H1 Q
theorem pe_minLen {e ke : Expr} {t : TA} {p pos kpos : Pos} (hc : X.calm = true) (hk : KeyOf X ke (.builtin "len")) (hg : Gl X "min") (hm : X.mg "min" = none) (ha : PA X [e] t)
    (h1 : backTo pos (starEach [e] X.env) = (false, eval e X.env) :: backTo pos (starEach [] X.env) := by rfl) (hpl : (backTo pos (starEach [e] X.env)).any (·.1) = false := by rfl)
    (hall : (backToKw pos (keywordEach [⟨some "key", ke, kpos⟩] X.env)).all (·.1.isSome) = true := by rfl) (hnone : (backToKw pos (keywordEach [⟨some "key", ke, kpos⟩] X.env)).any (·.1.isNone) = false := by rfl) :
    PE X (.Call (.Name "min" p) [e] [⟨some "key", ke, kpos⟩] pos) (tMinLen X.K t) := by
  refine ⟨fun pins s σ H Q I h => ?_⟩
  refine wpAny_Call_Name_kw (ld_blt I hg hm (u := .builtin "min") (by decide +kernel) ?_ (by decide))
  refine PyProof.Rows.callWith_kw (thn (ha.run pos pins s σ H _ I h) fun us s1 ⟨vs, H1, I1, r1, x, ex, q1⟩ => ?_) h1 hpl hall hnone
  subst ex
  obtain ⟨u, rfl, ru⟩ := vals1 r1
  show wpAny _ _ (evalAll ((do let v ← eval ke X.env; standAt pos; pure v) :: [])) _ _ s1
  refine wpAny_evalAll_cons (wpAny_bind (hk pins s1 σ H1 _ I1 (wpAny_bind (wpAny_standAt (wpAny_pure ?_)))))
  refine wpAny_evalAll_nil ?_
  exact run_minLen hc I1 ru q1
end
end L2

-- part: TU1
namespace L2
open PySem PySem.Spec PyProof.Rows
open AutoSeq1 (wpAny_loadPart')
theorem vals_at_get : ∀ (ys : List V) (us : List Value), ys.length = us.length → (∀ (i : Nat) (y : V) (u : Value), ys[i]? = some y → us[i]? = some u → RelV y u) → Vals ys us
  | [], [], _, _ => .nil
  | y :: ys, u :: us, l, h => .cons (h 0 y u rfl rfl) (vals_at_get ys us (Nat.succ.inj l) fun i a b ha hb => h (i + 1) a b ha hb)
  | [], _ :: _, l, _ => nomatch l
  | _ :: _, [], l, _ => nomatch l
def signs (z : Str) : List V := z.cps.toList.map fun c => V.str ⟨#[c]⟩
section
variable {X : Cx}
/-- tuple(text) -/
theorem call_tupStr (hc : X.calm = true) : CallR X (.type "tuple") (fun xs H Q => ∃ z, xs = [.str z] ∧ z.length ≤ sizeLine ∧ ∀ l, H l = none → Q (.ref l) (upd H l (.tup (signs z)))) := by
  intro pins s σ H xs us Q I r h
  obtain ⟨z, rfl, hz, q⟩ := h
  obtain ⟨u, rfl, rx⟩ := vals1 r
  obtain ⟨t, rfl⟩ := rx
  refine PySem.call_tuple_str (I.ok.hd hc) z t (fun h' tk acc kp hacc => ?_) hz
  have hlen : (signs z).length = acc.toList.length := by
    unfold signs
    rw [List.length_map, Array.length_toList, Array.length_toList, hacc.1]
  have rv : Vals (signs z) acc.toList := vals_at_get _ _ hlen fun i y v hy hv => by
    rw [Array.getElem?_toList] at hv
    obtain ⟨c, w, hc', rfl⟩ := hacc.2 i v hv
    unfold signs at hy
    rw [List.getElem?_map, Array.getElem?_toList, hc'] at hy
    cases hy
    exact ⟨w, rfl⟩
  have I1 : Inv X pins σ H { s with heap := h' } := I.kept (t' := s.toks) kp
  have I2 : Inv X pins σ (upd H h'.objs.size (.tup (signs z))) { s with heap := h'.push { cls := .type "tuple", data := .seq acc }, toks := tk } :=
    I1.laid (t' := tk) (fun b o e => Heap.get?_push_of_some _ e) (Nat.le_refl _) (show ObjOk X.prog X.w _ _ _ (.tup (signs z)) from ⟨by rw [hlen, Array.length_toList, hacc.1]; exact hz, acc.toList, rv, by
      have := IsTup.new h' acc
      rw [Array.toArray_toList]
      exact this⟩)
  exact ⟨.ref h'.objs.size, _, I2, rfl, q _ (I1.hok.fresh (Nat.le_refl _))⟩
end
theorem tuple_mul1W (l : Addr) (items : Array Value) (n : Nat) (dd : Option Addr) (sl : Array (Option Value)) (u : Tok) :
    Meets (Builtin.«tuple.__mul__» ⟨[.ref l, .int 1 u], []⟩) (fun _ R s => s.heap.get? l = some { cls := .type "tuple", dict := dd, data := .seq items n, slots := sl } ∧ R (.ok (.ret (Value.ref l))) s) :=
  .of_wp fun prog w A R s h => by
    obtain ⟨hp, g, d, tk, os⟩ := s
    obtain ⟨hl, h⟩ := h
    have f1 := AutoSeq1.idx_int
    have c1 : (items.isEmpty || (1 : Int) == 1) = true := by simp
    wp_walk using wpAny_loadPart' hl
    exact ⟨_, rfl, h⟩
/-- a tuple so many times, once too -/
def rRepTA (K : PySem.W.Frag) : R2 := fun x y H Q => ∃ l k xs, x = .ref l ∧ y = .int k ∧ SqT K H l xs ∧ xs ≠ [] ∧ 1 ≤ k ∧ k ≤ 1000 ∧ xs.length ≤ 1000 ∧ (k = 1 → Q (.ref l) H) ∧ (k ≠ 1 → ∀ p, H p = none → Q (.ref p) (upd H p (.tup (List.replicate k.toNat xs).flatten)))
section
variable {X : Cx}
theorem op_repTA : OpR X (binaryOp .Mult) (rRepTA X.K) := by
  intro pins s σ H x y v u Q I rx ry h
  obtain ⟨l, k, xs, rfl, rfl, hT, hne, h1, h2, hz, q1, q2⟩ := h
  by_cases h : k = 1
  · subst h
    cases rx
    obtain ⟨t, rfl⟩ := ry
    obtain ⟨its, r, ⟨⟨cls, dd, data, sl⟩, ho, hc, n, hd⟩, hs⟩ := I.tuple hT
    simp only at hc hd
    subst hc hd
    exact wpAny_binaryOp_repeat_ref (T := "tuple") (U := "int") (by decide) ⟨_, ho, rfl⟩ (fun s' => typeIs_int s' 1 t) noFill_tuple_mul F.fills_int_mul F.slot_int_rmul repeat_tuple F.slot_int_index.lookup
      (call_meets F.slot_int_rmul (typeIs_int s 1 t) F.entry_int_rmul (F.args_int_rmul_2 _ _) (int_rmul_tuple 1 t l its.toArray n dd sl)
        ⟨ho, rfl, ⟨_, ho, rfl⟩, call_meets F.slot_tuple_mul ⟨_, ho, rfl⟩ F.entry_tuple_mul (F.args_tuple_mul_2 _ _) (tuple_mul1W l its.toArray n dd sl t) ⟨ho, ⟨.ref l, H, I, rfl, q1 rfl⟩⟩⟩)
  · exact op_repT pins s σ H (.ref l) (.int k) v u Q I rx ry ⟨l, k, xs, rfl, rfl, hT, hne, by omega, h2, hz, q2 h⟩
end
end L2

-- part: AN1
namespace Toy
open PySem L2
section
variable {P : Program} {w : World} {K : PySem.W.Frag} {mg : Str → Option Value} {base : Heap}
theorem pairApp {α β : Type} {F : α → β → Prop} : ∀ {a : List α} {b : List β} {c : List α} {d : List β}, Paired F a b → Paired F c d → Paired F (a ++ c) (b ++ d)
  | _, _, _, _, .nil, u => u
  | _, _, _, _, .cons h t, u => .cons h (pairApp t u)
def SqE (K : PySem.W.Frag) (H : Hp) (a : Addr) (xs : List V) : Prop := SqL K H a xs ∨ SqT K H a xs
theorem SqE.same {H H' : Hp} {a : Addr} {xs : List V} (e : Same H H') (h : SqE K H a xs) : SqE K H' a xs := h.imp (Same.seq e) (Same.sqt e)
theorem flat_ints : ∀ c : List Int, (c.map V.int).all flatV = true
  | [] => rfl
  | x :: r => by rw [List.map_cons, List.all_cons, flat_ints r]; rfl
theorem in_ints (l : Int) : ∀ c : List Int, inV (.int l) (c.map V.int) = decide (l ∈ c)
  | [] => rfl
  | x :: r => by
    have ih := in_ints l r
    unfold inV at ih ⊢
    rw [List.map_cons, List.any_cons, ih]
    have e : eqV (.int x) (.int l) = decide (x = l) := by
      show (x == l) = _
      rw [Bool.eq_iff_iff]; simp
    rw [e, Bool.eq_iff_iff]
    simp only [Bool.or_eq_true, decide_eq_true_eq, List.mem_cons]
    exact or_congr_left ⟨Eq.symm, Eq.symm⟩
/-! ### without -/
abbrev sWo : Stmt := s__without
abbrev nWo : List Str := ["clause", "letter", "other"]
theorem scWo : FnScope nWo ["clause", "letter"] (defScope sWo) := ⟨rfl, rfl, rfl, by decide +kernel, rfl, by decide +kernel, by decide +kernel⟩
def spWo (K : PySem.W.Frag) : Sp := fun vs H Q _ => ∃ (a : Addr) (l : Int) (c : List Int), vs = [.ref a, .int l] ∧ H a = some (.tup (c.map V.int)) ∧ c.length ≤ 1000 ∧
  ∀ (b : Addr) (H' : Hp), Same H H' → H' b = some (.tup ((c.filter fun x => decide (x ≠ l)).map V.int)) → Q (.ref b) H'
theorem ok_wo {f : Addr} {fd : FuncData} (F : Fun K "_without" "_without" sWo f fd) (B : Bl mg) : FnOk P w K mg base CX0 1 f fd ["clause", "letter"] (spWo K) := by
  refine F.ok scWo (fun vs H Q E h => ?_) (fun cdv A outer s H vs Q E hr h => ?_)
  · obtain ⟨a, l, c, rfl, _⟩ := h
    rfl
  · obtain ⟨a, l, c, rfl, ha, lc, q⟩ := h
    refine ⟨_, pss_cons (ps_if (pt_cmpR (r := rIn K true) op_notIn_seq (pv 1) (pv 0) rfl) (pss_one (ps_ret (pv 0))) pss_nil)
      (pss_one (ps_ret (pe_callTy call_tuple_of (by rfl) B.tuple (by decide +kernel) (pa_cons (pe_lc (own := [("other", 2)]) (g := gName 2) (tt := tTest (tOp rNe (tVar 2) (tVar 1))) (te := tVar 2) rfl scWo.nd (pi_tup (pv 0)) (blkOk_by (own := [("other", 2)]) (N := nWo) (sc := defScope sWo) (by decide +kernel))
        (fun _ _ _ _ _ => pg_name (i := 2) scWo.nd rfl (Or.inl rfl)) (fun _ _ _ _ _ => pts_one (pt_cmpR op_ne (pv 2) (pv 1) (nomark _))) (fun _ _ _ _ _ => pv 2)) pa_nil)))), ?_⟩
    show tSeq _ _ _ [some (.ref a), some (.int l), none] H
    walk_at "rd"
    refine ⟨a, _, rfl, .inr (SqT.of ha), rfl, flat_ints c, ?_⟩
    rw [in_ints]
    by_cases hm : l ∈ c
    · have e : (if true = true then !decide (l ∈ c) else decide (l ∈ c)) = false := by rw [if_pos rfl, decide_eq_true hm]; rfl
      rw [e]
      refine ⟨_, rfl, iteF ?_⟩
      refine ⟨_, rfl, a, rfl, ⟨_, SqT.of ha⟩, fun D hD => lc_tup (K := K) (a := a) (xs := c.map V.int) (fun j Hj => Same H Hj ∧ Hj D = some (.lst (((c.take j).filter fun x => decide (x ≠ l)).map V.int))) ⟨Same.new hD, upd_same⟩ (fun j Hj _ ⟨e, _⟩ => Same.sqt e (SqT.of ha)) ?_ ?_⟩
      · rintro j x Hj hj ⟨ej, hDj⟩
        rw [List.getElem?_map] at hj
        cases ez : c[j]? with
        | none => rw [ez] at hj; cases hj
        | some z =>
        rw [ez] at hj
        cases hj
        have hjl : j < c.length := (List.getElem?_eq_some_iff.mp ez).1
        refine ⟨rfl, ?_⟩
        show tTest (tOp rNe (tVar 2) (tVar 1)) [some (.ref a), some (.int l), some (.int z)] Hj _
        walk_at "rd"
        have ef : (c.take (j + 1)).filter (fun x => decide (x ≠ l)) = (c.take j).filter (fun x => decide (x ≠ l)) ++ (if z = l then [] else [z]) := by
          rw [List.take_add_one, ez, List.filter_append, Option.toList_some]
          by_cases hz : z = l
          · rw [if_pos hz, List.filter_cons, if_neg (by rw [hz]; simp)]; rfl
          · rw [if_neg hz, List.filter_cons, if_pos (by simp [hz])]; rfl
        refine ⟨rfl, _, rfl, ?_⟩
        by_cases hz : z = l
        · rw [show (!decide (V.int z = V.int l)) = false by rw [hz]; simp]
          refine iteF ⟨ej, ?_⟩
          rw [ef, if_pos hz, List.append_nil]
          exact hDj
        · rw [show (!decide (V.int z = V.int l)) = true by simp [hz]]
          refine iteT ⟨_, rfl, _, hDj, ?_, fun b o hb => ?_, ?_⟩
          · have := List.length_filter_le (fun x => decide (x ≠ l)) (c.take j)
            rw [List.length_take] at this
            rw [List.length_map]
            exact small1000 (by omega)
          · rw [upd_ne (ne_of_none hb hD)]
            exact ej b o hb
          · rw [upd_same, ef, if_neg hz, List.map_append]
            rfl
      · rintro H5 ⟨s5, hD5⟩
        rw [List.length_map, List.take_length] at hD5
        walk_at "rd"
        refine ⟨D, _, rfl, .inl ⟨SqL.of hD5, fun b hb => ?_⟩⟩
        exact q b _ (Same.trans s5 (Same.new hb)) upd_same
    · have e : (if true = true then !decide (l ∈ c) else decide (l ∈ c)) = true := by rw [if_pos rfl, decide_eq_false hm]; rfl
      rw [e]
      refine ⟨_, rfl, iteT (q a H (Same.refl H) ?_)⟩
      have ef : c.filter (fun x => decide (x ≠ l)) = c := List.filter_eq_self.mpr fun x hx => decide_eq_true fun (z : x = l) => hm (z ▸ hx)
      rw [ef]
      exact ha
/-! ### once so -/
theorem once_app (cs ds : List (List Int)) (l : Int) : once (cs ++ ds) l = once cs l ++ once ds l := by
  unfold once
  rw [List.filter_append, List.map_append]
theorem once_len (cs : List (List Int)) (l : Int) : (once cs l).length ≤ cs.length := by
  unfold once
  rw [List.length_map]
  exact List.length_filter_le ..
theorem once_small {cs : List (List Int)} {l : Int} (h : ∀ c ∈ cs, c.length ≤ 1000) : ∀ c ∈ once cs l, c.length ≤ 1000 := fun d hd' => by
  obtain ⟨c, hc, _, rfl⟩ := mem_once.mp hd'
  exact Nat.le_trans (List.length_filter_le ..) (h c hc)
abbrev sOs : Stmt := s__once_so
abbrev nOs : List Str := ["clauses", "letter", "clause"]
theorem scOs : FnScope nOs ["clauses", "letter"] (defScope sOs) := ⟨rfl, rfl, rfl, by decide +kernel, rfl, by decide +kernel, by decide +kernel⟩
def spOs (K : PySem.W.Frag) : Sp := fun vs H Q _ => ∃ (a : Addr) (l : Int) (bs : List Addr) (cs : List (List Int)), vs = [.ref a, .int l] ∧ SqE K H a (bs.map V.ref) ∧ TupsAt H bs cs ∧ cs.length ≤ 1000 ∧ (∀ c ∈ cs, c.length ≤ 1000) ∧
  ∀ (D : Addr) (bs' : List Addr) (H' : Hp), Same H H' → H D = none → H' D = some (.lst (bs'.map V.ref)) → TupsAt H' bs' (once cs l) → Q (.ref D) H'
theorem os_step {H : Hp} {D : Addr} {l : Int} {bs : List Addr} {cs : List (List Int)} {j : Nat} {x : V} {Hj : Hp} (hD : H D = none) (tb : TupsAt H bs cs) (lcs : cs.length ≤ 1000) (sm : ∀ c ∈ cs, c.length ≤ 1000) (hj : (bs.map V.ref)[j]? = some x)
    (ej : Same H Hj) (h : ∃ ps, Hj D = some (.lst (ps.map V.ref)) ∧ TupsAt Hj ps (once (cs.take j) l)) :
    ∃ (b : Addr) (c : List Int), x = .ref b ∧ Hj b = some (.tup (c.map V.int)) ∧ c.length ≤ 1000 ∧ (l ∈ c → Same H Hj ∧ ∃ ps, Hj D = some (.lst (ps.map V.ref)) ∧ TupsAt Hj ps (once (cs.take (j + 1)) l)) ∧
      (l ∉ c → ∀ (b' : Addr) (H' : Hp), Same Hj H' → H' b' = some (.tup ((c.filter fun x => decide (x ≠ -l)).map V.int)) → ∃ acc, H' D = some (.lst acc) ∧ acc.length < sizeLine ∧ Same H (upd H' D (.lst (acc ++ [V.ref b']))) ∧
        ∃ ps, upd H' D (.lst (acc ++ [V.ref b'])) D = some (.lst (ps.map V.ref)) ∧ TupsAt (upd H' D (.lst (acc ++ [V.ref b']))) ps (once (cs.take (j + 1)) l)) := by
  obtain ⟨ps, hDj, tp⟩ := h
  rw [List.getElem?_map] at hj
  cases ez : bs[j]? with
  | none => rw [ez] at hj; cases hj
  | some b =>
  rw [ez] at hj
  cases hj
  obtain ⟨c, hc, hb⟩ := TupsAt.get (TupsAt.same ej tb) ez
  have hcm := List.mem_of_getElem? hc
  have e1 : once (cs.take (j + 1)) l = once (cs.take j) l ++ once [c] l := by rw [List.take_add_one, hc, once_app]; rfl
  have lp : ps.length ≤ 1000 := by
    have h1 := TupsAt.len tp
    have h2 := once_len (cs.take j) l
    rw [List.length_take] at h2
    omega
  refine ⟨b, c, rfl, hb, sm c hcm, fun hl => ⟨ej, ps, hDj, ?_⟩, fun hl b' H' e' hb' => ⟨_, e' _ _ hDj, by rw [List.length_map]; exact small1000 (by omega), fun x o hx => ?_, ps ++ [b'], by rw [upd_same, List.map_append]; rfl, ?_⟩⟩
  · rw [e1, once_cons, if_pos hl]
    show TupsAt _ _ (_ ++ [])
    rw [List.append_nil]
    exact tp
  · rw [upd_ne (ne_of_none hx hD)]
    exact e' _ _ (ej x o hx)
  · rw [e1, once_cons, if_neg hl]
    refine pairApp (TupsAt.upd (e' _ _ hDj) (fun ys z => by cases z) (TupsAt.same e' tp)) (.cons ?_ .nil)
    rw [upd_ne (fun z => by rw [z, e' _ _ hDj] at hb'; cases hb')]
    exact hb'
theorem ok_os {f fW : Addr} {fd fdW : FuncData} (F : Fun K "_once_so" "_once_so" sOs f fd) (B : Bl mg) (W : Df K mg "_without" sWo ["clause", "letter"] fW fdW) : FnOk P w K mg base CX0 2 f fd ["clauses", "letter"] (spOs K) := by
  have GW : FnOk P w K mg base CX0 1 fW fdW ["clause", "letter"] (spWo K) := ok_wo W.F B
  refine F.ok scOs (fun vs H Q E h => ?_) (fun cdv A outer s H vs Q E hr h => ?_)
  · obtain ⟨a, l, bs, cs, rfl, _⟩ := h
    rfl
  · obtain ⟨a, l, bs, cs, rfl, ha, tb, lcs, sm, q⟩ := h
    refine ⟨_, pss_one (ps_ret (pe_lc (own := [("clause", 2)]) (g := gName 2) (tt := tTest (tOp (rIn K true) (tVar 1) (tVar 2))) (te := tCall (spWo K) [] E0 (tCons (tVar 2) (tCons (tUn (rU fun i => .int (-i)) (tVar 1)) tNil))) rfl scOs.nd (pi_or (pi_list (pv 0)) (pi_tup (pv 0))) (blkOk_by (own := [("clause", 2)]) (N := nOs) (sc := defScope sOs) (by decide +kernel))
        (fun _ _ _ _ _ => pg_name (i := 2) scOs.nd rfl (Or.inl rfl)) (fun _ _ _ _ _ => pts_one (pt_cmpR (r := rIn K true) op_notIn_seq (pv 1) (pv 2) rfl)) (fun _ _ _ _ _ => pe_call GW hr rfl W.g W.F.kp W.b .nil pass0 (pa_cons (pv 2) (pa_cons (pe_un un_neg (pv 1)) pa_nil))))), ?_⟩
    show tRet _ _ [some (.ref a), some (.int l), none] H
    walk_at "rd"
    let J : Addr → Nat → Hp → Prop := fun D j Hj => Same H Hj ∧ ∃ ps, Hj D = some (.lst (ps.map V.ref)) ∧ TupsAt Hj ps (once (cs.take j) l)
    have fin : ∀ (D : Addr) (Hj : Hp), H D = none → J D (bs.map V.ref).length Hj → Q (.ref D) Hj := by
      rintro D Hj hD ⟨ej, ps, hDj, tp⟩
      rw [List.length_map, TupsAt.len tb, List.take_length] at tp
      exact q D ps Hj ej hD hDj tp
    have step : ∀ (D : Addr) (j : Nat) (x : V) (Hj : Hp), H D = none → (bs.map V.ref)[j]? = some x → J D j Hj → tTest (tOp (rIn K true) (tVar 1) (tVar 2)) [some (.ref a), some (.int l), some x] Hj fun b H3 => if b = true then tCall (spWo K) [] E0 (tCons (tVar 2) (tCons (tUn (rU fun i => .int (-i)) (tVar 1)) tNil)) [some (.ref a), some (.int l), some x] H3 fun y H4 => ∃ acc, H4 D = some (.lst acc) ∧ acc.length < sizeLine ∧ J D (j + 1) (upd H4 D (.lst (acc ++ [y]))) else J D (j + 1) H3 := by
      rintro D j x Hj hD hj ⟨ej, hp⟩
      obtain ⟨b, c, rfl, hb, lc, h1, h2⟩ := os_step hD tb lcs sm hj ej hp
      walk_at "rd"
      refine ⟨b, _, rfl, .inr (SqT.of hb), rfl, flat_ints c, ?_⟩
      rw [in_ints]
      by_cases hm : l ∈ c
      · have e : (if true = true then !decide (l ∈ c) else decide (l ∈ c)) = false := by rw [if_pos rfl, decide_eq_true hm]; rfl
        rw [e]
        exact ⟨_, rfl, iteF (h1 hm)⟩
      · have e : (if true = true then !decide (l ∈ c) else decide (l ∈ c)) = true := by rw [if_pos rfl, decide_eq_false hm]; rfl
        rw [e]
        refine ⟨_, rfl, iteT ?_⟩
        walk_at "rd"
        exact ⟨b, -l, c, rfl, hb, lc, fun b' H' e' hb' => by
          obtain ⟨acc, g1, g2, g3, g4⟩ := h2 hm b' H' e' hb'
          exact ⟨acc, g1, g2, g3, g4⟩⟩
    rcases ha with ha | ha
    · refine .inl ⟨_, rfl, a, rfl, ⟨_, ha⟩, fun D hD => lc_list (K := K) (a := a) (xs := bs.map V.ref) (J D) ⟨Same.new hD, [], upd_same, .nil⟩ (fun j Hj _ ⟨e, _⟩ => Same.seq e ha) (fun j x Hj hj p => ⟨rfl, step D j x Hj hD hj p⟩) fun Hj p => fin D Hj hD p⟩
    · refine .inr ⟨_, rfl, a, rfl, ⟨_, ha⟩, fun D hD => lc_tup (K := K) (a := a) (xs := bs.map V.ref) (J D) ⟨Same.new hD, [], upd_same, .nil⟩ (fun j Hj _ ⟨e, _⟩ => Same.sqt e ha) (fun j x Hj hj p => ⟨rfl, step D j x Hj hD hj p⟩) fun Hj p => fin D Hj hD p⟩
/-! ### choices -/
abbrev sChs : Stmt := s__choices
theorem scChs : FnScope ["clause"] ["clause"] (defScope sChs) := ⟨rfl, rfl, rfl, by decide +kernel, rfl, by decide +kernel, by decide +kernel⟩
def spChs : Sp := fun vs H Q _ => ∃ (a : Addr) (c : List Int), vs = [.ref a] ∧ H a = some (.tup (c.map V.int)) ∧ c.length ≤ 1000 ∧
  ∀ (b : Addr) (H' : Hp), Same H H' → H' b = some (.tup ((choiceL c).map V.int)) → Q (.ref b) H'
theorem ok_chs {f : Addr} {fd : FuncData} (F : Fun K "_choices" "_choices" sChs f fd) (B : Bl mg) : FnOk P w K mg base CX0 1 f fd ["clause"] spChs := by
  refine F.ok scChs (fun vs H Q E h => ?_) (fun cdv A outer s H vs Q E hr h => ?_)
  · obtain ⟨a, c, rfl, _⟩ := h
    rfl
  · obtain ⟨a, c, rfl, ha, lc, q⟩ := h
    refine ⟨_, pss_cons (ps_if (pt_cmpR op_lt (pe_callB call_len_seq (by rfl) B.len PySem.boot_len (pa_cons (pv 0) pa_nil)) pe_int (nomark _)) (pss_one (ps_ret (pv 0))) pss_nil)
      (pss_one (ps_ret (pe_tup (pa_cons (pe_un un_neg (pe_ix ix_tup (pv 0) pe_int (fun _ _ => rfl))) (pa_cons (pe_ix ix_tup (pv 0) pe_int (fun _ _ => rfl)) pa_nil))))), ?_⟩
    show tSeq _ _ _ [some (.ref a)] H
    walk_at "rd"
    refine ⟨a, _, rfl, .inr (SqT.of ha), ?_⟩
    rw [List.length_map]
    match c, ha, lc, q with
    | [], ha, _, q => exact iteT (q a H (Same.refl H) ha)
    | [x], ha, _, q => exact iteT (q a H (Same.refl H) ha)
    | x :: y :: r, ha, _, q =>
      rw [decide_eq_false (by rw [List.length_cons, List.length_cons]; omega)]
      refine iteF ?_
      refine ⟨a, _, 0, _, rfl, rfl, SqT.of ha, atI_nat (j := 0) rfl, ?_⟩
      refine ⟨x, rfl, ?_⟩
      refine ⟨a, _, 0, _, rfl, rfl, SqT.of ha, atI_nat (j := 0) rfl, ?_⟩
      exact ⟨by show 2 ≤ sizeLine; decide, fun p hp => q p _ (Same.new hp) upd_same⟩
end
end Toy

-- part: EN1
/-! enumerate of a tuple -/
namespace EnT
open PySem
open PySem.AutoSeq1 (wpAny_loadPart')
theorem made (l : Addr) (items : Array Value) (n : Nat) (dct : Option Addr) (sl : Array (Option Value)) :
    Meets (Builtin.«enumerate.__new__» ⟨[.type "enumerate", .ref l], []⟩) (fun _ R s => s.heap.get? l = some { cls := .type "tuple", dict := dct, data := .seq items n, slots := sl } ∧
      R (.ok (.ret (.ref (s.heap.push { cls := .type "tuple_iterator", data := .fields #[.ref l, .int 0 0] }).objs.size)))
        { s with heap := (s.heap.push { cls := .type "tuple_iterator", data := .fields #[.ref l, .int 0 0] }).push { cls := .type "enumerate", data := .fields #[.none, .bool false, .ref s.heap.objs.size, rawInt 0, .none, .none] } }) :=
  .of_wp fun prog w A R s h => by
    obtain ⟨hp, g, d, tk, os⟩ := s
    obtain ⟨hl, h⟩ := h
    have hsub := sub_enumerate
    have hL : Heap.IsTuple (Shared.heap ⟨hp, g, d, tk, os⟩) l items := ⟨_, hl, rfl, n, rfl⟩
    wp_walk using wpAny_loadPart' hl
    refine wpAny_stack_any fun st => wpAny_pure ?_
    split
    · rename_i c _ _ _ _ _
      cases (c == Value.type "enumerate")
      · wp_walk using wpAny_loadPart' hl, wpAny_pyIter_tuple hL
        exact ⟨_, rfl, h⟩
      · wp_walk using wpAny_loadPart' hl, wpAny_pyIter_tuple hL
        exact ⟨_, rfl, h⟩
    · wp_walk using wpAny_loadPart' hl, wpAny_pyIter_tuple hL
      exact ⟨_, rfl, h⟩
section
variable {prog : Program} {w : World} {A : Around} {E : Value → Shared → Prop} {s : Shared}
theorem call_enum {l : Addr} {items : Array Value} {Q : Value → Shared → Prop} (hL : s.heap.IsTuple l items)
    (h : ∀ h', IsEnum h' (s.heap.objs.size + 1) s.heap.objs.size 0 .none → h'.IsTupleIter s.heap.objs.size l 0 → (∀ b o, s.heap.get? b = some o → h'.get? b = some o) → Q (.ref (s.heap.objs.size + 1)) { s with heap := h' }) :
    wpAny (model prog w) A (call (.type "enumerate") [.ref l]) Q E s := by
  obtain ⟨⟨c, dct, dt, sl⟩, hl, hc, n, hd⟩ := hL
  obtain rfl : c = .type "tuple" := hc
  obtain rfl : dt = .seq items n := hd
  refine callType_new F.called_enumerate (by decide) (F.typeCall_enumerate_1 _) (F.newCall_enumerate_1 _) (fun obj => F.args_object_init_2 obj _) F.entry_enumerate_new (made l items n dct sl) ⟨hl, ?_⟩
  have hz : (s.heap.push { cls := .type "tuple_iterator", data := .fields #[.ref l, .int 0 0] }).objs.size = s.heap.objs.size + 1 := Heap.size_push ..
  have q := Heap.get?_push_size (s.heap.push { cls := .type "tuple_iterator", data := .fields #[.ref l, .int 0 0] }) (o := { cls := .type "enumerate", data := .fields #[.none, .bool false, .ref s.heap.objs.size, rawInt 0, .none, .none] }) rfl
  rw [hz] at q
  show _ ∧ _
  rw [hz]
  exact ⟨⟨_, q, rfl⟩, h _ q ⟨_, Heap.get?_push_of_some _ (Heap.get?_push_size _ rfl), rfl, rfl⟩ fun b o x => Heap.get?_push_of_some _ (Heap.get?_push_of_some _ x)⟩
/-- one turn: y, the iterator below, hands out x -/
theorem next_item {e it l : Addr} {i : Nat} {items : Array Value} {x old : Value} {Q : Option Value → Shared → Prop}
    (he : IsEnum s.heap e it i old) (hit : s.heap.IsTupleIter it l i) (hl : s.heap.IsTuple l items) (hx : items[i]? = some x) (hne : e ≠ it)
    (hQ : ∀ h', IsEnumOut h' e it ((i : Int) + 1) x s.heap.objs.size → h'.IsTupleIter it l (i + 1) → h'.get? s.heap.objs.size = some { cls := .type "tuple", data := .seq #[.int i s.toks, x] } →
      (∀ b o, b ≠ e → b ≠ it → s.heap.get? b = some o → h'.get? b = some o) → Q (some (.ref s.heap.objs.size)) { s with heap := h', toks := s.toks + 1 }) :
    wpAny (model prog w) A (pyNext (.ref e)) Q E s := by
  have hT : s.TypeIs (.ref e) "enumerate" := ⟨_, he, rfl⟩
  unfold pyNext
  refine wpAny_bind (wpAny_attempt (wpAny_callSpecial?_slot (name := Str.ofString "__next__") hT F.slot_enumerate_next (wpAny_call_entry F.slot_enumerate_next hT F.entry_enumerate_next ?_ (F.args_enumerate_next_1 _))))
  obtain ⟨hp, g, d, tk, os⟩ := s
  show wpAny _ _ (field (.ref e) 2 >>= _) _ _ _
  refine wpAny_bind (wpAny_field he rfl (x := .ref it) rfl (wpAny_bind (RZ.nextOf_tuple_item hit hl hx fun h1 hit1 k1 => ?_)))
  have k1 : Heap.SameBut it hp h1 := k1
  have he1 : IsEnum h1 e it i old := (k1.2 e hne).trans he
  show wpAny _ _ (field (.ref e) 3 >>= _) _ _ ⟨h1, g, d, tk, os⟩
  refine wpAny_bind (wpAny_field he1 rfl (x := rawInt i) rfl ?_)
  show wpAny _ _ (field (.ref e) 4 >>= _) _ _ ⟨h1, g, d, tk, os⟩
  refine wpAny_bind (wpAny_field he1 rfl (x := .none) rfl ?_)
  show wpAny _ _ (mkInt i >>= _) _ _ ⟨h1, g, d, tk, os⟩
  refine wpAny_bind (wpAny_mkInt ?_)
  refine wpAny_bind (wpAny_setField_rec (s := ⟨h1, g, d, tk + 1, os⟩) he1 (by simp) fun h2 he2 k2 => ?_)
  have k2 : Heap.SameBut e h1 h2 := k2
  have he2 : IsEnum h2 e it ((i : Int) + 1) old := he2
  refine wpAny_bind (wpAny_setField_rec (s := ⟨h2, g, d, tk + 1, os⟩) he2 (by simp) fun h3 he3 k3 => ?_)
  have k3 : Heap.SameBut e h2 h3 := k3
  have he3 : IsEnum h3 e it ((i : Int) + 1) old := he3
  have z3 : h3.objs.size = hp.objs.size := by rw [k3.1, k2.1, k1.1]
  have hel : e < hp.objs.size := Heap.lt_size he
  show wpAny _ _ (newTuple [.int i tk, x] >>= _) _ _ ⟨h3, g, d, tk + 1, os⟩
  refine wpAny_bind (wpAny_newTuple ?_)
  have he4 : IsEnum (h3.push { cls := .type "tuple", data := .seq #[.int i tk, x] }) e it ((i : Int) + 1) old := Heap.get?_push_of_some _ he3
  have ht4 : (h3.push { cls := .type "tuple", data := .seq #[.int i tk, x] }).get? hp.objs.size = some { cls := .type "tuple", data := .seq #[.int i tk, x] } := by rw [← z3]; exact Heap.get?_push_size _ rfl
  have kk : ∀ b o, b ≠ e → b ≠ it → hp.get? b = some o → (h3.push { cls := .type "tuple", data := .seq #[.int i tk, x] }).get? b = some o := fun b o n1 n2 q =>
    Heap.get?_push_of_some _ (k3.extBut b o n1 (k2.extBut b o n1 (k1.extBut b o n2 q)))
  have hit4 : (h3.push { cls := .type "tuple", data := .seq #[.int i tk, x] }).IsTupleIter it l (i + 1) := by
    obtain ⟨o, ho, r⟩ := (hit1.extBut k2.extBut (Ne.symm hne)).extBut k3.extBut (Ne.symm hne)
    exact ⟨o, Heap.get?_push_of_some _ ho, r⟩
  rw [z3]
  generalize h3.push { cls := .type "tuple", data := .seq #[.int i tk, x] } = h4 at he4 ht4 kk hit4
  show wpAny _ _ (Builtin.SmallTypes.ownedTupleIsFree (.ref e) >>= _) _ _ ⟨h4, g, d, tk + 1, os⟩
  refine wpAny_bind ?_
  unfold Builtin.SmallTypes.ownedTupleIsFree
  refine wpAny_bind (wpAny_field he4 rfl (x := .none) rfl (wpAny_pure ?_))
  simp only [if_true]
  refine wpAny_bind (wpAny_rule (wpAny_bind (wpAny_field he4 rfl (x := old) rfl ?_)))
  refine wpAny_bind (wpAny_setField_rec (s := ⟨h4, g, d, tk + 1, os⟩) he4 (by simp) fun h5 he5 k5 => ?_)
  have k5 : Heap.SameBut e h4 h5 := k5
  have he5 : IsEnum h5 e it ((i : Int) + 1) x := he5
  show wpAny _ _ (Builtin.SmallTypes.ownedTupleHandOut (.ref e) (.ref hp.objs.size) >>= _) _ _ ⟨h5, g, d, tk + 1, os⟩
  refine wpAny_bind ?_
  unfold Builtin.SmallTypes.ownedTupleHandOut
  refine wpAny_bind (wpAny_setField_rec he5 (by simp) fun h6 he6 k6 => ?_)
  have k6 : Heap.SameBut e h5 h6 := k6
  have he6 : IsEnumOut h6 e it ((i : Int) + 1) x hp.objs.size := he6
  refine wpAny_setField_rec he6 (by simp) fun h7 he7 k7 => ?_
  have k7 : Heap.SameBut e h6 h7 := k7
  have he7 : IsEnumOut h7 e it ((i : Int) + 1) x hp.objs.size := he7
  refine wpAny_bind (wpAny_letGo (wpAny_pure ⟨_, rfl, wpAny_pure (hQ h7 he7 ?_ ?_ ?_)⟩))
  · exact ((hit4.extBut k5.extBut (Ne.symm hne)).extBut k6.extBut (Ne.symm hne)).extBut k7.extBut (Ne.symm hne)
  · exact k7.extBut _ _ (Nat.ne_of_gt hel) (k6.extBut _ _ (Nat.ne_of_gt hel) (k5.extBut _ _ (Nat.ne_of_gt hel) ht4))
  · exact fun b o n1 n2 q => k7.extBut b o n1 (k6.extBut b o n1 (k5.extBut b o n1 (kk b o n1 n2 q)))
theorem next_end {e it l : Addr} {i : Nat} {items : Array Value} {old : Value} {Q : Option Value → Shared → Prop} (hh : A.handled = none)
    (he : IsEnum s.heap e it i old) (hit : s.heap.IsTupleIter it l i) (hl : s.heap.IsTuple l items) (hx : items[i]? = none)
    (hQ : ∀ h', Heap.ExtBut it s.heap h' → Q none { s with heap := h' }) : wpAny (model prog w) A (pyNext (.ref e)) Q E s := by
  have hT : s.TypeIs (.ref e) "enumerate" := ⟨_, he, rfl⟩
  unfold pyNext
  refine wpAny_bind (wpAny_attempt (wpAny_callSpecial?_slot (name := Str.ofString "__next__") hT F.slot_enumerate_next (wpAny_call_entry F.slot_enumerate_next hT F.entry_enumerate_next ?_ (F.args_enumerate_next_1 _))))
  show wpAny _ _ (field (.ref e) 2 >>= _) _ _ _
  refine wpAny_bind (wpAny_field he rfl (x := .ref it) rfl (wpAny_bind (RZ.nextOf_tuple_end hh hit hl hx fun h' y ke hy => ?_)))
  obtain ⟨o, ho, hc⟩ := hy
  exact wpAny_bind (wpAny_isInstance (T := "StopIteration") (b := true) ⟨o, ho, hc⟩ isSubtype_stop (wpAny_pure (hQ _ ke)))
end
end EnT
namespace L2
open PySem PySem.Spec PyProof.Rows
/-- the tuple at a, each item in a new pair -/
def IteT (K : PySem.W.Frag) (a : Addr) : It :=
  ⟨fun i H => ∃ (xs : List V) (x : V), SqT K H a xs ∧ xs[i]? = some x, fun i H v H' => ∃ T x, v = .ref T ∧ H T = none ∧ H' = upd H T (.tup [.int (i : Nat), x]) ∧ ∀ xs, SqT K H a xs → xs[i]? = some x, fun i H => ∃ xs : List V, SqT K H a xs ∧ xs.length ≤ i⟩
theorem turn_enumT {P : Program} {w : World} {K : PySem.W.Frag} {elts : List Expr} {kk : Nat} {tpos : Pos} (a e it : Addr) :
    Turn P w K (.Tuple elts kk tpos) (IteT K a) [e, it] e (fun i h => (∃ old, IsEnum h e it ((i : Nat) : Int) old) ∧ h.IsTupleIter it a i ∧ e ≠ it) where
  mem := by simp
  obj := fun i h ⟨⟨old, he⟩, ⟨o, ho, hc, hd⟩, _⟩ b hb => by
    rcases (show b = e ∨ b = it by simpa using hb) with z | z
    · rw [z]; exact ⟨_, he, fun v q => nomatch q⟩
    · rw [z]; exact ⟨o, ho, fun v q => by rw [hd] at q; cases q⟩
  keep := fun i h h' st k => let ⟨⟨old, he⟩, hi, hne⟩ := st; ⟨⟨old, k e (by simp) _ he⟩, hi.at fun o q => k it (by simp) o q, hne⟩
  item := by
    intro X hP hw hK hc i pins s σ H E I hf st hg
    subst hP hw hK
    obtain ⟨⟨old, he⟩, hit, hne⟩ := st
    obtain ⟨xs, x, hq, hx⟩ := hg
    obtain ⟨its, rv, p, hz⟩ := I.tuple hq
    obtain ⟨u, hu, ru⟩ := rv.get hx
    have hel : e < s.heap.objs.size := Heap.lt_size he
    have hil : it < s.heap.objs.size := by obtain ⟨_, q, _⟩ := hit; exact Heap.lt_size q
    refine EnT.next_item he hit p (x := u) (by simpa using hu) hne fun h' ho hit' hT hk => ?_
    refine ⟨_, rfl, wpAny_letOwnedTupleGo_enum (s := { s with heap := h', toks := s.toks + 1 }) ho fun h2 he2 sb => ?_⟩
    have hT2 : h2.get? s.heap.objs.size = some { cls := .type "tuple", data := .seq #[.int i s.toks, u] } := (sb.2 _ (Nat.ne_of_gt hel)).trans hT
    have I1 : Inv X pins σ (upd H s.heap.objs.size (.tup [.int (i : Nat), x])) { s with heap := h2, toks := s.toks + 1 } :=
      I.turnedNew (ch := [e, it]) (fun b ob hb q => (sb.2 b (fun z => hb (by simp [z]))).trans (hk b ob (fun z => hb (by simp [z])) (fun z => hb (by simp [z])) q)) hf (Nat.le_refl _)
        ⟨by show 2 ≤ sizeLine; decide, [.int i s.toks, u], .cons ⟨_, rfl⟩ (.cons ru .nil), ⟨_, hT2, rfl, _, rfl⟩⟩
    refine ⟨.ref s.heap.objs.size, _, I1, rfl, ⟨_, x, rfl, I.hok.fresh (Nat.le_refl _), rfl, fun ys hy => by rw [I.tuple_inj hy hq]; exact hx⟩, ⟨⟨u, ?_⟩, hit'.at fun o q => (sb.2 it (Ne.symm hne)).trans q, hne⟩, fun b hb => ?_⟩
    · rw [show ((i + 1 : Nat) : Int) = (i : Int) + 1 by omega]
      exact he2
    · have hb' : b < s.heap.objs.size := by
        rcases (show b = e ∨ b = it by simpa using hb) with z | z
        · rw [z]; exact hel
        · rw [z]; exact hil
      rw [upd_ne (Nat.ne_of_lt hb')]
      exact (hf b hb).1
  done := by
    intro X hP hw hK hc i pins s σ H E I hf st hg
    subst hP hw hK
    obtain ⟨⟨old, he⟩, hit, hne⟩ := st
    obtain ⟨xs, hq, hx⟩ := hg
    obtain ⟨its, rv, p, hz⟩ := I.tuple hq
    obtain ⟨f0, f1, f2, f3, f4, f5⟩ := hf it (by simp)
    have hl := rv.length
    exact EnT.next_end (I.ok.hd hc) he hit p (by simp; omega) fun h' eb => ⟨rfl, I.turned (t' := s.toks) (fun b o hb q => eb b o hb q) f0 f1 f3 f4 f5⟩
  self := fun A i s Q E st h => let ⟨⟨_, he⟩, _⟩ := st; wpAny_pyIter_enum he h
def iEnumT (K : PySem.W.Frag) (ta : TA) : TI := fun σ H R => ta σ H fun vs H1 => ∃ a xs, vs = [.ref a] ∧ SqT K H1 a xs ∧ R (IteT K a) H1
theorem pi_enumT {X : Cx} {e : Expr} {ta : TA} {p pos tpos : Pos} {elts : List Expr} {kk : Nat} (hg : Gl X "enumerate") (hm : X.mg "enumerate" = none) (ha : PA X [e] ta) (hs : starEach [e] X.env = [(false, eval e X.env)] := by rfl) :
    PI X (.Tuple elts kk tpos) (.Call (.Name "enumerate" p) [e] [] pos) (iEnumT X.K ta) := by
  refine ⟨fun pins s σ H R I h => ?_⟩
  refine Call_ (ld_blt I hg hm boot_enumerate (PyProof.Rows.callWith_type1 (thn (ha.run pos pins s σ H _ I h) fun us s1 ⟨vs, H1, I1, r1, a, xs, ex, hq, q⟩ => ?_) hs rfl))
  subst ex
  obtain ⟨u, rfl, ru⟩ := vals1 r1
  cases ru
  obtain ⟨its, rv, p', hz⟩ := I1.tuple hq
  refine EnT.call_enum p' fun h' he hit hk => wpAny_pyIter_enum he ?_
  refine ⟨s1.heap.objs.size + 1, [s1.heap.objs.size + 1, s1.heap.objs.size], _, _, H1, rfl, I1.kept (t' := s1.toks) hk, turn_enumT a (s1.heap.objs.size + 1) s1.heap.objs.size, ⟨⟨.none, he⟩, hit, Nat.succ_ne_self _⟩, fun b hb => ?_, q⟩
  have hle : s1.heap.objs.size ≤ b := by
    rcases (show b = s1.heap.objs.size + 1 ∨ b = s1.heap.objs.size by simpa using hb) with z | z
    · rw [z]; exact Nat.le_add_right _ _
    · rw [z]; exact Nat.le_refl _
  exact I1.fpOk hle (I1.hok.fresh hle)
/-- for the loop over such pairs: the turn -/
theorem for_enumA {xs : List V} {J : It} {g : TG} {tb : TS} {D : Ends} {σ : St} {H : Hp} (S : Hp → Prop) (hgo : ∀ i H, S H → i < xs.length → J.go i H) (hst : ∀ H, S H → J.stop xs.length H)
    (hy : ∀ i H y H', S H → J.yld i H y H' → ∃ T x, y = V.ref T ∧ H T = none ∧ H' = upd H T (.tup [.int (i : Nat), x]) ∧ xs[i]? = some x)
    (Pv : Nat → St → Hp → Prop) (h0 : Pv 0 σ H) (hl : ∀ i σ H, i ≤ xs.length → Pv i σ H → S H)
    (hs : ∀ i x T σ H, xs[i]? = some x → Pv i σ H → H T = none → g (.ref T) σ (upd H T (.tup [.int (i : Nat), x])) fun σ2 H2 => tb { D with nx := Pv (i + 1), ct := Pv (i + 1), bk := D.nx } σ2 H2) (hd : ∀ σ H, Pv xs.length σ H → D.nx σ H) :
    ∃ W : Nat → Nat → St → Hp → Prop, (∃ m, W 0 m σ H) ∧ ∀ i m σ H, W i m σ H →
      (J.stop i H ∧ D.nx σ H) ∨ (J.go i H ∧ ∃ N : St → Hp → Prop, (∀ σ' H', N σ' H' → ∃ m', m' < m ∧ W (i + 1) m' σ' H') ∧ ∀ x H', J.yld i H x H' → g x σ H' fun σ2 H2 => tb { D with nx := N, ct := N, bk := D.nx } σ2 H2) := by
  refine ⟨fun i m σ H => m = xs.length - i ∧ i ≤ xs.length ∧ Pv i σ H, ⟨xs.length, by simp, Nat.zero_le _, h0⟩, ?_⟩
  rintro i m σ H ⟨rfl, hi, p⟩
  have st := hl i σ H hi p
  by_cases hlt : i < xs.length
  · refine .inr ⟨hgo i H st hlt, Pv (i + 1), fun σ' H' q => ⟨xs.length - (i + 1), by omega, rfl, by omega, q⟩, fun y H' h => ?_⟩
    obtain ⟨T, x, rfl, hT, rfl, hx⟩ := hy i H y H' st h
    exact hs i x T σ H hx p hT
  · have e : i = xs.length := by omega
    subst e
    exact .inl ⟨hst H st, hd σ H p⟩
section
variable {K : PySem.W.Frag} {a : Addr} {xs : List V} {g : TG} {tb : TS} {D : Ends} {σ : St} {H : Hp} (Pv : Nat → St → Hp → Prop) (h0 : Pv 0 σ H)
  (hs : ∀ i x T σ H, xs[i]? = some x → Pv i σ H → H T = none → g (.ref T) σ (upd H T (.tup [.int (i : Nat), x])) fun σ2 H2 => tb { D with nx := Pv (i + 1), ct := Pv (i + 1), bk := D.nx } σ2 H2) (hd : ∀ σ H, Pv xs.length σ H → D.nx σ H)
include h0 hs hd
theorem for_enumL (hl : ∀ i σ H, i ≤ xs.length → Pv i σ H → SqL K H a xs) : ∃ W : Nat → Nat → St → Hp → Prop, (∃ m, W 0 m σ H) ∧ ∀ i m σ H, W i m σ H →
      ((Ite K a).stop i H ∧ D.nx σ H) ∨ ((Ite K a).go i H ∧ ∃ N : St → Hp → Prop, (∀ σ' H', N σ' H' → ∃ m', m' < m ∧ W (i + 1) m' σ' H') ∧ ∀ x H', (Ite K a).yld i H x H' → g x σ H' fun σ2 H2 => tb { D with nx := N, ct := N, bk := D.nx } σ2 H2) :=
  for_enumA (J := Ite K a) (fun H => SqL K H a xs) (fun i H h hi => ⟨xs, _, h, List.getElem?_eq_getElem hi⟩) (fun H h => ⟨xs, h, Nat.le_refl _⟩) (fun i H y H' h ⟨T, x, e, hT, e2, q⟩ => ⟨T, x, e, hT, e2, q xs h⟩) Pv h0 hl hs hd
theorem for_enumT (hl : ∀ i σ H, i ≤ xs.length → Pv i σ H → SqT K H a xs) : ∃ W : Nat → Nat → St → Hp → Prop, (∃ m, W 0 m σ H) ∧ ∀ i m σ H, W i m σ H →
      ((IteT K a).stop i H ∧ D.nx σ H) ∨ ((IteT K a).go i H ∧ ∃ N : St → Hp → Prop, (∀ σ' H', N σ' H' → ∃ m', m' < m ∧ W (i + 1) m' σ' H') ∧ ∀ x H', (IteT K a).yld i H x H' → g x σ H' fun σ2 H2 => tb { D with nx := N, ct := N, bk := D.nx } σ2 H2) :=
  for_enumA (J := IteT K a) (fun H => SqT K H a xs) (fun i H h hi => ⟨xs, _, h, List.getElem?_eq_getElem hi⟩) (fun H h => ⟨xs, h, Nat.le_refl _⟩) (fun i H y H' h ⟨T, x, e, hT, e2, q⟩ => ⟨T, x, e, hT, e2, q xs h⟩) Pv h0 hl hs hd
end
end L2

-- part: P3
namespace Toy
open PySem L2
section
variable {P : Program} {w : World} {K : PySem.W.Frag} {mg : Str → Option Value} {base : Heap}
abbrev sByLen : Stmt := s__by_length
theorem scByLen : FnScope ["clause"] ["clause"] (defScope sByLen) := ⟨rfl, rfl, rfl, by decide +kernel, rfl, by decide +kernel, by decide +kernel⟩
def spByLen : Sp := fun vs H Q _ => ∃ x, vs = [x] ∧ relLen x H Q
theorem ok_byLen {f : Addr} {fd : FuncData} (F : Fun K "_by_length" "_by_length" sByLen f fd) (B : Bl mg) : FnOk P w K mg base CX0 1 f fd ["clause"] spByLen := by
  refine F.ok scByLen (fun vs H Q E h => ?_) (fun cdv A outer s H vs Q E hr h => ?_)
  · obtain ⟨x, rfl, _⟩ := h
    rfl
  · obtain ⟨x, rfl, c, l, rfl, hc, q⟩ := h
    refine ⟨_, pss_one (ps_ret (pe_tup (pa_cons (pe_callB call_len_seq (by rfl) B.len PySem.boot_len (pa_cons (pv 0) pa_nil)) (pa_cons (pv 0) pa_nil)))), ?_⟩
    show tRet _ _ [some (.ref c)] H
    walk_at "rd"
    refine ⟨c, l, rfl, .inr (SqT.of hc), by show 2 ≤ sizeLine; decide, fun p hp => q p hp⟩
abbrev sUnlike : Stmt := s__unlike_clauses
theorem scUnlike : FnScope ["things", "many", "found", "at", "thing", "clause"] ["things", "many"] (defScope sUnlike) := ⟨rfl, rfl, rfl, by decide +kernel, rfl, by decide +kernel, by decide +kernel⟩
/-- rows of letters, each a list or a tuple -/
def RowsAt (K : PySem.W.Frag) (H : Hp) (xs : List V) (rows : List (List Int)) : Prop := Paired (fun (x : V) (row : List Int) => ∃ p, x = .ref p ∧ SqA K H p (row.map V.int)) xs rows
theorem RowsAt.same {H H' : Hp} (e : Same H H') : ∀ {xs : List V} {rows : List (List Int)}, RowsAt K H xs rows → RowsAt K H' xs rows
  | _, _, .nil => .nil
  | _, _, .cons ⟨p, h1, h2⟩ t => .cons ⟨p, h1, SqA.same e h2⟩ (RowsAt.same e t)
theorem RowsAt.get {H : Hp} : ∀ {xs : List V} {rows : List (List Int)} {i : Nat} {x : V}, RowsAt K H xs rows → xs[i]? = some x → ∃ row p, rows[i]? = some row ∧ x = .ref p ∧ SqA K H p (row.map V.int)
  | _, _, _, _, .nil, h => by simp at h
  | _, _, 0, _, .cons ⟨p, h1, h2⟩ t, e => by cases e; exact ⟨_, p, rfl, h1, h2⟩
  | _, _, i + 1, _, .cons h t, e => RowsAt.get (i := i) t e
theorem RowsAt.len {H : Hp} : ∀ {xs : List V} {rows : List (List Int)}, RowsAt K H xs rows → xs.length = rows.length
  | _, _, .nil => rfl
  | _, _, .cons _ t => by rw [List.length_cons, List.length_cons, RowsAt.len t]
/-- rows that make a problem of t truths -/
def RowsOk (t : Int) (rows : List (List Int)) : Prop := rows.length ≤ 400 ∧ ∀ row ∈ rows, RowOk t row ∧ row.length ≤ 1000
def spUnlike (K : PySem.W.Frag) : Sp := fun vs H Q _ => ∃ p xs rows t, vs = [.ref p, .int t] ∧ SqA K H p xs ∧ RowsAt K H xs rows ∧ RowsOk t rows ∧
  ∀ (l : Addr) (bs : List Addr) (cs : List (List Int)) (H' : Hp), Same H H' → H' l = some (.lst (bs.map V.ref)) → TupsAt H' bs cs → cs.Nodup → (∀ c, c ∈ cs ↔ ∃ row ∈ rows, IsCl row c) → cs.length ≤ rows.length → Q (.ref l) H'
theorem ok_unlike {f fN fL fT fC : Addr} {fd fdN fdL fdT fdC : FuncData} (F : Fun K "_unlike_clauses" "_unlike_clauses" sUnlike f fd) (B : Bl mg) (N : Df K mg "is_number" sIsNum ["thing"] fN fdN) (L : Df K mg "is_list" sIsList ["thing"] fL fdL) (T : Df K mg "is_letter" sIsLet ["thing", "many"] fT fdT)
    (C : Df K mg "clause_of" sClause ["thing", "many"] fC fdC) : FnOk P w K mg base CX0 4 f fd ["things", "many"] (spUnlike K) := by
  have GC : FnOk P w K mg base CX0 3 fC fdC ["thing", "many"] (spClause K) := ok_clause C.F B N L T
  refine F.ok scUnlike (fun vs H Q E h => ?_) (fun cdv A outer s H vs Q E hr h => ?_)
  · obtain ⟨p, xs, rows, t, rfl, _⟩ := h
    rfl
  · obtain ⟨p, xs, rows, t, rfl, hS, hR, ok, q⟩ := h
    have hu := hu_of hr
    refine ⟨_, pss_cons (ps_set (i := 2) scUnlike.nd rfl (Or.inl rfl) pe_dnewT)
      (pss_cons (ps_for PassesOwn.never rfl (pi_or (pi_enum (by rfl) B.enumerate (pa_cons (pv 0) pa_nil)) (pi_enumT (by rfl) B.enumerate (pa_cons (pv 0) pa_nil))) (pg_tup rfl (pgs_cons (pg_name (i := 3) scUnlike.nd rfl (Or.inl rfl)) (pgs_cons (pg_name (i := 4) scUnlike.nd rfl (Or.inl rfl)) pgs_nil)))
        (pss_cons (ps_set (i := 5) scUnlike.nd rfl (Or.inl rfl) (pe_call GC hr rfl C.g C.F.kp C.b .nil pass0 (pa_cons (pv 4) (pa_cons (pv 1) pa_nil))))
        (pss_cons (ps_if (pt_cmpR op_isN (pv 5) pe_non (nomark _)) (pss_one ps_never) pss_nil)
        (pss_one (ps_dput hu (pv 2) (pv 5) pe_bl rfl)))))
      (pss_one (ps_ret (pe_callTy (call_list_dT rfl) (by rfl) B.list (by decide +kernel) (pa_cons (pv 2) pa_nil))))), ?_⟩
    show tSeq _ _ _ [some (.ref p), some (.int t), none, none, none, none] H
    walk_at "rd"
    intro d hd
    have n0 : Same H (upd H d (.dT [])) := Same.new hd
    let Pv : Nat → St → Hp → Prop := fun i σ H' => ∃ (kvs : List (List Key × V)) (cs : List (List Int)) (l1 l2 l3 : Option V), σ = [some (.ref p), some (.int t), some (.ref d), l1, l2, l3] ∧ Same H H' ∧ H' d = some (.dT kvs) ∧ kvs.map (·.1) = cs.map tkey ∧ cs.Nodup ∧ (∀ c, c ∈ cs ↔ ∃ row ∈ rows.take i, IsCl row c) ∧ cs.length ≤ i
    have h0 : Pv 0 [some (.ref p), some (.int t), some (.ref d), none, none, none] (upd H d (.dT [])) := ⟨[], [], none, none, none, rfl, n0, upd_same, rfl, List.nodup_nil, by simp, Nat.le_refl _⟩
    have hs : ∀ (D : Ends) i x T σ H', xs[i]? = some x → Pv i σ H' → H' T = none → gTup K 2 (gCons (gName 3) (gCons (gName 4) gNil)) (.ref T) σ (upd H' T (.tup [.int (i : Nat), x])) fun σ2 H2 => (tSeq (tAsg (tCall (spClause K) [] E0 (tCons (tVar 4) (tCons (tVar 1) tNil))) (gName 5))
        (tSeq (tIfS (tTest (tOp (fun x y H Q => y = V.non ∧ Q (V.bl (decide (x = V.non))) H) (tVar 5) (tC V.non))) tNever tNext) (sDPut (tVar 2) (tVar 5) (tC (V.bl true))))) { D with nx := Pv (i + 1), ct := Pv (i + 1), bk := D.nx } σ2 H2 := by
      rintro D i x T σ H' hi ⟨kvs, cs, l1, l2, l3, rfl, e1, hk, hkeys, hnd, hmem, hkl⟩ hT
      have e2 : Same H (upd H' T (.tup [.int (i : Nat), x])) := Same.trans e1 (Same.new hT)
      obtain ⟨row, rp, hrow, rfl, hsq⟩ := (RowsAt.same e2 hR).get hi
      have rr : row ∈ rows := List.mem_of_getElem? hrow
      have hil : i < rows.length := (List.getElem?_eq_some_iff.mp hrow).1
      refine ⟨T, _, rfl, SqT.of upd_same, rfl, _, _, rfl, _, _, rfl, rfl, ?_⟩
      walk_at "rd"
      refine ⟨rp, row, t, rfl, hsq, (ok.2 row rr).1, (ok.2 row rr).2, fun c a H2 hc e3 ha => ?_⟩
      walk_at "rd"
      refine ⟨trivial, ?_⟩
      walk_at "rd"
      refine iteF ?_
      walk_at "rd"
      have hd2 : H2 d = some (.dT kvs) := e3 _ _ (Same.new hT _ _ hk)
      have ha' : H2 a = some (.tup ((tkey c).map kV)) := by rw [tkey_kV]; exact ha
      refine ⟨d, _, rfl, DPut.t (k := tkey c) hd2 ha' ?_, ?_⟩
      · have := congrArg List.length hkeys
        rw [List.length_map, List.length_map] at this
        have := ok.1
        exact small1000 (by omega)
      · refine ⟨_, addU cs c, _, _, _, rfl, fun b o e => ?_, upd_same, keys_put tkey_inj hkeys c _, nd_add hnd c, fun y => ?_, Nat.le_trans (len_add c) (by omega)⟩
        · have hb : b ≠ d := ne_of_none e hd
          rw [upd_ne hb]
          exact e3 _ _ (e2 b o e)
        · rw [mem_add, hmem, List.take_add_one, hrow]
          constructor
          · rintro (⟨r, h1, h2⟩ | rfl)
            · exact ⟨r, List.mem_append_left _ h1, h2⟩
            · exact ⟨row, List.mem_append_right _ (by simp), hc⟩
          · rintro ⟨r, h1, h2⟩
            rcases List.mem_append.mp h1 with h1 | h1
            · exact .inl ⟨r, h1, h2⟩
            · have : r = row := by simpa using h1
              subst this
              exact .inr (IsCl.ext h2 hc fun _ => Iff.rfl)
    have hd' : ∀ σ H', Pv xs.length σ H' → (tRet (tCB (fun xs H Q => ∃ d kvs, xs = [V.ref d] ∧ Rd H d (.dT kvs) ∧ ∀ p bs, H p = none → IsKeys H kvs bs → Q (.ref p) (upd H p (.lst (bs.map V.ref)))) (tCons (tVar 2) tNil))) { nx := fun x H' => Q V.non H', rt := Q } σ H' := by
      rintro σ H' ⟨kvs, cs, l1, l2, l3, rfl, e1, hk, hkeys, hnd, hmem, hkl⟩
      rw [hR.len, List.take_length] at hmem
      rw [hR.len] at hkl
      walk_at "rd"
      refine ⟨d, kvs, rfl, .inl hk, fun l bs hl hb => ?_⟩
      exact q l bs cs _ (Same.trans e1 (Same.new hl)) upd_same (TupsAt.same (Same.new hl) (tups_of_keys hb hkeys)) hnd hmem hkl
    rcases hS with hS | hS
    · exact Or.inl ⟨_, rfl, p, xs, rfl, Same.seq n0 hS, for_enumL (K := K) (a := p) Pv h0 (hs _) hd' (fun i σ H' _ ⟨_, _, _, _, _, _, e, _⟩ => Same.seq e hS)⟩
    · exact Or.inr ⟨_, rfl, p, xs, rfl, Same.sqt n0 hS, for_enumT (K := K) (a := p) Pv h0 (hs _) hd' (fun i σ H' _ ⟨_, _, _, _, _, _, e, _⟩ => Same.sqt e hS)⟩
end
end Toy

-- part: P4
namespace Toy
open PySem L2
section
variable {P : Program} {w : World} {K : PySem.W.Frag} {mg : Str → Option Value} {base : Heap}
abbrev sInit : Stmt := inClass (topS 28) 0
abbrev sEq : Stmt := inClass (topS 28) 1
theorem okN {x qual : Str} {params : Arguments} {body : List Stmt} {scope : Scope} {dvs : List V} {kws : List (Str × V)} {f : Addr} {fd : FuncData} {N ps : List Str} {k : Nat} {sp : Sp} (F : FunD K x qual params body scope dvs kws f fd) (S : FnScope N ps scope) (len : ∀ vs H Q E, sp vs H Q E → vs.length = ps.length)
    (hb : ∀ (cdv : Value) (A : Around) (outer : List Env) (s : Shared) (H : Hp) (vs : List V) (Q : VK) (E : XK), Room k (A.deeper (PyProof.Rows.envOfC qual scope s.heap.objs.size f cdv)) → sp vs H Q E →
      ∃ t, PSs (cxOf CX0 P w K mg base N qual scope f cdv A outer s H E).nox body t ∧ t { nx := fun _ H' => Q .non H', rt := Q } (start N vs) H) : FnOk P w K mg base CX0 (k + 1) f fd ps sp :=
  FunD.ok F S len fun cdv A outer s H vs Q E hr hsp => by
    obtain ⟨t, h, q⟩ := hb cdv A outer s H vs Q E hr hsp
    exact ⟨t, h.nox, q⟩
theorem kmc : ¬ (("many" : Str) = "clauses") := by decide +kernel
def flds (t : Int) (cp : Addr) : List (Str × V) := [("many", .int t), ("clauses", .ref cp)]
theorem flds_put (t : Int) (cp : Addr) : putF "clauses" (.ref cp) (putF "many" (.int t) []) = flds t cp := by
  show (if ("many" : Str) = "clauses" then _ else _) = _
  rw [if_neg kmc]
  rfl
theorem flds_many (t : Int) (cp : Addr) : (flds t cp).lookup ("many" : Str) = some (.int t) := by
  show List.lookup _ _ = _
  rw [← flds_put, lookup_putF, if_neg kmc, lookup_putF, if_pos rfl]
theorem flds_clauses (t : Int) (cp : Addr) : (flds t cp).lookup ("clauses" : Str) = some (.ref cp) := by
  rw [← flds_put, lookup_putF, if_pos rfl]
/-- a problem stands at x -/
structure Prb (C : Addr) (H : Hp) (x : Addr) (t : Int) (cp : Addr) (cs : List (List Int)) : Prop where
  ob : ∃ dx, H x = some (.ins C dx (flds t cp))
  cl : ∃ bs, H cp = some (.tup (bs.map V.ref)) ∧ TupsAt H bs cs
theorem Prb.same {C : Addr} {H H' : Hp} {x : Addr} {t : Int} {cp : Addr} {cs : List (List Int)} (e : Same H H') (p : Prb C H x t cp cs) : Prb C H' x t cp cs := by
  obtain ⟨⟨dx, h1⟩, bs, h2, h3⟩ := p
  exact ⟨⟨dx, e _ _ h1⟩, bs, e _ _ h2, TupsAt.same e h3⟩
/-- what the top has written of Problem and its defs -/
structure Prog (K : PySem.W.Frag) (mg : Str → Option Value) (C fN fL fT fC fU fB fI fE : Addr) (fdN fdL fdT fdC fdU fdB fdI fdE : FuncData) (eT : Addr) : Prop where
  N : Df K mg "is_number" sIsNum ["thing"] fN fdN
  L : Df K mg "is_list" sIsList ["thing"] fL fdL
  T : Df K mg "is_letter" sIsLet ["thing", "many"] fT fdT
  Cl : Df K mg "clause_of" sClause ["thing", "many"] fC fdC
  U : Df K mg "_unlike_clauses" sUnlike ["things", "many"] fU fdU
  B : Df K mg "_by_length" sByLen ["clause"] fB fdB
  I : FunD K "__init__" "Problem.__init__" (defArgs sInit) (defBody sInit) (defScope sInit) [.ref eT] [] fI fdI
  E : Fun K "__eq__" "Problem.__eq__" sEq fE fdE
  bI : Binds K fdI ["self", "many", "clauses"] []
  bD : Binds K fdI ["self", "many", "clauses"] [.ref eT]
  eT : SqT K (fun _ => none) eT []
  cl : Cls K C
  nM : NoAttr K C "many"
  nC : NoAttr K C "clauses"
  gC : mg "Problem" = some (.ref C)
  mak : Mk K C fI
  most : ∃ t, mg "MOST" = some (.int 400 t)
  mostC : ∃ t, mg "MOST_CLAUSES" = some (.int 400 t)
theorem scInit : FnScope ["self", "many", "clauses", "found"] ["self", "many", "clauses"] (defScope sInit) := ⟨rfl, rfl, rfl, by decide +kernel, rfl, by decide +kernel, by decide +kernel⟩
def spInit (K : PySem.W.Frag) (C : Addr) : Sp := fun vs H Q _ => ∃ x dx t p xs rows, vs = [.ref x, .int t, .ref p] ∧ H x = some (.ins C dx []) ∧ 1 ≤ t ∧ t ≤ 400 ∧ SqA K H p xs ∧ RowsAt K H xs rows ∧ RowsOk t rows ∧
  ∀ (cp : Addr) (cs : List (List Int)) (H' : Hp), Prb C H' x t cp cs → IsDue rows cs → Ex x H H' → Q .non H'
variable {C fN fL fT fC fU fB fI fE eT : Addr} {fdN fdL fdT fdC fdU fdB fdI fdE : FuncData}
theorem ok_init (G : Prog K mg C fN fL fT fC fU fB fI fE fdN fdL fdT fdC fdU fdB fdI fdE eT) (B : Bl mg) : FnOk P w K mg base CX0 5 fI fdI ["self", "many", "clauses"] (spInit K C) := by
  have GN : FnOk P w K mg base CX0 1 fN fdN ["thing"] (spIsNum K) := ok_isNum G.N.F B
  have GL : FnOk P w K mg base CX0 1 fL fdL ["thing"] (spIsList K) := ok_isList G.L.F B
  have GU : FnOk P w K mg base CX0 4 fU fdU ["things", "many"] (spUnlike K) := ok_unlike G.U.F B G.N G.L G.T G.Cl
  have GB : FnOk P w K mg base CX0 1 fB fdB ["clause"] spByLen := ok_byLen G.B.F B
  obtain ⟨tm, hm⟩ := G.most
  obtain ⟨tc, hmc⟩ := G.mostC
  refine okN G.I scInit (fun vs H Q E h => ?_) (fun cdv A outer s H vs Q E hr h => ?_)
  · obtain ⟨x, dx, t, p, xs, rows, rfl, _⟩ := h
    rfl
  · obtain ⟨x, dx, t, p, xs, rows, rfl, hx, t1, t4, hS, hR, ok, q⟩ := h
    have hu := hu_of hr
    refine ⟨_, pss_cons (ps_if (PW.pt (pw_or (pt_not (pt_val (pe_call GN (hr.mono (by decide)) rfl G.N.g G.N.F.kp G.N.b .nil pass0 (pa_cons (pv 1) pa_nil)))) (pw_or1 (pt_not (pt_chain op_le op_le pe_int (pv 1) (pe_glob rfl hm (v := .int 400) ⟨_, rfl⟩)))))) (pss_one ps_never) pss_nil)
      (pss_cons (ps_if (pt_not (pt_val (pe_call GL (hr.mono (by decide)) rfl G.L.g G.L.F.kp G.L.b .nil pass0 (pa_cons (pv 2) pa_nil)))) (pss_one ps_never) pss_nil)
      (pss_cons (ps_set (i := 3) scInit.nd rfl (Or.inl rfl) (pe_call GU hr rfl G.U.g G.U.F.kp G.U.b .nil pass0 (pa_cons (pv 2) (pa_cons (pv 1) pa_nil))))
      (pss_cons (ps_if (pt_cmpR op_gt (pe_callB call_len_seq (by rfl) B.len PySem.boot_len (pa_cons (pv 3) pa_nil)) (pe_glob rfl hmc (v := .int 400) ⟨_, rfl⟩) (nomark _)) (pss_one ps_never) pss_nil)
      (pss_cons (ps_fld (pv 0) (pv 1) rfl)
      (pss_one (ps_fld (pv 0) (pe_callTy call_tuple_of (by rfl) B.tuple (by decide +kernel) (pa_cons (pe_sorted (run_list (u100 hr) (rel_def GB (hr.mono (by decide)) G.B.b) fun a => PyProof.Rows.ksk_t1 _ a) (key_def (by rfl) G.B.g) (by rfl) B.sorted (pa_cons (pv 3) pa_nil)) pa_nil)) rfl)))))), ?_⟩
    show tSeq _ _ _ [some (.ref x), some (.int t), some (.ref p), none] H
    walk_at "rd"
    refine ⟨.int t, "int", rfl, .int t, ?_⟩
    walk_at "rd"
    refine iteF ?_
    rw [decide_eq_true t1, decide_eq_true t4]
    refine iteT (iteF ?_)
    obtain ⟨Ty, ty, hty⟩ := hS.ty
    refine ⟨.ref p, Ty, rfl, ty, fun H1 s1 => ?_⟩
    rw [hty]
    walk_at "rd"
    refine iteF ?_
    refine ⟨p, xs, rows, t, rfl, SqA.same s1 hS, RowsAt.same s1 hR, ok, fun l bs cs H2 s2 hl T nd hm hk => ?_⟩
    walk_at "rd"
    refine ⟨l, _, rfl, .inl (SqL.of hl), ?_⟩
    have hz : (bs.map V.ref).length ≤ 400 := by
      rw [List.length_map, T.len]
      have := ok.1
      omega
    rw [decide_eq_false (by omega)]
    refine iteF ?_
    have s02 : Same H H2 := Same.trans s1 s2
    have hx2 := s02 _ _ hx
    refine ⟨x, C, dx, [], rfl, hx2, G.cl, G.nM, (by show 0 < 1000; decide), ?_⟩
    have nlx : l ≠ x := ne_of hl hx2 (by intro z; cases z)
    have E1 : Ex x H2 (upd H2 x (.ins C dx (putF "many" (.int t) []))) := Ex.at
    have hl3 := E1 _ _ hl nlx
    have hx3 : upd H2 x (.ins C dx (putF "many" (.int t) [])) x = some (.ins C dx (putF "many" (.int t) [])) := upd_same
    have T3 : TupsAt (upd H2 x (.ins C dx (putF "many" (.int t) []))) bs cs := by
      have : ∀ (bs : List Addr) (cs : List (List Int)), TupsAt H2 bs cs → TupsAt (upd H2 x (.ins C dx (putF "many" (.int t) []))) bs cs := by
        intro bs cs h
        induction h with
        | nil => exact .nil
        | cons h t ih => exact .cons (E1 _ _ h (ne_of h hx2 (by intro z; cases z))) ih
      exact this bs cs T
    generalize upd H2 x (.ins C dx (putF "many" (.int t) [])) = H3 at *
    walk_at "rd"
    refine ⟨l, _, rfl, SqL.of hl3, ?_⟩
    refine go_cls (G := fun _ => True) trivial (fun _ _ _ _ => trivial) (fun x H Q _ h => ⟨x, rfl, h⟩) T3 fun zs H4 p4 hp ho s4 _ T4 hn4 => ?_
    walk_at "rd"
    refine ⟨p4, _, rfl, .inl ⟨SqL.of upd_same, fun l2 hl2 => ?_⟩⟩
    have s5 : Same H3 (upd (upd H4 p4 (.lst (zs.map fun z => V.ref z.1))) l2 (.tup (zs.map fun z => V.ref z.1))) := Same.trans s4 (Same.trans (Same.new hn4) (Same.new hl2))
    have s45 : Same H4 (upd (upd H4 p4 (.lst (zs.map fun z => V.ref z.1))) l2 (.tup (zs.map fun z => V.ref z.1))) := Same.trans (Same.new hn4) (Same.new hl2)
    have hx5 := s5 _ _ hx3
    have h25 : upd (upd H4 p4 (.lst (zs.map fun z => V.ref z.1))) l2 (.tup (zs.map fun z => V.ref z.1)) l2 = some (.tup (zs.map fun z => V.ref z.1)) := upd_same
    have T5 := TupsAt.same s45 T4
    generalize upd (upd H4 p4 (.lst (zs.map fun z => V.ref z.1))) l2 (.tup (zs.map fun z => V.ref z.1)) = H5 at *
    refine ⟨x, C, dx, _, rfl, hx5, G.cl, G.nC, (by show 1 < 1000; decide), ?_⟩
    have E6 : Ex x H5 (upd H5 x (.ins C dx (putF "clauses" (.ref l2) (putF "many" (.int t) [])))) := Ex.at
    have n2x : l2 ≠ x := ne_of h25 hx5 (by intro z; cases z)
    have pk : (zs.map (·.2)).Perm cs := by
      have q1 := hp.map (·.2)
      rw [List.map_snd_zip (by rw [T.len]; exact Nat.le_refl _)] at q1
      exact q1
    refine q l2 (zs.map (·.2)) _ ⟨⟨dx, ?_⟩, zs.map (·.1), ?_, ?_⟩ ⟨inc_of pk nd (List.pairwise_map.mpr ho), fun c => (pk.mem_iff).trans (hm c)⟩ ?_
    · rw [upd_same, flds_put]
    · rw [E6 _ _ h25 n2x, List.map_map]
      rfl
    · have : ∀ (bs : List Addr) (cs : List (List Int)), TupsAt H5 bs cs → TupsAt (upd H5 x (.ins C dx (putF "clauses" (.ref l2) (putF "many" (.int t) [])))) bs cs := by
        intro bs cs h
        induction h with
        | nil => exact .nil
        | cons h t ih => exact .cons (E6 _ _ h (ne_of h hx5 (by intro z; cases z))) ih
      exact this _ _ T5
    · exact Ex.trans (Ex.same s02) (Ex.trans E1 (Ex.trans (Ex.same s5) E6))
end
end Toy

-- part: C2
namespace Toy
open PySem L2
section
variable {P : Program} {w : World} {K : PySem.W.Frag} {mg : Str → Option Value} {base : Heap}
def scG : Scope := { kind := .function, names := [(".0", .local), ("guest", .cell), ("tuple", .globalImplicit), ("range", .globalImplicit), ("holes", .cell)], isGenerator := false, isCoroutine := false }
abbrev nHl : List Str := ["guests", "holes", "clauses", "guest", "hole", "other"]
def spHl (K : PySem.W.Frag) : Sp := fun vs H Q _ => ∃ (a b : Nat), vs = [.int (a : Int), .int (b : Int)] ∧ 1 ≤ a ∧ a ≤ 3 ∧ 1 ≤ b ∧ b ≤ 3 ∧
  ∀ (l : Addr) (bs' : List Addr) (cs' : List (List Int)) (H' : Hp), Same H H' → H' l = some (.lst (bs'.map V.ref)) → TupsAt H' bs' cs' → (∀ c ∈ cs', OkC (a * b) c) → cs'.length ≤ 100 → H l = none → Q (.ref l) H'
def tCell : TE := tOp (rI0 fun i j => .int (i + j)) (tOp (rI0 fun i j => .int (i + j)) (tOp (rI CMul fun i j => .int (i * j)) (tVar 3) (tVar 1)) (tVar 4)) (tC (V.int 1))
def tRow (K : PySem.W.Frag) : TE := tCB (fun xs H Q => ∃ p ys, xs = [V.ref p] ∧ ((SqL K H p ys ∧ ∀ (l : Addr), H l = none → Q (V.ref l) (upd H l (HO.tup ys))) ∨ SqT K H p ys ∧ Q (V.ref p) H)) (tCons (tLc (iRng1 (tCons (tVar 1) tNil)) (gName 4) tYes tCell [4]) tNil)
theorem cell_le {a b g h : Nat} (hg : g < a) (hh : h < b) : g * b + h + 1 ≤ a * b := by
  have : (g + 1) * b ≤ a * b := Nat.mul_le_mul_right b hg
  rw [Nat.add_mul, Nat.one_mul] at this
  omega
def rowH (b g : Nat) : List Int := (List.range b).map fun h => ((g * b + h + 1 : Nat) : Int)
theorem okRow {a b g : Nat} (hg : g < a) : OkC (a * b) (rowH b g) := by
  have up_ : (List.range b).Pairwise fun x y => x < y := List.pairwise_lt_range
  have ab : ∀ h : Nat, absI ((g * b + h + 1 : Nat) : Int) = ((g * b + h + 1 : Nat) : Int) := fun h => absI_pos (by omega)
  refine ⟨?_, ?_, ?_, fun x hx => ?_⟩
  · unfold rowH
    rw [List.length_map, List.length_range]
    have : 1 * b ≤ a * b := Nat.mul_le_mul_right b (by omega)
    omega
  · unfold rowH
    rw [List.map_map]
    refine List.pairwise_map.mpr (up_.imp fun {x y} h => ?_)
    show absI _ ≠ absI _
    rw [ab, ab]
    omega
  · unfold rowH
    refine List.pairwise_map.mpr (up_.imp fun {x y} h => ?_)
    rw [ab, ab]
    omega
  · unfold rowH at hx
    obtain ⟨h, hh, rfl⟩ := List.mem_map.mp hx
    have := cell_le hg (List.mem_range.mp hh)
    unfold Lt
    rw [ab]
    omega
theorem okPair {a b g o h : Nat} (hg : g < a) (ho : o < g) (hh : h < b) : OkC (a * b) [-((o * b + h + 1 : Nat) : Int), -((g * b + h + 1 : Nat) : Int)] := by
  have h1 := cell_le hg hh
  have h2 : (o + 1) * b ≤ g * b := Nat.mul_le_mul_right b ho
  rw [Nat.add_mul, Nat.one_mul] at h2
  have a1 : absI (-((o * b + h + 1 : Nat) : Int)) = ((o * b + h + 1 : Nat) : Int) := by rw [absI_neg, absI_pos (by omega)]
  have a2 : absI (-((g * b + h + 1 : Nat) : Int)) = ((g * b + h + 1 : Nat) : Int) := by rw [absI_neg, absI_pos (by omega)]
  refine ⟨?_, ?_, ?_, fun x hx => ?_⟩
  · show 2 ≤ a * b
    omega
  · rw [List.map_cons, List.map_cons, List.map_nil, a1, a2]
    simp
    omega
  · simp only [List.pairwise_cons, List.mem_singleton, forall_eq, List.not_mem_nil, false_imp_iff, implies_true, List.Pairwise.nil, and_true]
    rw [a1, a2]
    omega
  · simp only [List.mem_cons, List.not_mem_nil, or_false] at hx
    unfold Lt
    rcases hx with rfl | rfl
    · rw [a1]; omega
    · rw [a2]; omega
end
end Toy

-- part: BX1
/-! xs[b] of a list, b a bool -/
namespace BX
open PySem PySem.Spec PySem.Calls PySem.F
section
variable {prog : Program} {w : World} {A : Around} {E : Value → Shared → Prop} {s : Shared}
theorem look_bool_index : typeLookup (.type "bool") "__index__" = pure (some (.builtin "int.__index__")) := by rw [typeLookup_type, builtinLookup_eq_fast]; kernel_rfl
theorem sub_bool {M : Model} {b : Bool} {Q : Option Int → Shared → Prop} (h : Q (some (if b then 1 else 0)) s) : wpAny M A (Builtin.List.listSubscript? (.bool b)) Q E s := by
  unfold Builtin.List.listSubscript?
  refine wpAny_bind (wpAny_specialOf (T := "bool") (PySem.typeIs_bool s b) look_bool_index ?_)
  show wpAny M A (asIndex (.bool b) >>= _) Q E s
  cases b with
  | true =>
    refine wpAny_bind (wpAny_of_eq (a := 1) rfl ?_)
    exact wpAny_pure h
  | false =>
    refine wpAny_bind (wpAny_of_eq (a := 0) rfl ?_)
    exact wpAny_pure h
theorem getItem_bool {l : Addr} {items : Array Value} {b : Bool} {x : Value} {Q : Value → Shared → Prop} (hl : s.heap.IsList l items)
    (hx : items[(if b = true then 1 else 0 : Nat)]? = some x) (h : Q x s) : wpAny (model prog w) A (getItem (.ref l) (.bool b)) Q E s := by
  obtain ⟨o, ho, hc, ne, hd⟩ := id hl
  unfold getItem
  try with_reducible refine wpAny_holding ?_
  first | refine wpAny_bind (wpAny_pure ?_) | skip
  refine wpAny_bind (wpAny_sequenceKey hl.typeIs (by decide) ?_)
  refine wpAny_bind (wpAny_callSpecial?_slot (name := Str.ofString "__getitem__") hl.typeIs PySem.slot_list_getitem
    (wpAny_call_entry PySem.slot_list_getitem hl.typeIs PySem.entry_list_getitem ?_ (PySem.F.args_list_getitem_2 _ _)))
  show wpAny _ _ (Builtin.List.listSubscript? (.bool b) >>= _) _ _ s
  refine wpAny_bind (sub_bool ?_)
  have fin : ∀ j : Nat, items[j]? = some x → wpAny (model prog w) A (seqItemAt l j >>= fun r => pure (r.map (j, ·))) (fun r s' => r = some (j, x) ∧ s' = s) E s := fun j hj => wpAny_bind (wpAny_seqItemAt ho hd (wpAny_pure (by rw [hj]; exact ⟨rfl, rfl⟩)))
  cases b with
  | true =>
    have hx' : items[1]? = some x := hx
    show wpAny _ _ ((seqItemAt l 1 >>= fun r => pure (r.map (1, ·))) >>= _) _ _ s
    refine wpAny_bind (wpAny_bind (wpAny_seqItemAt ho hd (wpAny_pure ?_)))
    rw [hx']
    first
      | exact wpAny_bind (wpAny_pure (wpAny_pure ⟨x, rfl, wpAny_pure h⟩))
      | exact wpAny_pure ⟨x, rfl, wpAny_pure h⟩
  | false =>
    have hx' : items[0]? = some x := hx
    show wpAny _ _ ((seqItemAt l 0 >>= fun r => pure (r.map (0, ·))) >>= _) _ _ s
    refine wpAny_bind (wpAny_bind (wpAny_seqItemAt ho hd (wpAny_pure ?_)))
    rw [hx']
    first
      | exact wpAny_bind (wpAny_pure (wpAny_pure ⟨x, rfl, wpAny_pure h⟩))
      | exact wpAny_pure ⟨x, rfl, wpAny_pure h⟩
end
end BX
namespace L2
open PySem PySem.Spec PySem.Calls PyProof.Rows
def rIxB (K : PySem.W.Frag) : R2 := fun x y H Q => ∃ p xs b v, x = .ref p ∧ y = .bl b ∧ SqL K H p xs ∧ xs[(if b = true then 1 else 0 : Nat)]? = some v ∧ Q v H
theorem ix_listB {X : Cx} : IxR X (rIxB X.K) := by
  intro value slice pins s σ H x y v u Q I rx ry h hs
  obtain ⟨p, xs, b, z, rfl, rfl, hq, he, q⟩ := h
  cases rx
  cases ry
  obtain ⟨its, r, pl, hz⟩ := I.list hq
  obtain ⟨w, ew, rw'⟩ := r.get he
  exact subscriptTail_builtinR (x := w) pl.isList.typeIs PySem.slot_list_getitem.lookup (BX.getItem_bool (Q := fun r s' => r = w ∧ EP X pins σ Q r s') pl.isList (by simpa using ew) ⟨rfl, ⟨z, H, I, rw', q⟩⟩) hs
end L2

-- part: C3
namespace Toy
open PySem L2
theorem OkC.mono {h n : Nat} {c : List Int} (o : OkC h c) (l : h ≤ n) : OkC n c := ⟨Nat.le_trans o.len l, o.nd, o.rise, fun x hx => by have := o.lt x hx; unfold Lt at *; omega⟩
/-- a clause over, by so many truths further on -/
def shC (h : Nat) (c : List Int) : List Int := c.map fun x => x + (if x < 0 then -(h : Int) else (h : Int))
theorem sh_abs {h : Nat} {x : Int} (hx : 1 ≤ absI x) : absI (x + (if x < 0 then -(h : Int) else (h : Int))) = absI x + h := by
  unfold absI at hx ⊢
  by_cases z : x < 0
  · rw [if_pos z] at hx
    simp only [z, if_true]
    rw [if_pos (by omega)]
    omega
  · rw [if_neg z] at hx
    simp only [z, if_false]
    rw [if_neg (by omega)]
theorem OkC.sh {h n : Nat} {c : List Int} (o : OkC h c) (l : 2 * h ≤ n) : OkC n (shC h c) := by
  have e : (shC h c).map absI = c.map fun x => absI x + (h : Int) := by
    unfold shC
    rw [List.map_map]
    exact List.map_congr_left fun x hx => sh_abs (o.lt x hx).1
  refine ⟨?_, ?_, ?_, fun x hx => ?_⟩
  · unfold shC
    rw [List.length_map]
    have := o.len
    omega
  · rw [e]
    exact List.pairwise_map.mpr ((List.pairwise_map.mp o.nd).imp fun {x y} q => by omega)
  · have : ((shC h c).map absI).Pairwise (· ≤ ·) := by
      rw [e]
      exact List.pairwise_map.mpr (o.rise.imp fun {x y} q => by omega)
    exact List.pairwise_map.mp this
  · unfold shC at hx
    obtain ⟨y, hy, rfl⟩ := List.mem_map.mp hx
    have b := o.lt y hy
    unfold Lt at *
    rw [sh_abs b.1]
    omega
section
variable {P : Program} {w : World} {K : PySem.W.Frag} {mg : Str → Option Value} {base : Heap}
abbrev nDn : List Str := ["draw", "low", "top", "way", "many", "wide", "clauses", "k", "makers", "guests", "holes", "half", "one", "letter", "clause"]
def spDn (K : PySem.W.Frag) : Sp := fun vs H Q _ => ∃ (d : Addr) (lo tp : Nat) (sc : Addr) (ns : List Int), vs = [.ref d, .int lo, .int tp] ∧ 1 ≤ lo ∧ lo ≤ tp ∧ tp ≤ 12 ∧ DrA K sc ns H d ∧
  ∀ (r l : Addr) (n : Nat) (bs : List Addr) (cs : List (List Int)) (H' : Hp), Ex d H H' → DrA K sc ns H' d → H' r = some (.tup [.int n, .ref l]) → H' l = some (.lst (bs.map V.ref)) → TupsAt H' bs cs → (∀ c ∈ cs, OkC n c) → cs.length ≤ 100 → 1 ≤ n → n ≤ 12 → H r = none → H l = none → Q (.ref r) H'
def tDc (K : PySem.W.Frag) : TE := tCall (spCs K) [] E0 (tCons (tVar 0) (tCons (tVar 4) (tCons (tVar 5) tNil)))
def tDt (K : PySem.W.Frag) : TE := tCall (spLTu K) [] E0 (tCons (tVar 0) (tCons (tVar 4) tNil))
def tDh (K : PySem.W.Frag) : TE := tCall (spCs K) [] E0 (tCons (tVar 0) (tCons (tVar 11) (tCons (tC (.int 2)) tNil)))
def tShl (K : PySem.W.Frag) : TE := tOp (rI0 fun i j => .int (i + j)) (tVar 13) (tOp (rIxB K) (tLst (tCons (tVar 11) (tCons (tUn (rU fun i => .int (-i)) (tVar 11)) tNil))) (tOp (rI0 fun i j => .bl (decide (i < j))) (tVar 13) (tC (.int 0))))
def tShc (K : PySem.W.Frag) : TE := tCB (fun xs H Q => ∃ p ys, xs = [V.ref p] ∧ ((SqL K H p ys ∧ ∀ (l : Addr), H l = none → Q (V.ref l) (upd H l (HO.tup ys))) ∨ SqT K H p ys ∧ Q (V.ref p) H)) (tCons (tLc (iTup K (tVar 12)) (gName 13) tYes (tShl K) [13]) tNil)
def tNEm (K : PySem.W.Frag) : TT := tTest (tOp (rNeD K) (tVar 14) (tTup tNil))
def scO : Scope := { kind := .function, names := [(".0", .local), ("one", .local), ("tuple", .globalImplicit), ("half", .cell)], isGenerator := false, isCoroutine := false }
theorem TupsAt.app {H : Hp} : ∀ {a b : List Addr} {c d : List (List Int)}, TupsAt H a c → TupsAt H b d → TupsAt H (a ++ b) (c ++ d)
  | _, _, _, _, .nil, u => u
  | _, _, _, _, .cons h t, u => .cons h (TupsAt.app t u)
theorem shaped_tints (l : List Int) : SeqAt.shaped (.tuple (l.map PyData.int)) = true := by
  have h := dep_ints l
  unfold SeqAt.shaped
  rw [Bool.and_eq_true]
  refine ⟨by simp [PyData.canLay0, can_ints], decide_eq_true ?_⟩
  simp only [PyData.depth]
  omega
theorem TupsAt.ex {d sc : Addr} {ns : List Int} {H H' : Hp} (D : DrA K sc ns H d) (E : Ex d H H') {bs : List Addr} {cs : List (List Int)} (t : TupsAt H bs cs) : TupsAt H' bs cs := Paired.mapP t fun b c e => E _ _ e (fun z => by
  obtain ⟨_, D'⟩ := D
  rw [z, D'.dr] at e
  cases e)
end
end Toy

-- part: C4
namespace Toy
open PySem L2
section
variable {P : Program} {w : World} {K : PySem.W.Frag} {mg : Str → Option Value} {base : Heap} {C : Addr}
abbrev sLh : Stmt := s_letter_holds
abbrev nLh : List Str := ["letter", "worths", "worth"]
theorem scLh : FnScope nLh ["letter", "worths"] (defScope sLh) := ⟨rfl, rfl, rfl, by decide +kernel, rfl, by decide +kernel, by decide +kernel⟩
def spLh (K : PySem.W.Frag) : Sp := fun vs H Q _ => ∃ (l : Int) (b : Addr) (W : List Int), vs = [.int l, .ref b] ∧ Lt W.length l ∧ SqT K H b (W.map V.int) ∧ (∀ x ∈ W, x = 0 ∨ x = 1) ∧ Q (.bl (hd W l)) H
theorem ok_lh {f : Addr} {fd : FuncData} (F : Fun K "letter_holds" "letter_holds" sLh f fd) (B : Bl mg) : FnOk P w K mg base CX0 1 f fd ["letter", "worths"] (spLh K) := by
  refine F.ok scLh (fun vs H Q E h => ?_) (fun cdv A outer s H vs Q E hr h => ?_)
  · obtain ⟨l, b, W, rfl, _⟩ := h
    rfl
  · obtain ⟨l, b, W, rfl, ⟨b1, b2⟩, hb, hW, q⟩ := h
    refine ⟨_, pss_cons (ps_set (i := 2) scLh.nd rfl (Or.inl rfl) (pe_ix ix_tup (pv 1) (pe_op op_sub (pe_callB call_abs (by rfl) B.abs (by decide +kernel) (pa_cons (pv 0) pa_nil)) pe_int) (fun _ _ => rfl)))
      (pss_one (ps_ret (pe_ifExp (pt_cmpR op_gt (pv 0) pe_int (nomark _)) (pe_cmpR op_eq (pv 2) pe_int (nomark _)) (pe_cmpR op_eq (pv 2) pe_int (nomark _))))), ?_⟩
    show tSeq _ _ _ [some (.int l), some (.ref b), none] H
    walk_at "rd"
    obtain ⟨k, ek⟩ := Int.eq_ofNat_of_zero_le (by omega : 0 ≤ absI l - 1)
    refine p_ixT hb (v := .int (W.getD (absI l - 1).toNat 0)) (by rw [show (if l < 0 then -l else l) - 1 = absI l - 1 from rfl, ek, Int.toNat_natCast]; exact at_nat (by omega)) ?_
    unfold hd at q
    by_cases p : 0 < l
    · rw [if_pos p] at q
      rw [decide_eq_true p]
      refine iteT ⟨rfl, ?_⟩
      have e : decide (V.int (W.getD (absI l - 1).toNat 0) = V.int 1) = decide (W.getD (absI l - 1).toNat 0 = 1) := by
        rw [Bool.eq_iff_iff, decide_eq_true_eq, decide_eq_true_eq]
        exact ⟨V.int.inj, congrArg V.int⟩
      rw [e]
      exact q
    · rw [if_neg p] at q
      rw [decide_eq_false p]
      refine iteF ⟨rfl, ?_⟩
      have e : decide (V.int (W.getD (absI l - 1).toNat 0) = V.int 0) = decide (W.getD (absI l - 1).toNat 0 = 0) := by
        rw [Bool.eq_iff_iff, decide_eq_true_eq, decide_eq_true_eq]
        exact ⟨V.int.inj, congrArg V.int⟩
      rw [e]
      exact q
abbrev sCh : Stmt := s_clause_holds
abbrev nCh : List Str := ["clause", "worths", "letter"]
theorem scCh : FnScope nCh ["clause", "worths"] (defScope sCh) := ⟨rfl, rfl, rfl, by decide +kernel, rfl, by decide +kernel, by decide +kernel⟩
def spCh (K : PySem.W.Frag) : Sp := fun vs H Q _ => ∃ (c b : Addr) (C W : List Int), vs = [.ref c, .ref b] ∧ SqT K H c (C.map V.int) ∧ C.length ≤ 1000 ∧ (∀ l ∈ C, Lt W.length l) ∧ SqT K H b (W.map V.int) ∧ (∀ x ∈ W, x = 0 ∨ x = 1) ∧ ∀ H', Same H H' → Q (.bl (C.any (hd W))) H'
def tLh (K : PySem.W.Frag) : TE := tCall (spLh K) [] E0 (tCons (tVar 2) (tCons (tVar 1) tNil))
theorem ok_ch {f fL : Addr} {fd fdL : FuncData} (F : Fun K "clause_holds" "clause_holds" sCh f fd) (B : Bl mg) (L' : Df K mg "letter_holds" sLh ["letter", "worths"] fL fdL) : FnOk P w K mg base CX0 2 f fd ["clause", "worths"] (spCh K) := by
  have GL : FnOk P w K mg base CX0 1 fL fdL ["letter", "worths"] (spLh K) := ok_lh L'.F B
  refine F.ok scCh (fun vs H Q E h => ?_) (fun cdv A outer s H vs Q E hr h => ?_)
  · obtain ⟨c, b, C, W, rfl, _⟩ := h
    rfl
  · obtain ⟨c, b, C, W, rfl, hc, lC, bC, hb, hW, q⟩ := h
    refine ⟨_, pss_one (ps_ret (pe_callB (cr_any rfl) (by rfl) B.any (by decide +kernel) (pa_cons
        (pe_lc (own := [("letter", 2)]) (g := gName 2) (tt := tYes) (te := tLh K) rfl scCh.nd (pi_tup (pv 0)) (blkOk_by (own := [("letter", 2)]) (N := nCh) (sc := defScope sCh) (by decide +kernel))
          (fun _ _ _ _ _ => pg_name (i := 2) scCh.nd rfl (Or.inl rfl)) (fun _ _ _ _ _ => pts_nil) (fun _ _ _ _ _ => pe_call GL hr rfl L'.g L'.F.kp L'.b .nil pass0 (pa_cons (pv 2) (pa_cons (pv 1) pa_nil)))) pa_nil))), ?_⟩
    show tRet _ _ [some (.ref c), some (.ref b), none] H
    walk_at "rd"
    refine ⟨_, rfl, c, rfl, ⟨_, hc⟩, fun D hD => lc_tup (K := K) (a := c) (xs := C.map V.int) (fun j Hj => Same H Hj ∧ Hj D = some (.lst (((C.take j).map (hd W)).map V.bl))) ⟨Same.new hD, upd_same⟩ (fun j Hj _ ⟨e, _⟩ => Same.sqt e hc) ?_ ?_⟩
    · rintro j x Hj hj ⟨ej, hDj⟩
      rw [List.getElem?_map] at hj
      cases ez : C[j]? with
      | none => rw [ez] at hj; cases hj
      | some z =>
      rw [ez] at hj
      cases hj
      have hjl : j < C.length := (List.getElem?_eq_some_iff.mp ez).1
      refine ⟨rfl, yesT ?_⟩
      show tLh K [some (.ref c), some (.ref b), some (.int z)] Hj _
      unfold tLh
      walk_at "rd"
      refine ⟨z, b, W, rfl, bC z (List.mem_of_getElem? ez), Same.sqt ej hb, hW, ?_⟩
      refine ⟨_, hDj, by rw [List.length_map, List.length_map, List.length_take]; exact small1000 (by omega), fun c o hc => ?_, ?_⟩
      · rw [upd_ne (ne_of_none hc hD)]
        exact ej c o hc
      · rw [upd_same, List.take_add_one, ez]
        simp only [Option.toList_some, List.map_append, List.map_cons, List.map_nil]
    rintro H5 ⟨s5, hD5⟩
    rw [List.length_map, List.take_length] at hD5
    refine ⟨D, C.map (hd W), rfl, SqL.of hD5, ?_⟩
    have e : (C.map (hd W)).any id = C.any (hd W) := by rw [List.any_map]; rfl
    rw [e]
    exact q H5 s5
/-! ### whether anything is an answer -/
def bitB (x : V) : Bool := match x with
  | .int i => decide (i = 0 ∨ i = 1)
  | _ => false
/-- a tuple of things of the built-in types, or no tuple -/
def Thing (K : PySem.W.Frag) (H : Hp) (x : V) (c : Option (List V)) : Prop := match c with
  | some xs => ∃ a, x = .ref a ∧ SqT K H a xs ∧ xs.length ≤ 1000 ∧ ∀ y ∈ xs, ∃ T, TyB K H y T
  | none => ∃ T, TyB K H x T ∧ T ≠ "tuple"
theorem Thing.same {H H' : Hp} {x : V} {c : Option (List V)} (e : Same H H') (h : Thing K H x c) : Thing K H' x c := by
  cases c with
  | some xs =>
    obtain ⟨a, h1, h2, h3, h4⟩ := h
    exact ⟨a, h1, Same.sqt e h2, h3, fun y hy => (h4 y hy).imp fun T t => TyB.same e t⟩
  | none =>
    obtain ⟨T, t, n⟩ := h
    exact ⟨T, TyB.same e t, n⟩
def wsB (c : Option (List V)) (m : Int) : Bool := match c with
  | some xs => decide ((xs.length : Int) = m) && xs.all bitB
  | none => false
theorem bits_of : ∀ {xs : List V}, xs.all bitB = true → ∃ W : List Int, xs = W.map V.int ∧ ∀ x ∈ W, x = 0 ∨ x = 1
  | [], _ => ⟨[], rfl, fun _ h => nomatch h⟩
  | x :: r, h => by
    rw [List.all_cons, Bool.and_eq_true] at h
    obtain ⟨W, e, b⟩ := bits_of h.2
    have h1 : bitB x = true := h.1
    cases x with
    | int i =>
      refine ⟨i :: W, by rw [e]; rfl, fun j hj => ?_⟩
      rcases List.mem_cons.mp hj with rfl | hj
      · exact of_decide_eq_true h1
      · exact b j hj
    | _ => cases h1
abbrev sIsW : Stmt := s_is_worths
abbrev nIsW : List Str := ["thing", "many", "worth"]
theorem scIsW : FnScope nIsW ["thing", "many"] (defScope sIsW) := ⟨rfl, rfl, rfl, by decide +kernel, rfl, by decide +kernel, by decide +kernel⟩
def spIsWT (K : PySem.W.Frag) : Sp := fun vs H Q _ => ∃ (x : V) (m : Int) (c : Option (List V)), vs = [x, .int m] ∧ Thing K H x c ∧ ∀ H', Same H H' → Q (.bl (wsB c m)) H'
def tBit (K : PySem.W.Frag) : TE := tAndV (tCall (spIsNum K) [] E0 (tCons (tVar 2) tNil)) (tOp (rIn K false) (tVar 2) (tTup (tCons (tC (V.int 0)) (tCons (tC (V.int 1)) tNil))))
theorem ok_isWT {f fN : Addr} {fd fdN : FuncData} (F : Fun K "is_worths" "is_worths" sIsW f fd) (B : Bl mg) (N : Df K mg "is_number" sIsNum ["thing"] fN fdN) : FnOk P w K mg base CX0 2 f fd ["thing", "many"] (spIsWT K) := by
  have GN : FnOk P w K mg base CX0 1 fN fdN ["thing"] (spIsNum K) := ok_isNum N.F B
  refine F.ok scIsW (fun vs H Q E h => ?_) (fun cdv A outer s H vs Q E hr h => ?_)
  · obtain ⟨x, m, c, rfl, _⟩ := h
    rfl
  · obtain ⟨x, m, c, rfl, hx, q⟩ := h
    refine ⟨_, pss_cons (ps_if (PW.pt (pw_or (pt_cmpR op_neT (pe_callTy call_type1 (by rfl) B.type (by decide +kernel) (pa_cons (pv 0) pa_nil)) (pe_bltn (v := .ty "tuple") (by rfl) B.tuple (by decide +kernel) rfl) (nomark _))
        (pw_or1 (pt_cmpR op_ne (pe_callB call_len_seq (by rfl) B.len PySem.boot_len (pa_cons (pv 0) pa_nil)) (pv 1) (nomark _))))) (pss_one (ps_ret pe_bl)) pss_nil)
      (pss_one (ps_ret (pe_callB (cr_all rfl) (by rfl) B.all (by decide +kernel) (pa_cons (pe_lc (own := [("worth", 2)]) (g := gName 2) (tt := tYes) (te := tBit K) rfl scIsW.nd (pi_tup (pv 0)) (blkOk_by (own := [("worth", 2)]) (N := nIsW) (sc := defScope sIsW) (by decide +kernel))
          (fun _ _ _ _ _ => pg_name (i := 2) scIsW.nd rfl (Or.inl rfl)) (fun _ _ _ _ _ => pts_nil)
          (fun _ _ _ _ _ => pe_and (pe_call GN hr rfl N.g N.F.kp N.b .nil pass0 (pa_cons (pv 2) pa_nil)) (pe_one (pe_cmpR op_in_seq (pv 2) (pe_tup (pa_cons pe_int (pa_cons pe_int pa_nil))) rfl)))) pa_nil)))), ?_⟩
    show tSeq _ _ _ [some x, some (.int m), none] H
    refine seq_gen (fun σ' H' => σ' = [some x, some (.int m), none] ∧ H' = H ∧ ∃ xs, c = some xs ∧ (xs.length : Int) = m) (fun nx hnx => ?_) ?_
    · walk_at "rd"
      cases c with
      | none =>
        obtain ⟨T, ty, nT⟩ := hx
        refine ⟨x, T, rfl, ty, T, "tuple", rfl, rfl, Kn.ty ty, kn_tup, ?_⟩
        rw [decide_eq_false nT]
        exact iteT (itT (q H (Same.refl H)))
      | some xs =>
        obtain ⟨a, rfl, hs, hl, hy⟩ := hx
        refine ⟨.ref a, "tuple", rfl, .tup hs, "tuple", "tuple", rfl, rfl, kn_tup, kn_tup, ?_⟩
        rw [decide_eq_true rfl]
        refine iteF ⟨a, xs, rfl, .inr hs, rfl, ?_⟩
        by_cases hlen : (xs.length : Int) = m
        · rw [decide_eq_true (congrArg V.int hlen)]
          exact ⟨false, rfl, iteF (hnx _ _ ⟨rfl, rfl, xs, rfl, hlen⟩)⟩
        · rw [decide_eq_false fun z => hlen (V.int.inj z)]
          refine ⟨true, rfl, iteT ?_⟩
          have e : wsB (some xs) m = false := by
            show (decide ((xs.length : Int) = m) && _) = false
            rw [decide_eq_false hlen]
            rfl
          rw [← e]
          exact q H (Same.refl H)
    rintro σ' H' ⟨rfl, rfl, xs, rfl, hlen⟩
    obtain ⟨a, rfl, hs, hl, hy⟩ := hx
    walk_at "rd"
    refine ⟨_, rfl, a, rfl, ⟨_, hs⟩, fun D hD => lc_tup (K := K) (a := a) (xs := xs) (fun j Hj => Same H' Hj ∧ Hj D = some (.lst (((xs.take j).map bitB).map V.bl))) ⟨Same.new hD, upd_same⟩ (fun j Hj _ ⟨e, _⟩ => Same.sqt e hs) ?_ ?_⟩
    · rintro j y Hj hj ⟨ej, hDj⟩
      have hjl : j < xs.length := (List.getElem?_eq_some_iff.mp hj).1
      obtain ⟨T, ty⟩ := hy y (List.mem_of_getElem? hj)
      have tj := TyB.same ej ty
      refine ⟨rfl, yesT ?_⟩
      show tBit K [some (.ref a), some (.int m), some y] Hj _
      unfold tBit
      walk_at "rd"
      refine ⟨y, T, rfl, tj, ?_⟩
      have fin : ∀ (Hk : Hp) (v : Bool), Same Hj Hk → v = bitB y → ∃ acc, Hk D = some (.lst acc) ∧ acc.length < sizeLine ∧ Same H' (upd Hk D (.lst (acc ++ [V.bl v]))) ∧ upd Hk D (.lst (acc ++ [V.bl v])) D = some (.lst (((xs.take (j + 1)).map bitB).map V.bl)) := by
        rintro Hk v sk rfl
        refine ⟨_, sk _ _ hDj, by rw [List.length_map, List.length_map, List.length_take]; exact small1000 (by omega), fun c o hc => ?_, ?_⟩
        · rw [upd_ne (ne_of_none hc hD)]
          exact sk _ _ (ej c o hc)
        · rw [upd_same, List.take_add_one, hj]
          simp only [Option.toList_some, List.map_append, List.map_cons, List.map_nil]
      cases tj with
      | int i =>
        rw [decide_eq_true rfl]
        refine ⟨_, rfl, iteT ?_⟩
        refine ⟨by show 2 ≤ sizeLine; decide, fun p hp => ?_⟩
        have sp : Same Hj (upd Hj p (.tup [V.int 0, V.int 1])) := Same.new hp
        refine ⟨p, [V.int 0, V.int 1], rfl, .inr (SqT.of upd_same), rfl, rfl, ?_⟩
        refine fin _ _ sp ?_
        rw [if_neg (by decide)]
        show (decide ((0 : Int) = i) || (decide ((1 : Int) = i) || false)) = decide (i = 0 ∨ i = 1)
        rw [Bool.or_false, Bool.eq_iff_iff, Bool.or_eq_true, decide_eq_true_eq, decide_eq_true_eq, decide_eq_true_eq]
        omega
      | _ => exact ⟨_, rfl, iteF (fin _ _ (Same.refl _) rfl)⟩
    rintro H5 ⟨s5, hD5⟩
    rw [List.take_length] at hD5
    refine ⟨D, xs.map bitB, rfl, SqL.of hD5, ?_⟩
    have e : (xs.map bitB).all id = wsB (some xs) m := by
      show _ = (decide ((xs.length : Int) = m) && xs.all bitB)
      rw [decide_eq_true hlen, List.all_map, Bool.true_and]
      rfl
    rw [e]
    exact q H5 s5
end
end Toy

-- part: C5
namespace Toy
open PySem L2
section
variable {P : Program} {w : World} {K : PySem.W.Frag} {mg : Str → Option Value} {base : Heap} {C : Addr}
theorem map_intV (W : List Int) : (W.map V.int).map intV = W := by
  rw [List.map_map]
  exact (List.map_congr_left fun _ _ => rfl).trans (List.map_id W)
def ansB (c : Option (List V)) (m : Int) (cs : List (List Int)) : Bool := wsB c m && match c with
  | some xs => cs.all fun d => d.any (hd (xs.map intV))
  | none => false
abbrev sIsA : Stmt := s_is_answer
abbrev nIsA : List Str := ["problem", "thing", "clause"]
theorem scIsA : FnScope nIsA ["problem", "thing"] (defScope sIsA) := ⟨rfl, rfl, rfl, by decide +kernel, rfl, by decide +kernel, by decide +kernel⟩
def spIsA (K : PySem.W.Frag) (C : Addr) : Sp := fun vs H Q _ => ∃ (x : Addr) (y : V) (n : Nat) (cp : Addr) (cs : List (List Int)) (c : Option (List V)), vs = [.ref x, y] ∧ Prb C H x n cp cs ∧ (∀ d ∈ cs, d.length ≤ 1000 ∧ ∀ l ∈ d, Lt n l) ∧ cs.length ≤ 1000 ∧ Thing K H y c ∧ ∀ H', Same H H' → Q (.bl (ansB c n cs)) H'
def tCh (K : PySem.W.Frag) : TE := tCall (spCh K) [] E0 (tCons (tVar 2) (tCons (tVar 1) tNil))
theorem ok_isA {f fW fN fC fL : Addr} {fd fdW fdN fdC fdL : FuncData} (F : Fun K "is_answer" "is_answer" sIsA f fd) (B : Bl mg) (cl : Cls K C) (nM : NoAttr K C "many") (nC : NoAttr K C "clauses") (W' : Df K mg "is_worths" sIsW ["thing", "many"] fW fdW) (N : Df K mg "is_number" sIsNum ["thing"] fN fdN)
    (Ch : Df K mg "clause_holds" sCh ["clause", "worths"] fC fdC) (L' : Df K mg "letter_holds" sLh ["letter", "worths"] fL fdL) : FnOk P w K mg base CX0 3 f fd ["problem", "thing"] (spIsA K C) := by
  have GW : FnOk P w K mg base CX0 2 fW fdW ["thing", "many"] (spIsWT K) := ok_isWT W'.F B N
  have GC : FnOk P w K mg base CX0 2 fC fdC ["clause", "worths"] (spCh K) := ok_ch Ch.F B L'
  refine F.ok scIsA (fun vs H Q E h => ?_) (fun cdv A outer s H vs Q E hr h => ?_)
  · obtain ⟨x, y, n, cp, cs, c, rfl, _⟩ := h
    rfl
  · obtain ⟨x, y, n, cp, cs, c, rfl, p, okc, lcs, ty, q⟩ := h
    refine ⟨_, pss_cons (ps_if (pt_not (pt_val (pe_call GW hr rfl W'.g W'.F.kp W'.b .nil pass0 (pa_cons (pv 1) (pa_cons (pe_fld (pv 0) rfl) pa_nil))))) (pss_one (ps_ret pe_bl)) pss_nil)
      (pss_one (ps_ret (pe_callB (cr_all rfl) (by rfl) B.all (by decide +kernel) (pa_cons (pe_lc (own := [("clause", 2)]) (g := gName 2) (tt := tYes) (te := tCh K) rfl scIsA.nd (pi_tup (pe_fld (pv 0) rfl)) (blkOk_by (own := [("clause", 2)]) (N := nIsA) (sc := defScope sIsA) (by decide +kernel))
          (fun _ _ _ _ _ => pg_name (i := 2) scIsA.nd rfl (Or.inl rfl)) (fun _ _ _ _ _ => pts_nil) (fun _ _ _ _ _ => pe_call GC hr rfl Ch.g Ch.F.kp Ch.b .nil pass0 (pa_cons (pv 2) (pa_cons (pv 1) pa_nil)))) pa_nil)))), ?_⟩
    show tSeq _ _ _ [some (.ref x), some y, none] H
    refine seq_gen (fun σ' H' => σ' = [some (.ref x), some y, none] ∧ Same H H' ∧ wsB c n = true) (fun nx hnx => ?_) ?_
    · obtain ⟨dx, hx⟩ := p.ob
      walk_at "rd"
      refine ⟨_, rfl, x, C, dx, _, _, rfl, hx, cl, nM, flds_many n cp, ?_⟩
      refine ⟨y, n, c, rfl, ty, fun H1 s1 => ⟨_, rfl, ?_⟩⟩
      cases hw : wsB c n with
      | false =>
        refine iteT ?_
        have e : ansB c n cs = false := by unfold ansB; rw [hw]; rfl
        rw [← e]
        exact q H1 s1
      | true => exact iteF (hnx _ _ ⟨rfl, s1, hw⟩)
    rintro σ' H1 ⟨rfl, s1, hw⟩
    have p1 := Prb.same s1 p
    have ty1 := Thing.same s1 ty
    cases c with
    | none => cases hw
    | some xs =>
    have hw' : (decide ((xs.length : Int) = n) && xs.all bitB) = true := hw
    rw [Bool.and_eq_true] at hw'
    have lx : (xs.length : Int) = n := of_decide_eq_true hw'.1
    obtain ⟨W, rfl, bW⟩ := bits_of hw'.2
    rw [List.length_map] at lx
    obtain ⟨a, rfl, ha, _, _⟩ := ty1
    obtain ⟨dx, hx⟩ := p1.ob
    obtain ⟨bs, hcp, tb⟩ := p1.cl
    have lb := TupsAt.len tb
    walk_at "rd"
    refine ⟨_, rfl, x, C, dx, _, _, rfl, hx, cl, nC, flds_clauses n cp, cp, rfl, ⟨_, SqT.of hcp⟩, fun D hD => lc_tup (K := K) (a := cp) (xs := bs.map V.ref) (fun j Hj => Same H1 Hj ∧ Hj D = some (.lst (((cs.take j).map fun d => d.any (hd W)).map V.bl))) ⟨Same.new hD, upd_same⟩ (fun j Hj _ ⟨e, _⟩ => SqT.of (e _ _ hcp)) ?_ ?_⟩
    · rintro j z Hj hj ⟨ej, hDj⟩
      rw [List.getElem?_map] at hj
      cases ez : bs[j]? with
      | none => rw [ez] at hj; cases hj
      | some b =>
      rw [ez] at hj
      cases hj
      have hjl : j < bs.length := (List.getElem?_eq_some_iff.mp ez).1
      obtain ⟨d, hd', hb⟩ := TupsAt.get (TupsAt.same ej tb) ez
      obtain ⟨ld, bd⟩ := okc d (List.mem_of_getElem? hd')
      refine ⟨rfl, yesT ?_⟩
      show tCh K [some (.ref x), some (.ref a), some (.ref b)] Hj _
      unfold tCh
      walk_at "rd"
      refine ⟨b, a, d, W, rfl, SqT.of hb, ld, fun l hl => ?_, Same.sqt ej ha, bW, fun Hk sk => ?_⟩
      · have := bd l hl
        have e : W.length = n := by omega
        rw [e]
        exact this
      · refine ⟨_, sk _ _ hDj, by rw [List.length_map, List.length_map, List.length_take]; exact small1000 (by omega), fun c o hc => ?_, ?_⟩
        · rw [upd_ne (ne_of_none hc hD)]
          exact sk _ _ (ej c o hc)
        · rw [upd_same, List.take_add_one, hd']
          simp only [Option.toList_some, List.map_append, List.map_cons, List.map_nil]
    rintro H5 ⟨s5, hD5⟩
    rw [List.length_map, lb, List.take_length] at hD5
    refine ⟨D, cs.map fun d => d.any (hd W), rfl, SqL.of hD5, ?_⟩
    have e : (cs.map fun d => d.any (hd W)).all id = ansB (some (W.map V.int)) n cs := by
      unfold ansB
      rw [hw, Bool.true_and]
      show _ = cs.all fun d => d.any (hd ((W.map V.int).map intV))
      rw [map_intV, List.all_map]
      rfl
    rw [e]
    exact q H5 (Same.trans s1 s5)
end
end Toy

-- part: M3g
namespace Toy
open PySem L2
section
variable {P : Program} {w : World} {K : PySem.W.Frag} {mg : Str → Option Value} {base : Heap}
theorem Paired.snoc {α β : Type} {F : α → β → Prop} {x : α} {y : β} (h : F x y) : ∀ {l : List α} {m : List β}, Paired F l m → Paired F (l ++ [x]) (m ++ [y])
  | _, _, .nil => .cons h .nil
  | _, _, .cons a t => .cons a (Paired.snoc h t)
theorem Paired.imp {α β : Type} {F G : α → β → Prop} (h : ∀ x y, F x y → G x y) : ∀ {l : List α} {m : List β}, Paired F l m → Paired G l m
  | _, _, .nil => .nil
  | _, _, .cons a t => .cons (h _ _ a) (Paired.imp h t)
/-- all but what stands at p -/
def mask (p : Addr) (H : Hp) : Hp := fun b => if b = p then none else H b
theorem mask_upd {p : Addr} {H : Hp} {o : HO} : mask p (upd H p o) = mask p H := by
  funext b
  unfold mask
  by_cases e : b = p
  · rw [if_pos e, if_pos e]
  · rw [if_neg e, if_neg e, upd_ne e]
theorem mask_same {p : Addr} {H H' : Hp} (e : Same H H') : Same (mask p H) (mask p H') := fun b o h => by
  unfold mask at h ⊢
  by_cases z : b = p
  · rw [if_pos z] at h; cases h
  · rw [if_neg z] at h ⊢
    exact e b o h
theorem mask_out {p : Addr} {H : Hp} : Same (mask p H) H := fun b o h => by
  unfold mask at h
  by_cases z : b = p
  · rw [if_pos z] at h; cases h
  · rw [if_neg z] at h
    exact h
theorem mask_in {p : Addr} {H H' : Hp} (e : Same H H') (hp : H p = none) : Same H (mask p H') := fun b o h => by
  have n : b ≠ p := ne_of_none h hp
  unfold mask
  rw [if_neg n]
  exact e b o h
theorem sqt_mask {p a : Addr} {H : Hp} {xs ys : List V} (hp : H p = some (.lst ys)) (h : SqT K H a xs) : SqT K (mask p H) a xs := by
  rcases h with (h | ⟨o, h⟩) | h
  · exact .inl (.inl (by unfold mask; rw [if_neg (ne_of h hp (by intro z; cases z))]; exact h))
  · exact .inl (.inr ⟨o, by unfold mask; rw [if_neg (ne_of h hp (by intro z; cases z))]; exact h⟩)
  · exact .inr h
theorem p_catA {H : Hp} {Q : VK} {a b : Addr} {xs ys : List V} (ha : SqT K H a xs) (hb : SqT K H b ys) (hz : xs.length + ys.length ≤ sizeLine) (q : ∀ r H', Same H H' → SqT K H' r (xs ++ ys) → Q (.ref r) H') : rCatA K (.ref a) (.ref b) H Q :=
  ⟨a, b, xs, ys, rfl, rfl, ha, hb, hz, fun e => by subst e; exact q b H (Same.refl H) hb, fun _ e => by subst e; rw [List.append_nil] at q; exact q a H (Same.refl H) ha, fun _ _ p hp => q p _ (Same.new hp) (SqT.of upd_same)⟩
theorem p_slA {H : Hp} {Q : VK} {a : Addr} {xs : List V} {lo hi : Option Int} (ha : SqT K H a xs) (q : ∀ r H', Same H H' → SqT K H' r (cutV xs lo hi) → Q (.ref r) H') : rSlA K (.ref a) lo hi H Q :=
  ⟨a, xs, rfl, ha, fun hw => q a H (Same.refl H) (by
    have e : cutV xs lo hi = xs := by
      unfold cutV
      rw [hw.1, hw.2, List.drop_zero, Nat.sub_zero, List.take_length]
    rw [e]
    exact ha), fun _ p hp => q p _ (Same.new hp) (SqT.of upd_same)⟩
theorem thing_ints {H : Hp} {r : Addr} {M : List Int} (h : SqT K H r (M.map V.int)) (l : M.length ≤ 1000) : Thing K H (.ref r) (some (M.map V.int)) := ⟨r, rfl, h, by rw [List.length_map]; exact l, fun y hy => by
  obtain ⟨i, _, rfl⟩ := List.mem_map.mp hy
  exact ⟨"int", .int i⟩⟩
theorem cut_len (L : List Int) (lo hi : Option Int) : ∃ M : List Int, cutV (L.map V.int) lo hi = M.map V.int ∧ M.length ≤ L.length := by
  obtain ⟨a, b, e⟩ := cut_ints L lo hi
  exact ⟨_, e, by rw [List.length_take, List.length_drop]; omega⟩
theorem sl_a {σ : St} {H : Hp} {Q : VK} {x : V} {c : Int} (h : σ[0]? = some (some x)) (q : rSlA K x (some c) none H Q) : tSl (rSlA K) (tVar 0) (tPart (tC (.int c))) tNoPart σ H Q := ⟨x, h, c, rfl, q⟩
theorem sl_b {σ : St} {H : Hp} {Q : VK} {x : V} {c : Int} (h : σ[0]? = some (some x)) (q : rSlA K x none (some (-c)) H Q) : tSl (rSlA K) (tVar 0) tNoPart (tPart (tUn (rU fun i => .int (-i)) (tC (.int c)))) σ H Q := ⟨x, h, c, rfl, -c, rfl, q⟩
theorem sl_c {σ : St} {H : Hp} {Q : VK} {x : V} {c : Int} (h : σ[0]? = some (some x)) (h1 : σ[1]? = some (some (.int c))) (q : rSlA K x none (some c) H Q) : tSl (rSlA K) (tVar 0) tNoPart (tPart (tVar 1)) σ H Q := ⟨x, h, _, h1, c, rfl, q⟩
theorem sl_d {σ : St} {H : Hp} {Q : VK} {x : V} {c : Int} (h : σ[0]? = some (some x)) (h1 : σ[1]? = some (some (.int c))) (q : rSlA K x (some (c + 1)) none H Q) : tSl (rSlA K) (tVar 0) (tPart (tOp (rI0 fun i j => .int (i + j)) (tVar 1) (tC (.int 1)))) tNoPart σ H Q := ⟨x, h, _, h1, c, 1, rfl, rfl, c + 1, rfl, q⟩
def Its (K : PySem.W.Frag) (H : Hp) (xs : List V) : Prop := ∀ y ∈ xs, ∃ T, TyB K H y T
theorem Its.same {H H' : Hp} {xs : List V} (e : Same H H') (h : Its K H xs) : Its K H' xs := fun y hy => (h y hy).imp fun _ t => TyB.same e t
theorem its_ints {H : Hp} (M : List Int) : Its K H (M.map V.int) := fun y hy => by
  obtain ⟨i, _, rfl⟩ := List.mem_map.mp hy
  exact ⟨"int", .int i⟩
theorem its_nil {H : Hp} : Its K H [] := fun _ h => nomatch h
theorem its_cons {H : Hp} {y : V} {T : String} {xs : List V} (t : TyB K H y T) (h : Its K H xs) : Its K H (y :: xs) := fun z hz => by
  rcases List.mem_cons.mp hz with rfl | hz
  · exact ⟨T, t⟩
  · exact h z hz
theorem its_app {H : Hp} {xs ys : List V} (h1 : Its K H xs) (h2 : Its K H ys) : Its K H (xs ++ ys) := fun z hz => (List.mem_append.mp hz).elim (h1 z) (h2 z)
theorem thing_tup {H : Hp} {r : Addr} {xs : List V} (h : SqT K H r xs) (l : xs.length ≤ 1000) (it : Its K H xs) : Thing K H (.ref r) (some xs) := ⟨r, rfl, h, l, it⟩
end
end Toy

-- part: AN2
namespace Toy
open PySem L2
section
variable {P : Program} {w : World} {K : PySem.W.Frag} {mg : Str → Option Value} {base : Heap}
theorem pairLast {α β : Type} {F : α → β → Prop} : ∀ {r : List α} {b : α} {zs : List β}, Paired F (r ++ [b]) zs → ∃ rz z, zs = rz ++ [z] ∧ Paired F r rz ∧ F b z
  | [], b, _, .cons h .nil => ⟨[], _, rfl, .nil, h⟩
  | x :: r, b, _, .cons h t => by
    obtain ⟨rz, z, e, t2, hk⟩ := pairLast t
    exact ⟨_ :: rz, z, by rw [e]; rfl, .cons h t2, hk⟩
theorem pairLen {α β : Type} {F : α → β → Prop} : ∀ {r : List α} {zs : List β}, Paired F r zs → r.length = zs.length
  | _, _, .nil => rfl
  | _, _, .cons _ t => congrArg Nat.succ (pairLen t)
theorem Same.upl {H H' : Hp} {a : Addr} {o : HO} (e : Same H H') (n : H a = Option.none) : Same H (upd H' a o) := fun b u hb => by
  rw [upd_ne (ne_of_none hb n)]
  exact e b u hb
theorem tups_mask {l : Addr} {H : Hp} {ys : List V} (hl : H l = some (.lst ys)) {bs : List Addr} {cs : List (List Int)} (t : TupsAt H bs cs) : TupsAt (mask l H) bs cs := Paired.mapP t fun b c e => by
  unfold mask
  rw [if_neg (fun z => by rw [z, hl] at e; cases e)]
  exact e
/-- a node of the search, as it stands -/
def NodeAt (K : PySem.W.Frag) (H : Hp) (b : Addr) (z : List Int × List (List Int)) : Prop := ∃ (pa la : Addr) (bs : List Addr), H b = some (.tup [.ref pa, .ref la]) ∧ SqT K H pa (z.1.map V.int) ∧ SqE K H la (bs.map V.ref) ∧ TupsAt H bs z.2
theorem NodeAt.same {H H' : Hp} {b : Addr} {z : List Int × List (List Int)} (e : Same H H') (h : NodeAt K H b z) : NodeAt K H' b z := by
  obtain ⟨pa, la, bs, h1, h2, h3, h4⟩ := h
  exact ⟨pa, la, bs, e _ _ h1, Same.sqt e h2, SqE.same e h3, TupsAt.same e h4⟩
theorem NodeAt.mk' {H : Hp} {l b pa la : Addr} {bs : List Addr} {z : List Int × List (List Int)} {ys : List V} (hl : H l = some (.lst ys)) (hb : H b = some (.tup [.ref pa, .ref la])) (hp : SqT K H pa (z.1.map V.int)) (hla : SqE K (mask l H) la (bs.map V.ref)) (ht : TupsAt H bs z.2) : NodeAt K (mask l H) b z :=
  ⟨pa, la, bs, by
    unfold mask
    rw [if_neg (fun z => by rw [z, hl] at hb; cases hb)]
    exact hb, sqt_mask hl hp, hla, tups_mask hl ht⟩
structure StkOk (K : PySem.W.Frag) (H : Hp) (n : Nat) (cs : List (List Int)) (l : Addr) (H' : Hp) (ns : List Addr) (zs : List (List Int × List (List Int))) : Prop where
  same : Same H H'
  hl : H' l = some (.lst (ns.map V.ref))
  at' : Paired (NodeAt K (mask l H')) ns zs
  ok : ∀ z ∈ zs, NodeOk n cs z
  sm : ∀ z ∈ zs, z.2.length ≤ 1000 ∧ ∀ c ∈ z.2, c.length ≤ 1000
  bnd : ∀ (i : Nat) z, zs[i]? = some z → i + szC z.2 ≤ szC cs ∧ z.1.length + szC z.2 ≤ szC cs
def Cov (n : Nat) (cs : List (List Int)) (zs : List (List Int × List (List Int))) : Prop := ∀ W, Bits n W → holdsC W cs = true → ∃ z ∈ zs, holdsC W z.2 = true
def msr (zs : List (List Int × List (List Int))) : Nat := (zs.map fun z => 3 ^ szC z.2).sum
theorem msr_app (a b : List (List Int × List (List Int))) : msr (a ++ b) = msr a + msr b := by unfold msr; rw [List.map_append, List.sum_append]
theorem sz_small : ∀ {cs : List (List Int)}, (∀ c ∈ cs, c.length ≤ 1000) → szC cs ≤ cs.length * 1001
  | [], _ => Nat.le_refl _
  | c :: r, h => by
    have ih := sz_small (cs := r) fun d hd' => h d (List.mem_cons_of_mem _ hd')
    have h1 := h c List.mem_cons_self
    rw [sz_cons, List.length_cons]
    omega
def pushL (z : List Int × List (List Int)) (ls : List Int) : List (List Int × List (List Int)) := ls.map fun x => (z.1 ++ [x], once z.2 x)
theorem choice_len (c : List Int) : (choiceL c).length ≤ 2 := by
  match c with
  | [] => exact Nat.zero_le _
  | [x] => exact Nat.le_succ _
  | x :: y :: r => exact Nat.le_refl _
theorem msr_push {z : List Int × List (List Int)} {d : List Int} (hd' : d ∈ z.2) : msr (pushL z (choiceL d)) < 3 ^ szC z.2 := by
  have one : ∀ x ∈ choiceL d, 3 ^ szC (once z.2 x) ≤ 3 ^ (szC z.2 - 1) := fun x hx => by
    have := sz_lt hd' (choice_in hx)
    exact Nat.pow_le_pow_right (by decide) (by omega)
  have pos : 0 < szC z.2 := by
    have h0 : ∀ {cs : List (List Int)}, d ∈ cs → 0 < szC cs := fun {cs} h => by
      cases cs with
      | nil => cases h
      | cons c r => rw [sz_cons]; omega
    exact h0 hd'
  have e3 : 3 ^ szC z.2 = 3 * 3 ^ (szC z.2 - 1) := by
    rw [← Nat.pow_succ']
    congr 1
    omega
  have p1 : 0 < 3 ^ (szC z.2 - 1) := Nat.pow_pos (by decide)
  rw [e3]
  unfold msr pushL
  rw [List.map_map]
  match hcl : choiceL d, choice_len d, one with
  | [], _, _ =>
    show 0 < _
    omega
  | [x], _, one =>
    have := one x List.mem_cons_self
    show 3 ^ szC (once z.2 x) + 0 < _
    omega
  | [x, y], _, one =>
    have h1 := one x List.mem_cons_self
    have h2 := one y (List.mem_cons_of_mem _ List.mem_cons_self)
    show 3 ^ szC (once z.2 x) + (3 ^ szC (once z.2 y) + 0) < _
    omega
  | _ :: _ :: _ :: _, h, _ => exact absurd h (by simp)
theorem cov_push {n : Nat} {cs : List (List Int)} {rz : List (List Int × List (List Int))} {z : List Int × List (List Int)} {d : List Int} (h : Cov n cs (rz ++ [z])) (lt : LtCs n z.2) (hd' : d ∈ z.2) : Cov n cs (rz ++ pushL z (choiceL d)) := fun W b hW => by
  obtain ⟨y, hy, hold⟩ := h W b hW
  rcases List.mem_append.mp hy with hy | hy
  · exact ⟨y, List.mem_append_left _ hy, hold⟩
  · rw [List.mem_singleton.mp hy] at hold
    obtain ⟨l, hl, lt1, t⟩ := choice_some b lt hold hd'
    exact ⟨_, List.mem_append_right _ (List.mem_map.mpr ⟨l, hl, rfl⟩), by rw [holds_once b lt1 t]; exact hold⟩
theorem StkOk.push {H H' H9 : Hp} {n : Nat} {cs : List (List Int)} {l p : Addr} {ns : List Addr} {rz : List (List Int × List (List Int))} {z : List Int × List (List Int)} {ls : List Int} {d : List Int} {x : Int} (S : StkOk K H n cs l H' ns (rz ++ pushL z ls)) (zb : rz.length + szC z.2 ≤ szC cs ∧ z.1.length + szC z.2 ≤ szC cs)
    (zo : NodeOk n cs z) (zm : z.2.length ≤ 1000 ∧ ∀ c ∈ z.2, c.length ≤ 1000) (hd' : d ∈ z.2) (hx : x ∈ choiceL d) (hls : ls.length ≤ 1) (e : Same H' H9) (hp : NodeAt K (mask l H9) p (z.1 ++ [x], once z.2 x)) (nl : H l = none) :
    StkOk K H n cs l (upd H9 l (.lst (ns.map V.ref ++ [V.ref p]))) (ns ++ [p]) (rz ++ pushL z (ls ++ [x])) := by
  have e1 : rz ++ pushL z (ls ++ [x]) = (rz ++ pushL z ls) ++ [(z.1 ++ [x], once z.2 x)] := by unfold pushL; rw [List.map_append, List.append_assoc]; rfl
  have lt := sz_lt hd' (choice_in hx)
  rw [e1]
  refine ⟨Same.upl (Same.trans S.same e) nl, by rw [upd_same, List.map_append]; rfl, ?_, fun y hy => ?_, fun y hy => ?_, fun i y hi => ?_⟩
  · rw [mask_upd]
    exact Paired.snoc hp (Paired.mapP S.at' fun b y h => NodeAt.same (mask_same e) h)
  · rcases List.mem_append.mp hy with hy | hy
    · exact S.ok y hy
    · rw [List.mem_singleton.mp hy]
      exact zo.next hd' (choice_in hx)
  · rcases List.mem_append.mp hy with hy | hy
    · exact S.sm y hy
    · rw [List.mem_singleton.mp hy]
      exact ⟨Nat.le_trans (once_len ..) zm.1, once_small zm.2⟩
  · by_cases hi2 : i < (rz ++ pushL z ls).length
    · rw [List.getElem?_append_left hi2] at hi
      exact S.bnd i y hi
    · rw [List.getElem?_append_right (by omega)] at hi
      have hz := (List.getElem?_eq_some_iff.mp hi).1
      rw [List.length_singleton] at hz
      rw [show i - (rz ++ pushL z ls).length = 0 by omega] at hi
      cases hi
      have hl : (rz ++ pushL z ls).length = rz.length + ls.length := by unfold pushL; rw [List.length_append, List.length_map]
      show i + szC (once z.2 x) ≤ _ ∧ (z.1 ++ [x]).length + szC (once z.2 x) ≤ _
      rw [List.length_append, List.length_singleton]
      omega
/-! ### some way -/
abbrev sSW : Stmt := s__some_way
abbrev nSW : List Str := ["clauses", "nodes", "letters", "left", "letter"]
theorem scSW : FnScope nSW ["clauses"] (defScope sSW) := ⟨rfl, rfl, rfl, by decide +kernel, rfl, by decide +kernel, by decide +kernel⟩
def spSW (K : PySem.W.Frag) : Sp := fun vs H Q _ => ∃ (a : Addr) (n : Nat) (bs : List Addr) (cs : List (List Int)), vs = [.ref a] ∧ SqE K H a (bs.map V.ref) ∧ TupsAt H bs cs ∧ LtCs n cs ∧ cs.length ≤ 1000 ∧ (∀ c ∈ cs, c.length ≤ 1000) ∧
  (∀ (b : Addr) (way : List Int) (H' : Hp), Same H H' → SqT K H' b (way.map V.int) → WayOk n way cs → Q (.ref b) H') ∧ (∀ H', Same H H' → ¬Sat n cs → Q .non H')
theorem ok_sw {f fO fC fW : Addr} {fd fdO fdC fdW : FuncData} (F : Fun K "_some_way" "_some_way" sSW f fd) (B : Bl mg) (gMin : mg "min" = none) (O : Df K mg "_once_so" sOs ["clauses", "letter"] fO fdO) (W' : Df K mg "_without" sWo ["clause", "letter"] fW fdW) (C : Df K mg "_choices" sChs ["clause"] fC fdC) : FnOk P w K mg base CX0 3 f fd ["clauses"] (spSW K) := by
  have GO : FnOk P w K mg base CX0 2 fO fdO ["clauses", "letter"] (spOs K) := ok_os O.F B W'
  have GC : FnOk P w K mg base CX0 1 fC fdC ["clause"] spChs := ok_chs C.F B
  refine F.ok scSW (fun vs H Q E h => ?_) (fun cdv A outer s H vs Q E hr h => ?_)
  · obtain ⟨a, n, bs, cs, rfl, _⟩ := h
    rfl
  · obtain ⟨a, n, bs, cs, rfl, ha, tb, lt, lcs, sm, q1, q2⟩ := h
    refine ⟨_, pss_cons (ps_set (i := 1) scSW.nd rfl (Or.inl rfl) (pe_lst (pa_cons (pe_tup (pa_cons (pe_tup pa_nil) (pa_cons (pv 0) pa_nil))) pa_nil)))
      (pss_cons (ps_while PassesOwn.never (pt_truth (pv 1) (fun _ => rfl))
        (pss_cons (ps_asg (pe_bm0 PySem.F.plainAttrs_list PySem.F.slot_list_pop PySem.F.type_list_pop mt_pop (pv 1)) (pg_tup rfl (pgs_cons (pg_name (i := 2) scSW.nd rfl (Or.inl rfl)) (pgs_cons (pg_name (i := 3) scSW.nd rfl (Or.inl rfl)) pgs_nil))))
        (pss_cons (ps_if (pt_not (pt_truth (pv 3) (fun _ => rfl))) (pss_one (ps_ret (pv 2))) pss_nil)
        (pss_one (ps_for PassesOwn.never rfl (pi_tup (pe_call GC (hr.mono (by decide)) rfl C.g C.F.kp C.b .nil pass0 (pa_cons (pe_minLen rfl (key_len rfl B.len) rfl gMin (pa_cons (pv 3) pa_nil)) pa_nil))) (pg_name (i := 4) scSW.nd rfl (Or.inl rfl))
          (pss_one (ps_expr (pe_bm PySem.F.plainAttrs_list PySem.F.slot_list_append PySem.F.type_list_append mt_append (pv 1) (pa_cons (pe_tup (pa_cons (pe_op op_catA (pv 2) (pe_tup (pa_cons (pv 4) pa_nil))) (pa_cons (pe_call GO hr rfl O.g O.F.kp O.b .nil pass0 (pa_cons (pv 3) (pa_cons (pv 4) pa_nil))) pa_nil))) pa_nil)))))))))
      (pss_one (ps_ret pe_non))), ?_⟩
    show tSeq _ _ _ [some (.ref a), none, none, none, none] H
    have eZ : sizeLine = 16777216 := rfl
    have zsm := sz_small sm
    refine seq_gen (fun σ' H' => ∃ (l nd : Addr), σ' = [some (.ref a), some (.ref l), none, none, none] ∧ H l = none ∧ StkOk K H n cs l H' [nd] [([], cs)]) (fun nx hnx => ?_) ?_
    · walk_at "rd"
      refine ⟨Nat.zero_le _, fun p1 hp1 => ?_⟩
      refine ⟨by show 2 ≤ sizeLine; decide, fun p2 hp2 => ?_⟩
      refine ⟨by show 1 ≤ sizeLine; decide, fun l hl => ?_⟩
      have s1 : Same H (upd H p1 (.tup [])) := Same.new hp1
      have h1 : upd H p1 (.tup []) p1 = some (.tup []) := upd_same
      generalize upd H p1 (.tup []) = H1 at *
      have s2 : Same H1 (upd H1 p2 (.tup [.ref p1, .ref a])) := Same.new hp2
      have h2 : upd H1 p2 (.tup [.ref p1, .ref a]) p2 = some (.tup [.ref p1, .ref a]) := upd_same
      generalize upd H1 p2 (.tup [.ref p1, .ref a]) = H2 at *
      have s12 := Same.trans s1 s2
      have nl := Same.none s12 hl
      have s3 : Same H2 (upd H2 l (.lst [.ref p2])) := Same.new hl
      refine hnx _ _ ⟨l, p2, rfl, nl, ⟨Same.trans s12 s3, upd_same, .cons ?_ .nil, fun z hz => ?_, fun z hz => ?_, fun i z hi => ?_⟩⟩
      · rw [mask_upd]
        have m2 : Same H2 (mask l H2) := mask_in (Same.refl H2) hl
        exact NodeAt.same m2 ⟨p1, a, bs, h2, SqT.of (s2 _ _ h1), SqE.same s12 ha, TupsAt.same s12 tb⟩
      · rw [List.mem_singleton.mp hz]
        exact NodeOk.root lt
      · rw [List.mem_singleton.mp hz]
        exact ⟨lcs, sm⟩
      · cases i with
        | zero => cases hi; exact ⟨by show 0 + szC cs ≤ _; omega, by show 0 + szC cs ≤ _; omega⟩
        | succ i => simp at hi
    rintro σ' H1 ⟨l, nd, rfl, nl, S1⟩
    refine seq_gen (fun σ' H' => Same H H' ∧ ¬Sat n cs) (fun nx hnx => ?_) ?_
    · refine ⟨fun m σ H' => ∃ (l2 l3 l4 : Option V) (ns : List Addr) (zs : List (List Int × List (List Int))), σ = [some (.ref a), some (.ref l), l2, l3, l4] ∧ StkOk K H n cs l H' ns zs ∧ Cov n cs zs ∧ m = msr zs, ⟨_, none, none, none, _, _, rfl, S1, fun W b hW => ⟨_, List.mem_singleton.mpr rfl, hW⟩, rfl⟩, ?_⟩
      rintro m σ H2 ⟨l2, l3, l4, ns, zs, rfl, S, cov, rfl⟩
      refine ⟨.ref l, rfl, !(ns.map V.ref).isEmpty, .inl ⟨_, SqL.of S.hl, rfl⟩, ?_⟩
      cases hns : ns with
      | nil =>
        subst hns
        have hz : zs = [] := by
          have := pairLen S.at'
          exact List.eq_nil_of_length_eq_zero this.symm
        subst hz
        refine iteF (hnx _ _ ⟨S.same, ?_⟩)
        rintro ⟨W, b, hW⟩
        obtain ⟨z, hz, _⟩ := cov W b hW
        cases hz
      | cons b0 br =>
      obtain ⟨r, b, rfl⟩ : ∃ r k, ns = r ++ [k] := ⟨_, _, (List.dropLast_concat_getLast (fun z => by rw [z] at hns; cases hns)).symm⟩
      obtain ⟨rz, z, rfl, tr, hb⟩ := pairLast S.at'
      refine iteT ⟨fun σ' H' => ∃ m', m' < msr (rz ++ [z]) ∧ ∃ (l2 l3 l4 : Option V) (ns : List Addr) (zs : List (List Int × List (List Int))), σ' = [some (.ref a), some (.ref l), l2, l3, l4] ∧ StkOk K H n cs l H' ns zs ∧ Cov n cs zs ∧ m' = msr zs, fun σ' H' h => h, ?_⟩
      have lr : r.length = rz.length := pairLen tr
      obtain ⟨zb1, zb2⟩ := S.bnd rz.length z (by rw [List.getElem?_append_right (Nat.le_refl _), Nat.sub_self]; rfl)
      have zo := S.ok z (List.mem_append_right _ (List.mem_singleton.mpr rfl))
      have zm := S.sm z (List.mem_append_right _ (List.mem_singleton.mpr rfl))
      obtain ⟨pa, la, bs2, hbt, hpa, hla, htb⟩ := hb
      refine seq_gen (fun σ' H' => σ' = [some (.ref a), some (.ref l), some (.ref pa), some (.ref la), l4] ∧ StkOk K H n cs l H' r (rz ++ pushL z []) ∧ mask l H' = mask l H2) (fun nx2 hnx2 => ?_) ?_
      · refine ⟨_, rfl, .inl ⟨rfl, _, SqL.of S.hl⟩, l, _, .ref b, rfl, rfl, S.hl, ?_, ?_⟩
        · rw [List.map_append, List.length_append]
          simp
        · rw [List.map_append, List.map_singleton, List.dropLast_concat]
          have nbl : b ≠ l := fun e => by
            rw [e] at hbt
            unfold mask at hbt
            rw [if_pos rfl] at hbt
            cases hbt
          refine ⟨b, [.ref pa, .ref la], rfl, SqT.of (by rw [upd_ne nbl]; exact mask_out _ _ hbt), rfl, ?_⟩
          refine ⟨_, _, rfl, _, _, rfl, rfl, hnx2 _ _ ⟨rfl, ⟨Same.upl S.same nl, upd_same, ?_, fun y hy => S.ok y ?_, fun y hy => S.sm y ?_, fun i y hi => S.bnd i y ?_⟩, mask_upd⟩⟩
          · rw [mask_upd]
            show Paired _ r (rz ++ [])
            rw [List.append_nil]
            exact tr
          · rw [show rz ++ pushL z [] = rz from List.append_nil _] at hy
            exact List.mem_append_left _ hy
          · rw [show rz ++ pushL z [] = rz from List.append_nil _] at hy
            exact List.mem_append_left _ hy
          · rw [show rz ++ pushL z [] = rz from List.append_nil _] at hi
            rw [List.getElem?_append_left (List.getElem?_eq_some_iff.mp hi).1]
            exact hi
      rintro σ' H3 ⟨rfl, S3, em⟩
      rw [← em] at hpa hla htb
      refine seq_gen (fun σ' H' => σ' = [some (.ref a), some (.ref l), some (.ref pa), some (.ref la), l4] ∧ H3 = H' ∧ z.2 ≠ []) (fun nx2 hnx2 => ?_) ?_
      · have hla3 := SqE.same mask_out hla
        refine ⟨.ref la, rfl, !(bs2.map V.ref).isEmpty, hla3.elim (fun h => .inl ⟨_, h, rfl⟩) (fun h => .inr (.inl ⟨_, h, rfl⟩)), ?_⟩
        have l2 := TupsAt.len htb
        cases hz2 : z.2 with
        | nil =>
          rw [hz2] at l2
          have : bs2 = [] := List.eq_nil_of_length_eq_zero l2
          subst this
          refine iteT ⟨_, rfl, q1 pa z.1 H3 S3.same (Same.sqt mask_out hpa) ?_⟩
          have zo' : NodeOk n cs (z.1, z.2) := zo
          rw [hz2] at zo'
          exact zo'.done
        | cons c0 cr =>
          cases bs2 with
          | nil => rw [hz2] at l2; cases l2
          | cons b1 bb => exact iteF (hnx2 _ _ ⟨rfl, rfl, fun e => by rw [hz2] at e; cases e⟩)
      rintro σ' H4 ⟨rfl, rfl, hne⟩
      have hla3 := SqE.same mask_out hla
      have htb3 := TupsAt.same mask_out htb
      have l2 := TupsAt.len htb
      refine ⟨.ref la, rfl, .ref la, rfl, la, bs2.map V.ref, rfl, hla3, fun e => ?_, fun y hy => ?_, fun y hy => ?_⟩
      · have : bs2.length = 0 := by
          have := congrArg List.length e
          rw [List.length_map] at this
          exact this
        exact hne (List.eq_nil_of_length_eq_zero (by omega))
      · obtain ⟨b1, hb1, rfl⟩ := List.mem_map.mp hy
        exact ⟨b1, _, rfl, SqT.of (TupsAt.mem htb3 b1 hb1)⟩
      obtain ⟨b1, hb1, rfl⟩ := List.mem_map.mp hy
      obtain ⟨k, hk⟩ := List.getElem?_of_mem hb1
      obtain ⟨d, hdk, hbd⟩ := TupsAt.get htb3 hk
      have hd' : d ∈ z.2 := List.mem_of_getElem? hdk
      have ld := zm.2 d hd'
      refine ⟨b1, d, rfl, hbd, ld, fun cb H5 s5 hcb => ?_⟩
      have S5 : StkOk K H n cs l H5 r (rz ++ pushL z []) := ⟨Same.trans S3.same s5, s5 _ _ S3.hl, Paired.mapP S3.at' fun b y h => NodeAt.same (mask_same s5) h, S3.ok, S3.sm, S3.bnd⟩
      refine ⟨cb, rfl, ⟨_, SqT.of hcb⟩, for_tup (K := K) (a := cb) (xs := (choiceL d).map V.int) (fun j σ H' => ∃ (l4 : Option V) (ns : List Addr), σ = [some (.ref a), some (.ref l), some (.ref pa), some (.ref la), l4] ∧ StkOk K H n cs l H' ns (rz ++ pushL z ((choiceL d).take j)) ∧ H' cb = some (.tup ((choiceL d).map V.int)) ∧ Same (mask l H5) (mask l H')) ⟨l4, r, rfl, S5, hcb, Same.refl _⟩ (fun j σ H' _ ⟨_, _, _, _, h, _⟩ => SqT.of h) ?_ ?_⟩
      · rintro j y σ H6 hj ⟨l4, ns, rfl, S6, hcb6, s6⟩
        rw [List.getElem?_map] at hj
        cases ez : (choiceL d)[j]? with
        | none => rw [ez] at hj; cases hj
        | some x =>
        rw [ez] at hj
        cases hj
        have hjl : j < (choiceL d).length := (List.getElem?_eq_some_iff.mp ez).1
        have cl2 := choice_len d
        have hx : x ∈ choiceL d := List.mem_of_getElem? ez
        have em6 : Same (mask l H3) (mask l H6) := Same.trans (mask_same s5) s6
        have hpa6 := Same.sqt mask_out (Same.sqt em6 hpa)
        have hla6 := SqE.same em6 hla
        have htb6 := TupsAt.same mask_out (TupsAt.same em6 htb)
        have ln6 := pairLen S6.at'
        rw [List.length_append] at ln6
        have lp6 : (pushL z ((choiceL d).take j)).length = j := by unfold pushL; rw [List.length_map, List.length_take]; omega
        show tDrop _ _ [some (.ref a), some (.ref l), some (.ref pa), some (.ref la), some (.int x)] H6
        refine ⟨_, rfl, .inl ⟨rfl, _, SqL.of S6.hl⟩, _, rfl, _, rfl, by show 1 ≤ sizeLine; decide, fun p1 hp1 => ?_⟩
        have s7 : Same H6 (upd H6 p1 (.tup [.int x])) := Same.new hp1
        have h7 : upd H6 p1 (.tup [.int x]) p1 = some (.tup [.int x]) := upd_same
        generalize upd H6 p1 (.tup [.int x]) = H7 at *
        refine p_catA (Same.sqt s7 hpa6) (SqT.of h7) (by rw [List.length_map]; show _ + 1 ≤ _; omega) fun r1 H8 s8 h8 => ?_
        have s68 := Same.trans s7 s8
        refine ⟨_, rfl, _, rfl, la, x, bs2, z.2, rfl, SqE.same (Same.trans mask_out s68) hla6, TupsAt.same s68 htb6, zm.1, zm.2, fun D bs' H9 s9 nD hD tb' => ?_⟩
        refine ⟨by show 2 ≤ sizeLine; decide, fun p2 hp2 => ?_⟩
        have s10 : Same H9 (upd H9 p2 (.tup [.ref r1, .ref D])) := Same.new hp2
        have h10 : upd H9 p2 (.tup [.ref r1, .ref D]) p2 = some (.tup [.ref r1, .ref D]) := upd_same
        generalize upd H9 p2 (.tup [.ref r1, .ref D]) = H10 at *
        have s6a := Same.trans s68 (Same.trans s9 s10)
        have hl10 := s6a _ _ S6.hl
        have nDl : D ≠ l := fun e => by
          rw [e, s68 _ _ S6.hl] at nD
          cases nD
        have nod : NodeAt K (mask l H10) p2 (z.1 ++ [x], once z.2 x) := NodeAt.mk' (bs := bs') hl10 h10 (by
            show SqT K H10 r1 ((z.1 ++ [x]).map V.int)
            rw [List.map_append]
            exact Same.sqt (Same.trans s9 s10) h8) (.inl (SqL.of (by
              unfold mask
              rw [if_neg nDl]
              exact s10 _ _ hD))) (TupsAt.same s10 tb')
        have SP := StkOk.push (x := x) S6 ⟨zb1, zb2⟩ zo zm hd' hx (by rw [List.length_take]; omega) s6a nod nl
        refine ⟨l, _, _, rfl, rfl, hl10, by rw [List.length_map]; omega, some (.int x), ns ++ [p2], rfl, ?_, ?_, ?_⟩
        · rw [List.take_add_one, ez]
          exact SP
        · rw [upd_ne (fun e => by rw [e, S6.hl] at hcb6; cases hcb6)]
          exact s6a _ _ hcb6
        · rw [mask_upd]
          exact Same.trans s6 (mask_same s6a)
      · rintro σ H6 ⟨l4, ns, rfl, S6, _, _⟩
        rw [List.length_map, List.take_length] at S6
        refine ⟨_, ?_, _, _, _, ns, _, rfl, S6, cov_push cov zo.ltc hd', rfl⟩
        rw [msr_app, msr_app]
        have := msr_push hd'
        have e : msr [z] = 3 ^ szC z.2 := Nat.add_zero _
        omega
    rintro σ' H2 ⟨s2, ns⟩
    exact q2 H2 s2 ns
end
end Toy

-- part: AN3
namespace Toy
open PySem L2
section
variable {P : Program} {w : World} {K : PySem.W.Frag} {mg : Str → Option Value} {base : Heap}
/-- a start: the first worths, what is left, some way -/
def StartAt (K : PySem.W.Frag) (n : Nat) (cs : List (List Int)) (G : Addr → Prop) (H : Hp) (b : Addr) (p : List Int) : Prop := ∃ (pa la wa : Addr) (bs : List Addr) (way : List Int), G la ∧ H b = some (.tup [.ref pa, .ref la, .ref wa]) ∧ SqT K H pa (p.map V.int) ∧ SqE K H la (bs.map V.ref) ∧ TupsAt H bs (resW cs p) ∧ SqT K H wa (way.map V.int) ∧ WayOk n way (resW cs p)
theorem StartAt.mono {n : Nat} {cs : List (List Int)} {G G' : Addr → Prop} {H : Hp} {b : Addr} {p : List Int} (g : ∀ a, G a → G' a) (h : StartAt K n cs G H b p) : StartAt K n cs G' H b p := by
  obtain ⟨pa, la, wa, bs, way, h0, h1⟩ := h
  exact ⟨pa, la, wa, bs, way, g _ h0, h1⟩
theorem StartAt.same {n : Nat} {cs : List (List Int)} {G : Addr → Prop} {H H' : Hp} {b : Addr} {p : List Int} (e : Same H H') (h : StartAt K n cs G H b p) : StartAt K n cs G H' b p := by
  obtain ⟨pa, la, wa, bs, way, h0, h1, h2, h3, h4, h5, h6⟩ := h
  exact ⟨pa, la, wa, bs, way, h0, e _ _ h1, Same.sqt e h2, SqE.same e h3, TupsAt.same e h4, Same.sqt e h5, h6⟩
theorem StartAt.fresh {n : Nat} {cs : List (List Int)} {H H' : Hp} {D b : Addr} {ys : List V} {p : List Int} (hD : H D = some (.lst ys)) (hD' : H' D = some (.lst ys)) (h : StartAt K n cs (fun a => H a = none) H' b p) : StartAt K n cs (fun _ => True) (mask D H') b p := by
  obtain ⟨pa, la, wa, bs, way, h0, h1, h2, h3, h4, h5, h6⟩ := h
  have nl : la ≠ D := fun e => by rw [e, hD] at h0; cases h0
  refine ⟨pa, la, wa, bs, way, trivial, ?_, sqt_mask hD' h2, ?_, tups_mask hD' h4, sqt_mask hD' h5, h6⟩
  · unfold mask
    rw [if_neg (fun z => by rw [z, hD'] at h1; cases h1)]
    exact h1
  · rcases h3 with h3 | h3
    · rcases h3 with (h3 | ⟨o, h3⟩) | h3
      · exact .inl (.inl (.inl (by unfold mask; rw [if_neg nl]; exact h3)))
      · exact .inl (.inl (.inr ⟨o, by unfold mask; rw [if_neg nl]; exact h3⟩))
      · exact .inl (.inr h3)
    · exact .inr (sqt_mask hD' h3)
theorem res_small {cs : List (List Int)} (h : cs.length ≤ 1000 ∧ ∀ c ∈ cs, c.length ≤ 1000) (p : List Int) : (resW cs p).length ≤ 1000 ∧ ∀ c ∈ resW cs p, c.length ≤ 1000 := by
  unfold resW
  generalize List.range p.length = l
  revert h
  induction l generalizing cs with
  | nil => exact fun h => h
  | cons a r ih => exact fun h => ih ⟨Nat.le_trans (once_len ..) h.1, once_small h.2⟩
open Classical in
noncomputable def keepS (n : Nat) (cs : List (List Int)) (p ws : List Int) : List (List Int) := (ws.map fun x => p ++ [x]).filter fun q => decide (Sat n (resW cs q))
open Classical in
theorem keep_snoc (n : Nat) (cs : List (List Int)) (p ws : List Int) (x : Int) : keepS n cs p (ws ++ [x]) = keepS n cs p ws ++ (if Sat n (resW cs (p ++ [x])) then [p ++ [x]] else []) := by
  unfold keepS
  rw [List.map_append, List.filter_append]
  congr 1
  show List.filter _ [p ++ [x]] = _
  rw [List.filter_cons]
  by_cases h : Sat n (resW cs (p ++ [x]))
  · rw [if_pos h, if_pos (decide_eq_true h)]; rfl
  · rw [if_neg h, if_neg (by rw [decide_eq_false h]; decide)]; rfl
theorem keep_len (n : Nat) (cs : List (List Int)) (p ws : List Int) : (keepS n cs p ws).length ≤ ws.length := by
  unfold keepS
  refine Nat.le_trans (List.length_filter_le ..) ?_
  rw [List.length_map]
  exact Nat.le_refl _
/-! ### longer starts -/
abbrev sLS : Stmt := s__longer_starts
abbrev nLS : List Str := ["start", "truth", "worths", "clauses", "way", "found", "worth", "letter", "left", "way_on"]
theorem scLS : FnScope nLS ["start", "truth"] (defScope sLS) := ⟨rfl, rfl, rfl, by decide +kernel, rfl, by decide +kernel, by decide +kernel⟩
def spLS (K : PySem.W.Frag) : Sp := fun vs H Q _ => ∃ (b : Addr) (n : Nat) (cs : List (List Int)) (p : List Int), vs = [.ref b, .int (1 + (p.length : Int))] ∧ StartAt K n cs (fun _ => True) H b p ∧ p.length < n ∧ n ≤ 1000 ∧ LtCs n cs ∧ (cs.length ≤ 1000 ∧ ∀ c ∈ cs, c.length ≤ 1000) ∧
  ∀ (fl : Addr) (xs : List Addr) (H' : Hp), Same H H' → H fl = none → H' fl = some (.lst (xs.map V.ref)) → Paired (StartAt K n cs (fun a => H a = none) H') xs (keepS n cs p [0, 1]) → Q (.ref fl) H'
/-- the letter by which a worth is made so -/
def letW (k : Nat) (x : Int) : Int := if x = 1 then 1 + (k : Int) else -(1 + (k : Int))
theorem ok_ls {f fS fO fC fW : Addr} {fd fdS fdO fdC fdW : FuncData} (F : Fun K "_longer_starts" "_longer_starts" sLS f fd) (B : Bl mg) (gMin : mg "min" = none) (S : Df K mg "_some_way" sSW ["clauses"] fS fdS) (O : Df K mg "_once_so" sOs ["clauses", "letter"] fO fdO) (W' : Df K mg "_without" sWo ["clause", "letter"] fW fdW) (C : Df K mg "_choices" sChs ["clause"] fC fdC) : FnOk P w K mg base CX0 4 f fd ["start", "truth"] (spLS K) := by
  have GO : FnOk P w K mg base CX0 2 fO fdO ["clauses", "letter"] (spOs K) := ok_os O.F B W'
  have GS : FnOk P w K mg base CX0 3 fS fdS ["clauses"] (spSW K) := ok_sw S.F B gMin O W' C
  refine F.ok scLS (fun vs H Q E h => ?_) (fun cdv A outer s H vs Q E hr h => ?_)
  · obtain ⟨b, n, cs, p, rfl, _⟩ := h
    rfl
  · obtain ⟨b, n, cs, p, rfl, hst, hpn, hn, lt, sm, q⟩ := h
    refine ⟨_, pss_cons (ps_asg (pv 0) (pg_tup rfl (pgs_cons (pg_name (i := 2) scLS.nd rfl (Or.inl rfl)) (pgs_cons (pg_name (i := 3) scLS.nd rfl (Or.inl rfl)) (pgs_cons (pg_name (i := 4) scLS.nd rfl (Or.inl rfl)) pgs_nil)))))
      (pss_cons (ps_set (i := 5) scLS.nd rfl (Or.inl rfl) (pe_lst pa_nil))
      (pss_cons (ps_for PassesOwn.never rfl (pi_tup (pe_tup (pa_cons (pe_tup (pa_cons pe_int (pa_cons (pe_un un_neg (pv 1)) pa_nil))) (pa_cons (pe_tup (pa_cons pe_int (pa_cons (pv 1) pa_nil))) pa_nil)))) (pg_tup rfl (pgs_cons (pg_name (i := 6) scLS.nd rfl (Or.inl rfl)) (pgs_cons (pg_name (i := 7) scLS.nd rfl (Or.inl rfl)) pgs_nil)))
        (pss_cons (ps_set (i := 8) scLS.nd rfl (Or.inl rfl) (pe_call GO (hr.mono (by decide)) rfl O.g O.F.kp O.b .nil pass0 (pa_cons (pv 3) (pa_cons (pv 7) pa_nil))))
        (pss_cons (ps_set (i := 9) scLS.nd rfl (Or.inl rfl) (pe_ifExp (pt_cmpR (r := rIn K false) op_in_seq (pe_un un_neg (pv 7)) (pv 4) rfl) (pe_call GS hr rfl S.g S.F.kp S.b .nil pass0 (pa_cons (pv 8) pa_nil)) (pv 4)))
        (pss_one (ps_if (pt_cmpR op_notN (pv 9) pe_non (nomark _)) (pss_one (ps_expr (pe_bm PySem.F.plainAttrs_list PySem.F.slot_list_append PySem.F.type_list_append mt_append (pv 5) (pa_cons (pe_tup (pa_cons (pe_op op_catA (pv 2) (pe_tup (pa_cons (pv 6) pa_nil))) (pa_cons (pv 8) (pa_cons (pv 9) pa_nil)))) pa_nil)))) pss_nil)))))
      (pss_one (ps_ret (pv 5))))), ?_⟩
    show tSeq _ _ _ [some (.ref b), some (.int (1 + (p.length : Int))), none, none, none, none, none, none, none, none] H
    have eZ : sizeLine = 16777216 := rfl
    obtain ⟨pa, la, wa, bs, way, _, hb, hpa, hla, htb, hwa, wok⟩ := hst
    have rsm := res_small sm p
    refine seq_gen (fun σ' H' => σ' = [some (.ref b), some (.int (1 + (p.length : Int))), some (.ref pa), some (.ref la), some (.ref wa), none, none, none, none, none] ∧ H = H') (fun nx hnx => ⟨_, rfl, b, _, rfl, SqT.of hb, rfl, _, _, rfl, _, _, rfl, _, _, rfl, rfl, hnx _ _ ⟨rfl, rfl⟩⟩) ?_
    rintro σ' H' ⟨rfl, rfl⟩
    refine seq_gen (fun σ' H' => ∃ (fl : Addr), σ' = [some (.ref b), some (.int (1 + (p.length : Int))), some (.ref pa), some (.ref la), some (.ref wa), some (.ref fl), none, none, none, none] ∧ H fl = none ∧ Same H H' ∧ H' fl = some (.lst [])) (fun nx hnx => ?_) ?_
    · exact ⟨Nat.zero_le _, fun fl hfl => hnx _ _ ⟨fl, rfl, hfl, Same.new hfl, upd_same⟩⟩
    rintro σ' H1 ⟨fl, rfl, hfl, s1, h1⟩
    refine seq_gen (fun σ' H' => ∃ (l6 l7 l8 l9 : Option V) (xs : List Addr), σ' = [some (.ref b), some (.int (1 + (p.length : Int))), some (.ref pa), some (.ref la), some (.ref wa), some (.ref fl), l6, l7, l8, l9] ∧ Same H H' ∧ H' fl = some (.lst (xs.map V.ref)) ∧ Paired (StartAt K n cs (fun a => H a = none) (mask fl H')) xs (keepS n cs p [0, 1])) (fun nx hnx => ?_) ?_
    · refine ⟨_, rfl, _, rfl, by show 2 ≤ sizeLine; decide, fun t0 ht0 => ?_⟩
      have s2 : Same H1 (upd H1 t0 (.tup [.int 0, .int (-(1 + (p.length : Int)))])) := Same.new ht0
      have g0 : upd H1 t0 (.tup [.int 0, .int (-(1 + (p.length : Int)))]) t0 = some (.tup [.int 0, .int (-(1 + (p.length : Int)))]) := upd_same
      generalize upd H1 t0 (.tup [.int 0, .int (-(1 + (p.length : Int)))]) = H2 at *
      refine ⟨_, rfl, by show 2 ≤ sizeLine; decide, fun t1 ht1 => ?_⟩
      have s3 : Same H2 (upd H2 t1 (.tup [.int 1, .int (1 + (p.length : Int))])) := Same.new ht1
      have g1 : upd H2 t1 (.tup [.int 1, .int (1 + (p.length : Int))]) t1 = some (.tup [.int 1, .int (1 + (p.length : Int))]) := upd_same
      generalize upd H2 t1 (.tup [.int 1, .int (1 + (p.length : Int))]) = H3 at *
      refine ⟨by show 2 ≤ sizeLine; decide, fun tt htt => ?_⟩
      have s4 : Same H3 (upd H3 tt (.tup [.ref t0, .ref t1])) := Same.new htt
      have g2 : upd H3 tt (.tup [.ref t0, .ref t1]) tt = some (.tup [.ref t0, .ref t1]) := upd_same
      generalize upd H3 tt (.tup [.ref t0, .ref t1]) = H4 at *
      have s14 := Same.trans s2 (Same.trans s3 s4)
      have hfl4 := s14 _ _ h1
      have g04 := s4 _ _ (s3 _ _ g0)
      have g14 := s4 _ _ g1
      have gw : ∀ (j : Nat) (y : V), [V.ref t0, V.ref t1][j]? = some y → ∃ (t : Addr) (x : Int), y = .ref t ∧ H4 t = some (.tup [.int x, .int (letW p.length x)]) ∧ ([0, 1] : List Int).take (j + 1) = ([0, 1] : List Int).take j ++ [x] ∧ (x = 0 ∨ x = 1) ∧ j ≤ 1 := by
        intro j y hj
        match j, hj with
        | 0, hj => cases hj; exact ⟨t0, 0, rfl, g04, rfl, .inl rfl, by decide⟩
        | 1, hj => cases hj; exact ⟨t1, 1, rfl, g14, rfl, .inr rfl, by decide⟩
        | _ + 2, hj => simp at hj
      refine ⟨tt, rfl, ⟨_, SqT.of g2⟩, for_tup (K := K) (a := tt) (xs := [V.ref t0, V.ref t1]) (fun j σ' H' => ∃ (l6 l7 l8 l9 : Option V) (xs : List Addr), σ' = [some (.ref b), some (.int (1 + (p.length : Int))), some (.ref pa), some (.ref la), some (.ref wa), some (.ref fl), l6, l7, l8, l9] ∧ Same H H' ∧ H' fl = some (.lst (xs.map V.ref)) ∧ Paired (StartAt K n cs (fun a => H a = none) (mask fl H')) xs (keepS n cs p (([0, 1] : List Int).take j)) ∧ Same (mask fl H4) (mask fl H')) ⟨none, none, none, none, [], rfl, Same.trans s1 s14, hfl4, .nil, Same.refl _⟩ (fun j σ H' _ ⟨_, _, _, _, _, _, _, _, _, h⟩ => SqT.of (mask_out _ _ (h _ _ (by
        unfold mask
        rw [if_neg (fun e => by rw [e, hfl4] at g2; cases g2)]
        exact g2)))) ?_ ?_⟩
      · rintro j y σ H5 hj ⟨l6, l7, l8, l9, xs, rfl, s5, hfl5, pr5, m5⟩
        obtain ⟨t, x, rfl, gt, et, hx, hj1⟩ := gw j y hj
        have gt5 : H5 t = some (.tup [.int x, .int (letW p.length x)]) := mask_out _ _ (m5 _ _ (by
          unfold mask
          rw [if_neg (fun e => by rw [e, hfl4] at gt; cases gt)]
          exact gt))
        refine ⟨t, _, rfl, SqT.of gt5, rfl, _, _, rfl, _, _, rfl, rfl, ?_⟩
        show tSeq _ _ _ [some (.ref b), some (.int (1 + (p.length : Int))), some (.ref pa), some (.ref la), some (.ref wa), some (.ref fl), some (.int x), some (.int (letW p.length x)), l8, l9] H5
        have er : once (resW cs p) (letW p.length x) = resW cs (p ++ [x]) := (res_snoc cs p x).symm
        have rsm' := res_small sm (p ++ [x])
        have lt' := lt_res lt (p ++ [x])
        refine seq_gen (fun σ' H' => ∃ (D : Addr) (bs' : List Addr), σ' = [some (.ref b), some (.int (1 + (p.length : Int))), some (.ref pa), some (.ref la), some (.ref wa), some (.ref fl), some (.int x), some (.int (letW p.length x)), some (.ref D), l9] ∧ Same H5 H' ∧ (D ≠ fl ∧ H D = none) ∧ H' D = some (.lst (bs'.map V.ref)) ∧ TupsAt H' bs' (resW cs (p ++ [x]))) (fun nx2 hnx2 => ?_) ?_
        · walk_at "rd"
          refine ⟨la, letW p.length x, bs, resW cs p, rfl, SqE.same s5 hla, TupsAt.same s5 htb, rsm.1, rsm.2, fun D bs' H6 s6 nD hD tb' => ?_⟩
          rw [er] at tb'
          exact hnx2 _ _ ⟨D, bs', rfl, s6, ⟨(fun e => by rw [e, hfl5] at nD; cases nD), Same.none s5 nD⟩, hD, tb'⟩
        rintro σ' H6 ⟨D, bs', rfl, s6, ⟨nDf, nD0⟩, hD, tb'⟩
        have s06 := Same.trans s5 s6
        refine seq_gen (fun σ' H' => ∃ (v : V), σ' = [some (.ref b), some (.int (1 + (p.length : Int))), some (.ref pa), some (.ref la), some (.ref wa), some (.ref fl), some (.int x), some (.int (letW p.length x)), some (.ref D), some v] ∧ Same H6 H' ∧ ((v = .non ∧ ¬Sat n (resW cs (p ++ [x]))) ∨ ∃ (wb : Addr) (way' : List Int), v = .ref wb ∧ SqT K H' wb (way'.map V.int) ∧ WayOk n way' (resW cs (p ++ [x])))) (fun nx2 hnx2 => ?_) ?_
        · walk_at "rd"
          refine ⟨wa, _, rfl, .inr (Same.sqt s06 hwa), rfl, flat_ints way, ?_⟩
          rw [in_ints]
          have ei : (if false = true then !decide (-letW p.length x ∈ way) else decide (-letW p.length x ∈ way)) = decide (-letW p.length x ∈ way) := rfl
          rw [ei]
          by_cases hm : -letW p.length x ∈ way
          · rw [decide_eq_true hm]
            exact ⟨_, rfl, iteT ⟨D, n, bs', resW cs (p ++ [x]), rfl, .inl (SqL.of hD), tb', lt', rsm'.1, rsm'.2, fun wb way' H7 s7 hw ok => hnx2 _ _ ⟨.ref wb, rfl, s7, .inr ⟨wb, way', rfl, hw, ok⟩⟩, fun H7 s7 ns => hnx2 _ _ ⟨.non, rfl, s7, .inl ⟨rfl, ns⟩⟩⟩⟩
          · rw [decide_eq_false hm]
            refine ⟨_, rfl, iteF (hnx2 _ _ ⟨.ref wa, rfl, Same.refl _, .inr ⟨wa, way, rfl, Same.sqt s06 hwa, ?_⟩⟩)⟩
            rw [← er]
            exact wok.once hm
        rintro σ' H7 ⟨v, rfl, s7, hv⟩
        have s57 := Same.trans s6 s7
        have hfl7 := s57 _ _ hfl5
        have lx : xs.length ≤ 2 := by
          have h1 := pairLen pr5
          have h2 := keep_len n cs p (([0, 1] : List Int).take j)
          rw [List.length_take] at h2
          have : ([0, 1] : List Int).length = 2 := rfl
          omega
        rcases hv with ⟨rfl, ns⟩ | ⟨wb, way', rfl, hwb, wok'⟩
        · refine ⟨_, rfl, rfl, false, by rw [decide_eq_true rfl]; rfl, iteF ⟨_, _, _, _, xs, rfl, Same.trans s5 s57, hfl7, ?_, Same.trans m5 (mask_same s57)⟩⟩
          rw [et, keep_snoc, if_neg ns, List.append_nil]
          exact Paired.mapP pr5 fun b y h => StartAt.same (mask_same s57) h
        · refine ⟨_, rfl, rfl, true, by rw [decide_eq_false (by intro z; cases z)]; rfl, iteT ?_⟩
          refine ⟨_, rfl, .inl ⟨rfl, _, SqL.of hfl7⟩, _, rfl, _, rfl, by show 1 ≤ sizeLine; decide, fun p1 hp1 => ?_⟩
          have s8 : Same H7 (upd H7 p1 (.tup [.int x])) := Same.new hp1
          have h8 : upd H7 p1 (.tup [.int x]) p1 = some (.tup [.int x]) := upd_same
          generalize upd H7 p1 (.tup [.int x]) = H8 at *
          refine p_catA (Same.sqt (Same.trans s5 (Same.trans s57 s8)) hpa) (SqT.of h8) (by rw [List.length_map]; show _ + 1 ≤ _; omega) fun r1 H9 s9 h9 => ?_
          refine ⟨_, rfl, _, rfl, by show 3 ≤ sizeLine; decide, fun p2 hp2 => ?_⟩
          have s10 : Same H9 (upd H9 p2 (.tup [.ref r1, .ref D, .ref wb])) := Same.new hp2
          have h10 : upd H9 p2 (.tup [.ref r1, .ref D, .ref wb]) p2 = some (.tup [.ref r1, .ref D, .ref wb]) := upd_same
          generalize upd H9 p2 (.tup [.ref r1, .ref D, .ref wb]) = H10 at *
          have s7a := Same.trans s8 (Same.trans s9 s10)
          have hfl10 := s7a _ _ hfl7
          refine ⟨fl, _, _, rfl, rfl, hfl10, by rw [List.length_map]; omega, _, _, _, _, xs ++ [p2], rfl, Same.upl (Same.trans s5 (Same.trans s57 s7a)) hfl, by rw [upd_same, List.map_append]; rfl, ?_, ?_⟩
          · rw [et, keep_snoc, if_pos (show Sat n (resW cs (p ++ [x])) from wok'.sat), mask_upd]
            refine Paired.snoc ?_ (Paired.mapP pr5 fun b y h => StartAt.same (mask_same (Same.trans s57 s7a)) h)
            refine ⟨r1, D, wb, bs', way', nD0, ?_, ?_, ?_, ?_, ?_, wok'⟩
            · unfold mask
              rw [if_neg (fun z => by rw [z, hfl10] at h10; cases h10)]
              exact h10
            · rw [List.map_append]
              exact sqt_mask hfl10 (Same.sqt s10 h9)
            · refine .inl (SqL.of ?_)
              unfold mask
              rw [if_neg nDf]
              exact s7a _ _ (s7 _ _ hD)
            · exact tups_mask hfl10 (TupsAt.same (Same.trans s7 s7a) tb')
            · exact sqt_mask hfl10 (Same.sqt s7a hwb)
          · rw [mask_upd]
            exact Same.trans m5 (mask_same (Same.trans s57 s7a))
      · rintro σ H5 ⟨l6, l7, l8, l9, xs, rfl, s5, hfl5, pr5, m5⟩
        exact hnx _ _ ⟨_, _, _, _, xs, rfl, s5, hfl5, pr5⟩
    rintro σ' H5 ⟨l6, l7, l8, l9, xs, rfl, s5, hfl5, pr5⟩
    exact ⟨_, rfl, q fl xs H5 s5 hfl hfl5 (Paired.mapP pr5 fun b y h => StartAt.same mask_out h)⟩
end
end Toy

-- part: AN4
namespace Toy
open PySem L2
section
variable {P : Program} {w : World} {K : PySem.W.Frag} {mg : Str → Option Value} {base : Heap} {C : Addr}
/-- over a list, whatever is done with each -/
theorem walk_list {K : PySem.W.Frag} {a : Addr} {xs : List V} {H0 : Hp} {Qd : Hp → Prop} (Bd : (Hp → Prop) → V → Hp → Prop) (Pv : Nat → Hp → Prop) (h0 : Pv 0 H0) (hl : ∀ i H, i ≤ xs.length → Pv i H → SqL K H a xs)
    (hs : ∀ i x H, xs[i]? = some x → Pv i H → Bd (Pv (i + 1)) x H) (hd : ∀ H, Pv xs.length H → Qd H) :
    ∃ W : Nat → Nat → Hp → Prop, (∃ m, W 0 m H0) ∧ ∀ i m H, W i m H →
      ((Itl K a).stop i H ∧ Qd H) ∨ ((Itl K a).go i H ∧ ∃ Nx : Hp → Prop, (∀ H', Nx H' → ∃ m', m' < m ∧ W (i + 1) m' H') ∧ ∀ x H', (Itl K a).yld i H x H' → Bd Nx x H') := by
  refine ⟨fun i m H => m = xs.length - i ∧ i ≤ xs.length ∧ Pv i H, ⟨xs.length, by simp, Nat.zero_le _, h0⟩, ?_⟩
  rintro i m H ⟨rfl, hi, p⟩
  have q := hl i H hi p
  by_cases hlt : i < xs.length
  · refine .inr ⟨⟨xs, xs[i], q, by simp [hlt]⟩, Pv (i + 1), fun H' p' => ⟨xs.length - (i + 1), by omega, rfl, hlt, p'⟩, fun x H' y => ?_⟩
    obtain ⟨e, y⟩ := y
    subst e
    exact hs i x _ (y xs q) p
  · have e : i = xs.length := by omega
    subst e
    exact .inl ⟨⟨xs, q, Nat.le_refl _⟩, hd H p⟩
theorem pairGet {α β : Type} {F : α → β → Prop} : ∀ {bs : List α} {cs : List β} {i : Nat} {b : α}, Paired F bs cs → bs[i]? = some b → ∃ c, cs[i]? = some c ∧ F b c
  | _, _, i, b, .nil, h => by simp at h
  | _, _, 0, b, .cons h t, e => by
    rw [List.getElem?_cons_zero] at e
    cases e
    exact ⟨_, rfl, h⟩
  | _, _, i + 1, b, .cons h t, e => by
    rw [List.getElem?_cons_succ] at e
    obtain ⟨c, h1, h2⟩ := pairGet t e
    exact ⟨c, h1, h2⟩
theorem st_bits {n : Nat} {cs : List (List Int)} (h : LtCs n cs) {k : Nat} (hk : k ≤ n) {p : List Int} (hp : p ∈ stL n cs k) : p.length = k := by
  rw [st_filter h k hk] at hp
  exact (allb_len (List.mem_filter.mp hp).1).1
theorem keep_two (n : Nat) (cs : List (List Int)) (k : Nat) : stL n cs (k + 1) = (stL n cs k).flatMap fun p => keepS n cs p [0, 1] := rfl
theorem st_len {n : Nat} {cs : List (List Int)} (h : LtCs n cs) {k : Nat} (hk : k ≤ n) : (stL n cs k).length ≤ 2 ^ k := by
  rw [st_filter h k hk]
  refine Nat.le_trans (List.length_filter_le ..) ?_
  have e : ∀ k, (allb k).length = 2 ^ k := by
    intro k
    induction k with
    | zero => rfl
    | succ k ih =>
      have e2 : ∀ l : List (List Int), (l.flatMap fun p => [p ++ [0], p ++ [1]]).length = l.length * 2 := by
        intro l
        induction l with
        | nil => rfl
        | cons a r ih => rw [List.flatMap_cons, List.length_append, ih]; show 2 + r.length * 2 = (r.length + 1) * 2; omega
      show ((allb k).flatMap fun p => [p ++ [0], p ++ [1]]).length = _
      rw [e2, ih, Nat.pow_succ]
  exact Nat.le_of_eq (e k)
/-- rows of numbers, as they stand -/
abbrev RowsT (K : PySem.W.Frag) (H : Hp) (xs : List Addr) (ps : List (List Int)) : Prop := Paired (fun (b : Addr) (p : List Int) => SqT K H b (p.map V.int)) xs ps
theorem RowsT.same {H H' : Hp} {xs : List Addr} {ps : List (List Int)} (e : Same H H') (h : RowsT K H xs ps) : RowsT K H' xs ps := Paired.mapP h fun _ _ t => Same.sqt e t
/-! ### answers -/
abbrev sAn : Stmt := s_answers
abbrev nAn : List Str := ["problem", "most", "way", "starts", "truth", "start", "longer"]
theorem scAn : FnScope nAn ["problem", "most"] (defScope sAn) := ⟨rfl, rfl, rfl, by decide +kernel, rfl, by decide +kernel, by decide +kernel⟩
def spAn (K : PySem.W.Frag) (C : Addr) : Sp := fun vs H Q _ => ∃ (x : Addr) (m : Int) (n : Nat) (cp : Addr) (cs : List (List Int)), vs = [.ref x, .int m] ∧ Prb C H x n cp cs ∧ (n : Int) ≤ m ∧ n ≤ 14 ∧ LtCs n cs ∧ (cs.length ≤ 1000 ∧ ∀ c ∈ cs, c.length ≤ 1000) ∧
  ∀ (D : Addr) (xs : List Addr) (H' : Hp), Same H H' → H D = none → H' D = some (.lst (xs.map V.ref)) → RowsT K H' xs (ansL n cs) → Q (.ref D) H'
theorem ok_an {f fL fS fO fC fW : Addr} {fd fdL fdS fdO fdC fdW : FuncData} (F : FunD K "answers" "answers" (defArgs sAn) (defBody sAn) (defScope sAn) [] [("most", .int 12)] f fd) (B : Bl mg) (gMin : mg "min" = none) (cl : Cls K C) (nM : NoAttr K C "many") (nC : NoAttr K C "clauses")
    (L : Df K mg "_longer_starts" sLS ["start", "truth"] fL fdL) (S : Df K mg "_some_way" sSW ["clauses"] fS fdS) (O : Df K mg "_once_so" sOs ["clauses", "letter"] fO fdO) (W' : Df K mg "_without" sWo ["clause", "letter"] fW fdW) (Ch : Df K mg "_choices" sChs ["clause"] fC fdC) : FnOk P w K mg base CX0 5 f fd ["problem", "most"] (spAn K C) := by
  have GS : FnOk P w K mg base CX0 3 fS fdS ["clauses"] (spSW K) := ok_sw S.F B gMin O W' Ch
  have GL : FnOk P w K mg base CX0 4 fL fdL ["start", "truth"] (spLS K) := ok_ls L.F B gMin S O W' Ch
  refine okN F scAn (fun vs H Q E h => ?_) (fun cdv A outer s H vs Q E hr h => ?_)
  · obtain ⟨x, m, n, cp, cs, rfl, _⟩ := h
    rfl
  · obtain ⟨x, m, n, cp, cs, rfl, p, nm, n12, lt, sm, q⟩ := h
    refine ⟨_, pss_cons (ps_if (pt_cmpR op_gt (pe_fld (pv 0) rfl) (pv 1) (nomark _)) (pss_one ps_never) pss_nil)
      (pss_cons (ps_set (i := 2) scAn.nd rfl (Or.inl rfl) (pe_call GS (hr.mono (by decide)) rfl S.g S.F.kp S.b .nil pass0 (pa_cons (pe_fld (pv 0) rfl) pa_nil)))
      (pss_cons (ps_set (i := 3) scAn.nd rfl (Or.inl rfl) (pe_ifExp (pt_cmpR op_isN (pv 2) pe_non (nomark _)) (pe_lst pa_nil) (pe_lst (pa_cons (pe_tup (pa_cons (pe_tup pa_nil) (pa_cons (pe_fld (pv 0) rfl) (pa_cons (pv 2) pa_nil)))) pa_nil))))
      (pss_cons (ps_for PassesOwn.never rfl (pi_range2 rfl B.range (pa_cons pe_int (pa_cons (pe_op op_add (pe_fld (pv 0) rfl) pe_int) pa_nil))) (pg_name (i := 4) scAn.nd rfl (Or.inr rfl))
        (pss_one (ps_setLc2 (i := 3) (own := [("start", 5), ("longer", 6)]) (vs1 := [6]) (g := gName 5) (tt := tYes) (wi1 := iList K (tCall (spLS K) [] E0 (tCons (tVar 5) (tCons (tVar 4) tNil)))) (g1 := gName 6) (tt1 := tYes) (te := tVar 6) rfl scAn.nd rfl rfl (sw_true rfl rfl rfl (by decide +kernel)) (pi_list (pv 3))
          (blkOk_by (own := [("start", 5), ("longer", 6)]) (N := nAn) (sc := defScope sAn) (by decide +kernel)) (by decide) (fun _ _ _ _ _ => pg_name (i := 5) scAn.nd rfl (Or.inl rfl)) (fun _ _ _ _ _ => pts_nil)
          (fun _ _ _ _ _ => pi_list (pe_call GL hr rfl L.g L.F.kp L.b .nil pass0 (pa_cons (pv 5) (pa_cons (pv 4) pa_nil)))) (fun _ _ _ _ _ => pg_name (i := 6) scAn.nd rfl (Or.inl rfl)) (fun _ _ _ _ _ => pts_nil) (fun _ _ _ _ _ => pv 6))))
      (pss_one (ps_ret (pe_lc (own := [("start", 5)]) (g := gName 5) (tt := tYes) (te := tOp (rIxT K) (tVar 5) (tC (.int 0))) rfl scAn.nd (pi_list (pv 3)) (blkOk_by (own := [("start", 5)]) (N := nAn) (sc := defScope sAn) (by decide +kernel))
          (fun _ _ _ _ _ => pg_name (i := 5) scAn.nd rfl (Or.inl rfl)) (fun _ _ _ _ _ => pts_nil) (fun _ _ _ _ _ => pe_ix ix_tup (pv 5) pe_int (fun _ _ => rfl)))))))), ?_⟩
    show tSeq _ _ _ [some (.ref x), some (.int m), none, none, none, none, none] H
    have eZ : sizeLine = 16777216 := rfl
    obtain ⟨dx, hx⟩ := p.ob
    obtain ⟨bs, hcp, tb⟩ := p.cl
    refine seq_gen (fun σ' H' => σ' = [some (.ref x), some (.int m), none, none, none, none, none] ∧ H = H') (fun nx hnx => ?_) ?_
    · refine ⟨_, rfl, x, C, dx, _, _, rfl, hx, cl, nM, flds_many n cp, _, rfl, _, _, rfl, rfl, false, by show V.bl (decide (m < (n : Int))) = _; rw [decide_eq_false (by omega)], iteF (hnx _ _ ⟨rfl, rfl⟩)⟩
    rintro σ' H' ⟨rfl, rfl⟩
    refine seq_gen (fun σ' H' => ∃ (v : V), σ' = [some (.ref x), some (.int m), some v, none, none, none, none] ∧ Same H H' ∧ ((v = .non ∧ ¬Sat n cs) ∨ ∃ (wb : Addr) (way' : List Int), v = .ref wb ∧ SqT K H' wb (way'.map V.int) ∧ WayOk n way' cs)) (fun nx hnx => ?_) ?_
    · refine ⟨_, rfl, x, C, dx, _, _, rfl, hx, cl, nC, flds_clauses n cp, cp, n, bs, cs, rfl, .inr (SqT.of hcp), tb, lt, sm.1, sm.2, fun wb way' H7 s7 hw ok => hnx _ _ ⟨.ref wb, rfl, s7, .inr ⟨wb, way', rfl, hw, ok⟩⟩, fun H7 s7 ns => hnx _ _ ⟨.non, rfl, s7, .inl ⟨rfl, ns⟩⟩⟩
    rintro σ' H1 ⟨v, rfl, s1, hv⟩
    refine seq_gen (fun σ' H' => ∃ (sl : Addr) (xs : List Addr), σ' = [some (.ref x), some (.int m), some v, some (.ref sl), none, none, none] ∧ Same H H' ∧ H' sl = some (.lst (xs.map V.ref)) ∧ Paired (StartAt K n cs (fun _ => True) H') xs (stL n cs 0)) (fun nx hnx => ?_) ?_
    · rcases hv with ⟨rfl, ns⟩ | ⟨wb, way', rfl, hwb, wok'⟩
      · refine ⟨_, rfl, rfl, true, by rw [decide_eq_true rfl], iteT ⟨Nat.zero_le _, fun sl hsl => hnx _ _ ⟨sl, [], rfl, Same.trans s1 (Same.new hsl), upd_same, ?_⟩⟩⟩
        have e : stL n cs 0 = [] := by unfold stL; rw [if_neg ns]
        rw [e]
        exact .nil
      · refine ⟨_, rfl, rfl, false, by rw [decide_eq_false (by intro z; cases z)], iteF ?_⟩
        refine ⟨Nat.zero_le _, fun p1 hp1 => ?_⟩
        have s2 : Same H1 (upd H1 p1 (.tup [])) := Same.new hp1
        have h2 : upd H1 p1 (.tup []) p1 = some (.tup []) := upd_same
        generalize upd H1 p1 (.tup []) = H2 at *
        have s02 := Same.trans s1 s2
        refine ⟨_, rfl, x, C, dx, _, _, rfl, s02 _ _ hx, cl, nC, flds_clauses n cp, _, rfl, by show 3 ≤ sizeLine; decide, fun p2 hp2 => ?_⟩
        have s3 : Same H2 (upd H2 p2 (.tup [.ref p1, .ref cp, .ref wb])) := Same.new hp2
        have h3 : upd H2 p2 (.tup [.ref p1, .ref cp, .ref wb]) p2 = some (.tup [.ref p1, .ref cp, .ref wb]) := upd_same
        generalize upd H2 p2 (.tup [.ref p1, .ref cp, .ref wb]) = H3 at *
        have s03 := Same.trans s02 s3
        refine ⟨by show 1 ≤ sizeLine; decide, fun sl hsl => hnx _ _ ⟨sl, [p2], rfl, Same.trans s03 (Same.new hsl), upd_same, ?_⟩⟩
        have e : stL n cs 0 = [[]] := by unfold stL; rw [if_pos (show Sat n cs from wok'.sat)]
        rw [e]
        refine .cons (StartAt.same (Same.new hsl) ⟨p1, cp, wb, bs, way', trivial, h3, SqT.of (s3 _ _ h2), .inr (SqT.of (s03 _ _ hcp)), TupsAt.same s03 tb, Same.sqt (Same.trans s2 s3) hwb, wok'⟩) .nil
    rintro σ' H2 ⟨sl, xs, rfl, s2, hsl, pr⟩
    refine seq_gen (fun σ' H' => ∃ (l4 l5 l6 : Option V) (sl : Addr) (xs : List Addr), σ' = [some (.ref x), some (.int m), some v, some (.ref sl), l4, l5, l6] ∧ Same H H' ∧ H' sl = some (.lst (xs.map V.ref)) ∧ Paired (StartAt K n cs (fun _ => True) H') xs (stL n cs n)) (fun nx hnx => ?_) ?_
    · refine ⟨_, rfl, x, C, dx, _, _, rfl, s2 _ _ hx, cl, nM, flds_many n cp, _, _, rfl, rfl, 1, (n : Int) + 1, rfl, by omega, ?_⟩
      have en : ((n : Int) + 1 - 1).toNat = n := by omega
      rw [en]
      refine for_range (lo := 1) (n := n) (fun k σ H' => ∃ (l4 l5 l6 : Option V) (sl : Addr) (xs : List Addr), σ = [some (.ref x), some (.int m), some v, some (.ref sl), l4, l5, l6] ∧ Same H H' ∧ H' sl = some (.lst (xs.map V.ref)) ∧ Paired (StartAt K n cs (fun _ => True) H') xs (stL n cs k)) ⟨_, _, _, sl, xs, rfl, s2, hsl, pr⟩ ?_ ?_
      · rintro k σ H3 hk ⟨l4, l5, l6, sl, xs, rfl, s3, hsl3, pr3⟩
        have lxs : xs.length ≤ 2 ^ k := by
          rw [pairLen pr3]
          exact st_len lt (by omega)
        have p12 : 2 ^ k ≤ 16384 := Nat.pow_le_pow_right (n := 2) (by decide) (show k ≤ 14 by omega)
        refine ⟨_, rfl, sl, rfl, ⟨_, SqL.of hsl3⟩, fun D hD => walk_list (K := K) (a := sl) (xs := xs.map V.ref) _ (fun j Hj => Same H3 Hj ∧ ∃ ys, Hj D = some (.lst (ys.map V.ref)) ∧ ys.length ≤ 2 * j ∧ Paired (StartAt K n cs (fun _ => True) (mask D Hj)) ys (((stL n cs k).take j).flatMap fun p => keepS n cs p [0, 1])) ⟨Same.new hD, [], upd_same, Nat.le_refl _, .nil⟩ (fun j Hj _ ⟨e, _⟩ => Same.seq e (SqL.of hsl3)) ?_ ?_⟩
        · rintro j y Hj hj ⟨ej, ys, hDj, lys, py⟩
          rw [List.getElem?_map] at hj
          cases ez : xs[j]? with
          | none => rw [ez] at hj; cases hj
          | some b =>
          rw [ez] at hj
          cases hj
          have hjl : j < xs.length := (List.getElem?_eq_some_iff.mp ez).1
          obtain ⟨p0, hp0, sb⟩ := pairGet (Paired.mapP pr3 fun b y h => StartAt.same ej h) ez
          have lp0 := st_bits lt (by omega) (List.mem_of_getElem? hp0)
          refine ⟨rfl, yesT ?_⟩
          refine ⟨_, rfl, _, rfl, b, n, cs, p0, by rw [lp0]; rfl, sb, by omega, by omega, lt, sm, fun fl zs Hk sk nfl hfl pz => ?_⟩
          have lz : zs.length ≤ 2 := by
            rw [pairLen pz]
            exact keep_len n cs p0 [0, 1]
          have nflD : fl ≠ D := fun e => by rw [e, hDj] at nfl; cases nfl
          refine ⟨fl, rfl, ⟨_, SqL.of hfl⟩, walk_list (K := K) (a := fl) (xs := zs.map V.ref) _ (fun i Hi => Same H3 Hi ∧ Same (mask D Hk) (mask D Hi) ∧ Hi D = some (.lst ((ys ++ zs.take i).map V.ref))) ⟨Same.trans ej sk, Same.refl _, by rw [List.take_zero, List.append_nil]; exact sk _ _ hDj⟩ (fun i Hi _ ⟨_, e, _⟩ => SqL.of (mask_out _ _ (e _ _ (by
            unfold mask
            rw [if_neg nflD]
            exact hfl)))) ?_ ?_⟩
          · rintro i y Hi hi ⟨ei, mi, hDi⟩
            rw [List.getElem?_map] at hi
            cases ew : zs[i]? with
            | none => rw [ew] at hi; cases hi
            | some z =>
            rw [ew] at hi
            cases hi
            refine ⟨rfl, yesT ?_⟩
            refine ⟨_, rfl, _, hDi, ?_, Same.upl ei hD, ?_, ?_⟩
            · rw [List.length_map, List.length_append, List.length_take]
              omega
            · rw [mask_upd]
              exact mi
            · rw [upd_same, List.take_add_one, ew]
              simp only [Option.toList_some, List.map_append, List.map_cons, List.map_nil, List.append_assoc]
          · rintro Hi ⟨ei, mi, hDi⟩
            rw [List.length_map, List.take_length] at hDi
            refine ⟨ei, ys ++ zs, hDi, by rw [List.length_append]; omega, ?_⟩
            rw [List.take_add_one, hp0, List.flatMap_append]
            refine pairApp (Paired.mapP py fun b y h => StartAt.same (Same.trans (mask_same sk) mi) h) ?_
            show Paired _ zs ([p0].flatMap _)
            rw [List.flatMap_singleton]
            exact Paired.mapP pz fun b y h => StartAt.same mi (StartAt.fresh hDj (sk _ _ hDj) h)
        · rintro Hj ⟨ej, ys, hDj, lys, py⟩
          rw [List.length_map, pairLen pr3, List.take_length, ← keep_two] at py
          exact ⟨_, _, _, D, ys, rfl, Same.trans s3 ej, hDj, Paired.mapP py fun b y h => StartAt.same mask_out h⟩
      · rintro σ H3 ⟨l4, l5, l6, sl, xs, rfl, s3, hsl3, pr3⟩
        exact hnx _ _ ⟨_, _, _, sl, xs, rfl, s3, hsl3, pr3⟩
    rintro σ' H3 ⟨l4, l5, l6, sl, xs, rfl, s3, hsl3, pr3⟩
    have lxs : xs.length ≤ 2 ^ n := by
      rw [pairLen pr3]
      exact st_len lt (Nat.le_refl _)
    have p12 : 2 ^ n ≤ 16384 := Nat.pow_le_pow_right (n := 2) (by decide) n12
    refine ⟨_, rfl, sl, rfl, ⟨_, SqL.of hsl3⟩, fun D hD => lc_list (K := K) (a := sl) (xs := xs.map V.ref) (fun j Hj => Same H3 Hj ∧ ∃ ys, Hj D = some (.lst (ys.map V.ref)) ∧ ys.length = j ∧ RowsT K (mask D Hj) ys ((ansL n cs).take j)) ⟨Same.new hD, [], upd_same, rfl, .nil⟩ (fun j Hj _ ⟨e, _⟩ => Same.seq e (SqL.of hsl3)) ?_ ?_⟩
    · rintro j y Hj hj ⟨ej, ys, hDj, lys, py⟩
      rw [List.getElem?_map] at hj
      cases ez : xs[j]? with
      | none => rw [ez] at hj; cases hj
      | some b =>
      rw [ez] at hj
      cases hj
      have hjl : j < xs.length := (List.getElem?_eq_some_iff.mp ez).1
      obtain ⟨p0, hp0, pa, la, wa, bs', way, _, hb, hpa, _⟩ := pairGet (Paired.mapP pr3 fun b y h => StartAt.same ej h) ez
      rw [st_ans lt] at hp0
      refine ⟨rfl, yesT ?_⟩
      refine ⟨_, rfl, b, _, 0, _, rfl, rfl, SqT.of hb, atI_nat (j := 0) rfl, _, hDj, by rw [List.length_map]; omega, fun c o hc => ?_, ys ++ [pa], by rw [upd_same, List.map_append]; rfl, by rw [List.length_append, lys]; rfl, ?_⟩
      · rw [upd_ne (ne_of_none hc hD)]
        exact ej c o hc
      · rw [mask_upd, List.take_add_one, hp0]
        exact Paired.snoc (F := fun (b : Addr) (p : List Int) => SqT K (mask D Hj) b (p.map V.int)) (sqt_mask hDj hpa) py
    · rintro H5 ⟨s5, ys, hD5, lys, py⟩
      have e : (xs.map V.ref).length = (ansL n cs).length := by rw [List.length_map, pairLen pr3, st_ans lt]
      rw [e, List.take_length] at py
      exact q D ys H5 (Same.trans s3 s5) (Same.none s3 hD) hD5 (RowsT.same mask_out py)
end
end Toy

-- part: OQ1
namespace L2
open PySem PySem.Spec PyProof.Rows
/-- what stands on the right of an own ==: a built-in thing, or an instance of the class itself -/
inductive RightOf (K : PySem.W.Frag) (H : Hp) (C : Addr) : V → Prop where
  | bi {y : V} {T : String} (t : TyB K H y T) (n : PySem.W.notFirst K C (.type T) = true) : RightOf K H C y
  | ins {b dy : Addr} {gs : List (Str × V)} (h : H b = some (.ins C dy gs)) : RightOf K H C (.ref b)
def rEqIns (K : PySem.W.Frag) (C : Addr) (sp : Sp) : R2 := fun x y H Q => ∃ a dx fs, x = .ref a ∧ H a = some (.ins C dx fs) ∧ RightOf K H C y ∧ sp [x, y] H (fun v H' => ∃ b, v = .bl b ∧ Q v H') E0
section
variable {X : Cx}
theorem op_eqIns {n : Nat} {C f : Addr} {fd : FuncData} {ps : List Str} {sp : Sp} (F : FnOk X.prog X.w X.K X.mg X.base CX0 n f fd ps sp) (hr : Room n X.A)
    (hs : PySem.W.findIn X.K (.ref C) "__eq__" = some (some (.ref f))) (hf : PySem.W.isFn X.K (.ref f) = true) (hb : Binds X.K fd ps []) : OpR X (compareOp .Eq) (rEqIns X.K C sp) := by
  intro pins s σ H x y v u Q I rx ry h
  obtain ⟨a, dx, fs, rfl, ha, hR, hsp⟩ := h
  cases rx
  obtain ⟨mA, J, _⟩ := ins_get I.hok ha
  obtain ⟨od, J, _⟩ := J.look
  obtain ⟨m, hF⟩ := I.fr
  show wpAny (model X.prog X.w) X.A (richCompare .Eq (.ref a) u) (EP X pins σ Q) X.xe s
  have go : ∀ tb, PySem.W.Looks (model X.prog X.w) s.heap (typeOf u) tb → PySem.W.notFirst X.K C tb = true → wpAny (model X.prog X.w) X.A (richCompare .Eq (.ref a) u) (EP X pins σ Q) X.xe s := by
    intro tb hT hn
    refine PySem.W.cmp_K (op := .Eq) (tb := tb) hr.units0 hF I.ok.mod.kin J hT hn hs hf ?_
    have hl := F.len _ _ _ _ hsp
    have r2 : Vals [V.ref a, y] [Value.ref a, u] := .cons rfl (.cons ry .nil)
    refine wpAny_call (codeAny_mono (F.run X.A X.stack s H ⟨[.ref a, u], []⟩ [.ref a, u] [.ref a, y] _ E0 hr I.env0 (by
      have := hb s [.ref a, u] I.kIn (by simpa using hl)
      simpa using this) r2 hsp) fun r s' hq => ?_)
    cases r with
    | error e => exact hq.elim
    | ok fl =>
      cases fl with
      | ret w =>
        obtain ⟨z, H', I', rz, ⟨b, ez, q⟩⟩ := I.after hq
        subst ez
        cases rz
        exact ⟨.bl b, H', I', rfl, q⟩
      | next => exact False.elim hq
      | brk => exact False.elim hq
      | cont => exact False.elim hq
  cases hR with
  | @bi y T t n =>
    refine go _ ?_ n
    have ht := TyB.is I ry t
    have rf : ∀ b, u = Value.ref b → PySem.W.Looks (model X.prog X.w) s.heap (typeOf u) (.type T) := fun b e => by
      subst e
      obtain ⟨o, ho, hc⟩ := ht
      rw [← hc]
      exact (PySem.W.Looks.ld ho).andThen .now
    cases t with
    | non => cases ry; exact PySem.W.Looks.now
    | bl b => cases ry; exact PySem.W.Looks.now
    | int i => obtain ⟨tk, rfl⟩ := ry; exact PySem.W.Looks.now
    | str i => obtain ⟨tk, rfl⟩ := ry; exact PySem.W.Looks.now
    | byt i => obtain ⟨tk, rfl⟩ := ry; exact PySem.W.Looks.now
    | lst h => exact rf _ ry
    | tup h => exact rf _ ry
    | dK h => exact rf _ ry
  | @ins b dy gs h =>
    cases ry
    obtain ⟨mB, J', _⟩ := ins_get I.hok h
    obtain ⟨od', J', _⟩ := J'.look
    exact go _ J'.type (by simp [PySem.W.notFirst])
end
end L2

-- part: P5
namespace Toy
open PySem L2
section
variable {P : Program} {w : World} {K : PySem.W.Frag} {mg : Str → Option Value} {base : Heap}
variable {C fN fL fT fC fU fB fI fE eT : Addr} {fdN fdL fdT fdC fdU fdB fdI fdE : FuncData}
theorem tyX_of {H : Hp} {x : V} {T : String} (t : TyB K H x T) : TyX K H x (.type T) := by
  cases t with
  | non => exact .base .non
  | bl b => exact .base (.bl b)
  | int i => exact .base (.int i)
  | str i => exact .base (.str i)
  | byt b => exact .byt b
  | lst h =>
    rcases h with (h | ⟨o, h⟩) | ⟨_, _, _, h, h2, _⟩
    · exact .base (.lst h)
    · exact .base (.frz h)
    · exact .kList h (by first | rfl | exact h2)
  | tup h =>
    rcases h with (h | ⟨o, h⟩) | ⟨_, _, _, h, h2, _⟩
    · exact .base (.tup h)
    · exact .fTuple h
    · exact .kTuple h (by first | rfl | exact h2)
  | dK h => exact .base (.dK h)
/-- what == is asked of beside problems -/
def OtherTy (K : PySem.W.Frag) (C : Addr) (T : String) : Prop := PySem.W.kitOne K (.type T) (.ref C) = some false ∧ PySem.W.notFirst K C (.type T) = true
theorem scEq : FnScope ["self", "other"] ["self", "other"] (defScope sEq) := ⟨rfl, rfl, rfl, by decide +kernel, rfl, by decide +kernel, by decide +kernel⟩
def spEq (K : PySem.W.Frag) (C : Addr) : Sp := fun vs H Q _ => ∃ a y t cp cs, vs = [.ref a, y] ∧ Prb C H a t cp cs ∧
  ((∃ T, TyB K H y T ∧ OtherTy K C T ∧ Q (.bl false) H) ∨ ∃ b t2 cp2 cs2, y = .ref b ∧ Prb C H b t2 cp2 cs2 ∧ Q (.bl (decide (t = t2) && decide (cs = cs2))) H)
theorem dp_prb {H : Hp} {x cp : Addr} {t : Int} {cs : List (List Int)} (p : Prb C H x t cp cs) : Dp K H (.ref cp) (dCls cs) := by
  obtain ⟨bs, h, T⟩ := p.cl
  exact .tup (SqT.of h) (dpAll_cls T)
theorem ok_eq (G : Prog K mg C fN fL fT fC fU fB fI fE fdN fdL fdT fdC fdU fdB fdI fdE eT) (B : Bl mg) (ic : C8.InsC K C) : FnOk P w K mg base CX0 1 fE fdE ["self", "other"] (spEq K C) := by
  refine G.E.ok scEq (fun vs H Q E h => ?_) (fun cdv A outer s H vs Q E hr h => ?_)
  · obtain ⟨a, y, t, cp, cs, rfl, _⟩ := h
    rfl
  · obtain ⟨a, y, t, cp, cs, rfl, p, h⟩ := h
    refine ⟨_, pss_one (ps_ret (pe_and (pe_callB call_isi (by rfl) B.isinstance (by decide +kernel) (pa_cons (pv 1) (pa_cons (pe_glob rfl G.gC (v := .ref C) rfl) pa_nil)))
      (pe_and (pe_cmpR op_eq (pe_fld (pv 0) rfl) (pe_fld (pv 1) rfl) (nomark _)) (pe_one (pe_cmpR (op_eqD hr.units) (pe_fld (pv 0) rfl) (pe_fld (pv 1) rfl) (nomark _)))))), ?_⟩
    show tRet _ _ [some (.ref a), some y] H
    walk_at "rd"
    obtain ⟨dx, hx⟩ := p.ob
    rcases h with ⟨T, ty, ⟨hk, _⟩, q⟩ | ⟨b, t2, cp2, cs2, rfl, p2, q⟩
    · refine ⟨y, .ref C, _, _, false, rfl, .own C, tyX_of ty, hk, ?_⟩
      walk_at "rd"
      exact iteF q
    · obtain ⟨dy, hy⟩ := p2.ob
      refine ⟨.ref b, .ref C, _, _, true, rfl, .own C, .base (.ins hy ic.cl ic.ha ic.hn ic.htk ic.hm), ic.me, ?_⟩
      walk_at "rd"
      refine ⟨_, rfl, a, C, dx, _, _, rfl, hx, G.cl, G.nM, flds_many t cp, _, rfl, b, C, dy, _, _, rfl, hy, G.cl, G.nM, flds_many t2 cp2, rfl, _, rfl, ?_⟩
      rw [dec_int]
      by_cases e : t = t2
      · subst e
        rw [beq_self_eq_true]
        refine iteT ?_
        refine ⟨_, rfl, a, C, dx, _, _, rfl, hx, G.cl, G.nC, flds_clauses t cp, _, rfl, b, C, dy, _, _, rfl, hy, G.cl, G.nC, flds_clauses t cp2, _, _, dp_prb p, dp_prb p2, shaped_cls _, shaped_cls _, ?_⟩
        rw [eqv_cls]
        simpa using q
      · rw [beq_eq_false_iff_ne.mpr e]
        refine iteF ?_
        simpa [e] using q
end
end Toy

-- part: C8h
namespace Toy
open PySem L2
theorem OkC.inc {n : Nat} {c : List Int} (o : OkC n c) : c.Pairwise fun a b => a.natAbs < b.natAbs := strict_abs (List.Perm.refl c) o.nd o.rise
theorem due_mem {n : Nat} {cs cs2 : List (List Int)} (d : IsDue cs cs2) (ok : ∀ c ∈ cs, OkC n c) (x : List Int) : x ∈ cs2 ↔ x ∈ cs := by
  rw [d.mem]
  constructor
  · rintro ⟨row, hr, h⟩
    rw [inc_ext h.inc (ok row hr).inc h.mem]
    exact hr
  · exact fun h => ⟨x, h, (ok x h).inc, fun _ => Iff.rfl⟩
theorem OkC.row {n : Nat} {c : List Int} (o : OkC n c) : RowOk (n : Int) c := by
  refine ⟨fun x hx => ?_, fun x hx => ?_, fun x hx h => ?_⟩
  · have := o.lt x hx
    unfold Lt at this
    rw [absI_nat] at this
    omega
  · have := o.lt x hx
    unfold Lt at this
    rw [absI_nat] at this
    omega
  · have e := same_abs o.nd hx h (by rw [absI_neg])
    have := o.lt x hx
    unfold Lt at this
    rw [absI_nat] at this
    omega
theorem len_le {α : Type} [DecidableEq α] : ∀ {l m : List α}, l.Nodup → (∀ x ∈ l, x ∈ m) → l.length ≤ m.length
  | [], _, _, _ => Nat.zero_le _
  | a :: l, m, nd, h => by
    have h1 := List.nodup_cons.mp nd
    have ih := len_le (l := l) (m := m.erase a) h1.2 fun x hx => (List.mem_erase_of_ne (fun (e : x = a) => h1.1 (by rw [← e]; exact hx))).mpr (h x (List.mem_cons_of_mem _ hx))
    have e := List.length_erase_of_mem (h a List.mem_cons_self)
    have p := List.length_pos_of_mem (h a List.mem_cons_self)
    rw [List.length_cons]
    omega
theorem rowsAt_of {K : PySem.W.Frag} {H : Hp} : ∀ {bs : List Addr} {cs : List (List Int)}, TupsAt H bs cs → RowsAt K H (bs.map V.ref) cs
  | _, _, .nil => .nil
  | _, _, .cons h t => .cons ⟨_, rfl, .inr (SqT.of h)⟩ (rowsAt_of t)
section
variable {P : Program} {w : World} {K : PySem.W.Frag} {mg : Str → Option Value} {base : Heap} {C : Addr}
theorem tups_ex {H H' : Hp} {d : Addr} {zs : List V} (e : Ex d H H') (hd : H d = some (.lst zs)) : ∀ {bs : List Addr} {cs : List (List Int)}, TupsAt H bs cs → TupsAt H' bs cs
  | _, _, .nil => .nil
  | _, _, .cons h t => .cons (e _ _ h (ne_of h hd (by intro z; cases z))) (tups_ex e hd t)
theorem Prb.ex {H H' : Hp} {d x cp : Addr} {t : Int} {cs : List (List Int)} {zs : List V} (p : Prb C H x t cp cs) (e : Ex d H H') (hd : H d = some (.lst zs)) : Prb C H' x t cp cs := by
  obtain ⟨⟨dx, h1⟩, bs, h2, h3⟩ := p
  exact ⟨⟨dx, e _ _ h1 (ne_of h1 hd (by intro z; cases z))⟩, bs, e _ _ h2 (ne_of h2 hd (by intro z; cases z)), tups_ex e hd h3⟩
theorem p_make {H : Hp} {R : Addr → Hp → Prop} {t : Int} {p : Addr} {xs : List V} {rows : List (List Int)} (t1 : 1 ≤ t) (t4 : t ≤ 400) (hS : SqA K H p xs) (hR : RowsAt K H xs rows) (ok : RowsOk t rows)
    (q : ∀ (x cp : Addr) (cs : List (List Int)) (H' : Hp), Same H H' → Prb C H' x t cp cs → IsDue rows cs → R x H') :
    ∀ x dx, H x = none → H dx = none → dx ≠ x → spInit K C [.ref x, .int t, .ref p] (upd (upd H dx (.own x)) x (.ins C dx [])) (fun v H2 => v = .non ∧ R x H2) E0 := by
  intro x dx hx hdx hne
  have e1 : Same H (upd (upd H dx (.own x)) x (.ins C dx [])) := fun b o h => by rw [upd_ne (ne_of_none h hx), upd_ne (ne_of_none h hdx)]; exact h
  exact ⟨x, dx, t, p, xs, rows, rfl, upd_same, t1, t4, SqA.same e1 hS, RowsAt.same e1 hR, ok, fun cp cs H' pr due ex => ⟨rfl, q x cp cs H' (fun b o h => ex b o (e1 b o h) (ne_of_none h hx)) pr due⟩⟩
theorem cl_len : ∀ {c : List Int} (lo hi : Nat), c.Pairwise (fun a b => a.natAbs < b.natAbs) → (∀ x ∈ c, lo < x.natAbs ∧ x.natAbs ≤ hi) → c.length + lo ≤ max lo hi
  | [], lo, hi, _, _ => by simp; omega
  | x :: r, lo, hi, h, b => by
    have h1 := List.pairwise_cons.mp h
    have b1 := b x List.mem_cons_self
    have := cl_len x.natAbs hi h1.2 fun y hy => ⟨h1.1 y hy, (b y (List.mem_cons_of_mem _ hy)).2⟩
    rw [List.length_cons]
    omega
theorem cl_row {t : Int} {row c : List Int} (t4 : t ≤ 400) (ok : RowOk t row) (h : IsCl row c) : RowOk t c ∧ c.length ≤ 400 := by
  refine ⟨⟨fun x hx => ok.low x ((h.mem x).mp hx), fun x hx => ok.top x ((h.mem x).mp hx), fun x hx hn => ok.one x ((h.mem x).mp hx) ((h.mem _).mp hn)⟩, ?_⟩
  have := cl_len 0 400 h.inc fun x hx => by
    have a := ok.low x ((h.mem x).mp hx)
    have b := ok.top x ((h.mem x).mp hx)
    omega
  omega
theorem cl_self {c d : List Int} (inc : c.Pairwise fun a b => a.natAbs < b.natAbs) (h : IsCl c d) : d = c := inc_ext h.inc inc h.mem
/-- the clauses as rows -/
theorem due_rows {t : Int} {rows cs ds : List (List Int)} (t4 : t ≤ 400) (ok : RowsOk t rows) (h : IsDue rows cs) (l : cs.length ≤ rows.length) (sub : ds.Sublist cs) : RowsOk t ds ∧ IsDue ds ds := by
  have inc : ∀ c ∈ ds, ∃ row ∈ rows, IsCl row c := fun c hc => (h.mem c).mp (sub.subset hc)
  refine ⟨⟨Nat.le_trans sub.length_le (Nat.le_trans l ok.1), fun c hc => ?_⟩, h.inc.sublist sub, fun c => ⟨fun hc => ?_, ?_⟩⟩
  · obtain ⟨row, hr, hi⟩ := inc c hc
    have := cl_row t4 (ok.2 row hr).1 hi
    exact ⟨this.1, by omega⟩
  · obtain ⟨row, hr, hi⟩ := inc c hc
    exact ⟨c, hc, hi.inc, fun _ => Iff.rfl⟩
  · rintro ⟨d, hd, hi⟩
    obtain ⟨row, hr, hj⟩ := inc d hd
    rw [cl_self hj.inc hi]
    exact hd
theorem e_make {C : Addr} {sp : Sp} {dvs : List V} {E : XK} {t : TA} {σ : St} {H : Hp} {Q : VK} : tMake C sp dvs E t σ H Q = t σ H fun vs H1 => ∀ x dx, H1 x = none → H1 dx = none → dx ≠ x →
  sp (.ref x :: (vs ++ dvs)) (upd (upd H1 dx (.own x)) x (.ins C dx [])) (fun v H2 => v = .non ∧ Q (.ref x) H2) E := rfl

end
end Toy

-- part: LA1
namespace Toy
open PySem L2
/-! ### all worths, one half behind the other -/
def halves : Nat → List (List Int)
  | 0 => [[]]
  | n + 1 => (halves n).map (· ++ [0]) ++ (halves n).map (· ++ [1])
theorem perm_two {α β : Type} (f g : α → β) : ∀ l : List α, (l.map f ++ l.map g).Perm (l.flatMap fun p => [f p, g p])
  | [] => .nil
  | a :: r => by
    rw [List.map_cons, List.map_cons, List.cons_append, List.flatMap_cons]
    refine List.Perm.cons _ ?_
    refine List.perm_middle.trans (List.Perm.cons _ (perm_two f g r))
theorem perm_flat {α β : Type} (f : α → List β) : ∀ {l m : List α}, l.Perm m → (l.flatMap f).Perm (m.flatMap f) := fun h => by
  induction h with
  | nil => exact .nil
  | cons a _ ih => rw [List.flatMap_cons, List.flatMap_cons]; exact ih.append_left _
  | swap a b l =>
    rw [List.flatMap_cons, List.flatMap_cons, List.flatMap_cons, List.flatMap_cons, ← List.append_assoc, ← List.append_assoc]
    exact List.perm_append_comm.append_right _
  | trans _ _ h1 h2 => exact h1.trans h2
theorem halves_perm : ∀ n, (halves n).Perm (allb n)
  | 0 => List.Perm.refl _
  | n + 1 => (perm_two _ _ (halves n)).trans (perm_flat _ (halves_perm n))
theorem halves_len : ∀ n, (halves n).length = 2 ^ n
  | 0 => rfl
  | n + 1 => by
    show ((halves n).map (· ++ [0]) ++ (halves n).map (· ++ [1])).length = _
    rw [List.length_append, List.length_map, List.length_map, halves_len n, Nat.pow_succ]
    omega
theorem halves_bits {n : Nat} {p : List Int} (h : p ∈ halves n) : Bits n p := allb_len ((halves_perm n).mem_iff.mp h)
section
variable {P : Program} {w : World} {K : PySem.W.Frag} {mg : Str → Option Value} {base : Heap} {C : Addr}
theorem p_catR {H : Hp} {Q : VK} {a b : Addr} {xs ys : List V} (ha : SqT K H a xs) (hb : H b = some (.tup ys)) (ny : ys ≠ []) (hz : xs.length + ys.length ≤ sizeLine) (q : ∀ r H', Same H H' → H' r = some (.tup (xs ++ ys)) → Q (.ref r) H') : rCatA K (.ref a) (.ref b) H Q :=
  ⟨a, b, xs, ys, rfl, rfl, ha, SqT.of hb, hz, fun e => by subst e; exact q b H (Same.refl H) hb, fun _ e => absurd e ny, fun _ _ p hp => q p _ (Same.new hp) upd_same⟩
/-- [x + (b,) for x in found] -/
theorem grow_step {H Hj : Hp} {D : Addr} {xs : List Addr} {ps : List (List Int)} {j : Nat} {x : V} {b : Int} (hD : H D = none) (tx : TupsAt H xs ps) (hk : ∀ p ∈ ps, p.length ≤ 14) (hn : ps.length ≤ 16384) (hj : (xs.map V.ref)[j]? = some x) (ej : Same H Hj)
    (h : ∃ ys, Hj D = some (.lst (ys.map V.ref)) ∧ ys.length = j ∧ TupsAt Hj ys ((ps.take j).map (· ++ [b]))) {R : V → Hp → Prop}
    (q : ∀ (y : V) (H' : Hp), (∃ acc, H' D = some (.lst acc) ∧ acc.length < sizeLine ∧ (Same H (upd H' D (.lst (acc ++ [y]))) ∧ ∃ ys, upd H' D (.lst (acc ++ [y])) D = some (.lst (ys.map V.ref)) ∧ ys.length = j + 1 ∧ TupsAt (upd H' D (.lst (acc ++ [y]))) ys ((ps.take (j + 1)).map (· ++ [b])))) → R y H') :
    tTup (tCons (tC (.int b)) tNil) [] Hj fun y H2 => rCatA K x y H2 R := by
  obtain ⟨ys, hDj, ly, ty⟩ := h
  have eZ : sizeLine = 16777216 := rfl
  rw [List.getElem?_map] at hj
  cases ez : xs[j]? with
  | none => rw [ez] at hj; cases hj
  | some a =>
  rw [ez] at hj
  cases hj
  have hjl : j < xs.length := (List.getElem?_eq_some_iff.mp ez).1
  have lx := TupsAt.len tx
  obtain ⟨p, hp, ha⟩ := TupsAt.get (TupsAt.same ej tx) ez
  have lp := hk p (List.mem_of_getElem? hp)
  refine ⟨by show 1 ≤ sizeLine; decide, fun p1 hp1 => ?_⟩
  refine p_catR (Same.sqt (Same.new hp1) (SqT.of ha)) upd_same (by simp) (by rw [List.length_map]; show _ + 1 ≤ _; omega) fun r H' s' hr => ?_
  have sj := Same.trans (Same.new (o := .tup [V.int b]) hp1) s'
  have hDk := sj _ _ hDj
  refine q (.ref r) H' ⟨_, hDk, by rw [List.length_map]; omega, Same.upl (Same.trans ej sj) hD, ys ++ [r], by rw [upd_same, List.map_append]; rfl, by rw [List.length_append, ly]; rfl, ?_⟩
  rw [List.take_add_one, hp, Option.toList_some, List.map_append]
  refine pairApp (TupsAt.upd hDk (fun ys z => by cases z) (TupsAt.same sj ty)) (.cons ?_ .nil)
  rw [upd_ne (fun z => by rw [z, hDk] at hr; cases hr), hr, List.map_append]
  rfl
/-! ### rows -/
abbrev nRw : List Str := ["many", "found", "k", "row"]
def spRw : Sp := fun vs H Q _ => ∃ n : Nat, vs = [.int (n : Int)] ∧ n ≤ 14 ∧ ∀ (l : Addr) (xs : List Addr) (H' : Hp), Same H H' → H' l = some (.lst (xs.map V.ref)) → TupsAt H' xs (halves n) → Q (.ref l) H'
def tG0 (K : PySem.W.Frag) (i : Nat) : TE := tOp (rCatA K) (tVar i) (tTup (tCons (tC (.int 0)) tNil))
def tG1 (K : PySem.W.Frag) (i : Nat) : TE := tOp (rCatA K) (tVar i) (tTup (tCons (tC (.int 1)) tNil))
end
end Toy

-- part: LA2
namespace Toy
open PySem L2
section
variable {P : Program} {w : World} {K : PySem.W.Frag} {mg : Str → Option Value} {base : Heap} {C : Addr}
theorem lex_irr' : ∀ p : List Int, HT.lexLt p p = false
  | [] => rfl
  | x :: r => by rw [HT.lexLt_cons, if_pos rfl]; exact lex_irr' r
theorem lex_snoc' {p q : List Int} (h : p.length = q.length) (a b : Int) : HT.lexLt (p ++ [a]) (q ++ [b]) = if p = q then decide (a < b) else HT.lexLt p q := by
  induction p generalizing q with
  | nil =>
    cases q with
    | nil =>
      show (if a = b then HT.lexLt [] [] else decide (a < b)) = _
      rw [if_pos rfl]
      by_cases e : a = b
      · rw [if_pos e, e]
        show false = _
        rw [decide_eq_false (by omega)]
      · rw [if_neg e]
    | cons y r => cases h
  | cons x r ih =>
    cases q with
    | nil => cases h
    | cons y s =>
      have h' : r.length = s.length := Nat.succ.inj h
      rw [List.cons_append, List.cons_append, HT.lexLt_cons, HT.lexLt_cons, ih h']
      by_cases e : x = y
      · subst e
        rw [if_pos rfl, if_pos rfl]
        by_cases e2 : r = s
        · rw [if_pos e2, if_pos (by rw [e2])]
        · rw [if_neg e2, if_neg (fun z => e2 (List.cons.inj z).2)]
      · rw [if_neg e, if_neg e, if_neg (fun z => e (List.cons.inj z).1)]
theorem allb_rise' : ∀ n, (allb n).Pairwise fun p q => HT.lexLt p q = true
  | 0 => List.pairwise_singleton _ _
  | n + 1 => by
    show List.Pairwise _ ((allb n).flatMap fun p => [p ++ [0], p ++ [1]])
    rw [List.pairwise_flatMap]
    refine ⟨fun p _ => List.pairwise_pair.mpr ?_, (allb_rise' n).imp_of_mem fun {p q} hp hq h x hx y hy => ?_⟩
    · rw [lex_snoc' rfl, if_pos rfl]
      rfl
    · have l : p.length = q.length := (allb_len hp).1.trans (allb_len hq).1.symm
      have ne : p ≠ q := fun e => by rw [e, lex_irr'] at h; cases h
      simp only [List.mem_cons, List.not_mem_nil, or_false] at hx hy
      rcases hx with rfl | rfl <;> rcases hy with rfl | rfl <;> rw [lex_snoc' l, if_neg ne] <;> exact h
theorem srt_uniq' : ∀ {l m : List (List Int)}, l.Perm m → m.Pairwise (fun p q => HT.lexLt p q = true) → l.Pairwise (fun p q => HT.lexLt q p = false) → l = m
  | [], m, p, _, _ => (List.Perm.nil_eq p)
  | x :: r, [], p, _, _ => by
    have := p.length_eq
    cases this
  | x :: r, y :: s, p, hm, hl => by
    obtain ⟨m1, m2⟩ := List.pairwise_cons.mp hm
    obtain ⟨l1, l2⟩ := List.pairwise_cons.mp hl
    have e : x = y := by
      have hx : x ∈ y :: s := p.mem_iff.mp List.mem_cons_self
      have hy : y ∈ x :: r := p.mem_iff.mpr List.mem_cons_self
      rcases List.mem_cons.mp hx with e | hx
      · exact e
      · rcases List.mem_cons.mp hy with e | hy
        · exact e.symm
        · have a := m1 x hx
          have b := l1 y hy
          rw [a] at b
          cases b
    subst e
    rw [srt_uniq' p.cons_inv m2 l2]
theorem halves_ans {n : Nat} {cs S : List (List Int)} (pm : S.Perm ((halves n).filter fun p => holdsC p cs)) (r : S.Pairwise fun p q => HT.lexLt q p = false) : S = ansL n cs :=
  srt_uniq' (pm.trans ((halves_perm n).filter _)) ((allb_rise' n).sublist List.filter_sublist) r
/-! ### the answers, one by one -/
abbrev nLA : List Str := ["many", "clauses", "found", "k", "answer", "clause"]
def scLAo : Scope := { kind := .function, names := [(".0", .local), ("answer", .cell), ("all", .globalImplicit), ("clauses", .cell)], isGenerator := false, isCoroutine := false }
def spLA (K : PySem.W.Frag) : Sp := fun vs H Q _ => ∃ (n : Nat) (cl : Addr) (bs : List Addr) (cs : List (List Int)), vs = [.int (n : Int), .ref cl] ∧ n ≤ 14 ∧ SqL K H cl (bs.map V.ref) ∧ TupsAt H bs cs ∧ (∀ c ∈ cs, c.length ≤ 1000) ∧ LtCs n cs ∧ cs.length ≤ 900 ∧
  ∀ (l : Addr) (xs : List Addr) (H' : Hp), Same H H' → H' l = some (.lst (xs.map V.ref)) → TupsAt H' xs (ansL n cs) → Q (.ref l) H'
def tHoA (K : PySem.W.Frag) : TE := tCall (spHo K) [] E0 (tCons (tVar 5) (tCons (tVar 4) tNil))
end
end Toy

-- part: KD1
namespace Toy
open PySem L2
/-! ### truths that are fixed -/
/-- rows in which some truths are given -/
def rowsF (g : Nat → Option Int) : Nat → List (List Int)
  | 0 => [[]]
  | t + 1 => match g (t + 1) with
    | some b => (rowsF g t).map (· ++ [b])
    | none => (rowsF g t).map (· ++ [0]) ++ (rowsF g t).map (· ++ [1])
theorem rowsF_sub {g : Nat → Option Int} (hg : ∀ t b, g t = some b → b = 0 ∨ b = 1) : ∀ n, (rowsF g n).Sublist (halves n)
  | 0 => List.Sublist.refl _
  | t + 1 => by
    have ih := rowsF_sub hg t
    show (match g (t + 1) with | some b => (rowsF g t).map (· ++ [b]) | none => (rowsF g t).map (· ++ [0]) ++ (rowsF g t).map (· ++ [1])).Sublist ((halves t).map (· ++ [0]) ++ (halves t).map (· ++ [1]))
    cases h : g (t + 1) with
    | none => exact (ih.map _).append (ih.map _)
    | some b =>
      rcases hg _ _ h with rfl | rfl
      · exact (ih.map _).trans (List.sublist_append_left _ _)
      · exact (ih.map _).trans (List.sublist_append_right _ _)
theorem getD_snoc {p : List Int} {b : Int} : (p ++ [b]).getD p.length 0 = b := by
  rw [List.getD_eq_getElem?_getD, List.getElem?_append_right (Nat.le_refl _), Nat.sub_self]
  rfl
theorem getD_front {p : List Int} {b : Int} {i : Nat} (h : i < p.length) : (p ++ [b]).getD i 0 = p.getD i 0 := by
  rw [List.getD_eq_getElem?_getD, List.getD_eq_getElem?_getD, List.getElem?_append_left h]
theorem snoc_of {p : List Int} {t : Nat} (h : p.length = t + 1) : ∃ q b, p = q ++ [b] ∧ q.length = t := by
  refine ⟨p.dropLast, p.getLast (by intro z; rw [z] at h; cases h), (List.dropLast_concat_getLast _).symm, ?_⟩
  rw [List.length_dropLast, h]
  rfl
theorem rowsF_mem {g : Nat → Option Int} (hg : ∀ t b, g t = some b → b = 0 ∨ b = 1) : ∀ {n : Nat} {p : List Int}, p ∈ rowsF g n ↔ Bits n p ∧ ∀ t b, t < n → g (t + 1) = some b → p.getD t 0 = b
  | 0, p => by
    constructor
    · intro h
      rw [List.mem_singleton.mp h]
      exact ⟨⟨rfl, fun x hx => nomatch hx⟩, fun t b ht => absurd ht (by omega)⟩
    · rintro ⟨h, _⟩
      rw [List.eq_nil_of_length_eq_zero h.1]
      exact List.mem_singleton.mpr rfl
  | n + 1, p => by
    have ih := fun q => @rowsF_mem g hg n q
    have step : ∀ (q : List Int) (b : Int), q ∈ rowsF g n → (b = 0 ∨ b = 1) → (∀ c, g (n + 1) = some c → b = c) → Bits (n + 1) (q ++ [b]) ∧ ∀ t c, t < n + 1 → g (t + 1) = some c → (q ++ [b]).getD t 0 = c := fun q b hq hb hc => by
      obtain ⟨⟨l, bb⟩, hh⟩ := (ih q).mp hq
      refine ⟨⟨by rw [List.length_append, l]; rfl, fun x hx => ?_⟩, fun t c ht hc2 => ?_⟩
      · rcases List.mem_append.mp hx with hx | hx
        · exact bb x hx
        · rw [List.mem_singleton.mp hx]; exact hb
      · by_cases e : t = n
        · subst e
          have := getD_snoc (p := q) (b := b)
          rw [l] at this
          rw [this]
          exact hc c hc2
        · rw [getD_front (by omega)]
          exact hh t c (by omega) hc2
    have back : ∀ (q : List Int) (b : Int), q.length = n → (Bits (n + 1) (q ++ [b]) ∧ ∀ t c, t < n + 1 → g (t + 1) = some c → (q ++ [b]).getD t 0 = c) → q ∈ rowsF g n ∧ (b = 0 ∨ b = 1) ∧ ∀ c, g (n + 1) = some c → b = c := fun q b l ⟨⟨_, bb⟩, hh⟩ => by
      refine ⟨(ih q).mpr ⟨⟨l, fun x hx => bb x (List.mem_append_left _ hx)⟩, fun t c ht hc => ?_⟩, bb b (List.mem_append_right _ List.mem_cons_self), fun c hc => ?_⟩
      · have := hh t c (by omega) hc
        rwa [getD_front (by omega)] at this
      · have := hh n c (by omega) hc
        rw [← l, getD_snoc] at this
        exact this
    show p ∈ (match g (n + 1) with | some b => (rowsF g n).map (· ++ [b]) | none => (rowsF g n).map (· ++ [0]) ++ (rowsF g n).map (· ++ [1])) ↔ _
    cases h : g (n + 1) with
    | none =>
      constructor
      · intro hp
        rcases List.mem_append.mp hp with hp | hp <;> obtain ⟨q, hq, rfl⟩ := List.mem_map.mp hp
        · exact step q 0 hq (.inl rfl) fun c hc => by rw [h] at hc; cases hc
        · exact step q 1 hq (.inr rfl) fun c hc => by rw [h] at hc; cases hc
      · intro hp
        obtain ⟨q, b, rfl, l⟩ := snoc_of hp.1.1
        obtain ⟨hq, hb, _⟩ := back q b l hp
        rcases hb with rfl | rfl
        · exact List.mem_append_left _ (List.mem_map.mpr ⟨q, hq, rfl⟩)
        · exact List.mem_append_right _ (List.mem_map.mpr ⟨q, hq, rfl⟩)
    | some b =>
      constructor
      · intro hp
        obtain ⟨q, hq, rfl⟩ := List.mem_map.mp hp
        exact step q b hq (hg _ _ h) fun c hc => by rw [h] at hc; cases hc; rfl
      · intro hp
        obtain ⟨q, b', rfl, l⟩ := snoc_of hp.1.1
        obtain ⟨hq, _, hc⟩ := back q b' l hp
        rw [hc b h]
        exact List.mem_map.mpr ⟨q, hq, rfl⟩
theorem lex_irrK : ∀ p : List Int, HT.lexLt p p = false
  | [] => rfl
  | x :: r => by rw [HT.lexLt_cons, if_pos rfl]; exact lex_irrK r
theorem halves_nodup (n : Nat) : (halves n).Nodup := (halves_perm n).nodup_iff.mpr ((allb_rise' n).imp fun {a b} h e => by rw [e, lex_irrK] at h; cases h)
/-- what the pairs of the fixed letters say -/
def bitI (l : Int) : Int := if 0 < l then 1 else 0
def kvF (ls : List Int) : List (Key × V) := ls.map fun l => (Sum.inl (absI l), V.int (bitI l))
/-- letters of unlike truths -/
structure FxOk (n : Nat) (ls : List Int) : Prop where
  lt : ∀ x ∈ ls, Lt n x
  up : ls.Pairwise fun x y => absI x < absI y
theorem FxOk.one {n : Nat} {ls : List Int} (o : FxOk n ls) : ∀ {x y : Int}, x ∈ ls → y ∈ ls → absI x = absI y → x = y := by
  intro x y hx hy e
  by_cases z : x = y
  · exact z
  · exfalso
    have := o.up.imp (fun {a b} h => (Int.ne_of_lt h : absI a ≠ absI b))
    have h2 : (ls.map absI).Nodup := List.pairwise_map.mpr this
    obtain ⟨i, hi, rfl⟩ := List.getElem_of_mem hx
    obtain ⟨j, hj, rfl⟩ := List.getElem_of_mem hy
    have := (List.getElem?_inj (l := ls.map absI) (i := i) (j := j) (by rw [List.length_map]; exact hi) h2).mp (by rw [List.getElem?_map, List.getElem?_map, List.getElem?_eq_getElem hi, List.getElem?_eq_getElem hj, Option.map_some, Option.map_some, e])
    subst this
    exact z rfl
theorem val_merge : ∀ (more kvs : List (Key × V)) (k : Key), (∃ kv ∈ more, kv.1 = k ∧ valV (mergeK kvs more) k = some kv.2) ∨ ((∀ kv ∈ more, kv.1 ≠ k) ∧ valV (mergeK kvs more) k = valV kvs k)
  | [], kvs, k => .inr ⟨fun _ h => (nomatch h), rfl⟩
  | kv :: r, kvs, k => by
    show (∃ x ∈ kv :: r, x.1 = k ∧ valV (mergeK (putK kvs kv.1 kv.2) r) k = some x.2) ∨ ((∀ x ∈ kv :: r, x.1 ≠ k) ∧ valV (mergeK (putK kvs kv.1 kv.2) r) k = valV kvs k)
    rcases val_merge r (putK kvs kv.1 kv.2) k with ⟨x, hx, e1, e2⟩ | ⟨h1, h2⟩
    · exact .inl ⟨x, List.mem_cons_of_mem _ hx, e1, e2⟩
    · rw [valV_put] at h2
      by_cases e : k = kv.1
      · rw [if_pos e] at h2
        exact .inl ⟨kv, List.mem_cons_self, e.symm, h2⟩
      · rw [if_neg e] at h2
        refine .inr ⟨fun x hx => ?_, h2⟩
        rcases List.mem_cons.mp hx with rfl | hx
        · exact fun z => e z.symm
        · exact h1 x hx
/-- the bit of a fixed truth -/
def fixG (ls : List Int) (t : Nat) : Option Int := match valV (mergeK [] (kvF ls)) (Sum.inl (t : Int)) with
  | some (.int b) => some b
  | _ => none
theorem fix_some {ls : List Int} {t : Nat} : (∃ l ∈ ls, absI l = (t : Int) ∧ valV (mergeK [] (kvF ls)) (Sum.inl (t : Int)) = some (.int (bitI l)) ∧ fixG ls t = some (bitI l)) ∨ ((∀ l ∈ ls, absI l ≠ (t : Int)) ∧ valV (mergeK [] (kvF ls)) (Sum.inl (t : Int)) = none ∧ fixG ls t = none) := by
  unfold fixG
  rcases val_merge (kvF ls) [] (Sum.inl (t : Int)) with ⟨kv, hkv, e1, e2⟩ | ⟨h1, h2⟩
  · unfold kvF at hkv
    obtain ⟨l, hl, rfl⟩ := List.mem_map.mp hkv
    refine .inl ⟨l, hl, Sum.inl.inj e1, e2, ?_⟩
    rw [e2]
  · have h2 : valV (mergeK [] (kvF ls)) (Sum.inl (t : Int)) = none := h2
    refine .inr ⟨fun l hl e => h1 (Sum.inl (absI l), V.int (bitI l)) (List.mem_map.mpr ⟨l, hl, rfl⟩) (by rw [e]), h2, ?_⟩
    rw [h2]
theorem fixG_01 {ls : List Int} (t : Nat) (b : Int) (h : fixG ls t = some b) : b = 0 ∨ b = 1 := by
  rcases fix_some (ls := ls) (t := t) with ⟨l, _, _, _, e⟩ | ⟨_, _, e⟩
  · rw [e] at h
    cases h
    unfold bitI
    split <;> simp
  · rw [e] at h
    cases h
theorem hold_one {p : List Int} {l : Int} : [l].any (hd p) = hd p l := by rw [List.any_cons, List.any_nil, Bool.or_false]
/-- rows that keep to the fixed truths, and hold more, are the answers -/
theorem fixed_ans {n : Nat} {ls : List Int} {more S : List (List Int)} (o : FxOk n ls) (pm : S.Perm ((rowsF (fixG ls) n).filter fun p => holdsC p more)) (r : S.Pairwise fun p q => HT.lexLt q p = false) : S = ansL n (more ++ ls.map fun l => [l]) := by
  refine halves_ans (pm.trans ?_) r
  have sub := rowsF_sub (g := fixG ls) (fun t b h => fixG_01 t b h) n
  refine (List.perm_ext_iff_of_nodup ((halves_nodup n).sublist sub |>.sublist List.filter_sublist) ((halves_nodup n).sublist List.filter_sublist)).mpr fun p => ?_
  rw [List.mem_filter, List.mem_filter, rowsF_mem (fun t b h => fixG_01 t b h)]
  have fixH : ∀ {p : List Int}, holdsC p (ls.map fun l => [l]) = true ↔ ∀ l ∈ ls, hd p l = true := fun {p} => by
    unfold holdsC
    rw [List.all_eq_true]
    constructor
    · intro h l hl
      have := h [l] (List.mem_map.mpr ⟨l, hl, rfl⟩)
      rwa [hold_one] at this
    · intro h c hc
      obtain ⟨l, hl, rfl⟩ := List.mem_map.mp hc
      rw [hold_one]
      exact h l hl
  have both : holdsC p (more ++ ls.map fun l => [l]) = (holdsC p more && holdsC p (ls.map fun l => [l])) := by
    unfold holdsC
    rw [List.all_append]
  rw [both, Bool.and_eq_true, fixH]
  constructor
  · rintro ⟨⟨b, hh⟩, hm⟩
    refine ⟨(halves_perm n).mem_iff.mpr (allb_mem b), hm, fun l hl => ?_⟩
    have q := o.lt l hl
    obtain ⟨q1, q2⟩ := q
    rcases fix_some (ls := ls) (t := (absI l).toNat) with ⟨l', hl', e1, _, e3⟩ | ⟨h1, _⟩
    · have e : l' = l := o.one hl' hl (by rw [e1]; omega)
      subst e
      have h3 := hh ((absI l').toNat - 1) (bitI l') (by omega) (by rw [show (absI l').toNat - 1 + 1 = (absI l').toNat by omega]; exact e3)
      unfold hd
      rw [show (absI l' - 1).toNat = (absI l').toNat - 1 by omega, h3]
      unfold bitI
      exact decide_eq_true rfl
    · exact absurd (by omega) (h1 l hl)
  · rintro ⟨hp, hm, hf⟩
    have b := halves_bits hp
    refine ⟨⟨b, fun t c ht hc => ?_⟩, hm⟩
    rcases fix_some (ls := ls) (t := t + 1) with ⟨l, hl, e1, _, e3⟩ | ⟨_, _, e3⟩
    · rw [e3] at hc
      cases hc
      have h3 := hf l hl
      unfold hd at h3
      have h4 := of_decide_eq_true h3
      rw [show (absI l - 1).toNat = t by omega] at h4
      exact h4
    · rw [e3] at hc
      cases hc
end Toy

-- part: KD2
namespace Toy
open PySem L2
section
variable {P : Program} {w : World} {K : PySem.W.Frag} {mg : Str → Option Value} {base : Heap}
/-! ### _law_fixed -/
abbrev sFx : Stmt := s__law_fixed
abbrev nFx : List Str := ["draw", "many", "loose", "found", "truth"]
theorem scFx : FnScope nFx ["draw", "many", "loose"] (defScope sFx) := ⟨rfl, rfl, rfl, by decide +kernel, rfl, by decide +kernel, by decide +kernel⟩
def spFx (K : PySem.W.Frag) : Sp := fun vs H Q _ => ∃ (d lo : Addr) (n : Nat) (zs : List Int) (sc : Addr) (ns : List Int), vs = [.ref d, .int n, .ref lo] ∧ n ≤ 400 ∧ DrA K sc ns H d ∧ H lo = some (.lst (zs.map V.int)) ∧ lo ≠ d ∧
  ∀ (l : Addr) (xs : List Addr) (ls : List Int) (H' : Hp), Ex d H H' → DrA K sc ns H' d → H l = none → H' l = some (.lst (xs.map V.ref)) → TupsAt H' xs (ls.map fun l => [l]) → FxOk n ls → ls.length ≤ n → Q (.ref l) H'
theorem ok_fx {f fX : Addr} {fd fdX : FuncData} (F : Fun K "_law_fixed" "_law_fixed" sFx f fd) (B : Bl mg) (X : Df K mg "_law_next" sNext ["draw", "size"] fX fdX) (GX : FnOk P w K mg base CX0 2 fX fdX ["draw", "size"] (spNext K)) : FnOk P w K mg base CX0 3 f fd ["draw", "many", "loose"] (spFx K) := by
  refine F.ok scFx (fun vs H Q E h => ?_) (fun cdv A outer s H vs Q E hr h => ?_)
  · obtain ⟨d, lo, n, zs, sc, ns, rfl, _⟩ := h
    rfl
  · obtain ⟨d, lo, n, zs, sc, ns, rfl, n4, hD, hlo, nlo, q⟩ := h
    refine ⟨_, pss_cons (ps_set (i := 3) scFx.nd rfl (Or.inl rfl) (pe_lst pa_nil))
      (pss_cons (ps_for PassesOwn.never rfl (pi_range2 rfl B.range (pa_cons pe_int (pa_cons (pe_op op_add (pv 1) pe_int) pa_nil))) (pg_name (i := 4) scFx.nd rfl (Or.inl rfl))
        (pss_one (ps_if (pt_cmpR (r := rIn K true) op_notIn_seq (pv 4) (pv 2) rfl)
          (pss_one (ps_expr (pe_bm PySem.F.plainAttrs_list PySem.F.slot_list_append PySem.F.type_list_append mt_append (pv 3) (pa_cons (pe_tup (pa_cons (pe_ix ix_list (pe_lst (pa_cons (pv 4) (pa_cons (pe_un un_neg (pv 4)) pa_nil))) (pe_call GX hr rfl X.g X.F.kp X.b .nil pass0 (pa_cons (pv 0) (pa_cons pe_int pa_nil))) (fun _ _ => rfl)) pa_nil)) pa_nil)))) pss_nil)))
      (pss_one (ps_ret (pv 3)))), ?_⟩
    show tSeq _ _ _ [some (.ref d), some (.int n), some (.ref lo), none, none] H
    have eZ : sizeLine = 16777216 := rfl
    walk_at "rd"
    refine ⟨Nat.zero_le _, fun l hl => ?_⟩
    have nld := hD.nd hl
    refine ⟨_, rfl, _, _, rfl, rfl, 1, (n : Int) + 1, rfl, by omega, ?_⟩
    rw [show ((n : Int) + 1 - 1).toNat = n by omega]
    refine for_range (lo := 1) (n := n) (fun i σ H' => ∃ (l4 : Option V) (xs : List Addr) (ls : List Int), σ = [some (.ref d), some (.int n), some (.ref lo), some (.ref l), l4] ∧ Ex d H H' ∧ DrA K sc ns H' d ∧ H' l = some (.lst (xs.map V.ref)) ∧ TupsAt H' xs (ls.map fun l => [l]) ∧ FxOk i ls ∧ ls.length ≤ i)
      ⟨_, [], [], rfl, Ex.new hl, DrA.same (Same.new hl) hD, upd_same, .nil, ⟨fun _ h => (nomatch h), .nil⟩, Nat.le_refl _⟩ ?_ ?_
    · rintro i σ H1 hi ⟨l4, xs, ls, rfl, E1, D1, hl1, t1, fo, ln⟩
      show tIfS _ _ _ _ [some (.ref d), some (.int n), some (.ref lo), some (.ref l), some (.int (1 + (i : Int)))] H1
      have lx := TupsAt.len t1
      rw [List.length_map] at lx
      have fo1 : FxOk (i + 1) ls := ⟨fun x hx => ⟨(fo.lt x hx).1, by have := (fo.lt x hx).2; omega⟩, fo.up⟩
      walk_at "rd"
      refine ⟨lo, zs.map V.int, rfl, .inl (SqL.of (E1 _ _ hlo nlo)), rfl, by rw [List.all_map]; exact List.all_eq_true.mpr fun _ _ => rfl, ?_⟩
      cases inV (V.int (1 + (i : Int))) (zs.map V.int) with
      | false =>
        refine ⟨true, rfl, iteT ?_⟩
        refine ⟨.inl ⟨rfl, _, SqL.of hl1⟩, by show 2 ≤ sizeLine; decide, fun p hp => ?_⟩
        have sp1 : Same H1 (upd H1 p (.lst [V.int (1 + (i : Int)), V.int (-(1 + (i : Int)))])) := Same.new hp
        have hp1 : upd H1 p (.lst [V.int (1 + (i : Int)), V.int (-(1 + (i : Int)))]) p = some (.lst [V.int (1 + (i : Int)), V.int (-(1 + (i : Int)))]) := upd_same
        have npd := D1.nd hp
        generalize upd H1 p (.lst [V.int (1 + (i : Int)), V.int (-(1 + (i : Int)))]) = H2 at *
        refine ⟨d, 2, sc, ns, rfl, by decide, DrA.same sp1 D1, fun r H3 r0 r1 E3 D3 => ?_⟩
        have pick : ∃ y : Int, atI [V.int (1 + (i : Int)), V.int (-(1 + (i : Int)))] r = some (.int y) ∧ absI y = 1 + (i : Int) := by
          have ab : absI (1 + (i : Int)) = 1 + (i : Int) := by unfold absI; rw [if_neg (by omega)]
          rcases at_two (a := V.int (1 + (i : Int))) (b := V.int (-(1 + (i : Int)))) r0 r1 with ⟨_, e⟩ | ⟨_, e⟩
          · exact ⟨_, e, ab⟩
          · exact ⟨_, e, by rw [absI_neg, ab]⟩
        obtain ⟨y, haty, hy⟩ := pick
        refine p_ix (SqL.of (E3 _ _ hp1 npd)) haty ?_
        have E13 : Ex d H1 H3 := Ex.trans (Ex.same sp1) E3
        refine ⟨by show 1 ≤ sizeLine; decide, fun r2 hr2 => ?_⟩
        have s4 := Same.new (o := .tup [V.int y]) hr2
        have h4 : upd H3 r2 (.tup [V.int y]) r2 = some (.tup [V.int y]) := upd_same
        have hl4 := s4 _ _ (E13 _ _ hl1 nld)
        generalize upd H3 r2 (.tup [V.int y]) = H4 at *
        have E04 : Ex d H H4 := Ex.trans (Ex.trans E1 E13) (Ex.same s4)
        refine ⟨l, _, _, rfl, rfl, hl4, by rw [List.length_map]; omega, _, xs ++ [r2], ls ++ [y], rfl, Ex.up E04 hl, DrA.up hD (DrA.same s4 D3) E04 hl, by rw [upd_same, List.map_append]; rfl, ?_, ⟨fun x hx => ?_, ?_⟩, by rw [List.length_append]; show _ + 1 ≤ _; omega⟩
        · rw [List.map_append]
          exact TupsAt.upd hl4 (fun ys z => by cases z) (pairApp (TupsAt.same s4 (TupsAt.ex D1 E13 t1)) (.cons h4 .nil))
        · rcases List.mem_append.mp hx with hx | hx
          · exact fo1.lt x hx
          · rw [List.mem_singleton.mp hx]
            exact ⟨by omega, by omega⟩
        · refine List.pairwise_append.mpr ⟨fo.up, List.pairwise_singleton _ _, fun a ha b hb => ?_⟩
          rw [List.mem_singleton.mp hb, hy]
          have := (fo.lt a ha).2
          omega
      | true => exact ⟨false, rfl, iteF ⟨_, xs, ls, rfl, E1, D1, hl1, t1, fo1, by omega⟩⟩
    · rintro σ H1 ⟨l4, xs, ls, rfl, E1, D1, hl1, t1, fo, ln⟩
      exact ⟨_, rfl, q l xs ls H1 E1 D1 hl hl1 t1 fo ln⟩
end
end Toy

-- part: DL1
namespace Toy
open PySem L2
section
variable {P : Program} {w : World} {K : PySem.W.Frag} {mg : Str → Option Value} {base : Heap} {C : Addr}
/-! ### lists of clauses as data -/
def dLcl (cs : List (List Int)) : PyData := .list (cs.map dTup)
theorem shaped_lcl (cs : List (List Int)) : SeqAt.shaped (dLcl cs) = true := by
  have h := dep_cls cs
  unfold SeqAt.shaped dLcl
  rw [Bool.and_eq_true]
  refine ⟨by simp [PyData.canLay0, can_cls], decide_eq_true ?_⟩
  simp only [PyData.depth]
  omega
theorem eqv_lcl (a b : List (List Int)) : PyData.eqv (dLcl a) (dLcl b) = decide (a = b) := by
  unfold dLcl
  simp only [PyData.eqv]
  exact eqvAll_cls a b
theorem eqv_tup (a b : List Int) : PyData.eqv (dTup a) (dTup b) = decide (a = b) := by
  unfold dTup
  simp only [PyData.eqv]
  exact eqvAll_ints a b
theorem any_tup (S : List Int) : ∀ cs : List (List Int), ((cs.map dTup).any fun z => PyData.eqv z (dTup S)) = decide (S ∈ cs)
  | [] => by simp
  | c :: r => by
    rw [List.map_cons, List.any_cons, any_tup S r, eqv_tup, Bool.eq_iff_iff]
    simp only [Bool.or_eq_true, decide_eq_true_eq, List.mem_cons]
    exact or_congr_left ⟨Eq.symm, Eq.symm⟩
theorem dp_lcl {H : Hp} {l : Addr} {bs : List Addr} {cs : List (List Int)} (h : SqL K H l (bs.map V.ref)) (t : TupsAt H bs cs) : Dp K H (.ref l) (dLcl cs) := .lst h (dpAll_cls t)
theorem dpAll_rowsT {H : Hp} : ∀ {bs : List Addr} {cs : List (List Int)}, RowsT K H bs cs → DpAll K H (bs.map V.ref) (cs.map dTup)
  | _, _, .nil => .nil
  | _, _, .cons h t => .cons (.tup h (dpAll_ints _)) (dpAll_rowsT t)
theorem dp_rowsT {H : Hp} {l : Addr} {bs : List Addr} {cs : List (List Int)} (h : SqL K H l (bs.map V.ref)) (t : RowsT K H bs cs) : Dp K H (.ref l) (dLcl cs) := .lst h (dpAll_rowsT t)
end
end Toy

-- part: EX1
/-! an exception that is kept behind its except suite: «except X as e: error = e» -/
namespace Toy
open PySem PySem.Spec PyProof.Rows L2
/-- an exception of class cls at a, its own dict at d -/
def ErrO (cls : Value) (d : Option Addr) (a : Addr) : HO := .ext fun h => ∃ (oe : Obj) (vs : Array Value), h.get? a = some oe ∧ Zc cls d oe ∧ oe.data = .fields vs
theorem errO_ok {P : Program} {w : World} {H : Hp} {h : Heap} {a : Addr} {cls : Value} {d : Option Addr} {oe : Obj} {vs : Array Value} (e : h.get? a = some oe) (z : Zc cls d oe) (hd : oe.data = .fields vs) : ObjOk P w H h a (ErrO cls d a) :=
  ⟨⟨oe, vs, e, z, hd⟩, ⟨oe, e⟩, fun h1 h2 ⟨o1, v1, q1, q2, q3⟩ k => ⟨o1, v1, k _ q1, q2, q3⟩⟩
theorem errO_at {P : Program} {w : World} {H : Hp} {h : Heap} {a : Addr} {cls : Value} {d : Option Addr} (x : HOk P w H h) (e : H a = some (ErrO cls d a)) : ∃ (oe : Obj) (vs : Array Value), h.get? a = some oe ∧ Zc cls d oe ∧ oe.data = .fields vs := (x a _ e).1
theorem err_tbl {cls : Value} {d : Option Addr} {a : Addr} (ps : Array Value) : ErrO cls d a ≠ .tbl ps := fun z => by
  unfold ErrO at z
  cases z
section
variable {X : Cx} {pins : List (Addr × Obj)} {σ : L2.St} {H : Hp} {s : Shared}
/-- an object that came behind the entry, untracked so far, is tracked from now on -/
theorem Inv.keepErr {a : Addr} {cls : Value} {d : Option Addr} {oe : Obj} {vs : Array Value} (I : Inv X pins σ H s) (ha : s.heap.get? a = some oe) (z : Zc cls d oe) (hd : oe.data = .fields vs) (na : H a = none) (nl : a ≠ X.env.locals)
    (n0 : X.s_0.heap.get? a = none) (np : ∀ p ∈ X.pn ++ pins, p.1 ≠ a) : Inv X pins σ (upd H a (ErrO cls d a)) s := by
  have ne : ∀ {b : Addr} {o : HO}, H b = some o → b ≠ a := fun hb => ne_of_none hb na
  have nc : ∀ x c, X.env.cells.lookup x = some c → c ≠ a := fun x c hc e => by
    obtain ⟨v, o, ho, hv⟩ := I.cell x c hc
    rw [e, ha] at ho
    cases ho
    rw [hd] at hv
    cases hv
  refine { ok := I.ok, os := I.os, bare := I.bare, loc := I.loc, cell := I.cell, len := I.len, base := ?_, free := ?_, freeC := ?_, pin := ?_, hok := ?_ }
  · refine ⟨I.base.keep, I.base.slot, fun b o hb n hx => ?_, I.base.there, fun b xs hb => ?_, fun b o u hb => ?_, fun b ps hb => ?_⟩
    · have nb : b ≠ a := fun e => by rw [e, n0] at hb; cases hb
      rw [upd_ne nb]
      exact I.base.free b o hb n hx
    · have h1 := I.base.tups b xs hb
      rw [upd_ne (ne h1)]
      exact h1
    · have h1 := I.base.frzs b o u hb
      rw [upd_ne (ne h1)]
      exact h1
    · obtain ⟨more, h1⟩ := I.base.tbls b ps hb
      exact ⟨more, by rw [upd_ne (ne h1)]; exact h1⟩
  · rw [upd_ne (Ne.symm nl)]
    exact I.free
  · intro x c hc
    rw [upd_ne (nc x c hc)]
    exact I.freeC x c hc
  · intro p hp
    obtain ⟨h1, h2, h3⟩ := I.pin p hp
    exact ⟨h1, by rw [upd_ne (np p hp)]; exact h2, h3⟩
  · intro b u hb
    by_cases e : b = a
    · subst e
      rw [upd_same] at hb
      cases hb
      exact errO_ok ha z hd
    · rw [upd_ne e] at hb
      exact (I.hok b u hb).stay (fun c v _ q => q) (fun c q => by rw [upd_ne (ne q)]; exact q) fun c xs q => by rw [upd_ne (ne q)]; exact q
end
/-- what the clause «except x as n» wishes of an exception, that is kept: slot i is n's -/
def wKeep (K : PySem.W.Frag) (c : Value) (i : Nat) (ts : Addr → Value → Option Addr → TS) (Wout : WX) (D : Ends) : WX := fun cls d σ H =>
  ∃ b, PySem.W.exmOne K cls c = some b ∧ (b = false → Wout cls d σ H) ∧
    (b = true → ∀ a, H a = none → ts a cls d { nx := fun σ' H' => D.nx (σ'.set i none) (upd H' a (ErrO cls d a)), rt := fun v H' => D.rt v (upd H' a (ErrO cls d a)), bk := fun σ' H' => D.bk (σ'.set i none) (upd H' a (ErrO cls d a)), ct := fun σ' H' => D.ct (σ'.set i none) (upd H' a (ErrO cls d a)) } (σ.set i (some (.ref a))) H)
section
variable {X : Cx} {x n : Str} {c : Value} {i : Nat} {body rest : List Stmt} {first : Stmt} {p1 p2 p3 : Pos} {tb : WX → TS} {ts : Addr → Value → Option Addr → TS} {Wout : WX}
theorem ps_try_keep (hst : X.stack = X.env :: X.outer) (hfm : X.env.frame = some X.env.locals) (hnd : X.N.Nodup) (hix : X.N[i]? = some n) (hkn : X.env.kindOf n = some .local) (hnm : Names X x c) (hex : X.ex = []) (tk : Takes X Wout)
    (hbd : ∀ (W : WX) (pn : List (Addr × Obj)) (xe : Value → Shared → Prop), Takes (X.tr pn xe) W → PassesOwn (model X.prog X.w) X.A X.env xe → PSs (X.tr pn xe) body (tb W))
    (hst2 : ∀ (a : Addr) (oe : Obj) (cls : Value) (d : Option Addr) (pn : List (Addr × Obj)), Zc cls d oe → (∃ vs, oe.data = .fields vs) → PSs (X.suite a ((a, oe) :: pn)) (first :: rest) (ts a cls d)) :
    PS X (.Try body [.ExceptHandler (some (.Name x p1)) (some n) (first :: rest) p2] [] [] p3) (fun D σ H => tb (wKeep X.K c i ts Wout D) D σ H) := by
  refine ⟨fun pins s σ H D I h => ?_⟩
  have okX := I.ok
  have eFr : X.A.frames = some (X.env :: X.outer) := by
    rw [okX.frames, hst]
  have eLoc : Loc X.env.scope n := .inl hkn
  have run := (hbd (wKeep X.K c i ts Wout D) (X.pn ++ pins) (fun e sa => wpAny (model X.prog X.w) X.A (noteFrame e X.env) (fun _ sb => wpAny (model X.prog X.w) X.A (setFlight e none) (fun _ sc =>
    wpAny (model X.prog X.w) X.A (handleBy e X.env [.ExceptHandler (some (.Name x p1)) (some n) (first :: rest) p2]) (SP X pins D) X.xe sc) X.xe sb) X.xe sa) ?caught PassesOwn.looking).run [] s σ H D (I.toTry _) h
  case caught =>
    rintro u sX ⟨a, B, sI, pq, σ1, H1, cls, d, rfl, JT, inB, ups, sky, nH, eos, bare, b, hm, hno, hyes⟩
    have J : Inv X pins σ1 H1 sI := JT.ofTry okX
    have sky2 : Sky B (X.env :: X.outer) a (Zc cls d) X.env.locals sX.heap := by
      rw [← hst]
      exact sky
    show wpAny (model X.prog X.w) X.A (noteFrame (.ref a) X.env) _ _ _
    refine Sky.land Zc.steady eFr hfm sky2 fun hp fy upf => ?_
    have JL : Inv X pins σ1 H1 { sX with heap := hp } := J.landed inB fy.1 (ups.trans upf) eos bare
    obtain ⟨oL, vL, gL, zL, dL⟩ := fy.there
    have nfrm : a ∉ frs (X.env :: X.outer) := fun hin => by
      obtain ⟨_, o2, g2, nf⟩ := fy.2.2.1.mem hin
      rw [gL] at g2
      cases g2
      exact nf _ dL
    have nloc : a ≠ X.env.locals := fun e => nfrm (List.mem_filterMap.mpr ⟨X.env, List.mem_cons_self, by rw [hfm, e]⟩)
    have nfs : a ∉ X.fs := fun hin => by
      obtain ⟨e, he, q⟩ := List.mem_filterMap.mp hin
      exact nfrm (List.mem_filterMap.mpr ⟨e, List.mem_cons_of_mem _ he, q⟩)
    have notI : ∀ b o, sI.heap.get? b = some o → b ∉ frs X.stack → b ≠ a := fun b o hb hfr e => by
      have := inB b o hb hfr
      rw [e, fy.2.1] at this
      cases this
    have SL := JL.suite gL dL nH nloc nfs
    refine wpAny_handleBy_cons (codeAny_handlers_test ?_) (fun q => by cases q)
    have lookT : PySem.W.Looks (model X.prog X.w) hp (typeOf (.ref a)) cls := fun A Q E s k q => wpAny_typeOf_ref (k _ _ gL) (by rw [zL.1]; exact q)
    have lookM := PySem.W.exm_one (M := model X.prog X.w) (JL.kIn) lookT hm
    have asks : ∀ {Q E : Value → Shared → Prop}, Q c { sX with heap := hp } → wpAny (model X.prog X.w) (X.A.mark (some (.ref a))) (eval (.Name x p1) X.env) Q E { sX with heap := hp } := fun {Q E} q => by
      obtain ⟨hgl, hdbg, hmg | ⟨hmg, hbt, hnn⟩⟩ := hnm
      · exact ld_glob (X := X.suite a ((a, oL) :: (X.pn ++ pins))) SL hgl hmg q hdbg
      · exact ld_blt (X := X.suite a ((a, oL) :: (X.pn ++ pins))) SL hgl hmg hbt q hnn hdbg
    refine asks (lookM.here ?_)
    cases b with
    | true =>
      refine codeAny_handlers_suite_as ?_
      refine HandSPX.lands_againZ fy fun hq fz upz => ?_
      have JM : Inv X pins σ1 H1 { sX with heap := hq } := J.landed inB fz.1 ((ups.trans upf).trans upz) eos bare
      obtain ⟨oM, vM, gM, zM, dM⟩ := fz.there
      have SM := JM.suite gM dM nH nloc nfs
      refine store_ok (X := X.suite a ((a, oM) :: (X.pn ++ pins))) (v := .ref a) SM hnd hix eLoc rfl (fun s5 S5 => ?_) (.inr hkn)
      refine wpAny_mono ((hst2 a oM cls d (X.pn ++ pins) zM ⟨_, dM⟩).run [] s5 _ H1 _ S5 (hyes rfl a nH)) (fun f s6 sp => ?_) (fun _ _ z => False.elim z)
      have last : ∀ {σ6 : L2.St} {H6 : Hp} {Q : Shared → Prop}, Inv (X.suite a ((a, oM) :: (X.pn ++ pins))) [] σ6 H6 s6 → (∀ s7, Inv X pins (σ6.set i none) (upd H6 a (ErrO cls d a)) s7 → Q s7) →
          wpAny (model X.prog X.w) X.A (do bindName X.env n .none; unbindBehindTheSuite X.env n p2) (fun _ s7 => Q s7) X.xe s6 := fun {σ6 H6 Q} S6 hfin => by
        have pa := S6.pin (a, oM) (List.mem_append_left _ List.mem_cons_self)
        have J6 : Inv X pins σ6 H6 s6 := S6.unsuite okX
        have pinned : Inv X ((a, oM) :: pins) σ6 H6 s6 := by
          refine ⟨J6.ok, J6.os, J6.bare, J6.base, J6.loc, J6.cell, J6.free, J6.freeC, fun p hp => ?_, J6.hok, J6.len⟩
          rcases List.mem_append.mp hp with hp | hp
          · exact J6.pin p (List.mem_append_left _ hp)
          · rcases List.mem_cons.mp hp with rfl | hp
            · exact pa
            · exact J6.pin p (List.mem_append_right _ hp)
        refine gone_ok pinned hnd hix hkn fun s7 J7 => hfin s7 ?_
        obtain ⟨g7, n7, _⟩ := J7.pin (a, oM) (List.mem_append_right _ List.mem_cons_self)
        have J8 : Inv X pins (σ6.set i none) H6 s7 := by
          refine ⟨J7.ok, J7.os, J7.bare, J7.base, J7.loc, J7.cell, J7.free, J7.freeC, fun p hp => J7.pin p ?_, J7.hok, J7.len⟩
          rcases List.mem_append.mp hp with hp | hp
          · exact List.mem_append_left _ hp
          · exact List.mem_append_right _ (List.mem_cons_of_mem _ hp)
        refine Inv.keepErr J8 g7 zM dM n7 nloc ?_ fun p hp => ?_
        · cases e0 : X.s_0.heap.get? a with
          | none => rfl
          | some o0 =>
            exfalso
            obtain ⟨o1, g1⟩ := J.base.there a o0 e0 (by rw [hex]; simp)
            exact notI a o1 g1 (by rw [hst]; exact nfrm) rfl
        · obtain ⟨g1, _, n1, n2, _⟩ := J.pin p hp
          refine notI p.1 p.2 g1 fun hin => ?_
          rcases List.mem_cons.mp (J.stkSub _ hin) with e | hin
          · exact n1 e
          · exact n2 hin
      cases f with
      | next =>
        obtain ⟨σ6, H6, S6, q6⟩ := sp
        exact last S6 fun s7 J7 => ⟨_, _, J7, q6⟩
      | brk =>
        obtain ⟨σ6, H6, S6, q6⟩ := sp
        exact last S6 fun s7 J7 => ⟨_, _, J7, q6⟩
      | cont =>
        obtain ⟨σ6, H6, S6, q6⟩ := sp
        exact last S6 fun s7 J7 => ⟨_, _, J7, q6⟩
      | ret u =>
        obtain ⟨v6, σ6, H6, S6, r6, q6⟩ := sp
        exact last S6 fun s7 J7 => ⟨_, _, _, J7, r6, q6⟩
    | false =>
      show wpAny _ X.A (handleBy (.ref a) X.env []) _ _ _
      refine wpAny_handleBy_nil ?_
      obtain ⟨k1, k2, k3, oe, vs, T, oT, tv, ge, ze, de, t1, _⟩ := id fy
      unfold PySem.passOn
      refine wpAny_bind (wpAny_field ge de t1 ?_)
      rw [if_neg (show ¬ ((Value.ref T == Value.none) = true) from by simp)]
      have out : wpAny (model X.prog X.w) X.A (setFlight (.ref a) X.env.frame) (fun _ s4 => wpAny (model X.prog X.w) X.A (throw (.ref a) : Sem Flow) (SP X pins D) X.xe s4) X.xe { sX with heap := hp } := by
        rw [hfm]
        refine HandSPX.setFlight_upZ fy fun hh fh uph => wpAny_throw (tk _ _ ?_)
        exact ⟨a, B, sI, pins, σ1, H1, cls, d, rfl, J, inB, (ups.trans upf).trans uph, .inr (.inr (by rw [hst]; exact fh)), nH, eos, bare, hno rfl⟩
      first
        | exact wpAny_bind (wpAny_pure (wpAny_bind out))
        | exact wpAny_bind out
  refine wpAny_Try_except (wpAny_mono run (fun f s1 sp => ?_) fun e s1 he => he)
  cases f with
  | next =>
    obtain ⟨σ2, H2, J2, q⟩ := sp
    exact wpAny_execs_nil ⟨σ2, H2, J2.ofTry okX, q⟩
  | brk =>
    obtain ⟨σ2, H2, J2, q⟩ := sp
    exact ⟨σ2, H2, J2.ofTry okX, q⟩
  | cont =>
    obtain ⟨σ2, H2, J2, q⟩ := sp
    exact ⟨σ2, H2, J2.ofTry okX, q⟩
  | ret u =>
    obtain ⟨v, σ2, H2, J2, r, q⟩ := sp
    exact ⟨v, σ2, H2, J2.ofTry okX, r, q⟩
end
end Toy

-- part: EX2
/-! isinstance(e, c) and e.f, e an exception that is kept -/
namespace Toy
open PySem PySem.Spec PyProof.Rows L2
/-- the exception at a, of the class at C, with the fields fs (none: no dict) -/
def ErrAt (H : Hp) (a C : Addr) (fs : List (Str × V)) : Prop := ∃ d : Option Addr, H a = some (ErrO (.ref C) d a) ∧ ((d = none ∧ fs = []) ∨ ∃ dx, d = some dx ∧ H dx = some (.xd fs))
theorem err_get {P : Program} {w : World} {H : Hp} {h : Heap} {a C : Addr} {fs : List (Str × V)} (x : HOk P w H h) (e : ErrAt H a C fs) : ∃ (oe : Obj) (od : Option Obj), PySem.W.InstAt h a oe C od ∧ (fs = [] ∨ ∃ (dx : Addr) (o : Obj) (mA : Str → Option Value), od = some o ∧ h.get? dx = some o ∧ h.Ns1 dx mA ∧ ∀ f, RelO (fs.lookup f) (mA f)) := by
  obtain ⟨d, ha, hd⟩ := e
  obtain ⟨oe, vs, g, z, dt⟩ := errO_at x ha
  have nc : PySem.W.notCls oe = true := by
    unfold PySem.W.notCls
    rw [dt] <;> rfl
  rcases hd with ⟨rfl, rfl⟩ | ⟨dx, rfl, hx⟩
  · exact ⟨oe, none, ⟨g, z.1, nc, by rw [z.2]; trivial⟩, .inl rfl⟩
  · obtain ⟨mA, hns, hr⟩ := (show ObjOk P w H h dx (.xd fs) from x dx _ hx)
    obtain ⟨o, es, ep, ho, rest⟩ := id hns
    exact ⟨oe, some o, ⟨g, z.1, nc, by rw [z.2]; exact ho⟩, .inr ⟨dx, o, mA, rfl, ho, hns, hr⟩⟩
def rIsErr (K : PySem.W.Frag) : List V → Hp → VK → Prop := fun xs H Q => ∃ (a C : Addr) (fs : List (Str × V)) (c : V) (u : Value) (b : Bool), xs = [.ref a, c] ∧ ErrAt H a C fs ∧ ExcC K C ∧ ClsV c u ∧ PySem.W.kitOne K (.ref C) u = some b ∧ Q (.bl b) H
section
variable {X : Cx}
theorem call_isErr : CallR X (.builtin "isinstance") (rIsErr X.K) := by
  intro pins s σ H xs us Q I r h
  obtain ⟨a, C, fs, c, u, b, rfl, ea, T, k, e, q⟩ := h
  obtain ⟨u1, u2, rfl, r1, r2⟩ := vals2 r
  have e2 := k.eq r2
  subst e2
  cases (show u1 = Value.ref a from r1)
  obtain ⟨oe, od, J, _⟩ := err_get I.hok ea
  obtain ⟨cd, hc, _⟩ := PySem.W.any_some T.hd
  exact PySem.W.kia_one (PySem.W.kitx_exc (by rw [hc]; rfl) T.hg T.hk T.hs T.ha T.hn T.ht T.hm) I.kIn J e (fun z => nomatch z) fun tk => ⟨.bl b, H, I.tok tk, rfl, q⟩
/-- e.f -/
def tErrF (K : PySem.W.Frag) (f : Str) (te : TE) : TE := fun σ H Q => te σ H fun x H1 => ∃ (a C : Addr) (fs : List (Str × V)) (v : V), x = .ref a ∧ ErrAt H1 a C fs ∧ XfC K C ∧ PySem.W.findIn K (.ref C) f = some none ∧ fs.lookup f = some v ∧ Q v H1
theorem pe_errF {e : Expr} {te : TE} {pos : Pos} {n : Str} (he : PE X e te) (hb : attributeBase e n X.env (eval e X.env) = eval e X.env := by rfl) : PE X (.Attribute e n pos) (tErrF X.K n te) := by
  refine ⟨fun pins s σ H Q I h => attr_of hb (thn (he.run pins s σ H _ I h) fun u s1 hh => ?_)⟩
  obtain ⟨x, H1, I1, rx, a, C, fs, v, rfl, ea, T, hno, l, q⟩ := hh
  obtain rfl : u = Value.ref a := rx
  obtain ⟨oe, od, J, hd⟩ := err_get I1.hok ea
  rcases hd with rfl | ⟨dx, o, mA, rfl, ho, hns, hr⟩
  · cases l
  · obtain ⟨ol, hol, hl⟩ := lookIn_ns hns
    rw [ho] at hol
    cases hol
    obtain ⟨uv, hu, ru⟩ := RelO.some_of (v := v) (o := mA n) (by rw [← l]; exact hr n)
    exact HandSPX.exc_get I1.kIn J T.ga T.gg T.exC (PySem.W.findObj_own T.hdC hno rfl (by rw [hl, hu])) (handed_of ru) ⟨v, H1, I1.tok _, ru, q⟩
end
end Toy

-- part: EX3
/-! xs.count(y) of flat things; which of fifteen classes -/
namespace Toy
open PySem PySem.Spec PyProof.Rows L2
def rCntF (K : PySem.W.Frag) : V → List V → Hp → VK → Prop := fun x xs H Q => ∃ (p : Addr) (ys : List V) (y : V), x = .ref p ∧ xs = [y] ∧ SqL K H p ys ∧ flatV y = true ∧ ys.all flatV = true ∧ Q (.int (ys.countP fun z => eqV z y : Nat)) H
theorem count_flat {x : V} : ∀ {ys : List V} {us : List Value}, Vals ys us → ys.all flatV = true → us.countP (eqU x) = ys.countP fun z => eqV z x
  | _, _, .nil, _ => rfl
  | y :: r, u :: t, .cons ry rt, f => by
    rw [List.all_cons, Bool.and_eq_true] at f
    rw [List.countP_cons, List.countP_cons, count_flat rt f.2, eqU_of ry f.1]
section
variable {X : Cx}
theorem mt_fcount : MtR X "list.count" (rCntF X.K) := by
  intro pins s σ H x xs v us Q I rx rxs h
  obtain ⟨p, ys, y, rfl, rfl, hs, fy, fys, q⟩ := h
  cases rx
  obtain ⟨u, rfl, ru⟩ := rxs.one
  obtain ⟨its, rv, ⟨⟨cls, dd, data, sl⟩, n, ho, hc, hdn, hd⟩, hlen⟩ := I.list hs
  simp only at hc hd
  subst hc hd
  refine call_meets PySem.F.slot_list_count ⟨_, ho, rfl⟩ PySem.F.entry_list_count (PySem.F.args_list_count_2 _ _)
    (SeqAt.list_countAt p its.toArray n dd sl u (eqU y)) ⟨ho, fun z hz => mem_eqAt ru fy rv fys z (by simpa using hz), ?_⟩
  refine ⟨.int (ys.countP fun z => eqV z y : Nat), H, I.tok _, ⟨s.toks, ?_⟩, q⟩
  show Value.int ((its.toArray.toList.countP (eqU y) : Nat) : Int) s.toks = _
  rw [← count_flat rv fys]
end
/-- the fifteen answers: the j-th says so -/
def isE (j : Nat) : List V := [.bl (decide (0 = j)), .bl (decide (1 = j)), .bl (decide (2 = j)), .bl (decide (3 = j)), .bl (decide (4 = j)), .bl (decide (5 = j)), .bl (decide (6 = j)), .bl (decide (7 = j)), .bl (decide (8 = j)), .bl (decide (9 = j)), .bl (decide (10 = j)), .bl (decide (11 = j)), .bl (decide (12 = j)), .bl (decide (13 = j)), .bl (decide (14 = j))]
theorem isE_eq (j : Nat) : isE j = (List.range 15).map fun i => V.bl (decide (i = j)) := rfl
theorem isE_flat (j : Nat) : (isE j).all flatV = true := rfl
theorem isE_at {j : Nat} (h : j < 15) : (isE j)[j]? = some (.bl true) := by
  rw [isE_eq, List.getElem?_map, List.getElem?_range h, Option.map_some, decide_eq_true rfl]
theorem isE_before {j : Nat} (h : j < 15) (m : Nat) (z : V) (hm : m < j) (hz : (isE j)[m]? = some z) : eqV z (.bl true) = false := by
  rw [isE_eq, List.getElem?_map, List.getElem?_range (by omega), Option.map_some, decide_eq_false (by omega)] at hz
  cases hz
  rfl
theorem isE_count : ∀ {j : Nat}, j < 15 → (isE j).countP (fun z => eqV z (.bl true)) = 1
  | 0, _ | 1, _ | 2, _ | 3, _ | 4, _ | 5, _ | 6, _ | 7, _ | 8, _ | 9, _ | 10, _ | 11, _ | 12, _ | 13, _ | 14, _ => rfl
  | n + 15, h => absurd h (by omega)
/-- the fifteen classes of the program's errors, and TurnError: their names, and what the top has of them -/
structure Errs (mg : Str → Option Value) (cs : Nat → Addr) : Prop where
  e0 : mg "NoProblem" = some (.ref (cs 0))
  e1 : mg "NoClause" = some (.ref (cs 1))
  e2 : mg "TooMany" = some (.ref (cs 2))
  e3 : mg "NoText" = some (.ref (cs 3))
  e4 : mg "NoTurn" = some (.ref (cs 4))
  e5 : mg "NoLetter" = some (.ref (cs 5))
  e6 : mg "NotThere" = some (.ref (cs 6))
  e7 : mg "NoStep" = some (.ref (cs 7))
  e8 : mg "NoLog" = some (.ref (cs 8))
  e9 : mg "NoWay" = some (.ref (cs 9))
  e10 : mg "NoPart" = some (.ref (cs 10))
  e11 : mg "NoAnswer" = some (.ref (cs 11))
  e12 : mg "NoAsk" = some (.ref (cs 12))
  e13 : mg "Twice" = some (.ref (cs 13))
  e14 : mg "NoDeed" = some (.ref (cs 14))
  e15 : mg "TurnError" = some (.ref (cs 15))
/-- the class at C is the j-th, of none other, under TurnError and ValueError -/
structure ErrK (K : PySem.W.Frag) (cs : Nat → Addr) (C : Addr) (j : Nat) : Prop where
  lt : j < 15
  ex : ExcC K C
  of : ∀ i, i < 15 → PySem.W.kitOne K (.ref C) (.ref (cs i)) = some (decide (i = j))
  ve : PySem.W.kitOne K (.ref C) (.type "ValueError") = some true
  tm : PySem.W.exmOne K (.ref C) (.ref (cs 15)) = some true
def errW : List Str := ["problem", "clause", "many", "text", "turn", "letter", "there", "step", "log", "road", "part", "answer", "ask", "twice", "deed"]
theorem p_isE {K : PySem.W.Frag} {σ : L2.St} {H : Hp} {Q : VK} {i : Nat} {a C c : Addr} {fs : List (Str × V)} {b : Bool} (h0 : σ[i]? = some (some (.ref a))) (ea : ErrAt H a C fs) (T : ExcC K C) (k : PySem.W.kitOne K (.ref C) (.ref c) = some b) (q : Q (.bl b) H) :
    tCB (rIsErr K) (tCons (tVar i) (tCons (tC (.ref c)) tNil)) σ H Q := ⟨.ref a, h0, a, C, fs, .ref c, .ref c, b, rfl, ea, T, .own c, k, q⟩
end Toy

-- part: EXW
/-! _law_word and _law_refused: the word of what was raised -/
namespace Toy
open PySem L2
section
variable {P : Program} {w : World} {K : PySem.W.Frag} {mg : Str → Option Value} {base : Heap} {cs : Nat → Addr}
abbrev sLWd : Stmt := s__law_word
abbrev nLWd : List Str := ["e", "some", "words"]
theorem scLWd : FnScope nLWd ["e"] (defScope sLWd) := ⟨rfl, rfl, rfl, by decide +kernel, rfl, by decide +kernel, by decide +kernel⟩
def spLWd (K : PySem.W.Frag) (cs : Nat → Addr) : Sp := fun vs H Q _ => (vs = [.non] ∧ Q (.str "") H) ∨ ∃ (a C : Addr) (fs : List (Str × V)) (j : Nat) (w : Str), vs = [.ref a] ∧ ErrAt H a C fs ∧ ErrK K cs C j ∧ errW[j]? = some w ∧ ∀ H', Same H H' → Q (.str w) H'
theorem split_words : Txt.split "problem clause many text turn letter there step log road part answer ask twice deed" " " = errW := by decide +kernel
theorem ErrAt.sameE {H H' : Hp} {a C : Addr} {fs : List (Str × V)} (e : Same H H') : ErrAt H a C fs → ErrAt H' a C fs := fun ⟨d, h, k⟩ => ⟨d, e _ _ h, k.imp id fun ⟨dx, h1, h2⟩ => ⟨dx, h1, e _ _ h2⟩⟩
theorem ok_lwd {f : Addr} {fd : FuncData} (F : Fun K "_law_word" "_law_word" sLWd f fd) (B : Bl mg) (R : Errs mg cs) : FnOk P w K mg base CX0 1 f fd ["e"] (spLWd K cs) := by
  refine F.ok scLWd (fun vs H Q E h => ?_) (fun cdv A outer s H vs Q E hr h => ?_)
  · rcases h with ⟨rfl, _⟩ | ⟨a, C, fs, j, w, rfl, _⟩ <;> rfl
  · refine ⟨_, pss_cons (ps_if (pt_cmpR op_isN (pv 0) pe_non (nomark _)) (pss_one (ps_ret pe_str)) pss_nil)
      (pss_cons (ps_set (i := 1) scLWd.nd rfl (Or.inl rfl) (pe_lst (pa_cons (pe_callB call_isErr (by rfl) B.isinstance (by decide +kernel) (pa_cons (pv 0) (pa_cons (pe_glob rfl R.e0 (v := .ref (cs 0)) rfl) pa_nil))) (pa_cons (pe_callB call_isErr (by rfl) B.isinstance (by decide +kernel) (pa_cons (pv 0) (pa_cons (pe_glob rfl R.e1 (v := .ref (cs 1)) rfl) pa_nil))) (pa_cons (pe_callB call_isErr (by rfl) B.isinstance (by decide +kernel) (pa_cons (pv 0) (pa_cons (pe_glob rfl R.e2 (v := .ref (cs 2)) rfl) pa_nil))) (pa_cons (pe_callB call_isErr (by rfl) B.isinstance (by decide +kernel) (pa_cons (pv 0) (pa_cons (pe_glob rfl R.e3 (v := .ref (cs 3)) rfl) pa_nil))) pa_nil))))))
      (pss_cons (ps_set (i := 1) scLWd.nd rfl (Or.inl rfl) (pe_op op_cat (pv 1) (pe_lst (pa_cons (pe_callB call_isErr (by rfl) B.isinstance (by decide +kernel) (pa_cons (pv 0) (pa_cons (pe_glob rfl R.e4 (v := .ref (cs 4)) rfl) pa_nil))) (pa_cons (pe_callB call_isErr (by rfl) B.isinstance (by decide +kernel) (pa_cons (pv 0) (pa_cons (pe_glob rfl R.e5 (v := .ref (cs 5)) rfl) pa_nil))) (pa_cons (pe_callB call_isErr (by rfl) B.isinstance (by decide +kernel) (pa_cons (pv 0) (pa_cons (pe_glob rfl R.e6 (v := .ref (cs 6)) rfl) pa_nil))) (pa_cons (pe_callB call_isErr (by rfl) B.isinstance (by decide +kernel) (pa_cons (pv 0) (pa_cons (pe_glob rfl R.e7 (v := .ref (cs 7)) rfl) pa_nil))) pa_nil)))))))
      (pss_cons (ps_set (i := 1) scLWd.nd rfl (Or.inl rfl) (pe_op op_cat (pv 1) (pe_lst (pa_cons (pe_callB call_isErr (by rfl) B.isinstance (by decide +kernel) (pa_cons (pv 0) (pa_cons (pe_glob rfl R.e8 (v := .ref (cs 8)) rfl) pa_nil))) (pa_cons (pe_callB call_isErr (by rfl) B.isinstance (by decide +kernel) (pa_cons (pv 0) (pa_cons (pe_glob rfl R.e9 (v := .ref (cs 9)) rfl) pa_nil))) (pa_cons (pe_callB call_isErr (by rfl) B.isinstance (by decide +kernel) (pa_cons (pv 0) (pa_cons (pe_glob rfl R.e10 (v := .ref (cs 10)) rfl) pa_nil))) (pa_cons (pe_callB call_isErr (by rfl) B.isinstance (by decide +kernel) (pa_cons (pv 0) (pa_cons (pe_glob rfl R.e11 (v := .ref (cs 11)) rfl) pa_nil))) pa_nil)))))))
      (pss_cons (ps_set (i := 1) scLWd.nd rfl (Or.inl rfl) (pe_op op_cat (pv 1) (pe_lst (pa_cons (pe_callB call_isErr (by rfl) B.isinstance (by decide +kernel) (pa_cons (pv 0) (pa_cons (pe_glob rfl R.e12 (v := .ref (cs 12)) rfl) pa_nil))) (pa_cons (pe_callB call_isErr (by rfl) B.isinstance (by decide +kernel) (pa_cons (pv 0) (pa_cons (pe_glob rfl R.e13 (v := .ref (cs 13)) rfl) pa_nil))) (pa_cons (pe_callB call_isErr (by rfl) B.isinstance (by decide +kernel) (pa_cons (pv 0) (pa_cons (pe_glob rfl R.e14 (v := .ref (cs 14)) rfl) pa_nil))) pa_nil))))))
      (pss_cons (ps_set (i := 2) scLWd.nd rfl (Or.inl rfl) (pe_split pe_str pe_str))
      (pss_cons (ps_if (PW.pt (pw_or (pt_cmpR op_ne (pe_bm PySem.F.plainAttrs_list PySem.F.slot_list_count PySem.F.type_list_count mt_fcount (pv 1) (pa_cons pe_bl pa_nil)) pe_int (nomark _))
          (pw_or1 (pt_not (pt_val (pe_callB call_isErr (by rfl) B.isinstance (by decide +kernel) (pa_cons (pv 0) (pa_cons (pe_bltn (v := .ty "ValueError") (by rfl) B.ValueError (by decide +kernel) rfl) pa_nil)))))))) (pss_one (ps_ret pe_str)) pss_nil)
      (pss_one (ps_ret (pe_ix ix_list (pv 2) (pe_bm PySem.F.plainAttrs_list PySem.F.slot_list_index PySem.F.type_list_index mt_index (pv 1) (pa_cons pe_bl pa_nil)) (fun _ _ => rfl)))))))))), ?_⟩
    rcases h with ⟨rfl, q⟩ | ⟨a, C, fs, j, w, rfl, ea, EK, hw, q⟩
    · show tSeq _ _ _ [some .non, none, none] H
      walk_at "rd"
      exact ⟨trivial, q⟩
    · show tSeq _ _ _ [some (.ref a), none, none] H
      have kk := EK.of
      have eZ : sizeLine = 16777216 := rfl
      refine seq_gen (fun σ' H' => σ' = [some (.ref a), none, none] ∧ H' = H) (fun nx hnx => ?_) ?_
      · walk_at "rd"
        exact ⟨trivial, hnx _ _ ⟨rfl, rfl⟩⟩
      rintro σ' H1 ⟨rfl, rfl⟩
      refine seq_gen (fun σ' H' => ∃ l : Addr, σ' = [some (.ref a), some (.ref l), none] ∧ Same H1 H' ∧ H' l = some (.lst [.bl (decide (0 = j)), .bl (decide (1 = j)), .bl (decide (2 = j)), .bl (decide (3 = j))])) (fun nx hnx => ?_) ?_
      · refine p_isE rfl ea EK.ex (kk 0 (by decide)) (p_isE rfl ea EK.ex (kk 1 (by decide)) (p_isE rfl ea EK.ex (kk 2 (by decide)) (p_isE rfl ea EK.ex (kk 3 (by decide)) ?_)))
        exact ⟨by show 4 ≤ sizeLine; omega, fun p hp => hnx _ _ ⟨p, rfl, Same.new hp, upd_same⟩⟩
      rintro σ' H2 ⟨l, rfl, s2, hl⟩
      refine seq_gen (fun σ' H' => ∃ l : Addr, σ' = [some (.ref a), some (.ref l), none] ∧ Same H1 H' ∧ H' l = some (.lst [.bl (decide (0 = j)), .bl (decide (1 = j)), .bl (decide (2 = j)), .bl (decide (3 = j)), .bl (decide (4 = j)), .bl (decide (5 = j)), .bl (decide (6 = j)), .bl (decide (7 = j))])) (fun nx hnx => ?_) ?_
      · have ea2 := ErrAt.sameE s2 ea
        refine ⟨_, rfl, p_isE rfl ea2 EK.ex (kk 4 (by decide)) (p_isE rfl ea2 EK.ex (kk 5 (by decide)) (p_isE rfl ea2 EK.ex (kk 6 (by decide)) (p_isE rfl ea2 EK.ex (kk 7 (by decide)) ?_)))⟩
        refine ⟨by show 4 ≤ sizeLine; omega, fun p hp => ⟨l, p, _, _, rfl, rfl, Same.new hp _ _ hl, upd_same, by show 8 ≤ sizeLine; omega, fun p2 hp2 => hnx _ _ ⟨p2, rfl, Same.trans s2 (Same.trans (Same.new hp) (Same.new hp2)), upd_same⟩⟩⟩
      rintro σ' H3 ⟨l3, rfl, s3, hl3⟩
      refine seq_gen (fun σ' H' => ∃ l : Addr, σ' = [some (.ref a), some (.ref l), none] ∧ Same H1 H' ∧ H' l = some (.lst [.bl (decide (0 = j)), .bl (decide (1 = j)), .bl (decide (2 = j)), .bl (decide (3 = j)), .bl (decide (4 = j)), .bl (decide (5 = j)), .bl (decide (6 = j)), .bl (decide (7 = j)), .bl (decide (8 = j)), .bl (decide (9 = j)), .bl (decide (10 = j)), .bl (decide (11 = j))])) (fun nx hnx => ?_) ?_
      · have ea2 := ErrAt.sameE s3 ea
        refine ⟨_, rfl, p_isE rfl ea2 EK.ex (kk 8 (by decide)) (p_isE rfl ea2 EK.ex (kk 9 (by decide)) (p_isE rfl ea2 EK.ex (kk 10 (by decide)) (p_isE rfl ea2 EK.ex (kk 11 (by decide)) ?_)))⟩
        refine ⟨by show 4 ≤ sizeLine; omega, fun p hp => ⟨l3, p, _, _, rfl, rfl, Same.new hp _ _ hl3, upd_same, by show 12 ≤ sizeLine; omega, fun p2 hp2 => hnx _ _ ⟨p2, rfl, Same.trans s3 (Same.trans (Same.new hp) (Same.new hp2)), upd_same⟩⟩⟩
      rintro σ' H4 ⟨l4, rfl, s4, hl4⟩
      refine seq_gen (fun σ' H' => ∃ l : Addr, σ' = [some (.ref a), some (.ref l), none] ∧ Same H1 H' ∧ H' l = some (.lst (isE j))) (fun nx hnx => ?_) ?_
      · have ea2 := ErrAt.sameE s4 ea
        refine ⟨_, rfl, p_isE rfl ea2 EK.ex (kk 12 (by decide)) (p_isE rfl ea2 EK.ex (kk 13 (by decide)) (p_isE rfl ea2 EK.ex (kk 14 (by decide)) ?_))⟩
        refine ⟨by show 3 ≤ sizeLine; omega, fun p hp => ⟨l4, p, _, _, rfl, rfl, Same.new hp _ _ hl4, upd_same, by show 15 ≤ sizeLine; omega, fun p2 hp2 => hnx _ _ ⟨p2, rfl, Same.trans s4 (Same.trans (Same.new hp) (Same.new hp2)), upd_same⟩⟩⟩
      rintro σ' H5 ⟨l5, rfl, s5, hl5⟩
      refine seq_gen (fun σ' H' => ∃ ws : Addr, σ' = [some (.ref a), some (.ref l5), some (.ref ws)] ∧ Same H5 H' ∧ H' ws = some (.lst (errW.map V.str))) (fun nx hnx => ?_) ?_
      · walk_at "rd"
        refine ⟨⟨_, rfl⟩, _, _, rfl, rfl, rfl, by decide, fun p hp => hnx _ _ ⟨p, rfl, Same.new hp, ?_⟩⟩
        rw [upd_same, split_words]
      rintro σ' H6 ⟨ws, rfl, s6, hws⟩
      have s16 := Same.trans s5 s6
      refine seq_gen (fun σ' H' => σ' = [some (.ref a), some (.ref l5), some (.ref ws)] ∧ H' = H6) (fun nx hnx => ?_) ?_
      · walk_at "rd"
        refine ⟨.inl ⟨rfl, _, SqL.of (s6 _ _ hl5)⟩, l5, isE j, .bl true, rfl, rfl, SqL.of (s6 _ _ hl5), rfl, isE_flat j, ?_⟩
        rw [isE_count EK.lt]
        refine ⟨rfl, false, by decide, iteF ?_⟩
        exact ⟨a, C, fs, .ty "ValueError", .type "ValueError", true, rfl, ErrAt.sameE s16 ea, EK.ex, .ty _, EK.ve, true, rfl, iteF (hnx _ _ ⟨rfl, rfl⟩)⟩
      rintro σ' H7 ⟨rfl, rfl⟩
      walk_at "rd"
      refine ⟨.inl ⟨rfl, _, SqL.of (s6 _ _ hl5)⟩, l5, isE j, .bl true, j, .bl true, rfl, rfl, SqL.of (s6 _ _ hl5), rfl, isE_flat j, isE_at EK.lt, rfl, isE_before EK.lt, ?_⟩
      have e := congrArg (Option.map V.str) hw
      rw [← List.getElem?_map] at e
      have hj := EK.lt
      exact ⟨ws, _, (j : Int), .str w, rfl, rfl, SqL.of hws, (atI_nat e), q _ s16⟩
/-! ### _law_refused -/
abbrev sLRf : Stmt := s__law_refused
abbrev nLRf : List Str := ["work", "error", "e", "word", "at"]
theorem scLRf : FnScope nLRf ["work"] (defScope sLRf) := ⟨rfl, rfl, rfl, by decide +kernel, rfl, by decide +kernel, by decide +kernel⟩
/-- the number that a refusal bears: of NoClause its at, of NoText its row -/
def AtOk (K : PySem.W.Frag) (C : Addr) (fs : List (Str × V)) (j : Nat) (v : V) : Prop :=
  (j = 1 → ∃ k : Int, v = .int k ∧ fs.lookup ("at" : Str) = some v ∧ XfC K C ∧ PySem.W.findIn K (.ref C) "at" = some none) ∧
  (j = 3 → ∃ k : Int, v = .int k ∧ fs.lookup ("row" : Str) = some v ∧ XfC K C ∧ PySem.W.findIn K (.ref C) "row" = some none) ∧ (j ≠ 1 → j ≠ 3 → v = .non)
/-- _law_refused behind its try -/
def tRest (K : PySem.W.Frag) (cs : Nat → Addr) : TS :=
  tSeq (tAsg (tCall (spLWd K cs) [] E0 (tCons (tVar 1) tNil)) (gName 3))
    (tSeq (tAsg (tC V.non) (gName 4))
      (tSeq (tIfS (tTest (tOp rEq (tVar 3) (tC (V.str "clause")))) (tAsg (tErrF K "at" (tVar 1)) (gName 4)) tNext)
        (tSeq (tIfS (tTest (tOp rEq (tVar 3) (tC (V.str "text")))) (tAsg (tErrF K "row" (tVar 1)) (gName 4)) tNext)
          (tRet (tIf (tNot (tB (tCB (rIsi K) (tCons (tVar 4) (tCons (tC (V.ty "bool")) tNil))))) (tTup (tCons (tVar 3) (tCons (tVar 4) tNil))) (tTup (tCons (tC (V.str "other")) (tCons (tVar 4) tNil))))))))
def dRef (Q : VK) : Ends := { nx := fun _ H' => Q .non H', rt := Q }
/-- what is wished for of what the lambda raises -/
def Eref (K : PySem.W.Frag) (cs : Nat → Addr) (Q : VK) : XK := fun cls d H' => ∀ σ' : St, σ'.length = 5 → wKeep K (.ref (cs 15)) 2 (fun _ _ _ => tAsg (tVar 2) (gName 1)) (fun _ _ _ _ => False) { nx := tRest K cs (dRef Q), rt := Q } cls d σ' H'
def Rref (K : PySem.W.Frag) (cs : Nat → Addr) (Q : VK) (f : Addr) : VK := fun _ H' => tRest K cs (dRef Q) [some (.ref f), some .non, none, none, none] H'
/-- what _law_refused makes of a lambda -/
def TTref (K : PySem.W.Frag) (cs : Nat → Addr) : (XK → Hp → VK → Prop) → Hp → VK → Prop := fun tl H Q => ∀ f : Addr, tl (Eref K cs Q) H (Rref K cs Q f)
theorem Same.noneE {H H' : Hp} {a : Addr} (e : Same H H') (h : H' a = Option.none) : H a = Option.none := by
  cases z : H a with
  | none => rfl
  | some o =>
    have := e _ _ z
    rw [h] at this
    cases this
theorem rref_of {K : PySem.W.Frag} {cs : Nat → Addr} {Q : VK} {f : Addr} {v : V} {H : Hp} (q : ∀ p, H p = none → Q (.ref p) (upd H p (.tup [.str "", .non]))) : Rref K cs Q f v H := by
  unfold Rref tRest
  walk_at "rd"
  refine .inl ⟨rfl, rfl, false, rfl, iteF ⟨rfl, false, rfl, iteF ?_⟩⟩
  exact ⟨.non, .ty "bool", .type "NoneType", .type "bool", false, rfl, .ty _, TyX.base .non, kit_ty (by decide +kernel), false, rfl, iteT ⟨by decide, fun p hp => q p hp⟩⟩
theorem errW_at : ∀ {j : Nat} {w : Str}, errW[j]? = some w → V.str w = V.str "clause" ∧ j = 1 ∨ V.str w = V.str "text" ∧ j = 3 ∨ (V.str w ≠ V.str "clause" ∧ V.str w ≠ V.str "text" ∧ j ≠ 1 ∧ j ≠ 3)
  | 0, _, h => by cases h; decide
  | 1, _, h => by cases h; decide
  | 2, _, h => by cases h; decide
  | 3, _, h => by cases h; decide
  | 4, _, h => by cases h; decide
  | 5, _, h => by cases h; decide
  | 6, _, h => by cases h; decide
  | 7, _, h => by cases h; decide
  | 8, _, h => by cases h; decide
  | 9, _, h => by cases h; decide
  | 10, _, h => by cases h; decide
  | 11, _, h => by cases h; decide
  | 12, _, h => by cases h; decide
  | 13, _, h => by cases h; decide
  | 14, _, h => by cases h; decide
  | n + 15, _, h => by cases h
theorem eref_of {K : PySem.W.Frag} {cs : Nat → Addr} {Q : VK} {C : Addr} {d : Option Addr} {fs : List (Str × V)} {j : Nat} {w : Str} {v : V} {H : Hp} (EK : ErrK K cs C j) (hw : errW[j]? = some w) (ha : AtOk K C fs j v) (hd : (d = none ∧ fs = []) ∨ ∃ dx, d = some dx ∧ H dx = some (.xd fs))
    (q : ∀ (H2 : Hp) (p : Addr), Same H H2 → H p = none → H2 p = some (.tup [.str w, v]) → Q (.ref p) H2) : Eref K cs Q (.ref C) d H := by
  intro σ' hl
  refine ⟨true, EK.tm, fun z => (nomatch z), fun _ a na => ?_⟩
  match σ', hl with
  | [x0, x1, x2, x3, x4], _ =>
    refine ⟨.ref a, rfl, ?_⟩
    show tRest K cs (dRef Q) [x0, some (.ref a), none, x3, x4] (upd H a (ErrO (.ref C) d a))
    have ea : ErrAt (upd H a (ErrO (.ref C) d a)) a C fs := ⟨d, upd_same, hd.imp id fun ⟨dx, h1, h2⟩ => ⟨dx, h1, by rw [upd_ne (ne_of_none h2 na)]; exact h2⟩⟩
    have s1 := Same.new (o := ErrO (.ref C) d a) na
    generalize upd H a (ErrO (.ref C) d a) = H1 at *
    unfold tRest
    refine seq_gen (fun σ' H' => σ' = [x0, some (.ref a), none, some (.str w), x4] ∧ Same H1 H') (fun nx hnx => ?_) ?_
    · walk_at "rd"
      exact .inr ⟨a, C, fs, j, w, rfl, ea, EK, hw, fun H' s' => hnx _ _ ⟨rfl, s'⟩⟩
    rintro σ' H2 ⟨rfl, s2⟩
    refine seq_gen (fun σ' H' => σ' = [x0, some (.ref a), none, some (.str w), some .non] ∧ H' = H2) (fun nx hnx => ?_) ?_
    · walk_at "rd"
      exact hnx _ _ ⟨rfl, rfl⟩
    rintro σ' H3 ⟨rfl, rfl⟩
    have ea3 := ErrAt.sameE s2 ea
    have fin : ∀ u : V, (u = .non ∨ ∃ k : Int, u = .int k) → u = v → ∀ D : Ends, D.rt = Q → tRet (tIf (tNot (tB (tCB (rIsi K) (tCons (tVar 4) (tCons (tC (V.ty "bool")) tNil))))) (tTup (tCons (tVar 3) (tCons (tVar 4) tNil))) (tTup (tCons (tC (V.str "other")) (tCons (tVar 4) tNil)))) D [x0, some (.ref a), none, some (.str w), some u] H3 := by
      rintro u hu rfl D rfl
      walk_at "rd"
      rcases hu with rfl | ⟨k, rfl⟩
      · exact ⟨.non, .ty "bool", .type "NoneType", .type "bool", false, rfl, .ty _, TyX.base .non, kit_ty (by decide +kernel), false, rfl, iteT ⟨by show 2 ≤ sizeLine; decide, fun p hp => q _ p (Same.trans s1 (Same.trans s2 (Same.new hp))) (Same.noneE s1 (Same.noneE s2 hp)) upd_same⟩⟩
      · exact ⟨.int k, .ty "bool", .type "int", .type "bool", false, rfl, .ty _, TyX.base (.int k), kit_ty (by decide +kernel), false, rfl, iteT ⟨by show 2 ≤ sizeLine; decide, fun p hp => q _ p (Same.trans s1 (Same.trans s2 (Same.new hp))) (Same.noneE s1 (Same.noneE s2 hp)) upd_same⟩⟩
    rcases errW_at hw with ⟨e1, hj⟩ | ⟨e1, hj⟩ | ⟨e1, e2, h1, h3⟩
    · obtain ⟨k, hv, hl, T, hn⟩ := ha.1 hj
      refine ⟨_, rfl, rfl, true, by rw [decide_eq_true e1], iteT ⟨.ref a, rfl, a, C, fs, v, rfl, ea3, T, hn, hl, ?_⟩⟩
      exact ⟨_, rfl, rfl, false, by rw [decide_eq_false (by rw [e1]; decide)], iteF (fin v (.inr ⟨k, hv⟩) rfl (dRef Q) rfl)⟩
    · obtain ⟨k, hv, hl, T, hn⟩ := ha.2.1 hj
      refine ⟨_, rfl, rfl, false, by rw [decide_eq_false (by rw [e1]; decide)], iteF ?_⟩
      refine ⟨_, rfl, rfl, true, by rw [decide_eq_true e1], iteT ⟨.ref a, rfl, a, C, fs, v, rfl, ea3, T, hn, hl, ?_⟩⟩
      exact fin v (.inr ⟨k, hv⟩) rfl (dRef Q) rfl
    · have hv := ha.2.2 h1 h3
      refine ⟨_, rfl, rfl, false, by rw [decide_eq_false e1], iteF ?_⟩
      exact ⟨_, rfl, rfl, false, by rw [decide_eq_false e2], iteF (fin .non (.inl rfl) hv.symm (dRef Q) rfl)⟩
/-- a wish may lean on how many slots there are -/
theorem takes_lenE {X : Cx} {W : WX} (tk : Takes X W) : Takes X (fun cls d σ H => σ.length = X.N.length → W cls d σ H) := fun u s' ⟨a, B, sI, pins, σ, H, cls, d, e, I, nb, up, sky, na, os, ag, w⟩ =>
  tk u s' ⟨a, B, sI, pins, σ, H, cls, d, e, I, nb, up, sky, na, os, ag, w I.len⟩
theorem refused_gives {X : Cx} {fWo g : Addr} {fdWo : FuncData} {cdg : Value} {q : Str} (hK : X.K = K) (hrX : Room 3 X.A) (B : Bl X.mg) (R : Errs X.mg cs) (WO : Df X.K X.mg "_law_word" sLWd ["e"] fWo fdWo) (GWo : FnOk X.prog X.w X.K X.mg X.base CX0 1 fWo fdWo ["e"] (spLWd X.K cs)) :
    LamX.GivesTo X nLRf "_law_refused" (defScope sLRf) g cdg (defBody sLRf) "work" q (TTref X.K cs) := by
  intro f c' s H Q tl act hc h
  have hr : Room 2 (X.A.deeper (PyProof.Rows.envOfC "_law_refused" (defScope sLRf) s.heap.objs.size g cdg)) := hrX.deeper _
  refine ⟨_, pss_cons (ps_set (i := 1) scLRf.nd rfl (Or.inl rfl) pe_non)
    (pss_cons (ps_try_keep (i := 2) (x := "TurnError") (c := .ref (cs 15)) (X := (cxOf C8.CX0 X.prog X.w X.K X.mg X.base nLRf "_law_refused" (defScope sLRf) g cdg X.A X.stack s H C8.E0).nox)
        (tb := fun W D σ H => σ[0]? = some (some (.ref f)) ∧ H c' = some (LamX.CodeO c' q) ∧ tl (fun cls d H' => ∀ σ' : St, σ'.length = 5 → W cls d σ' H') H (fun _ H' => D.nx σ H'))
        (ts := fun a cls d => tAsg (tVar 2) (gName 1)) rfl rfl scLRf.nd rfl rfl ⟨rfl, by decide, .inl R.e15⟩ rfl LamX.takes0 (fun W pn xe tk _ => ?_) (fun a oe cls d pn _ _ => pss_one (ps_set (i := 1) scLRf.nd rfl (Or.inl rfl) (pv 2))))
    (pss_cons (ps_set (i := 3) scLRf.nd rfl (Or.inl rfl) (pe_call GWo (hr.mono (by decide)) rfl WO.g WO.F.kp WO.b .nil pass0 (pa_cons (pv 1) pa_nil)))
    (pss_cons (ps_set (i := 4) scLRf.nd rfl (Or.inl rfl) pe_non)
    (pss_cons (ps_if (pt_cmpR op_eq (pv 3) pe_str (nomark _)) (pss_one (ps_set (i := 4) scLRf.nd rfl (Or.inl rfl) (pe_errF (pv 1)))) pss_nil)
    (pss_cons (ps_if (pt_cmpR op_eq (pv 3) pe_str (nomark _)) (pss_one (ps_set (i := 4) scLRf.nd rfl (Or.inl rfl) (pe_errF (pv 1)))) pss_nil)
    (pss_one (ps_ret (pe_ifExp (pt_not (pt_val (pe_callB call_isi (by rfl) B.isinstance (by decide +kernel) (pa_cons (pv 4) (pa_cons (pe_bltn (v := .ty "bool") (by rfl) B.bool (by decide +kernel) rfl) pa_nil))))) (pe_tup (pa_cons (pv 3) (pa_cons (pv 4) pa_nil))) (pe_tup (pa_cons pe_str (pa_cons (pv 4) pa_nil))))))))))), ?_⟩
  · refine ⟨fun pins s' σ H' D I h' => ?_⟩
    obtain ⟨h1, h2, h3⟩ := h'
    exact (pss_one (ps_expr (act _ pn xe (fun cls d H' => ∀ σ' : St, σ'.length = 5 → W cls d σ' H') _ _ (takes_lenE tk) fun cls d σ' H' e hl => e σ' hl))).run pins s' σ H' D I ⟨h1, h2, h3⟩
  · exact ⟨rfl, hc, h f⟩
end
end Toy

-- part: KD3
namespace Toy
open PySem L2
section
variable {P : Program} {w : World} {K : PySem.W.Frag} {mg : Str → Option Value} {base : Heap}
/-! ### _law_due -/
abbrev sDu : Stmt := s__law_due
abbrev nDu : List Str := ["many", "fixed", "more", "held", "found", "truth", "one", "row", "clause"]
theorem scDu : FnScope nDu ["many", "fixed", "more"] (defScope sDu) := ⟨rfl, rfl, rfl, by decide +kernel, rfl, by decide +kernel, by decide +kernel⟩
def scDuo : Scope := { kind := .function, names := [(".0", .local), ("row", .cell), ("all", .globalImplicit), ("more", .cell)], isGenerator := false, isCoroutine := false }
def tPrF (K : PySem.W.Frag) : TE := tTup (tCons (tCB (fun xs H Q => ∃ i, xs = [.int i] ∧ Q (.int (if i < 0 then -i else i)) H) (tCons (tOp (rIxT K) (tVar 6) (tC (V.int 0))) tNil))
  (tCons (tCB (fun xs H Q => (∃ i, xs = [.int i] ∧ Q (.int i) H) ∨ ∃ k, xs = [.bl k] ∧ Q (.int (if k then 1 else 0)) H) (tCons (tOp (rI0 fun i j => .bl (decide (j < i))) (tOp (rIxT K) (tVar 6) (tC (V.int 0))) (tC (V.int 0))) tNil)) tNil))
def tHoD (K : PySem.W.Frag) : TE := tCall (spHo K) [] E0 (tCons (tVar 8) (tCons (tVar 7) tNil))
def tGt (K : PySem.W.Frag) : TE := tOp (rCatA K) (tVar 7) (tTup (tCons (tDGet (tVar 3) (tVar 5)) tNil))
def tAllD (K : PySem.W.Frag) : TT := tB (tCB (fun xs H Q => ∃ (x : Addr) (bs : List Bool), xs = [V.ref x] ∧ SqL K H x (bs.map V.bl) ∧ Q (.bl (bs.all id)) H) (tCons (tLc (iList K (tVar 2)) (gName 8) tYes (tHoD K) [8]) tNil))
def spDu (K : PySem.W.Frag) : Sp := fun vs H Q _ => ∃ (n : Nat) (fl ml : Addr) (xs bs : List Addr) (ls : List Int) (cs : List (List Int)), vs = [.int (n : Int), .ref fl, .ref ml] ∧ n ≤ 14 ∧ H fl = some (.lst (xs.map V.ref)) ∧ TupsAt H xs (ls.map fun l => [l]) ∧ FxOk n ls ∧ ls.length ≤ n ∧ H ml = some (.lst (bs.map V.ref)) ∧ TupsAt H bs cs ∧ (∀ c ∈ cs, c.length ≤ 1000) ∧ LtCs n cs ∧ cs.length ≤ 900 ∧
  ∀ (l : Addr) (ys : List Addr) (H' : Hp), Same H H' → H l = none → H' l = some (.lst (ys.map V.ref)) → TupsAt H' ys (ansL n (cs ++ ls.map fun l => [l])) → Q (.ref l) H'
theorem ok_du {f fH : Addr} {fd fdH : FuncData} (F : Fun K "_law_due" "_law_due" sDu f fd) (B : Bl mg) (Ho : Df K mg "_law_holds" sHo ["clause", "answer"] fH fdH) : FnOk P w K mg base CX0 2 f fd ["many", "fixed", "more"] (spDu K) := by
  have GH : FnOk P w K mg base CX0 1 fH fdH ["clause", "answer"] (spHo K) := ok_ho Ho.F B
  refine F.ok scDu (fun vs H Q E h => ?_) (fun cdv A outer s H vs Q E hr h => ?_)
  · obtain ⟨n, fl, ml, xs, bs, ls, cs, rfl, _⟩ := h
    rfl
  · obtain ⟨n, fl, ml, xs, bs, ls, cs, rfl, n14, hfl, tx, fo, lln, hml, tb, sm, lt, lcs, q⟩ := h
    have hu := hu_of hr
    refine ⟨_, pss_cons (ps_set (i := 3) scDu.nd rfl (Or.inr rfl) (pe_callTy (T := "dict") (call_dictP rfl) (by rfl) B.dict (by decide +kernel) (pa_cons (pe_lc (own := [("one", 6)]) (g := gName 6) (tt := tYes) (te := tPrF K) rfl scDu.nd (pi_list (pv 1)) (blkOk_by (own := [("one", 6)]) (N := nDu) (sc := (defScope sDu)) (by decide +kernel)) (fun _ _ _ _ _ => pg_name (i := 6) scDu.nd rfl (Or.inl rfl)) (fun _ _ _ _ _ => pts_nil) (fun _ _ _ _ _ => pe_tup (pa_cons (pe_callB call_abs (by rfl) B.abs (by decide +kernel) (pa_cons (pe_ix ix_tup (pv 6) (pe_int) (fun _ _ => rfl)) pa_nil)) (pa_cons (pe_callTy (T := "int") call_int1 (by rfl) B.int (by decide +kernel) (pa_cons (pe_cmpR op_gt (pe_ix ix_tup (pv 6) (pe_int) (fun _ _ => rfl)) (pe_int) (nomark _)) pa_nil)) pa_nil)))) pa_nil)))
      (pss_cons (ps_set (i := 4) scDu.nd rfl (Or.inl rfl) (pe_lst (pa_cons (pe_tup pa_nil) pa_nil)))
      (pss_cons (ps_for PassesOwn.never rfl (pi_range2 rfl B.range (pa_cons (pe_int) (pa_cons (pe_op op_add (pv 0) (pe_int)) pa_nil))) (pg_name (i := 5) scDu.nd rfl (Or.inr rfl)) (pss_one (ps_if (pt_cmp (pc_din hu (pv 5) (pv 3))) (pss_one (ps_setLc (i := 4) (own := [("row", 7)]) (g := gName 7) (tt := tYes) (te := tGt K) rfl scDu.nd rfl rfl (sw_true rfl rfl rfl (by decide +kernel)) (pi_list (pv 4)) (blkOk_by (own := [("row", 7)]) (N := nDu) (sc := (defScope sDu)) (by decide +kernel)) (fun _ _ _ _ _ => pg_name (i := 7) scDu.nd rfl (Or.inl rfl)) (fun _ _ _ _ _ => pts_nil) (fun _ _ _ _ _ => pe_op op_catA (pv 7) (pe_tup (pa_cons (pe_dget hu (pv 3) (pv 5) (fun _ _ => rfl)) pa_nil))))) (pss_one (ps_set (i := 4) scDu.nd rfl (Or.inl rfl) (pe_op op_cat (pe_lc (own := [("row", 7)]) (g := gName 7) (tt := tYes) (te := tG0 K 7) rfl scDu.nd (pi_list (pv 4)) (blkOk_by (own := [("row", 7)]) (N := nDu) (sc := (defScope sDu)) (by decide +kernel)) (fun _ _ _ _ _ => pg_name (i := 7) scDu.nd rfl (Or.inl rfl)) (fun _ _ _ _ _ => pts_nil) (fun _ _ _ _ _ => pe_op op_catA (pv 7) (pe_tup (pa_cons (pe_int) pa_nil)))) (pe_lc (own := [("row", 7)]) (g := gName 7) (tt := tYes) (te := tG1 K 7) rfl scDu.nd (pi_list (pv 4)) (blkOk_by (own := [("row", 7)]) (N := nDu) (sc := (defScope sDu)) (by decide +kernel)) (fun _ _ _ _ _ => pg_name (i := 7) scDu.nd rfl (Or.inl rfl)) (fun _ _ _ _ _ => pts_nil) (fun _ _ _ _ _ => pe_op op_catA (pv 7) (pe_tup (pa_cons (pe_int) pa_nil))))))))))
      (pss_one (ps_ret (pe_callB ((cr_sortedTL hr.units)) (by rfl) B.sorted (by decide +kernel) (pa_cons (pe_lc (own := [("row", 7)]) (g := gName 7) (tt := tAllD K) (te := tVar 7) rfl scDu.nd (pi_list (pv 4)) (blkOk_by (own := [("row", 7)]) (N := nDu) (sc := (defScope sDu)) (by decide +kernel)) (fun _ _ _ _ _ => pg_name (i := 7) scDu.nd rfl (Or.inr rfl)) (fun _ _ _ _ _ => pts_one (pt_val (pe_callB ((cr_all rfl)) (by rfl) B.all (by decide +kernel) (pa_cons (pe_lc (own := [("clause", 8)]) (g := gName 8) (tt := tYes) (te := tHoD K) rfl scDu.nd (pi_list (pv 2)) (blkOk_by (own := [("clause", 8)]) (N := nDu) (sc := scDuo) (by decide +kernel)) (fun _ _ _ _ _ => pg_name (i := 8) scDu.nd rfl (Or.inl rfl)) (fun _ _ _ _ _ => pts_nil) (fun _ _ _ _ _ => pe_call GH hr rfl Ho.g Ho.F.kp Ho.b .nil pass0 (pa_cons (pv 8) (pa_cons (pv 7) pa_nil)))) pa_nil)))) (fun _ _ _ _ _ => pv 7)) pa_nil)))))), ?_⟩
    show tSeq _ _ _ [some (.int (n : Int)), some (.ref fl), some (.ref ml), none, none, none, none, none, none] H
    have eZ : sizeLine = 16777216 := rfl
    refine seq_gen (fun σ' H' => ∃ d : Addr, σ' = [some (.int (n : Int)), some (.ref fl), some (.ref ml), some (.ref d), none, none, none, none, none] ∧ Same H H' ∧ H' d = some (.dK (mergeK [] (kvF ls)))) (fun nx hnx => ?_) ?_
    · walk_at "rd"
      refine ⟨_, rfl, fl, rfl, ⟨_, SqL.of hfl⟩, fun D hD => lc_list (K := K) (a := fl) (xs := xs.map V.ref) (fun j Hj => Same H Hj ∧ ∃ ps : List Addr, Hj D = some (.lst (ps.map V.ref)) ∧ ps.length = j ∧ Paired (fun (p : Addr) (kv : Key × V) => Hj p = some (.tup [kV kv.1, kv.2])) ps ((kvF ls).take j)) ⟨Same.new hD, [], upd_same, rfl, .nil⟩ (fun j Hj _ ⟨e, _⟩ => SqL.of (e _ _ hfl)) ?_ ?_⟩
      · rintro j z Hj hj ⟨ej, ps, hDj, lp, tp⟩
        rw [List.getElem?_map] at hj
        cases ez : xs[j]? with
        | none => rw [ez] at hj; cases hj
        | some a =>
        rw [ez] at hj
        cases hj
        have hjl : j < xs.length := (List.getElem?_eq_some_iff.mp ez).1
        have lx := TupsAt.len tx
        rw [List.length_map] at lx
        obtain ⟨c, hc, ha⟩ := TupsAt.get (TupsAt.same ej tx) ez
        rw [List.getElem?_map] at hc
        cases el : ls[j]? with
        | none => rw [el] at hc; cases hc
        | some l =>
        rw [el] at hc
        cases hc
        refine ⟨rfl, yesT ?_⟩
        show tPrF K [some (.int (n : Int)), some (.ref fl), some (.ref ml), none, none, none, some (.ref a), none, none] Hj _
        unfold tPrF
        walk_at "rd"
        refine ⟨a, _, 0, .int l, rfl, rfl, SqT.of ha, rfl, l, rfl, ?_⟩
        refine ⟨a, _, 0, .int l, rfl, rfl, SqT.of ha, rfl, ?_⟩
        have ek : (kvF ls)[j]? = some (Sum.inl (absI l), V.int (bitI l)) := by unfold kvF; rw [List.getElem?_map, el]; rfl
        refine ⟨l, 0, rfl, rfl, .inr ⟨_, rfl, by show 2 ≤ sizeLine; decide, fun p hp => ?_⟩⟩
        have eb : (if decide (0 < l) = true then (1 : Int) else 0) = bitI l := by
          unfold bitI
          by_cases c : 0 < l
          · rw [if_pos c, if_pos (decide_eq_true c)]
          · rw [if_neg c, if_neg (by rw [decide_eq_false c]; exact Bool.false_ne_true)]
        rw [eb]
        have sp := Same.new (o := .tup [V.int (absI l), V.int (bitI l)]) hp
        refine ⟨_, sp _ _ hDj, by rw [List.length_map]; omega, Same.upl (Same.trans ej sp) hD, ps ++ [p], by rw [upd_same, List.map_append]; rfl, by rw [List.length_append, lp]; rfl, ?_⟩
        rw [List.take_add_one, ek]
        refine pairApp (Paired.mapP tp fun b kv h => ?_) (.cons ?_ .nil)
        · rw [upd_ne (fun z => by rw [z, hDj] at h; cases h)]
          exact sp _ _ h
        · rw [upd_ne (fun z => by rw [z, hDj] at hp; cases hp)]
          exact upd_same
      · rintro H1 ⟨s1, ps, hD1, lp, tp⟩
        have lx := TupsAt.len tx
        rw [List.length_map] at lx
        have lk : (kvF ls).length = xs.length := by unfold kvF; rw [List.length_map, lx]
        rw [List.length_map, ← lk, List.take_length] at tp
        refine ⟨D, ps, kvF ls, rfl, SqL.of hD1, Paired.mapP tp fun p kv h => SqT.of h, fun p hp => hnx _ _ ⟨p, rfl, Same.trans s1 (Same.new hp), upd_same⟩⟩
    rintro σ' H1 ⟨d, rfl, s1, hdd⟩
    refine seq_gen (fun σ' H' => ∃ (l : Addr) (ys : List Addr), σ' = [some (.int (n : Int)), some (.ref fl), some (.ref ml), some (.ref d), some (.ref l), none, none, none, none] ∧ Same H1 H' ∧ H' l = some (.lst (ys.map V.ref)) ∧ TupsAt H' ys (rowsF (fixG ls) 0)) (fun nx hnx => ?_) ?_
    · refine ⟨Nat.zero_le _, fun p hp => ⟨by show 1 ≤ sizeLine; decide, fun l hl => hnx _ _ ⟨l, [p], rfl, Same.trans (Same.new hp) (Same.new hl), upd_same, .cons (Same.new hl _ _ upd_same) .nil⟩⟩⟩
    rintro σ' H2 ⟨l, ys, rfl, s2, hl, ty⟩
    refine seq_gen (fun σ' H' => ∃ (l5 l7 : Option V) (l : Addr) (ys : List Addr), σ' = [some (.int (n : Int)), some (.ref fl), some (.ref ml), some (.ref d), some (.ref l), l5, none, l7, none] ∧ Same H1 H' ∧ H' l = some (.lst (ys.map V.ref)) ∧ TupsAt H' ys (rowsF (fixG ls) n)) (fun nx hnx => ?_) ?_
    · refine ⟨_, rfl, _, _, rfl, rfl, 1, (n : Int) + 1, rfl, by omega, ?_⟩
      rw [show ((n : Int) + 1 - 1).toNat = n by omega]
      refine for_range (lo := 1) (n := n) (fun k σ H' => ∃ (l5 l7 : Option V) (l : Addr) (ys : List Addr), σ = [some (.int (n : Int)), some (.ref fl), some (.ref ml), some (.ref d), some (.ref l), l5, none, l7, none] ∧ Same H1 H' ∧ H' l = some (.lst (ys.map V.ref)) ∧ TupsAt H' ys (rowsF (fixG ls) k)) ⟨_, _, l, ys, rfl, s2, hl, ty⟩ ?_ ?_
      · rintro k σ H3 hk ⟨l5, l7, l, ys, rfl, s3, hl3, ty3⟩
        show tIfS _ _ _ _ [some (.int (n : Int)), some (.ref fl), some (.ref ml), some (.ref d), some (.ref l), some (.int (1 + (k : Int))), none, l7, none] H3
        have sub := rowsF_sub (g := fixG ls) (fun t b h => fixG_01 t b h) k
        have hb : ∀ p ∈ rowsF (fixG ls) k, p.length ≤ 14 := fun p hp => by have := (halves_bits (sub.subset hp)).1; omega
        have hn : (rowsF (fixG ls) k).length ≤ 16384 := by
          have h1 := sub.length_le
          have h2 : 2 ^ k ≤ 16384 := Nat.pow_le_pow_right (n := 2) (by decide) (show k ≤ 14 by omega)
          rw [halves_len] at h1
          omega
        have lx := TupsAt.len ty3
        have hd3 := s3 _ _ hdd
        have e1 : ((k + 1 : Nat) : Int) = 1 + (k : Int) := by omega
        walk_at "rd"
        have dg : ∀ H', Same H3 H' → DGet H' d (V.int (1 + (k : Int))) (valV (mergeK [] (kvF ls)) (Sum.inl ((k + 1 : Nat) : Int))) := fun H' s' => .inl ⟨_, Sum.inl (1 + (k : Int)), Rd.of (s' _ _ hd3), rfl, by rw [e1]⟩
        refine ⟨d, _, rfl, dg H3 (Same.refl _), ?_⟩
        rcases fix_some (ls := ls) (t := k + 1) with ⟨lf, _, _, ev, eg⟩ | ⟨_, ev, eg⟩
        · have er : rowsF (fixG ls) (k + 1) = (rowsF (fixG ls) k).map (· ++ [bitI lf]) := by show (match fixG ls (k + 1) with | some b => (rowsF (fixG ls) k).map (· ++ [b]) | none => _) = _; rw [eg]
          rw [ev]
          refine iteT ?_
          refine ⟨_, rfl, l, rfl, ⟨_, SqL.of hl3⟩, fun D hD => lc_list (K := K) (a := l) (xs := ys.map V.ref) (fun j Hj => Same H3 Hj ∧ ∃ zs, Hj D = some (.lst (zs.map V.ref)) ∧ zs.length = j ∧ TupsAt Hj zs (((rowsF (fixG ls) k).take j).map (· ++ [bitI lf]))) ⟨Same.new hD, [], upd_same, rfl, .nil⟩ (fun j Hj _ ⟨e, _⟩ => SqL.of (e _ _ hl3)) (fun j x Hj hj ⟨ej, h⟩ => ⟨rfl, yesT ?_⟩) ?_⟩
          · refine ⟨_, rfl, _, rfl, _, rfl, d, .int (bitI lf), rfl, ?_, ?_⟩
            · have := dg Hj ej
              rw [ev] at this
              exact this
            · exact grow_step hD ty3 hb hn hj ej h fun y H' h => h
          · rintro H4 ⟨s4, za, hDa, lza, tza⟩
            rw [List.length_map, lx, List.take_length, ← er] at tza
            exact ⟨_, _, D, za, rfl, Same.trans s3 s4, hDa, tza⟩
        · have er : rowsF (fixG ls) (k + 1) = (rowsF (fixG ls) k).map (· ++ [0]) ++ (rowsF (fixG ls) k).map (· ++ [1]) := by show (match fixG ls (k + 1) with | some b => (rowsF (fixG ls) k).map (· ++ [b]) | none => _) = _; rw [eg]
          rw [ev]
          refine iteF ?_
          refine ⟨_, rfl, l, rfl, ⟨_, SqL.of hl3⟩, fun D hD => lc_list (K := K) (a := l) (xs := ys.map V.ref) (fun j Hj => Same H3 Hj ∧ ∃ zs, Hj D = some (.lst (zs.map V.ref)) ∧ zs.length = j ∧ TupsAt Hj zs (((rowsF (fixG ls) k).take j).map (· ++ [0]))) ⟨Same.new hD, [], upd_same, rfl, .nil⟩ (fun j Hj _ ⟨e, _⟩ => SqL.of (e _ _ hl3)) (fun j x Hj hj ⟨ej, h⟩ => ⟨rfl, yesT ⟨_, rfl, grow_step hD ty3 hb hn hj ej h fun y H' h => h⟩⟩) ?_⟩
          rintro H4 ⟨s4, ya, hDa, lya, tya⟩
          refine ⟨_, rfl, l, rfl, ⟨_, SqL.of (s4 _ _ hl3)⟩, fun D2 hD2 => lc_list (K := K) (a := l) (xs := ys.map V.ref) (fun j Hj => Same H4 Hj ∧ ∃ zs, Hj D2 = some (.lst (zs.map V.ref)) ∧ zs.length = j ∧ TupsAt Hj zs (((rowsF (fixG ls) k).take j).map (· ++ [1]))) ⟨Same.new hD2, [], upd_same, rfl, .nil⟩ (fun j Hj _ ⟨e, _⟩ => SqL.of (e _ _ (s4 _ _ hl3))) (fun j x Hj hj ⟨ej, h⟩ => ⟨rfl, yesT ⟨_, rfl, grow_step hD2 (TupsAt.same s4 ty3) hb hn hj ej h fun y H' h => h⟩⟩) ?_⟩
          rintro H5 ⟨s5, yb, hDb, lyb, tyb⟩
          rw [List.length_map] at lya lyb tya tyb
          rw [lx, List.take_length] at tya tyb
          refine ⟨D, D2, _, _, rfl, rfl, s5 _ _ hDa, hDb, by rw [List.length_map, List.length_map]; omega, fun z hz => ?_⟩
          refine ⟨_, _, z, ya ++ yb, rfl, Same.trans s3 (Same.trans s4 (Same.trans s5 (Same.new hz))), by rw [upd_same, List.map_append], ?_⟩
          rw [er]
          exact TupsAt.same (Same.new hz) (pairApp (TupsAt.same s5 tya) tyb)
      · rintro σ H3 ⟨l5, l7, l, ys, rfl, s3, hl3, ty3⟩
        exact hnx _ _ ⟨_, _, l, ys, rfl, s3, hl3, ty3⟩
    rintro σ' H2 ⟨l5, l7, l, ys, rfl, s02, hl2, tx2⟩
    have s2 := Same.trans s1 s02
    have sub := rowsF_sub (g := fixG ls) (fun t b h => fixG_01 t b h) n
    have hrl : (rowsF (fixG ls) n).length ≤ 16384 := by
      have h1 := sub.length_le
      have h2 : 2 ^ n ≤ 16384 := Nat.pow_le_pow_right (n := 2) (by decide) n14
      rw [halves_len] at h1
      omega
    have lx := TupsAt.len tx2
    have lb := TupsAt.len tb
    refine ⟨_, rfl, l, rfl, ⟨_, SqL.of hl2⟩, fun D hD => lc_list (K := K) (a := l) (xs := ys.map V.ref) (fun j Hj => Same H2 Hj ∧ ∃ ys, Hj D = some (.lst (ys.map V.ref)) ∧ ys.length ≤ j ∧ TupsAt Hj ys (((rowsF (fixG ls) n).take j).filter fun p => holdsC p cs)) ⟨Same.new hD, [], upd_same, Nat.le_refl _, .nil⟩ (fun j Hj _ ⟨e, _⟩ => SqL.of (e _ _ hl2)) ?_ ?_⟩
    · rintro j x Hj hj ⟨ej, zs, hDj, lz, tz⟩
      rw [List.getElem?_map] at hj
      cases ez : ys[j]? with
      | none => rw [ez] at hj; cases hj
      | some a =>
      rw [ez] at hj
      cases hj
      have hjl : j < ys.length := (List.getElem?_eq_some_iff.mp ez).1
      obtain ⟨p, hp, ha⟩ := TupsAt.get (TupsAt.same ej tx2) ez
      have bp := halves_bits (sub.subset (List.mem_of_getElem? hp))
      have s2j := Same.trans s2 ej
      have hmlj := s2j _ _ hml
      refine ⟨rfl, ?_⟩
      refine ⟨_, rfl, ml, rfl, ⟨_, SqL.of hmlj⟩, fun E' hE => lc_list (K := K) (a := ml) (xs := bs.map V.ref) (fun i Hi => Same Hj Hi ∧ Hi E' = some (.lst (((cs.take i).map fun c => c.any (hd p)).map V.bl))) ⟨Same.new hE, upd_same⟩ (fun i Hi _ ⟨e, _⟩ => SqL.of (e _ _ hmlj)) ?_ ?_⟩
      · rintro i y Hi hi ⟨ei, hEi⟩
        rw [List.getElem?_map] at hi
        cases ew : bs[i]? with
        | none => rw [ew] at hi; cases hi
        | some cb =>
        rw [ew] at hi
        cases hi
        have hil : i < bs.length := (List.getElem?_eq_some_iff.mp ew).1
        obtain ⟨c, hc, hcb⟩ := TupsAt.get (TupsAt.same (Same.trans s2j ei) tb) ew
        have hcm := List.mem_of_getElem? hc
        refine ⟨rfl, yesT ?_⟩
        refine ⟨_, rfl, _, rfl, cb, a, n, c, p, rfl, SqT.of hcb, sm c hcm, lt c hcm, SqT.of (ei _ _ ha), bp.1, fun Hk sk => ?_⟩
        refine ⟨_, sk _ _ hEi, by rw [List.length_map, List.length_map, List.length_take]; exact small1000 (by omega), Same.upl (Same.trans ei sk) hE, ?_⟩
        rw [upd_same, List.take_add_one, hc]
        simp only [Option.toList_some, List.map_append, List.map_cons, List.map_nil]
      · rintro Hk ⟨sk, hEk⟩
        rw [List.length_map, lb, List.take_length] at hEk
        refine ⟨E', cs.map fun c => c.any (hd p), rfl, SqL.of hEk, ?_⟩
        have eh : (cs.map fun c => c.any (hd p)).all id = holdsC p cs := by
          unfold holdsC
          rw [List.all_map]
          rfl
        rw [eh]
        have hDk := sk _ _ hDj
        have ef : ((rowsF (fixG ls) n).take (j + 1)).filter (fun p => holdsC p cs) = ((rowsF (fixG ls) n).take j).filter (fun p => holdsC p cs) ++ (if holdsC p cs = true then [p] else []) := by
          rw [List.take_add_one, hp, List.filter_append, Option.toList_some, List.filter_cons]
          rfl
        cases h : holdsC p cs with
        | true =>
          rw [h] at ef
          refine ⟨true, rfl, iteT ⟨_, rfl, _, hDk, by rw [List.length_map]; omega, Same.upl (Same.trans ej sk) hD, zs ++ [a], by rw [upd_same, List.map_append]; rfl, by rw [List.length_append]; show _ + 1 ≤ _; omega, ?_⟩⟩
          rw [ef, if_pos rfl]
          refine pairApp (TupsAt.upd hDk (fun ys z => by cases z) (TupsAt.same sk tz)) (.cons ?_ .nil)
          rw [upd_ne (fun z => by rw [z, hDj] at ha; cases ha)]
          exact sk _ _ ha
        | false =>
          rw [h] at ef
          refine ⟨false, rfl, iteF ⟨Same.trans ej sk, zs, hDk, Nat.le_succ_of_le lz, ?_⟩⟩
          rw [ef, if_neg Bool.false_ne_true, List.append_nil]
          exact TupsAt.same sk tz
    · rintro H3 ⟨s3, ys, hD3, ly, ty⟩
      rw [List.length_map, lx, List.take_length] at ty
      refine ⟨D, ys, _, rfl, SqL.of hD3, ty, fun ys' p pm pw hp => ?_⟩
      have mm : ∀ b ∈ ys', H3 b = some (.tup ((ctOf H3 b).map V.int)) := fun b hb => TupsAt.mem ty b (pm.mem_iff.mp hb)
      have sp := Same.new (o := .lst (ys'.map V.ref)) hp
      have eS : ys'.map (ctOf H3) = ansL n (cs ++ ls.map fun l => [l]) := by
        refine fixed_ans fo ?_ (List.pairwise_map.mpr pw)
        have := pm.map (ctOf H3)
        rw [TupsAt.ct ty] at this
        exact this
      refine q p ys' _ (Same.trans s2 (Same.trans s3 sp)) (Same.noneE (Same.trans s2 s3) hp) upd_same ?_
      rw [← eS]
      exact TupsAt.same sp (TupsAt.of_mem mm)
end
end Toy

-- part: RG
namespace L2
open PySem PySem.Spec PyProof.Rows
section
variable {X : Cx}
/-- repr of nested lists and tuples -/
def rRepr (K : PySem.W.Frag) : List V → Hp → VK → Prop := fun xs H Q => ∃ a d, xs = [.ref a] ∧ Dp K H (.ref a) d ∧ d.showable = true ∧ d.hasDict = false ∧ d.depth ≤ 60 ∧ d.shown.length ≤ sizeLine ∧ Q (.str d.shown) H
theorem call_reprD (hg : X.A.guards = some []) (hu : X.A.units + 100 < cLine) : CallR X (.builtin "repr") (rRepr X.K) := by
  intro pins s σ H xs us Q I r h
  obtain ⟨a, d, rfl, hd, hs, hn, hp, hz, q⟩ := h
  obtain ⟨u, rfl, ru⟩ := vals1 r
  obtain ⟨as, hr⟩ := Dp.reads I d _ _ hd ru
  cases ru
  exact PySem.repr_of_reads' hr hs (PyData.noDict_hsm hn) hg (by omega) (fun _ _ e => e) (fun h' u tk hk => ⟨.str _, H, I.un (Un.kept hk) (I.hok.kept hk), ⟨_, rfl⟩, q⟩) hz
end
/-- a def that is called where no object's text is under way -/
structure FnG (P : Program) (w : World) (K : PySem.W.Frag) (mg : Str → Option Value) (base : Heap) (k : Nat) (f : Addr) (fd : FuncData) (ps : List Str) (sp : Sp) : Prop where
  len : ∀ vs H Q E, sp vs H Q E → vs.length = ps.length
  run : ∀ (A : Around) (outer : List Env) (s : Shared) (H : Hp) (args : Args) (us : List Value) (vs : List V) (Q : VK) (E : XK), A.guards = some [] → Room k A → Env0 P w K mg base A outer s H → BindsTo s fd args (ps.zip us) → Vals vs us → sp vs H Q E →
    codeAny (model P w) A (.call (.ref f) args) (CR CX0 outer P w H s Q E) s
theorem deeper_guards {A : Around} {env : Env} (h : A.guards = some []) : (A.deeper env).guards = some [] := by
  show _ = _
  simp [Around.deeper, h]
section
variable {P : Program} {w : World} {K : PySem.W.Frag} {mg : Str → Option Value} {base : Heap}
theorem FnG.of {x qual : Str} {st : Stmt} {f : Addr} {fd : FuncData} {N ps : List Str} {k : Nat} {sp : Sp} (F : Fun K x qual st f fd) (S : FnScope N ps (defScope st)) (len : ∀ vs H Q E, sp vs H Q E → vs.length = ps.length)
    (hbody : ∀ (cdv : Value) (A : Around) (outer : List Env) (s : Shared) (H : Hp) (vs : List V) (Q : VK) (E : XK), A.guards = some [] → Room k (A.deeper (envOfC qual (defScope st) s.heap.objs.size f cdv)) → sp vs H Q E →
      ∃ t, PSs (cxOf CX0 P w K mg base N qual (defScope st) f cdv A outer s H E).nox (defBody st) t ∧ t { nx := fun _ H' => Q .non H', rt := Q } (start N vs) H) : FnG P w K mg base (k + 1) f fd ps sp := by
  obtain ⟨oc, od, kV, doc, pm, an, cdv, ct, osl, rfl, lk, hcd⟩ := F.ex
  refine ⟨len, fun A outer s H args us vs Q E hg hr e0 hb r hsp => ?_⟩
  obtain ⟨t, ht, hq⟩ := hbody cdv A outer s H vs Q E hg (hr.deeper _) hsp
  have kp := fun b o e => (e0.bs b o e).1
  have KX : K.In s.heap := e0.mod.kin.keeps kp
  have kinds : ∀ y ∈ ps.zip us, (defScope st).names.lookup y.1 = some .local ∨ ((defScope st).names.lookup y.1 = some .cell ∧ ((cellsFrom (s.heap.objs.size + 1) (defScope st).names []).lookup y.1).isSome = true) := fun y hy =>
    (S.par y.1 (List.of_mem_zip (show (y.1, y.2) ∈ _ from hy)).1).imp id fun q => ⟨q, PySem.W.cellsFrom_some _ _ _ (.inl q)⟩
  refine codeAny_call_function hr.depth (KX _ _ lk) rfl S.co S.gen rfl (PySem.W.codeRec_of KX hcd) (hb _ _ _ _ (wpAny_newFunctionEnv_cells S.kind kinds fun env he s1 x => ?_))
  subst he
  refine ⟨(e0.mod.nolimit.keeps kp).keeps x.toInCall.keep, codeAny_func ?_⟩
  have I : Inv (cxOf CX0 P w K mg base N qual (defScope st) f cdv A outer s H E) [] (start N vs) H s1 := inv_start S hr.hd e0 (len _ _ _ _ hsp) r x
  refine wpAny_mono (ht.nox.run [] s1 (start N vs) H _ I hq) (fun fl s' hs => ?_) fun e s' hs => hs
  cases fl with
  | ret u =>
    obtain ⟨v, _, H', J, rv, q⟩ := hs
    exact ⟨v, H', J.os, J.bare, J.base, J.hok, rv, q⟩
  | next =>
    obtain ⟨_, H', J, q⟩ := hs
    exact ⟨V.non, H', J.os, J.bare, J.base, J.hok, rfl, q⟩
  | brk => exact hs.elim fun _ h => h.elim fun _ h => False.elim h.2
  | cont => exact hs.elim fun _ h => h.elim fun _ h => False.elim h.2
variable {X : Cx} {k : Nat} {f : Addr} {fd : FuncData} {ps : List Str} {sp : Sp} {x : Str} {p pos : Pos} {e : Expr} {es : List Expr} {t : TA}
theorem pe_callG (F : FnG X.prog X.w X.K X.mg X.base k f fd ps sp) (hgu : X.A.guards = some []) (hr : Room k X.A) (hg : Gl X x) (hm : X.mg x = some (.ref f)) (hk : PySem.W.keepIn X.K (.ref f) = true) (hb : Binds X.K fd ps [])
    (ha : PA X (e :: es) t) (hdb : (x == ("__debug__" : Str)) = false := by decide) (he : starEach (e :: es) X.env = (false, eval e X.env) :: starEach es X.env := by rfl) (hpl : (backTo pos (starEach es X.env)).any (·.1) = false := by rfl) :
    PE X (.Call (.Name x p) (e :: es) [] pos) (tCall sp [] E0 t) := by
  refine ⟨fun pins s σ H Q I h => wpAny_Call_Name_kw (ld_glob I hg hm (PySem.W.callWith_K (h₀ := X.base) I.ok.mod.kin hk (thn (ha.run pos pins s σ H _ I h) fun us s1 ⟨vs, H1, I1, r, q⟩ => ⟨I1.kIn, ?_⟩) he hpl) hdb)⟩
  have q : sp (vs ++ []) H1 Q E0 := q
  rw [List.append_nil] at q
  have b1 := hb s1 us I1.kIn (by rw [List.append_nil, ← r.length]; exact F.len _ _ _ _ q)
  rw [List.append_nil] at b1
  refine wpAny_call (codeAny_mono (F.run X.A X.stack s1 H1 ⟨us, []⟩ us vs Q E0 hgu hr I1.env0 b1 r q) fun r s' hq => ?_)
  cases r with
  | error e => exact pass0 pins σ H1 s1 e s' I1 hq
  | ok fl =>
    cases fl with
    | ret u => exact I1.after hq
    | next => exact False.elim hq
    | brk => exact False.elim hq
    | cont => exact False.elim hq
end
end L2

-- part: TX
namespace Toy
open PySem PySem.Spec PyProof.Rows L2
/-! ### how long the texts are -/
theorem piled_le {m : Nat} : ∀ {ts : List Str}, (∀ t ∈ ts, t.length ≤ m) → piled ts ≤ ts.length * (m + 2)
  | [], _ => Nat.zero_le _
  | t :: r, h => by
    have h1 := h t List.mem_cons_self
    have h2 := piled_le fun t ht => h t (List.mem_cons_of_mem _ ht)
    rw [piled_cons, List.length_cons, Nat.add_mul, Nat.one_mul]
    omega
theorem list_len (ts : List Str) : (listText ts).length ≤ piled ts + 2 := by
  cases ts with
  | nil => decide
  | cons t r =>
    have h := textFrom_length_pos r 1 (("[" : Str) ++ (if (0 : Nat) > 0 then ", " else "" : String) ++ t) (Nat.succ_pos 0)
    have e : ((("[" : Str) ++ (if (0 : Nat) > 0 then ", " else "" : String) ++ t)).length = 1 + t.length := by
      rw [strLen_append, strLen_append]; rfl
    have hX : (listText (t :: r)).length = (textFrom 1 (("[" : Str) ++ (if (0 : Nat) > 0 then ", " else "" : String) ++ t) r).length + 1 := by
      show (textFrom 0 "[" (t :: r) ++ "]").length = _
      rw [strLen_append]; rfl
    rw [hX, h, e, piled_cons]
    omega
theorem int_len4 : ∀ n : Nat, n < 401 → ((toString (n : Int) : String) : Str).length ≤ 4 ∧ ((toString (-(n : Int)) : String) : Str).length ≤ 4 := by decide +kernel
theorem int_shown {x : Int} (h : x.natAbs ≤ 400) : (PyData.shown (.int x)).length ≤ 4 := by
  simp only [PyData.shown]
  have q := int_len4 x.natAbs (by omega)
  rcases Int.natAbs_eq x with e | e
  · rw [e]
    exact q.1
  · rw [e]
    exact q.2
theorem all_shown {α : Type} (f : α → PyData) (m : Nat) : ∀ l : List α, (∀ x ∈ l, (f x).shown.length ≤ m) → (PyData.shownAll (l.map f)).length = l.length ∧ ∀ t ∈ PyData.shownAll (l.map f), t.length ≤ m
  | [], _ => by simp [PyData.shownAll]
  | x :: r, h => by
    obtain ⟨h1, h2⟩ := all_shown f m r fun y hy => h y (List.mem_cons_of_mem _ hy)
    simp only [List.map_cons, PyData.shownAll, List.length_cons, h1, true_and]
    intro t ht
    rcases List.mem_cons.mp ht with rfl | ht
    · exact h x List.mem_cons_self
    · exact h2 t ht
theorem showable_ints : ∀ l : List Int, (∀ x ∈ l, x.natAbs ≤ 400) → PyData.showableAll (l.map PyData.int) = true
  | [], _ => by simp [PyData.showableAll]
  | x :: r, h => by
    have h1 := h x List.mem_cons_self
    have h2 : x.natAbs.log2 < 1920 := Nat.lt_of_le_of_lt (Nat.log2_le_self _) (by omega)
    simp only [List.map_cons, PyData.showableAll, PyData.showable, showable_ints r fun y hy => h y (List.mem_cons_of_mem _ hy), Bool.and_true, decide_eq_true_eq]
    exact h2
theorem noDict_ints : ∀ l : List Int, PyData.hasDictAll (l.map PyData.int) = false
  | [] => by simp [PyData.hasDictAll]
  | x :: r => by simp [PyData.hasDictAll, PyData.hasDict, noDict_ints r]
/-- a list or a tuple of letters -/
def dI (z : Bool × List Int) : PyData := if z.1 = true then .list (z.2.map PyData.int) else .tuple (z.2.map PyData.int)
def Fits (n : Nat) (l : List Int) : Prop := l.length ≤ n ∧ ∀ x ∈ l, x.natAbs ≤ 400
theorem dI_shown {z : Bool × List Int} {n : Nat} (h : Fits n z.2) : (dI z).shown.length ≤ n * 6 + 2 ∧ (dI z).showable = true ∧ (dI z).hasDict = false ∧ (dI z).depth ≤ 2 := by
  obtain ⟨b, l⟩ := z
  obtain ⟨h1, h2⟩ := h
  obtain ⟨a1, a2⟩ := all_shown PyData.int 4 l fun x hx => int_shown (h2 x hx)
  have a3 := piled_le a2
  rw [a1] at a3
  have h1 : l.length ≤ n := h1
  have a4 : l.length * (4 + 2) ≤ n * 6 := Nat.mul_le_mul_right _ h1
  have d := dep_intsD l
  have s := showable_ints l h2
  have nd := noDict_ints l
  cases b with
  | true =>
    have a5 := list_len (PyData.shownAll (l.map PyData.int))
    refine ⟨?_, ?_, ?_, ?_⟩
    · show (PyData.shown (.list _)).length ≤ _
      simp only [PyData.shown]
      omega
    · show PyData.showable (.list _) = true
      simp only [PyData.showable]
      exact s
    · show PyData.hasDict (.list _) = false
      simp only [PyData.hasDict]
      exact nd
    · show PyData.depth (.list _) ≤ 2
      simp only [PyData.depth]
      omega
  | false =>
    have a5 := fmt_text (PyData.shownAll (l.map PyData.int))
    refine ⟨?_, ?_, ?_, ?_⟩
    · show (PyData.shown (.tuple _)).length ≤ _
      simp only [PyData.shown]
      omega
    · show PyData.showable (.tuple _) = true
      simp only [PyData.showable]
      exact s
    · show PyData.hasDict (.tuple _) = false
      simp only [PyData.hasDict]
      exact nd
    · show PyData.depth (.tuple _) ≤ 2
      simp only [PyData.depth]
      omega
end Toy

-- part: KD4
namespace Toy
open PySem L2
section
variable {P : Program} {w : World} {K : PySem.W.Frag} {mg : Str → Option Value} {base : Heap} {C : Addr}
theorem ans_cs {n : Nat} {a b : List (List Int)} (h : ∀ x, x ∈ a ↔ x ∈ b) : ansL n a = ansL n b := by
  unfold ansL
  refine List.filter_congr fun p _ => ?_
  unfold holdsC
  rw [Bool.eq_iff_iff, List.all_eq_true, List.all_eq_true]
  exact ⟨fun q x hx => q x ((h x).mpr hx), fun q x hx => q x ((h x).mp hx)⟩
/-- rows turned round are the same clauses -/
theorem due_memR {n : Nat} {cs cs2 : List (List Int)} (d : IsDue (cs.reverse.map List.reverse) cs2) (ok : ∀ c ∈ cs, OkC n c) (x : List Int) : x ∈ cs2 ↔ x ∈ cs := by
  rw [d.mem]
  constructor
  · rintro ⟨row, hr, h⟩
    obtain ⟨c, hc, rfl⟩ := List.mem_map.mp hr
    have hc := List.mem_reverse.mp hc
    rw [inc_ext h.inc (ok c hc).inc fun z => (h.mem z).trans List.mem_reverse]
    exact hc
  · exact fun h => ⟨x.reverse, List.mem_map.mpr ⟨x, List.mem_reverse.mpr h, rfl⟩, (ok x h).inc, fun z => List.mem_reverse.symm⟩
theorem fits_bits {n : Nat} {p : List Int} (b : Bits n p) : Fits n p := ⟨Nat.le_of_eq b.1, fun x hx => by rcases b.2 x hx with rfl | rfl <;> decide⟩
theorem showable_tups : ∀ (l : List (List Int)), (∀ p ∈ l, Fits 14 p) → PyData.showableAll (l.map dTup) = true
  | [], _ => by simp [PyData.showableAll]
  | p :: r, h => by
    have h1 := (dI_shown (z := (false, p)) (h p List.mem_cons_self)).2.1
    have h1 : (dTup p).showable = true := h1
    simp only [List.map_cons, PyData.showableAll, h1, showable_tups r fun y hy => h y (List.mem_cons_of_mem _ hy), Bool.and_true]
theorem noDict_tups : ∀ (l : List (List Int)), (∀ p ∈ l, Fits 14 p) → PyData.hasDictAll (l.map dTup) = false
  | [], _ => by simp [PyData.hasDictAll]
  | p :: r, h => by
    have h1 := (dI_shown (z := (false, p)) (h p List.mem_cons_self)).2.2.1
    have h1 : (dTup p).hasDict = false := h1
    simp only [List.map_cons, PyData.hasDictAll, h1, noDict_tups r fun y hy => h y (List.mem_cons_of_mem _ hy), Bool.or_false]
theorem lcl_shown {l : List (List Int)} (h : ∀ p ∈ l, Fits 14 p) (hl : l.length ≤ 16384) : (dLcl l).showable = true ∧ (dLcl l).hasDict = false ∧ (dLcl l).depth ≤ 60 ∧ (dLcl l).shown.length ≤ sizeLine := by
  have eZ : sizeLine = 16777216 := rfl
  obtain ⟨a1, a2⟩ := all_shown dTup 86 l fun p hp => (dI_shown (z := (false, p)) (h p hp)).1
  have a3 := piled_le a2
  rw [a1] at a3
  have a5 := list_len (PyData.shownAll (l.map dTup))
  have d := dep_cls l
  refine ⟨?_, ?_, ?_, ?_⟩
  · show PyData.showable (.list _) = true
    simp only [PyData.showable]
    exact showable_tups l h
  · show PyData.hasDict (.list _) = false
    simp only [PyData.hasDict]
    exact noDict_tups l h
  · show PyData.depth (.list _) ≤ 60
    simp only [PyData.depth]
    omega
  · show (PyData.shown (.list _)).length ≤ _
    simp only [PyData.shown]
    omega
theorem pairRev {α β : Type} {F : α → β → Prop} : ∀ {l : List α} {m : List β}, Paired F l m → Paired F l.reverse m.reverse
  | _, _, .nil => .nil
  | _, _, .cons h t => by
    rw [List.reverse_cons, List.reverse_cons]
    exact pairApp (pairRev t) (.cons h .nil)
theorem bits_all : ∀ {p : List Int}, (∀ x ∈ p, x = 0 ∨ x = 1) → (p.map V.int).all bitB = true
  | [], _ => rfl
  | x :: r, h => by
    rw [List.map_cons, List.all_cons, bits_all fun y hy => h y (List.mem_cons_of_mem _ hy)]
    have : bitB (.int x) = true := decide_eq_true (h x List.mem_cons_self)
    rw [this]
    rfl
theorem ansB_bits {n : Nat} {p : List Int} {a b : List (List Int)} (bp : Bits n p) (h : ∀ x, x ∈ a ↔ x ∈ b) : ansB (some (p.map V.int)) (n : Int) a = decide (p ∈ ansL n b) := by
  have e1 : ansL n a = ansL n b := ans_cs h
  rw [← e1]
  have e2 : wsB (some (p.map V.int)) (n : Int) = true := by
    show (decide (((p.map V.int).length : Int) = n) && (p.map V.int).all bitB) = true
    rw [bits_all bp.2, decide_eq_true (by rw [List.length_map, bp.1])]
    rfl
  have e3 : ansB (some (p.map V.int)) (n : Int) a = holdsC p a := by
    unfold ansB
    rw [e2, Bool.true_and]
    show (a.all fun d => d.any (hd ((p.map V.int).map intV))) = _
    rw [map_intV]
    rfl
  rw [e3, Bool.eq_iff_iff, decide_eq_true_eq, ans_mem]
  exact ⟨fun h => ⟨bp, h⟩, fun h => h.2⟩

theorem ansB_ints {n : Nat} {M : List Int} {a b : List (List Int)} (h : ∀ x, x ∈ a ↔ x ∈ b) : ansB (some (M.map V.int)) (n : Int) a = decide (M ∈ ansL n b) := by
  by_cases bp : Bits n M
  · exact ansB_bits bp h
  · have e : wsB (some (M.map V.int)) (n : Int) = false := by
      cases z : wsB (some (M.map V.int)) (n : Int) with
      | false => rfl
      | true =>
        exfalso
        have z : (decide (((M.map V.int).length : Int) = n) && (M.map V.int).all bitB) = true := z
        rw [Bool.and_eq_true, decide_eq_true_eq, List.length_map] at z
        obtain ⟨W, e1, e2⟩ := bits_of z.2
        have e3 : M = W := by
          have := congrArg (List.map intV) e1
          rwa [map_intV, map_intV] at this
        subst e3
        exact bp ⟨by omega, e2⟩
    unfold ansB
    rw [e, Bool.false_and, decide_eq_false]
    intro z
    exact bp (ans_mem.mp z).1
theorem ok_unit {n : Nat} {l : Int} (h : Lt n l) (n1 : 1 ≤ n) : OkC n [l] := ⟨n1, List.nodup_cons.mpr ⟨fun z => (nomatch z), List.nodup_nil⟩, List.pairwise_singleton _ _, fun x hx => by rw [List.mem_singleton.mp hx]; exact h⟩
/-- two rows of numbers, one behind the other -/
theorem p_catI {H : Hp} {Q : VK} {a b : Addr} {A B : List Int} (ha : SqT K H a (A.map V.int)) (hb : SqT K H b (B.map V.int)) (hz : A.length + B.length ≤ 1000) (q : ∀ r H', Same H H' → SqT K H' r ((A ++ B).map V.int) → Q (.ref r) H') : rCatA K (.ref a) (.ref b) H Q := by
  have eZ : sizeLine = 16777216 := rfl
  refine ⟨a, b, _, _, rfl, rfl, ha, hb, by rw [List.length_map, List.length_map]; omega, fun e => ?_, fun e1 e2 => ?_, fun e1 e2 p hp => ?_⟩
  · have : A = [] := List.map_eq_nil_iff.mp e
    subst this
    exact q b H (Same.refl H) hb
  · have : B = [] := List.map_eq_nil_iff.mp e2
    subst this
    exact q a H (Same.refl H) (by rw [List.append_nil]; exact ha)
  · exact q p _ (Same.new hp) (SqT.of (by rw [upd_same, List.map_append]))
end
section
variable {K : PySem.W.Frag}
/-! ### behind a lambda: all but the tables stays -/
open LamX (Tabs TabS ExtN CodeO)
theorem ext_nt {H H' : Hp} (e : ExtN H H') {b : Addr} {o : HO} (h : H b = some o) (n : ∀ ps, o ≠ .tbl ps) : H' b = some o := e b o h n
theorem TupsAt.extN {H H' : Hp} (e : ExtN H H') {bs : List Addr} {cs : List (List Int)} (t : TupsAt H bs cs) : TupsAt H' bs cs := Paired.mapP t fun b c h => e _ _ h (by intro _ z; cases z)
theorem Prb.extN {C : Addr} {H H' : Hp} (e : ExtN H H') {x cp : Addr} {t : Int} {cs : List (List Int)} (p : Prb C H x t cp cs) : Prb C H' x t cp cs := by
  obtain ⟨⟨dx, h1⟩, bs, h2, h3⟩ := p
  exact ⟨⟨dx, e _ _ h1 (by intro _ z; cases z)⟩, bs, e _ _ h2 (by intro _ z; cases z), TupsAt.extN e h3⟩
theorem DrA.extN {sc d : Addr} {ns : List Int} {H H' : Hp} (e : ExtN H H') (h : DrA K sc ns H d) : DrA K sc ns H' d := by
  obtain ⟨n, D⟩ := h
  refine ⟨n, e _ _ D.dr (by intro _ z; cases z), ?_, D.len, D.pos⟩
  rcases D.sq with (q | ⟨o, q⟩) | q
  · exact .inl (.inl (e _ _ q (by intro _ z; cases z)))
  · exact .inl (.inr ⟨o, e _ _ q (by intro _ z; cases z)⟩)
  · exact .inr q
theorem Tabs.exD {T : List (Addr × Str)} {sc d : Addr} {ns : List Int} {H H' : Hp} (D : DrA K sc ns H d) (E : Ex d H H') (t : Tabs T H) : Tabs T H' := fun p hp => by
  obtain ⟨n, D⟩ := D
  have nd : ∀ {b o}, H b = some o → (∀ xs, o ≠ .lst xs) → H' b = some o := fun {b o} h n => E b o h (fun z => by
    rw [z, D.dr] at h
    exact n _ (Option.some.inj h).symm)
  obtain ⟨ps, h1, h2, h3⟩ := t p hp
  refine ⟨ps, nd h1 (by intro _ z; cases z), h2, fun pos cv hc => ?_⟩
  obtain ⟨c, e1, e2⟩ := h3 pos cv hc
  exact ⟨c, e1, nd e2 (by intro _ z; unfold CodeO at z; cases z)⟩
end
end Toy

-- part: FT
/-! a def whose code object is known (it makes lambdas), asked for reprs too; own classes without __init__ that are raised -/
namespace Toy
open PySem PySem.Spec PyProof.Rows L2
open LamX (Tabs TabS ExtN CodeO TabB)
section
variable {P : Program} {w : World} {K : PySem.W.Frag} {mg : Str → Option Value} {base : Heap}
structure FunT (K : PySem.W.Frag) (x qual : Str) (st : Stmt) (c f : Addr) (fd : FuncData) : Prop where
  ex : ∃ (oc : Value) (od : Option Addr) (kV doc pm : Value) (an : Option Addr) (ct : Value) (osl : Array (Option Value)),
    fd = PySem.W.fnOf x qual (defArgs st) (defBody st) (defScope st) .none kV doc pm an (.ref c) ct ∧ K.lookup f = some ⟨oc, od, .func fd, osl⟩ ∧ PySem.W.codeIn K (.ref c) qual = true
  kp : PySem.W.keepIn K (.ref f) = true
theorem FunT.ok {x qual : Str} {st : Stmt} {c f : Addr} {fd : FuncData} {N ps : List Str} {k : Nat} {sp : Sp} (F : FunT K x qual st c f fd) (S : FnScope N ps (defScope st)) (len : ∀ vs H Q E, sp vs H Q E → vs.length = ps.length)
    (hb : ∀ (A : Around) (outer : List Env) (s : Shared) (H : Hp) (vs : List V) (Q : VK) (E : XK), Room k (A.deeper (envOfC qual (defScope st) s.heap.objs.size f (.ref c))) → sp vs H Q E →
      ∃ t, PSs (cxOf CX0 P w K mg base N qual (defScope st) f (.ref c) A outer s H E).nox (defBody st) t ∧ t { nx := fun _ H' => Q .non H', rt := Q } (start N vs) H) : FnOk P w K mg base CX0 (k + 1) f fd ps sp := by
  obtain ⟨oc, od, kV, doc, pm, an, ct, osl, rfl, lk, hcd⟩ := F.ex
  refine fn_of lk hcd S len fun A outer s H vs Q E hr hsp => ?_
  obtain ⟨t, h, q⟩ := hb A outer s H vs Q E hr hsp
  exact ⟨t, h.nox, q⟩
theorem FnG.ofT {x qual : Str} {st : Stmt} {c f : Addr} {fd : FuncData} {N ps : List Str} {k : Nat} {sp : Sp} (F : FunT K x qual st c f fd) (S : FnScope N ps (defScope st)) (len : ∀ vs H Q E, sp vs H Q E → vs.length = ps.length)
    (hb : ∀ (A : Around) (outer : List Env) (s : Shared) (H : Hp) (vs : List V) (Q : VK) (E : XK), A.guards = some [] → Room k (A.deeper (envOfC qual (defScope st) s.heap.objs.size f (.ref c))) → sp vs H Q E →
      ∃ t, PSs (cxOf CX0 P w K mg base N qual (defScope st) f (.ref c) A outer s H E).nox (defBody st) t ∧ t { nx := fun _ H' => Q .non H', rt := Q } (start N vs) H) : FnG P w K mg base (k + 1) f fd ps sp := by
  obtain ⟨oc, od, kV, doc, pm, an, ct, osl, rfl, lk, hcd⟩ := F.ex
  refine ⟨len, fun A outer s H args us vs Q E hg hr e0 hbi r hsp => ?_⟩
  obtain ⟨t, ht, hq⟩ := hb A outer s H vs Q E hg (hr.deeper _) hsp
  have kept := fun b o e => (e0.bs b o e).1
  have KX : K.In s.heap := e0.mod.kin.keeps kept
  have kinds : ∀ y ∈ ps.zip us, (defScope st).names.lookup y.1 = some .local ∨ ((defScope st).names.lookup y.1 = some .cell ∧ ((cellsFrom (s.heap.objs.size + 1) (defScope st).names []).lookup y.1).isSome = true) := fun y hy =>
    (S.par y.1 (List.of_mem_zip (show (y.1, y.2) ∈ _ from hy)).1).imp id fun q => ⟨q, PySem.W.cellsFrom_some _ _ _ (.inl q)⟩
  refine codeAny_call_function hr.depth (KX _ _ lk) rfl S.co S.gen rfl (PySem.W.codeRec_of KX hcd) (hbi _ _ _ _ (wpAny_newFunctionEnv_cells S.kind kinds fun env he s1 x => ?_))
  subst he
  refine ⟨(e0.mod.nolimit.keeps kept).keeps x.toInCall.keep, codeAny_func ?_⟩
  have I : Inv (cxOf CX0 P w K mg base N qual (defScope st) f (.ref c) A outer s H E) [] (start N vs) H s1 := inv_start S hr.hd e0 (len _ _ _ _ hsp) r x
  refine wpAny_mono (ht.nox.run [] s1 (start N vs) H _ I hq) (fun fl s' hs => ?_) fun e s' hs => hs
  cases fl with
  | ret u =>
    obtain ⟨v, _, H', J, rv, q⟩ := hs
    exact ⟨v, H', J.os, J.bare, J.base, J.hok, rv, q⟩
  | next =>
    obtain ⟨_, H', J, q⟩ := hs
    exact ⟨V.non, H', J.os, J.bare, J.base, J.hok, rfl, q⟩
  | brk => exact hs.elim fun _ h => h.elim fun _ h => False.elim h.2
  | cont => exact hs.elim fun _ h => h.elim fun _ h => False.elim h.2
end
/-- an own class without __init__, under ValueError, that is raised -/
structure OwnX (K : PySem.W.Frag) (mg : Str → Option Value) (x : Str) (C : Addr) : Prop where
  g : mg x = some (.ref C)
  xc : PySem.W.excIn K C [.type "ValueError", .type "Exception", .type "BaseException", .type "object"] "ValueError.__new__" = true
  kp : PySem.W.keepIn K (.ref C) = true
  sb : PySem.W.subIn K (.ref C) (.type "BaseException") = some true
  ty : PySem.W.typeIn K (.ref C) = some (.type "type")
section
variable {X : Cx} {W : WX} {C : Addr} {x : Str} {e : Expr} {te : TE} {p p1 pos : Pos}
/-- raise x(e) -/
theorem ps_raiseOwn (O : OwnX X.K X.mg x C) (hc : X.calm = true) (tk : Takes X W) (hg : Gl X x) (he : PE X e te) (hs : starEach [e] X.env = (false, eval e X.env) :: starEach [] X.env := by rfl) (hdb : (x == ("__debug__" : Str)) = false := by decide) :
    PS X (.Raise (some (.Call (.Name x p) [e] [] p1)) none pos) (fun _ σ H => te σ H fun _ H1 => W (.ref C) none σ H1) :=
  ps_raise hc tk (SkE.pmk_own1 PySem.F.excBase_ValueError O.xc O.g O.kp (raises_own O.sb O.ty) hg he hs hdb)
/-- what may leave a lambda's body -/
theorem lam_takes {A : Around} {outer : List Env} {s : Shared} {H : Hp} {E : XK} {scope : Scope} {f c' : Addr} : Takes (LamX.lamCx X A outer s H E scope f c') (fun cls d _ H => E cls d H) := takes_of rfl rfl rfl rfl
theorem lam_pass {A : Around} {outer : List Env} {s : Shared} {H : Hp} {E : XK} {scope : Scope} {f c' : Addr} : Passes (L2.CX X.prog X.w) (LamX.lamCx X A outer s H E scope f c') E := passes_call lam_takes fun _ _ _ _ h => h
end
end Toy

-- part: AR
/-! answers, refused -/
namespace Toy
open PySem L2
section
variable {P : Program} {w : World} {K : PySem.W.Frag} {mg : Str → Option Value} {base : Heap} {C CT : Addr}
def spAnR (K : PySem.W.Frag) (C CT : Addr) : Sp := fun vs H _ E => ∃ (x : Addr) (m : Int) (n : Nat) (cp : Addr) (cs : List (List Int)), vs = [.ref x, .int m] ∧ Prb C H x n cp cs ∧ m < (n : Int) ∧ 0 ≤ m ∧ m ≤ 400 ∧ E (.ref CT) none H
theorem ok_anR {f : Addr} {fd : FuncData} (F : FunD K "answers" "answers" (defArgs sAn) (defBody sAn) (defScope sAn) [] [("most", .int 12)] f fd) (cl : Cls K C) (nM : NoAttr K C "many") (O : OwnX K mg "TooMany" CT) : FnOk P w K mg base (L2.CX P w) 1 f fd ["problem", "most"] (spAnR K C CT) := by
  refine FunD.ok F scAn (fun vs H Q E h => ?_) (fun cdv A outer s H vs Q E hr h => ?_)
  · obtain ⟨x, m, n, cp, cs, rfl, _⟩ := h
    rfl
  · obtain ⟨x, m, n, cp, cs, rfl, p, nm, m0, m9, q⟩ := h
    refine ⟨_, pss_cons (ps_if (pt_cmpR op_gt (pe_fld (pv 0) rfl) (pv 1) (nomark _)) (pss_one (ps_raiseOwn O rfl (takes_of rfl rfl rfl rfl) rfl (pe_joined (PJ.cons pe_str (PJ.cons (pe_fmt (pv 1)) PJ.nil))))) pss_nil) pss_never, ?_⟩
    show tSeq _ _ _ [some (.ref x), some (.int m), none, none, none, none, none] H
    have eZ : sizeLine = 16777216 := rfl
    obtain ⟨dx, hx⟩ := p.ob
    refine ⟨_, rfl, x, C, dx, _, _, rfl, hx, cl, nM, flds_many n cp, _, rfl, _, _, rfl, rfl, true, by show V.bl (decide (m < (n : Int))) = _; rw [decide_eq_true (by omega)], iteT ?_⟩
    obtain ⟨k, rfl⟩ := Int.eq_ofNat_of_zero_le m0
    have hm := (int_len4 k (by omega)).1
    refine ⟨"there are more truths than ", rfl, by decide +kernel, _, rfl, .inr ⟨(k : Int), rfl, Nat.lt_of_le_of_lt (Nat.log2_le_self _) (by omega), _, rfl, ?_, q⟩⟩
    rw [strLen_append]
    have e1 : (Str.empty ++ "there are more truths than " : Str).length = 27 := by decide +kernel
    omega
end
end Toy

-- part: KD5
namespace Toy
open PySem L2
open LamX (Tabs TabS ExtN TabB pe_lamcall)
section
variable {P : Program} {w : World} {K : PySem.W.Frag} {mg : Str → Option Value} {base : Heap} {C CT : Addr} {cs0 : Nat → Addr}
abbrev sLaw : Stmt := s_law
abbrev nLaw : List Str := ["script", "draw", "turn", "many", "size", "loose", "fixed", "wide", "more", "problem", "due", "row", "turned", "bound", "k"]
theorem scLaw : FnScope nLaw ["script"] (defScope sLaw) := ⟨rfl, rfl, rfl, by decide +kernel, rfl, by decide +kernel, by decide +kernel⟩
def qLam : Str := "law.<locals>.<lambda>"
theorem LamX_lam {sc scope : Scope} (h : LamX.lamSB sc scope = true) : LamX.LamS sc scope := LamX.lamS_by h
def tLam1 (K : PySem.W.Frag) (C CT : Addr) : XK → TE := fun E => tCallN 1 ([("most" : Str)] : List Str).length (spAnR K C CT) (fun vs zs => vs ++ zs) E (tCons (tVar 9) tNil) (tCons (tVar 13) tNil)
def tLam2 (K : PySem.W.Frag) (C CT : Addr) : XK → TE := fun E => tCall (spAnR K C CT) [.int 12] E (tCons (tVar 9) tNil)
def tLoo (K : PySem.W.Frag) : TE := tOp (rI0 fun i j => V.int (i + j)) (tC (.int 1)) (tCall (spNext K) [] E0 (tCons (tVar 1) (tCons (tVar 3) tNil)))
def tMor (K : PySem.W.Frag) : TE := tCall (spCs K) [] E0 (tCons (tVar 1) (tCons (tVar 3) (tCons (tVar 7) tNil)))
def spLaw (K : PySem.W.Frag) (T : List (Addr × Str)) : Sp := fun vs H Q _ => ∃ (sc : Addr) (ns : List Int), vs = [.ref sc] ∧ SqL K H sc (ns.map V.int) ∧ ns.length ≤ 63 ∧ Tabs T H ∧ ∀ H', Q (.bl true) H'
theorem ok_law {fN fL fT fC fU fB fI fE eT c PT : Addr} {fdN fdL fdT fdC fdU fdB fdI fdE : FuncData} {f fX fFx fCs fDu fIs fAn fR fWd : Addr} {fd fdX fdFx fdCs fdDu fdIs fdAn fdR fdWd : FuncData} {ds : List Value} {kg : List Value → List Value → List Value} (F : FunT K "law" "law" sLaw c f fd) (B : Bl mg) (TB : TabB base mg c PT)
    (G : Prog K mg C fN fL fT fC fU fB fI fE fdN fdL fdT fdC fdU fdB fdI fdE eT)
    (X : Df K mg "_law_next" sNext ["draw", "size"] fX fdX) (GX : FnOk P w K mg base CX0 2 fX fdX ["draw", "size"] (spNext K))
    (FX : Df K mg "_law_fixed" sFx ["draw", "many", "loose"] fFx fdFx) (GFx : FnOk P w K mg base CX0 3 fFx fdFx ["draw", "many", "loose"] (spFx K))
    (CS : Df K mg "_law_clause" sCs ["draw", "many", "top"] fCs fdCs) (GCs : FnOk P w K mg base CX0 3 fCs fdCs ["draw", "many", "top"] (spCs K))
    (DU : Df K mg "_law_due" sDu ["many", "fixed", "more"] fDu fdDu) (GDu : FnOk P w K mg base CX0 2 fDu fdDu ["many", "fixed", "more"] (spDu K))
    (IS : Df K mg "is_answer" sIsA ["problem", "thing"] fIs fdIs) (GIs : FnOk P w K mg base CX0 3 fIs fdIs ["problem", "thing"] (spIsA K C))
    (gAn : mg "answers" = some (.ref fAn)) (kAn : PySem.W.keepIn K (.ref fAn) = true) (bAn : Binds K fdAn ["problem", "most"] ds) (dAn : Vals [V.int 12] ds) (kb : KBn K fdAn ["problem", "most"] 1 ["most"] kg (fun vs zs => vs ++ zs)) (GAn : FnOk P w K mg base CX0 5 fAn fdAn ["problem", "most"] (spAn K C)) (GAnR : FnOk P w K mg base (L2.CX P w) 1 fAn fdAn ["problem", "most"] (spAnR K C CT))
    (RF : Df K mg "_law_refused" sLRf ["work"] fR fdR) (WD : Df K mg "_law_word" sLWd ["e"] fWd fdWd) (GWd : FnOk P w K mg base CX0 1 fWd fdWd ["e"] (spLWd K cs0)) (ER : Errs mg cs0) (EK : ErrK K cs0 CT 2) : FnG P w K mg base 9 f fd ["script"] (spLaw K [(PT, qLam)]) := by
  have GI : FnOk P w K mg base CX0 5 fI fdI ["self", "many", "clauses"] (spInit K C) := ok_init G B
  obtain ⟨ocR, odR, kVR, docR, pmR, anR, cdvR, ctR, oslR, rfl, lkR, hcR⟩ := RF.F.ex
  refine FnG.ofT F scLaw (fun vs H Q E h => ?_) (fun A outer s H vs Q E hgu hr h => ?_)
  · obtain ⟨sc, ns, rfl, _⟩ := h
    rfl
  · obtain ⟨sc, ns, rfl, hS, hn, hT, q⟩ := h
    have hu := hu_of hr
    have hu65 : (A.deeper (PyProof.Rows.envOfC "law" (defScope sLaw) s.heap.objs.size f (.ref c))).units + 65 < cLine := Nat.lt_of_le_of_lt (Nat.add_le_add_left (by decide : 65 ≤ 100) _) (u100 hr)
    refine ⟨_, pss_cons (ps_set (i := 1) scLaw.nd rfl (Or.inr rfl) (pe_lst (pa_cons (pv 0) (pa_cons (pe_int) pa_nil))))
      (pss_cons (ps_for PassesOwn.never rfl (pi_range1 rfl B.range (pa_cons (pe_callB ((call_max2 rfl)) (by rfl) B.max (by decide +kernel) (pa_cons (pe_int) (pa_cons (pe_callB ((call_min2 rfl)) (by rfl) B.min (by decide +kernel) (pa_cons (pe_int) (pa_cons (pe_callB call_len_seq (by rfl) B.len PySem.boot_len (pa_cons (pv 0) pa_nil)) pa_nil))) pa_nil))) pa_nil)) (pg_name (i := 2) scLaw.nd rfl (Or.inl rfl)) (pss_cons (ps_asg (pe_tup (pa_cons (pe_op op_add (pe_int) (pe_call GX (hr.mono (by decide)) rfl X.g X.F.kp X.b .nil pass0 (pa_cons (pv 1) (pa_cons (pe_int) pa_nil)))) (pa_cons (pe_ix ix_list (pe_lst (pa_cons (pe_int) (pa_cons (pe_int) (pa_cons (pe_int) (pa_cons (pe_int) (pa_cons (pe_int) (pa_cons (pe_int) (pa_cons (pe_int) (pa_cons (pe_int) pa_nil))))))))) (pe_call GX (hr.mono (by decide)) rfl X.g X.F.kp X.b .nil pass0 (pa_cons (pv 1) (pa_cons (pe_int) pa_nil))) (fun _ _ => rfl)) pa_nil))) (pg_tup rfl (pgs_cons (pg_name (i := 3) scLaw.nd rfl (Or.inr rfl)) (pgs_cons (pg_name (i := 4) scLaw.nd rfl (Or.inl rfl)) pgs_nil))))
      (pss_cons (ps_setLc (i := 5) (own := [("k", 14)]) (g := gName 14) (tt := tYes) (te := tLoo K) rfl scLaw.nd rfl rfl (sw_true rfl rfl rfl (by decide +kernel)) (pi_range1 rfl B.range (pa_cons (pv 4) pa_nil)) (blkOk_by (own := [("k", 14)]) (N := nLaw) (sc := (defScope sLaw)) (by decide +kernel)) (fun _ _ _ _ _ => pg_name (i := 14) scLaw.nd rfl (Or.inl rfl)) (fun _ _ _ _ _ => pts_nil) (fun _ _ _ _ _ => pe_op op_add (pe_int) (pe_call GX (hr.mono (by decide)) rfl X.g X.F.kp X.b .nil pass0 (pa_cons (pv 1) (pa_cons (pv 3) pa_nil)))))
      (pss_cons (ps_set (i := 6) scLaw.nd rfl (Or.inl rfl) (pe_call GFx (hr.mono (by decide)) rfl FX.g FX.F.kp FX.b .nil pass0 (pa_cons (pv 1) (pa_cons (pv 3) (pa_cons (pv 5) pa_nil)))))
      (pss_cons (ps_set (i := 7) scLaw.nd rfl (Or.inr rfl) (pe_ix ix_list (pe_lst (pa_cons (pe_int) (pa_cons (pv 3) pa_nil))) (pe_call GX (hr.mono (by decide)) rfl X.g X.F.kp X.b .nil pass0 (pa_cons (pv 1) (pa_cons (pe_int) pa_nil))) (fun _ _ => rfl)))
      (pss_cons (ps_setLc (i := 8) (own := [("k", 14)]) (g := gName 14) (tt := tYes) (te := tMor K) rfl scLaw.nd rfl rfl (sw_true rfl rfl rfl (by decide +kernel)) (pi_range1 rfl B.range (pa_cons (pe_call GX (hr.mono (by decide)) rfl X.g X.F.kp X.b .nil pass0 (pa_cons (pv 1) (pa_cons (pe_int) pa_nil))) pa_nil)) (blkOk_by (own := [("k", 14)]) (N := nLaw) (sc := (defScope sLaw)) (by decide +kernel)) (fun _ _ _ _ _ => pg_name (i := 14) scLaw.nd rfl (Or.inl rfl)) (fun _ _ _ _ _ => pts_nil) (fun _ _ _ _ _ => pe_call GCs (hr.mono (by decide)) rfl CS.g CS.F.kp CS.b .nil pass0 (pa_cons (pv 1) (pa_cons (pv 3) (pa_cons (pv 7) pa_nil)))))
      (pss_cons (ps_asg (pe_tup (pa_cons (pe_make G.mak GI (hr.mono (by decide)) rfl G.gC G.bI .nil pass0 (pa_cons (pv 3) (pa_cons (pe_op op_cat (pv 8) (pv 6)) pa_nil))) (pa_cons (pe_call GDu (hr.mono (by decide)) rfl DU.g DU.F.kp DU.b .nil pass0 (pa_cons (pv 3) (pa_cons (pv 6) (pa_cons (pv 8) pa_nil)))) pa_nil))) (pg_tup rfl (pgs_cons (pg_name (i := 9) scLaw.nd rfl (Or.inr rfl)) (pgs_cons (pg_name (i := 10) scLaw.nd rfl (Or.inl rfl)) pgs_nil))))
      (pss_cons (ps_for PassesOwn.never rfl (pi_list (pe_slice sl_list (pv 10) po_none (po_some pe_int))) (pg_name (i := 11) scLaw.nd rfl (Or.inl rfl)) (pss_cons (ps_set (i := 12) scLaw.nd rfl (Or.inl rfl) (pe_op op_catA (pe_op op_catA (pe_slice sl_tupA (pv 11) po_none (po_some (pe_op op_fdivN (pv 3) (pe_int)))) (pe_tup (pa_cons (pe_op op_sub (pe_int) (pe_ix ix_tup (pv 11) (pe_op op_fdivN (pv 3) (pe_int)) (fun _ _ => rfl))) pa_nil))) (pe_slice sl_tupA (pv 11) (po_some (pe_op op_add (pe_op op_fdivN (pv 3) (pe_int)) (pe_int))) po_none)))
      (pss_one (ps_if (PW.pt (pw_or (pt_cmpR op_isnot_bl (pe_call GIs (hr.mono (by decide)) rfl IS.g IS.F.kp IS.b .nil pass0 (pa_cons (pv 9) (pa_cons (pv 11) pa_nil))) (pe_bl) (nomark _)) (pw_or1 (pt_cmpR op_ne (pe_call GIs (hr.mono (by decide)) rfl IS.g IS.F.kp IS.b .nil pass0 (pa_cons (pv 9) (pa_cons (pv 12) pa_nil))) (pe_cmpR (op_inD hu65) (pv 12) (pv 10) rfl) (nomark _))))) (pss_one (ps_ret (pe_bl))) pss_nil))))
      (pss_cons (ps_set (i := 13) scLaw.nd rfl (Or.inr rfl) (pe_op op_add (pe_op op_sub (pv 3) (pe_int)) (pe_call GX (hr.mono (by decide)) rfl X.g X.F.kp X.b .nil pass0 (pa_cons (pv 1) (pa_cons (pe_int) pa_nil)))))
      (pss_cons (ps_if (pt_cmpR op_lt (pv 13) (pv 3) (nomark _)) (pss_one (ps_if (pt_cmpR (op_neD hr.units) (pe_lamcall (T := [(PT, qLam)]) (TT := TTref K cs0) (k := 4) (t := tLam1 K C CT) (by rfl) RF.g RF.F.kp lkR hcR RF.b scLRf rfl (Or.inl rfl) (refused_gives rfl (hr.mono (by decide)) B ER WD GWd) TB rfl List.mem_cons_self (fun p hp _ => by rw [List.mem_singleton.mp hp]; rfl) (hr.mono (by decide)) (LamX_lam (by show LamX.lamSB (defScope sLaw) _ = true; decide +kernel)) rfl (fun _ _ _ _ _ => rfl) (fun A outer s H E f c' hr2 => pe_callN GAnR (hr2.mono (by decide)) rfl gAn kAn kb lam_pass (pa_cons (pv 9) pa_nil) (pk_cons (pv 13) pk_nil))) (pe_tup (pa_cons (pe_str) (pa_cons (pe_non) pa_nil))) (nomark _)) (pss_one (ps_ret (pe_bl))) pss_nil)) (pss_one (ps_if (pt_cmpR op_ne (pe_callB ((call_reprD (deeper_guards hgu) (u100 hr))) (by rfl) B.repr (by decide +kernel) (pa_cons (pe_callN GAn (hr.mono (by decide)) rfl gAn kAn kb pass0 (pa_cons (pv 9) pa_nil) (pk_cons (pv 13) pk_nil)) pa_nil)) (pe_callB ((call_reprD (deeper_guards hgu) (u100 hr))) (by rfl) B.repr (by decide +kernel) (pa_cons (pv 10) pa_nil)) (nomark _)) (pss_one (ps_ret (pe_bl))) pss_nil)))
      (pss_one (ps_if (pt_cmpR op_gt (pv 3) (pe_int) (nomark _)) (pss_one (ps_if (pt_cmpR (op_neD hr.units) (pe_lamcall (T := [(PT, qLam)]) (TT := TTref K cs0) (k := 4) (t := tLam2 K C CT) (by rfl) RF.g RF.F.kp lkR hcR RF.b scLRf rfl (Or.inl rfl) (refused_gives rfl (hr.mono (by decide)) B ER WD GWd) TB rfl List.mem_cons_self (fun p hp _ => by rw [List.mem_singleton.mp hp]; rfl) (hr.mono (by decide)) (LamX_lam (by show LamX.lamSB (defScope sLaw) _ = true; decide +kernel)) rfl (fun _ _ _ _ _ => rfl) (fun A outer s H E f c' hr2 => pe_call GAnR (hr2.mono (by decide)) rfl gAn kAn bAn dAn lam_pass (pa_cons (pv 9) pa_nil))) (pe_tup (pa_cons (pe_str) (pa_cons (pe_non) pa_nil))) (nomark _)) (pss_one (ps_ret (pe_bl))) pss_nil)) (pss_one (ps_if (pt_cmpR op_ne (pe_callB ((call_reprD (deeper_guards hgu) (u100 hr))) (by rfl) B.repr (by decide +kernel) (pa_cons (pe_call GAn (hr.mono (by decide)) rfl gAn kAn bAn dAn pass0 (pa_cons (pv 9) pa_nil)) pa_nil)) (pe_callB ((call_reprD (deeper_guards hgu) (u100 hr))) (by rfl) B.repr (by decide +kernel) (pa_cons (pv 10) pa_nil)) (nomark _)) (pss_one (ps_ret (pe_bl))) pss_nil))))))))))))))
      (pss_one (ps_ret (pe_bl)))), ?_⟩
    show tSeq _ _ _ [some (.ref sc), none, none, none, none, none, none, none, none, none, none, none, none, none, none] H
    have eZ : sizeLine = 16777216 := rfl
    walk_at "rd"
    refine ⟨by show 2 ≤ sizeLine; decide, fun d hd0 => ?_⟩
    have D1 : DrA K sc ns (upd H d (.lst [.ref sc, .int 0])) d := ⟨0, upd_same, Same.seq (Same.new hd0) hS, hn, Int.le_refl _⟩
    have hS1 : SqL K (upd H d (.lst [.ref sc, .int 0])) sc (ns.map V.int) := Same.seq (Same.new hd0) hS
    have T1 : Tabs [(PT, qLam)] (upd H d (.lst [.ref sc, .int 0])) := hT.ext (Same.new hd0)
    generalize upd H d (.lst [.ref sc, .int 0]) = H1 at *
    refine ⟨_, rfl, sc, _, rfl, .inl hS1, _, _, rfl, _, _, rfl, _, rfl, ?_, ?_, ?_⟩
    · split <;> omega
    · have q5 : (if ((ns.map V.int).length : Int) < 3 then ((ns.map V.int).length : Int) else 3) ≤ 3 := by split <;> omega
      split <;> omega
    refine for_range (fun i σ H' => ∃ (l2 l3 l4 l5 l6 l7 l8 l9 l10 l11 l12 l13 : Option V), σ = [some (.ref sc), some (.ref d), l2, l3, l4, l5, l6, l7, l8, l9, l10, l11, l12, l13, none] ∧ DrA K sc ns H' d ∧ Tabs [(PT, qLam)] H') ⟨_, _, _, _, _, _, _, _, _, _, _, _, rfl, D1, T1⟩ ?_ ?_
    · rintro i σ H2 hi ⟨l2, l3, l4, l5, l6, l7, l8, l9, l10, l11, l12, l13, rfl, D2, T2⟩
      show tSeq _ _ _ [some (.ref sc), some (.ref d), some (.int (0 + (i : Int))), l3, l4, l5, l6, l7, l8, l9, l10, l11, l12, l13, none] H2
      refine seq_gen (fun σ' H' => ∃ n z : Nat, σ' = [some (.ref sc), some (.ref d), some (.int (0 + (i : Int))), some (.int n), some (.int z), l5, l6, l7, l8, l9, l10, l11, l12, l13, none] ∧ 1 ≤ n ∧ n ≤ 14 ∧ z ≤ 7 ∧ Ex d H2 H' ∧ DrA K sc ns H' d) (fun nx hnx => ?_) ?_
      · unfold tAsg
        walk_at "rd"
        refine ⟨d, 14, sc, ns, rfl, by decide, D2, fun r H3 r0 r1 E3 D3 => ?_⟩
        obtain ⟨q0, rfl⟩ := Int.eq_ofNat_of_zero_le r0
        walk_at "rd"
        refine ⟨by show 8 ≤ sizeLine; decide, fun p hp => ?_⟩
        have sp := Same.new (o := .lst [V.int 0, V.int 1, V.int 2, V.int 3, V.int 3, V.int 2, V.int 7, V.int 7]) hp
        refine ⟨d, 8, sc, ns, rfl, by decide, DrA.same sp D3, fun r2 H4 r20 r21 E4 D4 => ?_⟩
        have hp4 := E4 _ _ upd_same (D3.nd hp)
        obtain ⟨j, rfl⟩ := Int.eq_ofNat_of_zero_le r20
        have hj : j < 8 := by omega
        have pick : ∃ z : Nat, z ≤ 7 ∧ ([V.int 0, V.int 1, V.int 2, V.int 3, V.int 3, V.int 2, V.int 7, V.int 7] : List V)[j]? = some (.int (z : Int)) := by
          match j, hj with
          | 0, _ => exact ⟨0, by decide, rfl⟩
          | 1, _ => exact ⟨1, by decide, rfl⟩
          | 2, _ => exact ⟨2, by decide, rfl⟩
          | 3, _ => exact ⟨3, by decide, rfl⟩
          | 4, _ => exact ⟨3, by decide, rfl⟩
          | 5, _ => exact ⟨2, by decide, rfl⟩
          | 6, _ => exact ⟨7, by decide, rfl⟩
          | 7, _ => exact ⟨7, by decide, rfl⟩
        obtain ⟨z, z7, ez⟩ := pick
        refine p_ix (SqL.of hp4) (atI_nat ez) ?_
        rw [show (1 : Int) + (q0 : Int) = ((q0 + 1 : Nat) : Int) by omega]
        refine ⟨by show 2 ≤ sizeLine; decide, fun p2 hp2 => ⟨p2, _, rfl, SqT.of upd_same, rfl, _, _, rfl, _, _, rfl, rfl, ?_⟩⟩
        exact hnx _ _ ⟨q0 + 1, z, rfl, by omega, by omega, z7, Ex.trans (Ex.trans E3 (Ex.same sp)) (Ex.trans E4 (Ex.new hp2)), DrA.same (Same.new hp2) D4⟩
      rintro σ' H3 ⟨n, z, rfl, n1, n14, z7, E3, D3⟩
      have T3 := Tabs.exD D2 E3 T2
      refine seq_gen (fun σ' H' => ∃ (lo : Addr) (zs : List Int), σ' = [some (.ref sc), some (.ref d), some (.int (0 + (i : Int))), some (.int n), some (.int z), some (.ref lo), l6, l7, l8, l9, l10, l11, l12, l13, none] ∧ Ex d H3 H' ∧ DrA K sc ns H' d ∧ H' lo = some (.lst (zs.map V.int)) ∧ lo ≠ d) (fun nx hnx => ?_) ?_
      · refine ⟨_, rfl, (z : Int), rfl, by omega, by omega, fun D hD => ?_⟩
        rw [Int.toNat_natCast]
        have nDd := D3.nd hD
        refine lc_range (lo := 0) (n := z) (g := gName 14) (tt := tYes) (te := tLoo K) (fun j Hj => Ex d H3 Hj ∧ DrA K sc ns Hj d ∧ ∃ fs : List Int, Hj D = some (.lst (fs.map V.int)) ∧ fs.length = j) ⟨Ex.new hD, DrA.same (Same.new hD) D3, [], upd_same, rfl⟩ ?_ ?_
        · rintro k Hj hk ⟨Ej, Dj, fs, hDj, lf⟩
          refine ⟨rfl, yesT ?_⟩
          show tLoo K [some (.ref sc), some (.ref d), some (.int (0 + (i : Int))), some (.int n), some (.int z), none, l6, l7, l8, l9, l10, l11, l12, l13, some (.int (0 + (k : Int)))] Hj _
          unfold tLoo
          walk_at "rd"
          refine ⟨d, (n : Int), sc, ns, rfl, by omega, Dj, fun r H4 r0 r1 E4 D4 => ?_⟩
          have Ea := Ex.trans Ej E4
          exact ⟨1, r, rfl, rfl, fs.map V.int, E4 _ _ hDj nDd, by rw [List.length_map]; omega, Ex.up Ea hD, DrA.up D3 D4 Ea hD, fs ++ [1 + r], by rw [upd_same, List.map_append]; rfl, by rw [List.length_append, lf]; rfl⟩
        · rintro H4 ⟨E4, D4, fs, hD4, lf⟩
          exact hnx _ _ ⟨D, fs, rfl, E4, D4, hD4, nDd⟩
      rintro σ' H4 ⟨lo, zs, rfl, E34, D4, hlo, nlo⟩
      have T4 := Tabs.exD D3 E34 T3
      refine seq_gen (fun σ' H' => ∃ (fl : Addr) (xs : List Addr) (ls : List Int), σ' = [some (.ref sc), some (.ref d), some (.int (0 + (i : Int))), some (.int n), some (.int z), some (.ref lo), some (.ref fl), l7, l8, l9, l10, l11, l12, l13, none] ∧ Ex d H4 H' ∧ DrA K sc ns H' d ∧ H' fl = some (.lst (xs.map V.ref)) ∧ fl ≠ d ∧ TupsAt H' xs (ls.map fun l => [l]) ∧ FxOk n ls ∧ ls.length ≤ n) (fun nx hnx => ?_) ?_
      · walk_at "rd"
        exact ⟨d, lo, n, zs, sc, ns, rfl, by omega, D4, hlo, nlo, fun l xs ls H' E' D' nl hl tl fo ll => hnx _ _ ⟨l, xs, ls, rfl, E', D', hl, D4.nd nl, tl, fo, ll⟩⟩
      rintro σ' H5 ⟨fl, xs, ls, rfl, E45, D5, hfl, nfl, tx, fo, lls⟩
      have T5 := Tabs.exD D4 E45 T4
      refine seq_gen (fun σ' H' => ∃ t : Int, σ' = [some (.ref sc), some (.ref d), some (.int (0 + (i : Int))), some (.int n), some (.int z), some (.ref lo), some (.ref fl), some (.int t), l8, l9, l10, l11, l12, l13, none] ∧ 0 ≤ t ∧ Ex d H5 H' ∧ DrA K sc ns H' d) (fun nx hnx => ?_) ?_
      · walk_at "rd"
        refine ⟨by show 2 ≤ sizeLine; decide, fun p hp => ?_⟩
        have sp := Same.new (o := .lst [V.int 3, V.int n]) hp
        refine ⟨d, 2, sc, ns, rfl, by decide, DrA.same sp D5, fun r H6 r0 r1 E6 D6 => ?_⟩
        have hp6 := E6 _ _ upd_same (D5.nd hp)
        rcases at_two (a := V.int 3) (b := V.int (n : Int)) r0 r1 with ⟨_, e⟩ | ⟨_, e⟩
        · exact p_ix (SqL.of hp6) e (hnx _ _ ⟨3, rfl, by decide, Ex.trans (Ex.same sp) E6, D6⟩)
        · exact p_ix (SqL.of hp6) e (hnx _ _ ⟨n, rfl, by omega, Ex.trans (Ex.same sp) E6, D6⟩)
      rintro σ' H6 ⟨t, rfl, t0, E56, D6⟩
      have T6 := Tabs.exD D5 E56 T5
      have hfl6 := E56 _ _ hfl nfl
      have tx6 := TupsAt.ex D5 E56 tx
      refine seq_gen (fun σ' H' => ∃ (ml : Addr) (bs : List Addr) (cs : List (List Int)), σ' = [some (.ref sc), some (.ref d), some (.int (0 + (i : Int))), some (.int n), some (.int z), some (.ref lo), some (.ref fl), some (.int t), some (.ref ml), l9, l10, l11, l12, l13, none] ∧ Ex d H6 H' ∧ DrA K sc ns H' d ∧ H' ml = some (.lst (bs.map V.ref)) ∧ ml ≠ d ∧ TupsAt H' bs cs ∧ (∀ c ∈ cs, OkC n c) ∧ cs.length ≤ 4) (fun nx hnx => ?_) ?_
      · refine ⟨_, rfl, d, 5, sc, ns, rfl, by decide, D6, fun r H7 r0 r1 E7 D7 => ?_⟩
        obtain ⟨m, rfl⟩ := Int.eq_ofNat_of_zero_le r0
        refine ⟨(m : Int), rfl, by omega, by omega, fun D hD => ?_⟩
        rw [Int.toNat_natCast]
        have nDd := D7.nd hD
        have nD6 := none_back E7 D7 hD
        refine lc_range (lo := 0) (n := m) (g := gName 14) (tt := tYes) (te := tMor K) (fun j Hj => Ex d H6 Hj ∧ Ex d H7 Hj ∧ DrA K sc ns Hj d ∧ ∃ (bs : List Addr) (cs : List (List Int)), Hj D = some (.lst (bs.map V.ref)) ∧ bs.length = j ∧ TupsAt Hj bs cs ∧ ∀ c ∈ cs, OkC n c)
          ⟨Ex.up E7 nD6, Ex.new hD, DrA.same (Same.new hD) D7, [], [], upd_same, rfl, .nil, fun _ h => (nomatch h)⟩ ?_ ?_
        · rintro k Hj hk ⟨Ej6, Ej, Dj, bs, cs, hDj, lb, tb, okc⟩
          refine ⟨rfl, yesT ?_⟩
          show tMor K [some (.ref sc), some (.ref d), some (.int (0 + (i : Int))), some (.int n), some (.int z), some (.ref lo), some (.ref fl), some (.int t), none, l9, l10, l11, l12, l13, some (.int (0 + (k : Int)))] Hj _
          unfold tMor
          walk_at "rd"
          refine ⟨d, n, t, sc, ns, rfl, n1, by omega, t0, Dj, fun a C2 H8 lC ndC rC ltC E8 D8 ha na => ?_⟩
          have Ea := Ex.trans Ej E8
          have hD8 := E8 _ _ hDj nDd
          refine ⟨bs.map V.ref, hD8, by rw [List.length_map]; omega, Ex.up (Ex.trans Ej6 E8) nD6, Ex.up Ea hD, DrA.up D7 D8 Ea hD, bs ++ [a], cs ++ [C2], by rw [upd_same, List.map_append]; rfl, by rw [List.length_append, lb]; rfl, ?_, fun c hc => ?_⟩
          · exact TupsAt.upd hD8 (fun ys z => by cases z) (pairApp (TupsAt.ex Dj E8 tb) (.cons ha .nil))
          · rcases List.mem_append.mp hc with hc | hc
            · exact okc c hc
            · rw [List.mem_singleton.mp hc]
              exact ⟨lC, ndC, rC, ltC⟩
        · rintro H8 ⟨E68, E8, D8, bs, cs, hD8, lb, tb, okc⟩
          have := TupsAt.len tb
          exact hnx _ _ ⟨D, bs, cs, rfl, E68, D8, hD8, nDd, tb, okc, by omega⟩
      rintro σ' H7 ⟨ml, bs, cs, rfl, E67, D7, hml, nml, tb, okc, lcs⟩
      have T7 := Tabs.exD D6 E67 T6
      have hfl7 := E67 _ _ hfl6 nfl
      have tx7 := TupsAt.ex D6 E67 tx6
      have lxs := TupsAt.len tx7
      rw [List.length_map] at lxs
      have lbs := TupsAt.len tb
      have okU : ∀ c ∈ cs ++ ls.map (fun l => [l]), OkC n c := fun c hc => by
        rcases List.mem_append.mp hc with hc | hc
        · exact okc c hc
        · obtain ⟨l, hl, rfl⟩ := List.mem_map.mp hc
          exact ok_unit (fo.lt l hl) n1
      have lU : (cs ++ ls.map (fun l => [l])).length ≤ 18 := by rw [List.length_append, List.length_map]; omega
      have rok : RowsOk (n : Int) (cs ++ ls.map (fun l => [l])) := ⟨by omega, fun row h => ⟨(okU row h).row, by have := (okU row h).len; omega⟩⟩
      refine seq_gen (fun σ' H' => ∃ (x cp du : Addr) (ys : List Addr) (cs2 : List (List Int)), σ' = [some (.ref sc), some (.ref d), some (.int (0 + (i : Int))), some (.int n), some (.int z), some (.ref lo), some (.ref fl), some (.int t), some (.ref ml), some (.ref x), some (.ref du), l11, l12, l13, none] ∧ Same H7 H' ∧ Prb C H' x n cp cs2 ∧ IsDue (cs ++ ls.map (fun l => [l])) cs2 ∧ H' du = some (.lst (ys.map V.ref)) ∧ TupsAt H' ys (ansL n (cs ++ ls.map (fun l => [l]))) ∧ du ≠ d) (fun nx hnx => ?_) ?_
      · unfold tAsg
        walk_at "rd"
        simp only [e_make]
        walk_at "rd"
        refine ⟨ml, fl, _, _, rfl, rfl, hml, hfl7, by rw [List.length_map, List.length_map]; omega, fun p hp => ?_⟩
        rw [← List.map_append]
        have sp := Same.new (o := .lst ((bs ++ xs).map V.ref)) hp
        have hp8 : upd H7 p (.lst ((bs ++ xs).map V.ref)) p = some (.lst ((bs ++ xs).map V.ref)) := upd_same
        generalize upd H7 p (.lst ((bs ++ xs).map V.ref)) = H8 at *
        refine p_make (C := C) (t := (n : Int)) (rows := cs ++ ls.map (fun l => [l])) (xs := (bs ++ xs).map V.ref) (by omega) (by omega) (.inl (SqL.of hp8)) (rowsAt_of (pairApp (TupsAt.same sp tb) (TupsAt.same sp tx7))) rok fun x cp cs2 H9 s9 p9 due => ?_
        have s79 := Same.trans sp s9
        refine ⟨n, fl, ml, xs, bs, ls, cs, rfl, n14, s79 _ _ hfl7, TupsAt.same s79 tx7, fo, lls, s79 _ _ hml, TupsAt.same s79 tb, fun c hc => by have := (okc c hc).len; omega, fun c hc => (okc c hc).lt, by omega, fun du ys Ha sa ndu hdu ty => ?_⟩
        refine ⟨by show 2 ≤ sizeLine; decide, fun p2 hp2 => ?_⟩
        have s2 := Same.new (o := .tup [.ref x, .ref du]) hp2
        refine ⟨p2, _, rfl, SqT.of upd_same, rfl, _, _, rfl, _, _, rfl, rfl, ?_⟩
        exact hnx _ _ ⟨x, cp, du, ys, cs2, rfl, Same.trans s79 (Same.trans sa s2), Prb.same (Same.trans sa s2) p9, due, s2 _ _ hdu, TupsAt.same s2 ty, (DrA.same s79 D7).nd ndu⟩
      rintro σ' H8 ⟨x, cp, du, ys, cs2, rfl, s8, pr, due, hdu, ty, ndu⟩
      have D8 := DrA.same s8 D7
      have T8 := T7.ext s8
      have mem2 := due_mem due okU
      have nd2 : cs2.Nodup := due.inc.imp fun {a b} h e => by rw [e, ltC_irrefl] at h; cases h
      have len2 : cs2.length ≤ 18 := Nat.le_trans (len_le nd2 fun z hz => (mem2 z).mp hz) lU
      have ok2 : ∀ c ∈ cs2, OkC n c := fun c hc => okU c ((mem2 c).mp hc)
      have ea : ansL n cs2 = ansL n (cs ++ ls.map (fun l => [l])) := ans_cs mem2
      refine seq_gen (fun σ' H' => ∃ (l11 l12 : Option V), σ' = [some (.ref sc), some (.ref d), some (.int (0 + (i : Int))), some (.int n), some (.int z), some (.ref lo), some (.ref fl), some (.int t), some (.ref ml), some (.ref x), some (.ref du), l11, l12, l13, none] ∧ Same H8 H') (fun nx hnx => ?_) ?_
      · refine ⟨_, rfl, 9, rfl, du, _, rfl, SqL.of hdu, fun p hp => ?_⟩
        have sp := Same.new (o := .lst (cutV (ys.map V.ref) none (some 9))) hp
        have hp9 : upd H8 p (.lst (cutV (ys.map V.ref) none (some 9))) p = some (.lst (cutV (ys.map V.ref) none (some 9))) := upd_same
        have sub : ∀ v ∈ cutV (ys.map V.ref) none (some 9), v ∈ ys.map V.ref := fun v hv => List.mem_of_mem_drop (List.mem_of_mem_take hv)
        generalize cutV (ys.map V.ref) none (some 9) = zs9 at *
        generalize upd H8 p (.lst zs9) = H9 at *
        refine ⟨p, rfl, ⟨_, SqL.of hp9⟩, for_list (K := K) (a := p) (xs := zs9) (fun j σ H' => ∃ (l11 l12 : Option V), σ = [some (.ref sc), some (.ref d), some (.int (0 + (i : Int))), some (.int n), some (.int z), some (.ref lo), some (.ref fl), some (.int t), some (.ref ml), some (.ref x), some (.ref du), l11, l12, l13, none] ∧ Same H9 H') ⟨_, _, rfl, Same.refl _⟩ (fun j σ H' _ ⟨_, _, _, e⟩ => SqL.of (e _ _ hp9)) ?_ ?_⟩
        · rintro j v σ Ha hj ⟨l11, l12, rfl, sa⟩
          obtain ⟨b, hb, rfl⟩ := List.mem_map.mp (sub v (List.mem_of_getElem? hj))
          have s8a := Same.trans sp sa
          obtain ⟨k, hk⟩ := List.getElem?_of_mem hb
          obtain ⟨W, hW, hbW⟩ := TupsAt.get (TupsAt.same s8a ty) hk
          have mW := List.mem_of_getElem? hW
          have bW := (ans_mem.mp mW).1
          have lW := bW.1
          show tSeq _ _ _ [some (.ref sc), some (.ref d), some (.int (0 + (i : Int))), some (.int n), some (.int z), some (.ref lo), some (.ref fl), some (.int t), some (.ref ml), some (.ref x), some (.ref du), some (.ref b), l12, l13, none] Ha
          refine seq_gen (fun σ' H' => ∃ (r : Addr) (M : List Int), σ' = [some (.ref sc), some (.ref d), some (.int (0 + (i : Int))), some (.int n), some (.int z), some (.ref lo), some (.ref fl), some (.int t), some (.ref ml), some (.ref x), some (.ref du), some (.ref b), some (.ref r), l13, none] ∧ Same Ha H' ∧ SqT K H' r (M.map V.int) ∧ M.length ≤ 1000) (fun nx2 hnx2 => ?_) ?_
          · have ef : (n : Int).fdiv 2 = ((n / 2 : Nat) : Int) := by
              rw [Int.fdiv_eq_ediv_of_nonneg _ (by decide)]
              omega
            have hlt : n / 2 < W.length := by rw [bW.1]; omega
            have hat : atI (W.map V.int) ((n : Int).fdiv 2) = some (.int W[n / 2]) := by
              rw [ef]
              exact atI_nat (by rw [List.getElem?_map, List.getElem?_eq_getElem hlt]; rfl)
            obtain ⟨M1, e1, lM1⟩ := cut_len W none (some ((n : Int).fdiv 2))
            obtain ⟨M2, e2, lM2⟩ := cut_len W (some ((n : Int).fdiv 2 + 1)) none
            refine ⟨_, rfl, _, rfl, (n : Int), 2, rfl, rfl, ⟨by decide, by decide⟩, (n : Int).fdiv 2, rfl, ?_⟩
            refine p_slA (SqT.of hbW) fun r1 Hb sb h1 => ?_
            rw [e1] at h1
            refine ⟨_, rfl, _, rfl, (n : Int), 2, rfl, rfl, ⟨by decide, by decide⟩, ?_⟩
            refine ⟨b, W.map V.int, (n : Int).fdiv 2, .int W[n / 2], rfl, rfl, SqT.of (sb _ _ hbW), hat, 1, W[n / 2], rfl, rfl, by show 1 ≤ sizeLine; decide, fun q1 hq1 => ?_⟩
            have sq := Same.new (o := .tup [V.int (1 - W[n / 2])]) hq1
            refine p_catI (A := M1) (B := [1 - W[n / 2]]) (Same.sqt sq h1) (SqT.of upd_same) (by show _ + 1 ≤ _; omega) fun r2 Hc s2c h2 => ?_
            have s3 := Same.trans sb (Same.trans sq s2c)
            refine ⟨_, rfl, _, rfl, (n : Int), 2, rfl, rfl, ⟨by decide, by decide⟩, ?_⟩
            refine ⟨_, 1, rfl, rfl, _, rfl, ?_⟩
            dsimp only [tNoPart]
            refine p_slA (SqT.of (s3 _ _ hbW)) fun r3 Hd s3d h3 => ?_
            rw [e2] at h3
            refine p_catI (A := M1 ++ [1 - W[n / 2]]) (B := M2) (Same.sqt s3d h2) h3 (by rw [List.length_append]; show _ + 1 + _ ≤ _; omega) fun r4 He s4 h4 => ?_
            exact hnx2 _ _ ⟨r4, _, rfl, Same.trans s3 (Same.trans s3d s4), h4, by rw [List.length_append, List.length_append]; show _ + 1 + _ ≤ _; omega⟩
          rintro σ' Hb ⟨r, M, rfl, sb, hr, lM⟩
          have s8b := Same.trans s8a sb
          have is : ∀ (y : Addr) (S : List Int) (H' : Hp) (R : VK), Same Hb H' → SqT K H' y (S.map V.int) → S.length ≤ 1000 → (∀ H2, Same H' H2 → R (.bl (decide (S ∈ ansL n cs2))) H2) → spIsA K C [.ref x, .ref y] H' R E0 := fun y S H' R s' hy lS hR =>
            ⟨x, .ref y, n, cp, cs2, some (S.map V.int), rfl, Prb.same (Same.trans s8b s') pr, fun d hd => ⟨by have := (ok2 d hd).len; omega, (ok2 d hd).lt⟩, by omega, thing_ints hy lS, fun H2 s2 => by
              rw [ansB_ints (a := cs2) (b := cs2) fun _ => Iff.rfl]
              exact hR H2 s2⟩
          walk_at "rd"
          refine is b W Hb _ (Same.refl _) (SqT.of (sb _ _ hbW)) (by rw [bW.1]; omega) fun Hc sc' => ?_
          have e1 : decide (W ∈ ansL n cs2) = true := decide_eq_true (by rw [ea]; exact mW)
          rw [e1]
          refine ⟨true, true, rfl, rfl, iteF ?_⟩
          refine is r M Hc _ sc' (Same.sqt sc' hr) lM fun Hd sd' => ?_
          have sbd := Same.trans sc' sd'
          have hdud := Same.trans s8b sbd _ _ hdu
          refine ⟨dTup M, (ansL n (cs ++ ls.map (fun l => [l]))).map dTup, .tup (Same.sqt sbd hr) (dpAll_ints _), dp_lcl (SqL.of hdud) (TupsAt.same (Same.trans s8b sbd) ty), shaped_tints _, shaped_lcl _, ?_⟩
          rw [any_tup, ← ea]
          exact ⟨rfl, false, by rw [decide_eq_true rfl]; rfl, iteF ⟨_, _, rfl, Same.trans sa (Same.trans sb sbd)⟩⟩
        · rintro σ Ha ⟨l11, l12, rfl, sa⟩
          exact hnx _ _ ⟨_, _, rfl, Same.trans sp sa⟩
      rintro σ' H9 ⟨l11, l12, rfl, s9⟩
      have D9 := DrA.same s9 D8
      have T9 := T8.ext s9
      have pr9 := Prb.same s9 pr
      have hdu9 := s9 _ _ hdu
      have ty9 := TupsAt.same s9 ty
      refine seq_gen (fun σ' H' => ∃ m : Nat, σ' = [some (.ref sc), some (.ref d), some (.int (0 + (i : Int))), some (.int n), some (.int z), some (.ref lo), some (.ref fl), some (.int t), some (.ref ml), some (.ref x), some (.ref du), l11, l12, some (.int m), none] ∧ m ≤ 100 ∧ Ex d H9 H' ∧ DrA K sc ns H' d) (fun nx hnx => ?_) ?_
      · walk_at "rd"
        refine ⟨d, 5, sc, ns, rfl, by decide, D9, fun r Ha r0 r1 Ea Da => ?_⟩
        walk_at "rd"
        obtain ⟨m, em⟩ := Int.eq_ofNat_of_zero_le (show 0 ≤ (n : Int) - 1 + r by omega)
        rw [em]
        exact hnx _ _ ⟨m, rfl, by omega, Ea, Da⟩
      rintro σ' H10 ⟨m, rfl, m100, E10, D10⟩
      have T10 := Tabs.exD D9 E10 T9
      have hdu10 := E10 _ _ hdu9 ndu
      have ty10 := TupsAt.ex D9 E10 ty9
      obtain ⟨q0, hq0⟩ := id D9
      have pr10 : Prb C H10 x n cp cs2 := by
        obtain ⟨⟨dx, h1⟩, bs2, h2, h3⟩ := pr9
        have dd := hq0.dr
        exact ⟨⟨dx, E10 _ _ h1 (fun z => by rw [z, dd] at h1; cases h1)⟩, bs2, E10 _ _ h2 (fun z => by rw [z, dd] at h2; cases h2), TupsAt.ex D9 E10 h3⟩
      have lan : (ansL n (cs ++ ls.map (fun l => [l]))).length ≤ 16384 := by
        have h1 : (ansL n (cs ++ ls.map (fun l => [l]))).length ≤ (allb n).length := List.length_filter_le _ _
        rw [← (halves_perm n).length_eq, halves_len] at h1
        have h2 : 2 ^ n ≤ 2 ^ 14 := Nat.pow_le_pow_right (by decide) n14
        have h3 : 2 ^ 14 = 16384 := rfl
        omega
      obtain ⟨x1, x2, x3, x4⟩ := lcl_shown (l := ansL n (cs ++ ls.map (fun l => [l]))) (fun p hp => by
        have b := (ans_mem.mp hp).1
        have f := fits_bits b
        exact ⟨Nat.le_trans f.1 n14, f.2⟩) lan
      have rows : ∀ (H' : Hp) (m' : Int) (R : VK), Prb C H' x n cp cs2 → (n : Int) ≤ m' → (∀ (D : Addr) (us : List Addr) (H2 : Hp), Same H' H2 → H2 D = some (.lst (us.map V.ref)) → RowsT K H2 us (ansL n (cs ++ ls.map (fun l => [l]))) → R (.ref D) H2) → spAn K C [.ref x, .int m'] H' R E0 := fun H' m' R p' hm hR =>
        ⟨x, m', n, cp, cs2, rfl, p', hm, n14, fun c hc => (ok2 c hc).lt, ⟨by omega, fun c hc => by have := (ok2 c hc).len; omega⟩, fun D us H2 s2 nD hD tD => hR D us H2 s2 hD (by rw [← ea]; exact tD)⟩
      have many : ∀ (R : VK) (H' : Hp) (f' : Addr) (σ : St) (m' : Int), Prb C H' x n cp cs2 → m' < (n : Int) → 0 ≤ m' → m' ≤ 400 → (∀ (p : Addr) (H2 : Hp), Same H' H2 → H2 p = some (.tup [.str "many", .non]) → R (.ref p) H2) → spAnR K C CT [.ref x, .int m'] H' (Rref K cs0 R f') (Eref K cs0 R) := fun R H' f' σ m' p' h1 h2 h3 hR =>
        ⟨x, m', n, cp, cs2, rfl, p', h1, h2, h3, eref_of EK rfl ⟨fun h => absurd h (by decide), fun h => absurd h (by decide), fun _ _ => rfl⟩ (.inl ⟨rfl, rfl⟩) fun H2 p s2 np hp => hR p H2 s2 hp⟩
      have ev : PyData.eqv (.tuple [.str "many", .none]) (.tuple [.str "many", .none]) = true := by decide +kernel
      refine seq_gen (fun σ' H' => σ' = [some (.ref sc), some (.ref d), some (.int (0 + (i : Int))), some (.int n), some (.int z), some (.ref lo), some (.ref fl), some (.int t), some (.ref ml), some (.ref x), some (.ref du), l11, l12, some (.int m), none] ∧ DrA K sc ns H' d ∧ Tabs [(PT, qLam)] H' ∧ Prb C H' x n cp cs2 ∧ H' du = some (.lst (ys.map V.ref)) ∧ TupsAt H' ys (ansL n (cs ++ ls.map (fun l => [l])))) (fun nx hnx => ?_) ?_
      · refine ⟨_, rfl, _, rfl, (m : Int), (n : Int), rfl, rfl, ?_⟩
        by_cases c : (m : Int) < (n : Int)
        · refine ⟨true, by show V.bl (decide ((m : Int) < (n : Int))) = _; rw [decide_eq_true c], iteT ?_⟩
          refine ⟨T10, fun Ha eN Ta f' => ?_⟩
          refine ⟨_, rfl, _, rfl, rfl, rfl, many _ Ha f' [] (m : Int) (Prb.extN eN pr10) c (by omega) (by omega) fun p Hb sb hp => ?_⟩
          refine ⟨by show 2 ≤ sizeLine; decide, fun p2 hp2 => ?_⟩
          have s2 := Same.new (o := .tup [.str "many", .non]) hp2
          have sab := Same.trans sb s2
          refine p_neD (.tup (SqT.of (s2 _ _ hp)) (.cons (.str _) (.cons .non .nil))) (.tup (SqT.of upd_same) (.cons (.str _) (.cons .non .nil))) (by decide +kernel) (by decide +kernel) ?_
          rw [ev]
          exact ⟨false, rfl, iteF (hnx _ _ ⟨rfl, DrA.same sab (DrA.extN eN D10), Ta.ext sab, Prb.same sab (Prb.extN eN pr10), sab _ _ (ext_nt eN hdu10 (by intro _ z; cases z)), TupsAt.same sab (TupsAt.extN eN ty10)⟩)⟩
        · refine ⟨false, by show V.bl (decide ((m : Int) < (n : Int))) = _; rw [decide_eq_false c], iteF ?_⟩
          refine ⟨_, rfl, _, rfl, rfl, rfl, rows H10 (m : Int) _ pr10 (by omega) fun D us H2 s2 hD tD => ?_⟩
          refine ⟨D, dLcl (ansL n (cs ++ ls.map (fun l => [l]))), rfl, dp_rowsT (SqL.of hD) tD, x1, x2, x3, x4, ?_⟩
          refine ⟨_, rfl, du, dLcl (ansL n (cs ++ ls.map (fun l => [l]))), rfl, dp_lcl (SqL.of (s2 _ _ hdu10)) (TupsAt.same s2 ty10), x1, x2, x3, x4, ?_⟩
          exact ⟨rfl, false, by rw [decide_eq_true rfl]; rfl, iteF (hnx _ _ ⟨rfl, DrA.same s2 D10, T10.ext s2, Prb.same s2 pr10, s2 _ _ hdu10, TupsAt.same s2 ty10⟩)⟩
      rintro σ' H11 ⟨rfl, D11, T11, pr11, hdu11, ty11⟩
      refine ⟨_, rfl, (n : Int), 12, rfl, rfl, ?_⟩
      by_cases c : (12 : Int) < (n : Int)
      · refine ⟨true, by show V.bl (decide ((12 : Int) < (n : Int))) = _; rw [decide_eq_true c], iteT ?_⟩
        refine ⟨T11, fun Ha eN Ta f' => ?_⟩
        refine ⟨_, rfl, many _ Ha f' [] 12 (Prb.extN eN pr11) c (by omega) (by omega) fun p Hb sb hp => ?_⟩
        refine ⟨by show 2 ≤ sizeLine; decide, fun p2 hp2 => ?_⟩
        have s2 := Same.new (o := .tup [.str "many", .non]) hp2
        have sab := Same.trans sb s2
        refine p_neD (.tup (SqT.of (s2 _ _ hp)) (.cons (.str _) (.cons .non .nil))) (.tup (SqT.of upd_same) (.cons (.str _) (.cons .non .nil))) (by decide +kernel) (by decide +kernel) ?_
        rw [ev]
        exact ⟨false, rfl, iteF ⟨_, _, _, _, _, _, _, _, _, _, _, _, rfl, DrA.same sab (DrA.extN eN D11), Ta.ext sab⟩⟩
      · refine ⟨false, by show V.bl (decide ((12 : Int) < (n : Int))) = _; rw [decide_eq_false c], iteF ?_⟩
        refine ⟨_, rfl, x, 12, n, cp, cs2, rfl, pr11, by omega, n14, fun c hc => (ok2 c hc).lt, ⟨by omega, fun c hc => by have := (ok2 c hc).len; omega⟩, fun D us H2 s2 nD hD tD => ?_⟩
        rw [ea] at tD
        refine ⟨D, dLcl (ansL n (cs ++ ls.map (fun l => [l]))), rfl, dp_rowsT (SqL.of hD) tD, x1, x2, x3, x4, ?_⟩
        refine ⟨_, rfl, du, dLcl (ansL n (cs ++ ls.map (fun l => [l]))), rfl, dp_lcl (SqL.of (s2 _ _ hdu11)) (TupsAt.same s2 ty11), x1, x2, x3, x4, ?_⟩
        exact ⟨rfl, false, by rw [decide_eq_true rfl]; rfl, iteF ⟨_, _, _, _, _, _, _, _, _, _, _, _, rfl, DrA.same s2 D11, T11.ext s2⟩⟩
    · rintro σ H2 ⟨l2, l3, l4, l5, l6, l7, l8, l9, l10, l11, l12, l13, rfl, _, _⟩
      walk_at "rd"
      exact q H2
end
end Toy

-- part: LN
namespace Toy
open PySem PySem.Spec PyProof.Rows L2
/-- what is tracked at the start of a law without a table: the script at a, if it isn't of the written part -/
def H1of (K : PySem.W.Frag) (a : Addr) (vs : List Value) (ns : List Int) : Hp := fun b =>
  if b = a ∧ K.lookup a = none then some (.frz { cls := .type "list", data := .seq vs.toArray } (.lst (ns.map V.int))) else none
theorem FnOk.g {P : Program} {w : World} {K : PySem.W.Frag} {mg : Str → Option Value} {base : Heap} {k : Nat} {f : Addr} {fd : FuncData} {ps : List Str} {sp : Sp} (F : FnOk P w K mg base CX0 k f fd ps sp) : FnG P w K mg base k f fd ps sp :=
  ⟨F.len, fun A outer s H args us vs Q E _ hr e0 hb r hsp => F.run A outer s H args us vs Q E hr e0 hb r hsp⟩
/-- a law that makes no lambda, called where no object's text is under way -/
theorem callN {P : Program} {w : World} {K : PySem.W.Frag} {mg mb : Str → Option Value} {k : Nat} {fa a : Addr} {fd : FuncData} {x : Str} {sp : Sp} {s : Shared} {vs : List Value} {ns : List Int}
    (KX : K.In s.heap) (hns : s.heap.Ns mainGlobals mg) (hb : s.heap.Ns builtinsNs mb) (hbb : ∀ x : Str, x ≠ "__name__" → mb x = bootBuiltins x) (hlim : s.heap.NoLimit) (hg : s.gens = #[])
    (ha : s.heap.get? a = some { cls := .type "list", data := .seq vs.toArray }) (hi : IntsAre vs ns) (hl : ns.length ≤ sizeLine) (hr : Room k callerA)
    (F : ∀ base : Heap, K.In base → base.Ns mainGlobals mg → FnG P w K mg base k fa fd [x] sp) (hbind : ∀ (s : Shared) (u : Value), BindsTo s fd ⟨[u], []⟩ [(x, u)])
    (hsp : ∀ H : Hp, SqL K H a (ns.map V.int) → sp [.ref a] H (fun v _ => v = .bl true) E0) :
    codeAny (model P w) callerA (.call (.ref fa) ⟨[.ref a], []⟩) (fun r s' => r = .ok (.ret (.bool true)) ∧ OldK s.heap s'.heap ∧ s'.os = s.os ∧ AllBare s'.gens) s := by
  have rv := vals_ints hi
  have two : ∀ b, (b = a ∧ K.lookup a = none ∧ H1of K a vs ns b = some (.frz { cls := .type "list", data := .seq vs.toArray } (.lst (ns.map V.int)))) ∨ H1of K a vs ns b = none := fun b => by
    by_cases e2 : b = a ∧ K.lookup a = none
    · exact .inl ⟨e2.1, e2.2, if_pos e2⟩
    · exact .inr (if_neg e2)
  have hS : SqL K (H1of K a vs ns) a (ns.map V.int) := by
    cases hk : K.lookup a with
    | none => exact .inl (.inr ⟨_, if_pos ⟨rfl, hk⟩⟩)
    | some o =>
      have e := KX a o hk
      rw [ha] at e
      cases e
      exact .inr ⟨_, vs.toArray, _, hk, rfl, rfl, rfl, by rw [List.size_toArray, hi.length]; exact hl, rv⟩
  have hok : HOk P w (H1of K a vs ns) s.heap := fun b o e => by
    rcases two b with ⟨rfl, _, z⟩ | z <;> rw [z] at e <;> cases e
    exact ⟨ha, by rw [List.length_map]; exact hl, vs, _, rv, ha⟩
  have base_of : ∀ {b : Addr} {o : Obj}, s.heap.get? b = some o → H1of K a vs ns b = none → (hidT s.heap (H1of K a vs ns)).get? b = some o := fun e n => hidT_get e n
  have outD : ∀ {b : Addr} {o : Obj} {es : Array DictEntry} {n : Nat}, s.heap.get? b = some o → o.data = .dict es n → H1of K a vs ns b = none := fun {b o es n} e d => by
    rcases two b with ⟨rfl, _, _⟩ | z
    · rw [ha] at e
      cases e
      cases d
    · exact z
  have nsK : ∀ {b : Addr} {m : Str → Option Value}, s.heap.Ns b m → (hidT s.heap (H1of K a vs ns)).Ns b m := fun {b m} ⟨o, es, ep, e, d, r⟩ => ⟨o, es, ep, base_of e (outD e d), d, r⟩
  have hKb : K.In (hidT s.heap (H1of K a vs ns)) := fun b o e => base_of (KX b o e) (by
    rcases two b with ⟨rfl, z, _⟩ | z
    · rw [z] at e; cases e
    · exact z)
  have hM : L2.Mod K mg (hidT s.heap (H1of K a vs ns)) := ⟨hKb, nsK hns, ⟨mb, nsK hb, hbb⟩, let ⟨mc, h1, h2⟩ := hlim; ⟨mc, nsK h1, h2⟩⟩
  have e0 : Env0 P w K mg (hidT s.heap (H1of K a vs ns)) callerA [] s (H1of K a vs ns) := ⟨rfl, hM, fun b o e => of_hidT e, Nat.le_of_eq (hidT_size _ _), trivial, fun b hb => absurd (show b ∈ ([] : List Addr) from hb) (by simp), hok, .of_eq hg⟩
  refine codeAny_mono ((F _ hKb (nsK hns)).run callerA [] s _ ⟨[.ref a], []⟩ [.ref a] [.ref a] _ _ rfl hr e0 (hbind s (.ref a)) (.cons rfl .nil) (hsp _ hS)) fun r s' h => ?_
  cases r with
  | error e => exact False.elim h
  | ok fl =>
    cases fl with
    | next => exact False.elim h
    | brk => exact False.elim h
    | cont => exact False.elim h
    | ret u =>
      obtain ⟨v, H', os, bare, un, hok', r', q⟩ := h
      obtain rfl : v = .bl true := q
      obtain rfl : u = Value.bool true := r'
      have key : ∀ b o, s.heap.get? b = some o → s'.heap.get? b = some o := fun b o e => by
        rcases two b with ⟨rfl, _, z⟩ | z
        · obtain ⟨e1, _⟩ := hok b _ z
          obtain ⟨e2, _⟩ := hok' b _ (un.frzs b _ _ z)
          rw [e] at e1
          cases e1
          exact e2
        · exact un.keep b o e z (by intro z; exact absurd (show b ∈ ([] : List Addr) from z) (by simp)) (by simp)
      exact ⟨rfl, ⟨fun b o e => .inl (key b o e), fun b o e => ⟨o, key b o e⟩⟩, os, bare⟩
theorem walkN {l : PySem.W.OpenLaw} {n k : Nat} {q : Program} {loose : List Str} {XP : (Str → Option Value) → Heap → Prop} {YP : World → Heap → Prop} {d : DefRec} {x : Str}
    (hn : l.most = some n) (hn2 : n ≤ sizeLine) (hdf : d.params.defaults = []) (hr : Room k callerA)
    (F : ∀ (w : World) (mg : Str → Option Value) (fa : Addr) (h : Heap), YP w h → h.Ns mainGlobals mg → mg d.name = some (.ref fa) →
      ∃ (K : PySem.W.Frag) (fd : FuncData) (sp : Sp), K.In h ∧ (∀ (s : Shared) (u : Value), BindsTo s fd ⟨[u], []⟩ [(x, u)]) ∧
        (∀ (H : Hp) (a : Addr) (ns : List Int), ns.length ≤ n → SqL K H a (ns.map V.int) → sp [.ref a] H (fun v _ => v = .bl true) E0) ∧
        ∀ base : Heap, K.In base → base.Ns mainGlobals mg → FnG l.prog w K mg base k fa fd [x] sp) :
    PySem.W.WalkO q loose XP YP l.row.toRowW d [] (fun f vs => PySem.call f vs) := by
  refine Att.attach_callB hn hdf fun w s₀ s₁ mg mb fa o pm cd doc a vs ns G Y ho hd hcd hmg hobj hints hlen hbits hg => ?_
  obtain ⟨K, fd, sp, KX, hb, hsp, hF⟩ := F w mg fa _ Y G.T.g hmg
  exact callN KX G.T.g G.T.b G.T.builtins G.T.nolimit hg hobj hints (Nat.le_trans hlen hn2) hr hF hb (fun H hS => hsp H a ns hlen hS)
end Toy

-- part: LX
namespace Toy
open PySem PySem.Spec PyProof.Rows L2
open LamX (TabB)
/-- what is tracked at a law's start: the empty table at T, the script at a if it isn't of the written part -/
def H0of (K : PySem.W.Frag) (T a : Addr) (vs : List Value) (ns : List Int) : Hp := fun b =>
  if b = T then some (.tbl #[]) else if b = a ∧ K.lookup a = none then some (.frz { cls := .type "list", data := .seq vs.toArray } (.lst (ns.map V.int))) else none
/-- a law whose one def makes a lambda, called where no object's text is under way -/
theorem callG {P : Program} {w : World} {K : PySem.W.Frag} {mg mb : Str → Option Value} {k : Nat} {fa a c T : Addr} {fd : FuncData} {x : Str} {sp : Sp} {s : Shared} {vs : List Value} {ns : List Int}
    (KX : K.In s.heap) (hns : s.heap.Ns mainGlobals mg) (hb : s.heap.Ns builtinsNs mb) (hbb : ∀ x : Str, x ≠ "__name__" → mb x = bootBuiltins x) (hlim : s.heap.NoLimit) (hg : s.gens = #[])
    (hT : s.heap.get? T = some { cls := .none, data := .fields #[] }) (nT : K.lookup T = none) (C : PySem.W.CodeHd s.heap c T)
    (hbm : ∃ (bm : Addr) (ob : Obj), mg "__builtins__" = some (.ref bm) ∧ bm ≠ builtinsNs ∧ s.heap.get? bm = some ob ∧ ob.cls = .type "module" ∧ ob.dict = some builtinsNs ∧ ob.data = .plain)
    (ha : s.heap.get? a = some { cls := .type "list", data := .seq vs.toArray }) (hi : IntsAre vs ns) (hl : ns.length ≤ sizeLine) (hr : Room k callerA)
    (F : ∀ base : Heap, K.In base → base.Ns mainGlobals mg → TabB base mg c T → FnG P w K mg base k fa fd [x] sp) (hbind : ∀ (s : Shared) (u : Value), BindsTo s fd ⟨[u], []⟩ [(x, u)])
    (hsp : ∀ H : Hp, H T = some (.tbl #[]) → SqL K H a (ns.map V.int) → sp [.ref a] H (fun v _ => v = .bl true) E0) :
    codeAny (model P w) callerA (.call (.ref fa) ⟨[.ref a], []⟩) (fun r s' => r = .ok (.ret (.bool true)) ∧ OldK s.heap s'.heap ∧ s'.os = s.os ∧ AllBare s'.gens) s := by
  have rv := vals_ints hi
  have naT : a ≠ T := fun e => by rw [e, hT] at ha; cases ha
  have hHT : H0of K T a vs ns T = some (.tbl #[]) := if_pos rfl
  -- its three ways
  have ways : ∀ b, (b = T ∧ H0of K T a vs ns b = some (.tbl #[])) ∨ (b = a ∧ K.lookup a = none ∧ H0of K T a vs ns b = some (.frz { cls := .type "list", data := .seq vs.toArray } (.lst (ns.map V.int)))) ∨ H0of K T a vs ns b = none := fun b => by
    by_cases e : b = T
    · exact .inl ⟨e, if_pos e⟩
    · by_cases e2 : b = a ∧ K.lookup a = none
      · exact .inr (.inl ⟨e2.1, e2.2, (if_neg e).trans (if_pos e2)⟩)
      · exact .inr (.inr ((if_neg e).trans (if_neg e2)))
  have hS : SqL K (H0of K T a vs ns) a (ns.map V.int) := by
    cases hk : K.lookup a with
    | none => exact .inl (.inr ⟨_, (if_neg naT).trans (if_pos ⟨rfl, hk⟩)⟩)
    | some o =>
      have e := KX a o hk
      rw [ha] at e
      cases e
      exact .inr ⟨_, vs.toArray, _, hk, rfl, rfl, rfl, by rw [List.size_toArray, hi.length]; exact hl, rv⟩
  have hok : HOk P w (H0of K T a vs ns) s.heap := fun b o e => by
    rcases ways b with ⟨rfl, z⟩ | ⟨rfl, _, z⟩ | z <;> rw [z] at e <;> cases e
    · exact hT
    · exact ⟨ha, by rw [List.length_map]; exact hl, vs, _, rv, ha⟩
  have base_of : ∀ {b : Addr} {o : Obj}, s.heap.get? b = some o → H0of K T a vs ns b = none → (hidT s.heap (H0of K T a vs ns)).get? b = some o := fun e n => hidT_get e n
  -- an object that is neither a list nor an empty table isn't tracked
  have out : ∀ {b : Addr} {o : Obj}, s.heap.get? b = some o → o.cls ≠ .type "list" → o.data ≠ .fields #[] → H0of K T a vs ns b = none := fun {b o} e h1 h2 => by
    rcases ways b with ⟨rfl, _⟩ | ⟨rfl, _, _⟩ | z
    · rw [hT] at e
      cases e
      exact absurd rfl h2
    · rw [ha] at e
      cases e
      exact absurd rfl h1
    · exact z
  have outD : ∀ {b : Addr} {o : Obj} {es : Array DictEntry} {n : Nat}, s.heap.get? b = some o → o.data = .dict es n → H0of K T a vs ns b = none := fun {b o es n} e d => by
    rcases ways b with ⟨rfl, _⟩ | ⟨rfl, _, _⟩ | z
    · rw [hT] at e
      cases e
      cases d
    · rw [ha] at e
      cases e
      cases d
    · exact z
  have nsK : ∀ {b : Addr} {m : Str → Option Value}, s.heap.Ns b m → (hidT s.heap (H0of K T a vs ns)).Ns b m := fun {b m} ⟨o, es, ep, e, d, r⟩ => ⟨o, es, ep, base_of e (outD e d), d, r⟩
  have hKb : K.In (hidT s.heap (H0of K T a vs ns)) := fun b o e => base_of (KX b o e) (by
    rcases ways b with ⟨rfl, _⟩ | ⟨rfl, z, _⟩ | z
    · rw [nT] at e; cases e
    · rw [z] at e; cases e
    · exact z)
  have hM : L2.Mod K mg (hidT s.heap (H0of K T a vs ns)) := ⟨hKb, nsK hns, ⟨mb, nsK hb, hbb⟩, let ⟨mc, h1, h2⟩ := hlim; ⟨mc, nsK h1, h2⟩⟩
  have TB : TabB (hidT s.heap (H0of K T a vs ns)) mg c T := by
    refine ⟨?_, ?_, fun z => ?_⟩
    · obtain ⟨o, us, file, tf, flags, tg, inF, text, tt, e1, r1, r2, r3, rest⟩ := C
      refine ⟨o, us, file, tf, flags, tg, inF, text, tt, base_of e1 ?_, r1, r2, r3, rest⟩
      rcases ways c with ⟨e, _⟩ | ⟨e, _, _⟩ | z
      · rw [e, hT] at e1
        cases e1
        cases r2
        simp at r3
      · rw [e, ha] at e1
        cases e1
        cases r2
      · exact z
    · obtain ⟨bm, ob, b1, b2, b3, b4, b5, b6⟩ := hbm
      refine ⟨bm, ob, b1, b2, fun q => ?_, fun q => ?_, base_of b3 (out b3 (by rw [b4]; decide) (by rw [b6]; intro z; cases z)), b4, b5, b6⟩
      · obtain ⟨o, es, ep, e, hd, _⟩ := hns
        rw [q, e] at b3
        cases b3
        rw [hd] at b6
        cases b6
      · rw [q, hT] at b3
        cases b3
        cases b6
    · obtain ⟨o, es, ep, e, hd, _⟩ := hns
      rw [z, hT] at e
      cases e
      cases hd
  have e0 : Env0 P w K mg (hidT s.heap (H0of K T a vs ns)) callerA [] s (H0of K T a vs ns) := ⟨rfl, hM, fun b o e => of_hidT e, Nat.le_of_eq (hidT_size _ _), trivial, fun b hb => absurd (show b ∈ ([] : List Addr) from hb) (by simp), hok, .of_eq hg⟩
  refine codeAny_mono ((F _ hKb (nsK hns) TB).run callerA [] s _ ⟨[.ref a], []⟩ [.ref a] [.ref a] _ _ rfl hr e0 (hbind s (.ref a)) (.cons rfl .nil) (hsp _ hHT hS)) fun r s' h => ?_
  cases r with
  | error e => exact False.elim h
  | ok fl =>
    cases fl with
    | next => exact False.elim h
    | brk => exact False.elim h
    | cont => exact False.elim h
    | ret u =>
      obtain ⟨v, H', os, bare, un, hok', r', q⟩ := h
      obtain rfl : v = .bl true := q
      obtain rfl : u = Value.bool true := r'
      obtain ⟨more, z⟩ := un.tbls T #[] hHT
      have grown := hok' T _ z
      have key : ∀ b o, b ≠ T → s.heap.get? b = some o → s'.heap.get? b = some o := fun b o nb e => by
        rcases ways b with ⟨z, _⟩ | ⟨rfl, _, z⟩ | z
        · exact absurd z nb
        · obtain ⟨e1, _⟩ := hok b _ z
          obtain ⟨e2, _⟩ := hok' b _ (un.frzs b _ _ z)
          rw [e] at e1
          cases e1
          exact e2
        · exact un.keep b o e z (by intro z; exact absurd (show b ∈ ([] : List Addr) from z) (by simp)) (by simp)
      refine ⟨rfl, ⟨fun b o e => ?_, fun b o e => ?_⟩, os, bare⟩
      · by_cases hbT : b = T
        · subst hbT
          rw [hT] at e
          cases e
          exact .inr (.inl ⟨(C.tab hT).isCodeTable, rfl, #[], more, rfl, grown⟩)
        · exact .inl (key b o hbT e)
      · by_cases hbT : b = T
        · subst hbT
          exact ⟨_, grown⟩
        · exact ⟨o, key b o hbT e⟩
theorem walkG {l : PySem.W.OpenLaw} {n k : Nat} {q : Program} {loose : List Str} {XP : (Str → Option Value) → Heap → Prop} {YP : World → Heap → Prop} {d : DefRec} {x : Str}
    (hn : l.most = some n) (hn2 : n ≤ sizeLine) (hdf : d.params.defaults = []) (hr : Room k callerA)
    (F : ∀ (w : World) (mg : Str → Option Value) (fa : Addr) (h : Heap), YP w h → h.Ns mainGlobals mg → mg d.name = some (.ref fa) →
      ∃ (K : PySem.W.Frag) (fd : FuncData) (sp : Sp) (c T : Addr), K.In h ∧ h.get? T = some { cls := .none, data := .fields #[] } ∧ K.lookup T = none ∧ PySem.W.CodeHd h c T ∧ (∀ (s : Shared) (u : Value), BindsTo s fd ⟨[u], []⟩ [(x, u)]) ∧
        (∀ (H : Hp) (a : Addr) (ns : List Int), ns.length ≤ n → H T = some (.tbl #[]) → SqL K H a (ns.map V.int) → sp [.ref a] H (fun v _ => v = .bl true) E0) ∧
        ∀ base : Heap, K.In base → base.Ns mainGlobals mg → TabB base mg c T → FnG l.prog w K mg base k fa fd [x] sp) :
    PySem.W.WalkO q loose XP YP l.row.toRowW d [] (fun f vs => PySem.call f vs) := by
  refine Att.attach_callB hn hdf fun w s₀ s₁ mg mb fa o pm cd doc a vs ns G Y ho hd hcd hmg hobj hints hlen hbits hg => ?_
  obtain ⟨K, fd, sp, c, T, KX, hT, nT, C, hb, hsp, hF⟩ := F w mg fa _ Y G.T.g hmg
  exact callG KX G.T.g G.T.b G.T.builtins G.T.nolimit hg hT nT C G.T.bmain hobj hints (Nat.le_trans hlen hn2) hr hF hb (fun H hH hS => hsp H a ns hlen hH hS)
end Toy

-- part: LE0
namespace Toy
open PySem PySem.Spec PyProof.Rows L2
def dT (x : Str) (st : Stmt) : He.DefD := ⟨(x, none), x, x, defArgs st, defBody st, defScope st, [], []⟩
def aE : PySem.W.Frag → Addr := He.dflAt ("Problem", some "__init__") 0
def dIn : He.DefD := ⟨("Problem", some "__init__"), "__init__", "Problem.__init__", defArgs sInit, defBody sInit, defScope sInit, [.adr aE], []⟩
def dEq : He.DefD := ⟨("Problem", some "__eq__"), "__eq__", "Problem.__eq__", defArgs sEq, defBody sEq, defScope sEq, [], []⟩
def dTk (x : Str) (st : Stmt) (kw : List (Str × He.Dv)) : He.DefD := ⟨(x, none), x, x, defArgs st, defBody st, defScope st, [], kw⟩
def fnK : List He.DefD := [dT "is_number" (topS 18), dT "is_list" (topS 19), dT "is_letter" (topS 20), dT "clause_of" (topS 21), dT "is_worths" (topS 22), dT "letter_holds" (topS 23), dT "clause_holds" (topS 24), dT "_unlike_clauses" (topS 29), dT "_by_length" (topS 30), dT "is_answer" (topS 31), dTk "answers" (topS 32) [("most", .int 12)], dT "_longer_starts" (topS 33), dT "_some_way" (topS 34), dT "_choices" (topS 35), dT "_once_so" (topS 36), dT "_without" (topS 37), dT "_law_mixed" (topS 39), dT "_law_next" (topS 40), dT "_law_clause" (topS 41), dT "_law_holds" (topS 42), dT "_law_word" (topS 43), dT "_law_refused" (topS 44), dT "_law_fixed" (topS 45), dT "_law_due" (topS 46), dT "law" (topS 47), dIn, dEq]
def faK : List He.Fa := [.glo "is_number", .glo "is_list", .glo "is_letter", .glo "clause_of", .glo "is_worths", .glo "letter_holds", .glo "clause_holds", .glo "_unlike_clauses", .glo "_by_length", .glo "is_answer", .glo "answers", .glo "_longer_starts", .glo "_some_way", .glo "_choices", .glo "_once_so", .glo "_without", .glo "_law_mixed", .glo "_law_next", .glo "_law_clause", .glo "_law_holds", .glo "_law_word", .glo "_law_refused", .glo "_law_fixed", .glo "_law_due", .glo "law", .int "MOST" 400, .int "MOST_CLAUSES" 400, .glo "NoProblem", .glo "NoClause", .glo "TooMany", .glo "NoText", .glo "NoTurn", .glo "NoLetter", .glo "NotThere", .glo "NoStep", .glo "NoLog", .glo "NoWay", .glo "NoPart", .glo "NoAnswer", .glo "NoAsk", .glo "Twice", .glo "NoDeed", .glo "TurnError", .glo "Problem", .cls "Problem", .noat "Problem" "many", .noat "Problem" "clauses", .mkr "Problem", .meth "Problem" "__eq__"]
def faB : List He.Fa := [.free "max", .free "min", .free "len", .free "range", .free "type", .free "int", .free "list", .free "tuple", .free "dict", .free "bool", .free "abs", .free "sorted", .free "enumerate", .free "isinstance", .free "repr", .free "str", .free "all", .free "any", .free "zip", .free "reversed", .free "sum", .free "set", .free "ValueError"]
def tup0B (K : PySem.W.Frag) (a : Addr) : Bool := match K.lookup a with
  | some ⟨.type c, _, .seq its _, _⟩ => decide (c = "tuple") && decide (its.size = 0)
  | _ => false
def csE (K : PySem.W.Frag) : Nat → Addr
  | 0 => He.ga K "NoProblem"
  | 1 => He.ga K "NoClause"
  | 2 => He.ga K "TooMany"
  | 3 => He.ga K "NoText"
  | 4 => He.ga K "NoTurn"
  | 5 => He.ga K "NoLetter"
  | 6 => He.ga K "NotThere"
  | 7 => He.ga K "NoStep"
  | 8 => He.ga K "NoLog"
  | 9 => He.ga K "NoWay"
  | 10 => He.ga K "NoPart"
  | 11 => He.ga K "NoAnswer"
  | 12 => He.ga K "NoAsk"
  | 13 => He.ga K "Twice"
  | 14 => He.ga K "NoDeed"
  | _ => He.ga K "TurnError"
def excCB (K : PySem.W.Frag) (C : Addr) : Bool := decide (PySem.W.findIn K (.ref C) "__getattribute__" = some (some (.builtin "BaseException.__getattribute__"))) && (decide (PySem.W.findIn K (.ref C) "__getattr__" = some none) && (decide (PySem.W.subIn K (.ref C) (.type "BaseException") = some true) && (PySem.W.hasDictIn K C && (decide (PySem.W.findIn K (.ref C) "__class__" = some (some (.builtin "object.__class__"))) && (decide (PySem.W.specialIn K (.builtin "object.__class__") "__get__" = some (some (.builtin "getset_descriptor.__get__"))) && (decide (PySem.W.takesIn K (.builtin "object.__class__") = some true) && decide (PySem.W.mroIn K C (.type "object") = some true)))))))
def errB (K : PySem.W.Frag) (C : Addr) (j : Nat) : Bool := excCB K C && ((List.range 15).all (fun i => decide (PySem.W.kitOne K (.ref C) (.ref (csE K i)) = some (decide (i = j)))) && (decide (PySem.W.kitOne K (.ref C) (.type "ValueError") = some true) && decide (PySem.W.exmOne K (.ref C) (.ref (csE K 15)) = some true)))
def ownB (K : PySem.W.Frag) (C : Addr) : Bool := PySem.W.excIn K C [.type "ValueError", .type "Exception", .type "BaseException", .type "object"] "ValueError.__new__" && (PySem.W.keepIn K (.ref C) && (decide (PySem.W.subIn K (.ref C) (.type "BaseException") = some true) && decide (PySem.W.typeIn K (.ref C) = some (.type "type"))))
def exK (K : PySem.W.Frag) : Bool := errB K (He.ga K "TooMany") 2 && (ownB K (He.ga K "TooMany") && (tup0B K (aE K)))
abbrev R : PySem.W.OpenRow := PySem.W.OpenLaw.row PySem.Challenge.rw_turnless_k05_answers_of_few_truths
abbrev tfK : List He.Defn := [("law", none)]
abbrev hk : PySem.W.Hook := He.hookX 6 (faK ++ faB) fnK [] tfK exK
def ob (s : PySem.W.SharedT) : He.AlX := He.obsX 6 (faK ++ faB) fnK [] tfK exK (HandSHeadRun.getT s)
theorem ob_eq (s : PySem.W.SharedT) : ob s = hk.obs s.abs := He.obsX_eq (HandSHeadRun.getT_eq s)
def loose0 : List Str := ["TurnError", "NoProblem", "NoClause", "TooMany", "NoText", "NoTurn", "NoLetter", "NotThere", "NoStep", "NoLog", "NoWay", "NoPart", "NoAnswer", "NoAsk", "Twice", "NoDeed", "is_number", "is_list", "is_letter", "clause_of"]
def loose1 : List Str := ["is_worths", "letter_holds", "clause_holds", "MOST", "MOST_CLAUSES", "Problem", "_unlike_clauses", "_by_length", "is_answer", "answers", "_longer_starts", "_some_way", "_choices", "_once_so", "_without", "_law_mixed", "_law_next", "_law_clause", "_law_holds", "_law_word"]
def loose2 : List Str := ["_law_refused", "_law_fixed", "_law_due"]
def loose : List Str := loose0 ++ loose1 ++ loose2
theorem run (w : World) : HandSHeadRun.RunEq R (PySem.W.view R.prog [47]) hk ob 8000 loose w := by
  intro os
  kernel_rfl
end Toy

-- part: LF
namespace Toy
open PySem PySem.Spec PyProof.Rows L2
open LamX (TabB Tabs TabS)
section
variable {P : Program} {w : World} {K : PySem.W.Frag} {mg : Str → Option Value} {h : Heap}
theorem fun_of {x q : Str} {st : Stmt} {f : Addr} {fd : FuncData} (F : FunD K x q (defArgs st) (defBody st) (defScope st) [] [] f fd) : Fun K x q st f fd := by
  obtain ⟨oc, od, dV, kV, doc, pm, an, cdv, ct, osl, e, lk, hcd, hD, _⟩ := F.ex
  rcases hD with ⟨_, rfl⟩ | ⟨n, _⟩
  · exact ⟨⟨oc, od, kV, doc, pm, an, cdv, ct, osl, e, lk, hcd⟩, F.kp⟩
  · exact absurd rfl n
theorem funT_of {x : Str} {st : Stmt} {fd : FuncData} (F : FunD K x x (defArgs st) (defBody st) (defScope st) [] [] (He.fAd K (x, none)) fd) : FunT K x x st (He.codeOf K (x, none)) (He.fAd K (x, none)) fd := by
  obtain ⟨oc, od, dV, kV, doc, pm, an, cdv, ct, osl, e, lk, hcd, hD, _⟩ := F.ex
  obtain ⟨c, rfl⟩ := He.codeIn_ref hcd
  have ec : He.codeOf K (x, none) = c := He.codeOf_eq lk (by rw [e])
  rw [ec]
  rcases hD with ⟨_, rfl⟩ | ⟨n, _⟩
  · exact ⟨⟨oc, od, kV, doc, pm, an, ct, osl, e, lk, hcd⟩, F.kp⟩
  · exact absurd rfl n
theorem df {x : Str} {st : Stmt} {ps : List Str} {fd : FuncData} (X : K.In h) (G : h.Ns mainGlobals mg) (c : (He.Fa.glo x).ok K = true) (F : FunD K x x (defArgs st) (defBody st) (defScope st) [] [] (He.fAd K (x, none)) fd)
    (hb : ∀ (kV doc pm : Value) (an : Option Addr) (cdv ct : Value) (us : List Value), us.length = ps.length → bindArgs (PySem.W.fnOf x x (defArgs st) (defBody st) (defScope st) .none kV doc pm an cdv ct) ⟨us, []⟩ = pure (ps.zip us)) : Df K mg x st ps (He.fAd K (x, none)) fd :=
  ⟨fun_of F, He.glo_ok X G c, (fun_of F).binds hb⟩
theorem excC_of {C : Addr} (e : excCB K C = true) : ExcC K C := by
  unfold excCB at e
  obtain ⟨e1, e⟩ := He.ba e
  obtain ⟨e2, e⟩ := He.ba e
  obtain ⟨e3, e⟩ := He.ba e
  obtain ⟨e4, e⟩ := He.ba e
  obtain ⟨e5, e⟩ := He.ba e
  obtain ⟨e6, e⟩ := He.ba e
  obtain ⟨e7, e8⟩ := He.ba e
  exact ⟨of_decide_eq_true e1, of_decide_eq_true e2, of_decide_eq_true e3, e4, of_decide_eq_true e5, of_decide_eq_true e6, of_decide_eq_true e7, of_decide_eq_true e8⟩
theorem errK_of {C : Addr} {j : Nat} (hj : j < 15) (e : errB K C j = true) : ErrK K (csE K) C j := by
  unfold errB at e
  obtain ⟨e1, e⟩ := He.ba e
  obtain ⟨e2, e⟩ := He.ba e
  obtain ⟨e3, e4⟩ := He.ba e
  exact ⟨hj, excC_of e1, fun i hi => of_decide_eq_true (List.all_eq_true.mp e2 i (List.mem_range.mpr hi)), of_decide_eq_true e3, of_decide_eq_true e4⟩
theorem ownX_of {x : Str} {C : Addr} (g : mg x = some (.ref C)) (e : ownB K C = true) : OwnX K mg x C := by
  unfold ownB at e
  obtain ⟨e1, e⟩ := He.ba e
  obtain ⟨e2, e⟩ := He.ba e
  obtain ⟨e3, e4⟩ := He.ba e
  exact ⟨g, e1, e2, of_decide_eq_true e3, of_decide_eq_true e4⟩
theorem tup0_of {a : Addr} (e : tup0B K a = true) : SqT K (fun _ => none) a [] := by
  unfold tup0B at e
  split at e
  · rename_i c d its n sl lk
    obtain ⟨e1, e2⟩ := He.ba e
    have e1 : c = "tuple" := of_decide_eq_true e1
    have e2 : its.size = 0 := of_decide_eq_true e2
    subst e1
    obtain rfl : its = #[] := Array.eq_empty_of_size_eq_zero e2
    exact .inr ⟨_, #[], n, lk, rfl, rfl, Nat.zero_le _, .nil⟩
  · cases e
theorem facts {f : Addr} (X : K.In h) (G : h.Ns mainGlobals mg) (hfa : mg ("law" : Str) = some (.ref f)) (c : He.SaysX (faK ++ faB) fnK [] tfK exK w h K) :
    ∃ (fd : FuncData), (∀ (s : Shared) (u : Value), BindsTo s fd ⟨[u], []⟩ [("script", u)]) ∧ ∀ base : Heap, K.In base → base.Ns mainGlobals mg → TabB base mg (He.cT K ("law", none)).1 (He.cT K ("law", none)).2 → FnG P w K mg base 9 f fd ["script"] (spLaw K [((He.cT K ("law", none)).2, qLam)]) := by
  have d := c.t.d
  obtain ⟨_, F0⟩ := d.def_ 0 (d := dT "is_number" (topS 18)) rfl
  obtain ⟨_, F1⟩ := d.def_ 1 (d := dT "is_list" (topS 19)) rfl
  obtain ⟨_, F2⟩ := d.def_ 2 (d := dT "is_letter" (topS 20)) rfl
  obtain ⟨_, F3⟩ := d.def_ 3 (d := dT "clause_of" (topS 21)) rfl
  obtain ⟨_, F4⟩ := d.def_ 4 (d := dT "is_worths" (topS 22)) rfl
  obtain ⟨_, F5⟩ := d.def_ 5 (d := dT "letter_holds" (topS 23)) rfl
  obtain ⟨_, F6⟩ := d.def_ 6 (d := dT "clause_holds" (topS 24)) rfl
  obtain ⟨_, F7⟩ := d.def_ 7 (d := dT "_unlike_clauses" (topS 29)) rfl
  obtain ⟨_, F8⟩ := d.def_ 8 (d := dT "_by_length" (topS 30)) rfl
  obtain ⟨_, F9⟩ := d.def_ 9 (d := dT "is_answer" (topS 31)) rfl
  obtain ⟨_, F10⟩ := d.def_ 10 (d := dTk "answers" (topS 32) [("most", .int 12)]) rfl
  obtain ⟨_, F11⟩ := d.def_ 11 (d := dT "_longer_starts" (topS 33)) rfl
  obtain ⟨_, F12⟩ := d.def_ 12 (d := dT "_some_way" (topS 34)) rfl
  obtain ⟨_, F13⟩ := d.def_ 13 (d := dT "_choices" (topS 35)) rfl
  obtain ⟨_, F14⟩ := d.def_ 14 (d := dT "_once_so" (topS 36)) rfl
  obtain ⟨_, F15⟩ := d.def_ 15 (d := dT "_without" (topS 37)) rfl
  obtain ⟨_, F16⟩ := d.def_ 16 (d := dT "_law_mixed" (topS 39)) rfl
  obtain ⟨_, F17⟩ := d.def_ 17 (d := dT "_law_next" (topS 40)) rfl
  obtain ⟨_, F18⟩ := d.def_ 18 (d := dT "_law_clause" (topS 41)) rfl
  obtain ⟨_, F19⟩ := d.def_ 19 (d := dT "_law_holds" (topS 42)) rfl
  obtain ⟨_, F20⟩ := d.def_ 20 (d := dT "_law_word" (topS 43)) rfl
  obtain ⟨_, F21⟩ := d.def_ 21 (d := dT "_law_refused" (topS 44)) rfl
  obtain ⟨_, F22⟩ := d.def_ 22 (d := dT "_law_fixed" (topS 45)) rfl
  obtain ⟨_, F23⟩ := d.def_ 23 (d := dT "_law_due" (topS 46)) rfl
  obtain ⟨fd, F24⟩ := d.def_ 24 (d := dT "law" (topS 47)) rfl
  have D_is_number := df (x := "is_number") (st := topS 18) (ps := ["thing"]) X G (d.fact 0 (f := .glo "is_number") rfl) F0 fun _ _ _ _ _ _ us hl => match us, hl with | [_], _ => rfl
  have D_is_list := df (x := "is_list") (st := topS 19) (ps := ["thing"]) X G (d.fact 1 (f := .glo "is_list") rfl) F1 fun _ _ _ _ _ _ us hl => match us, hl with | [_], _ => rfl
  have D_is_letter := df (x := "is_letter") (st := topS 20) (ps := ["thing", "many"]) X G (d.fact 2 (f := .glo "is_letter") rfl) F2 fun _ _ _ _ _ _ us hl => match us, hl with | [_, _], _ => rfl
  have D_clause_of := df (x := "clause_of") (st := topS 21) (ps := ["thing", "many"]) X G (d.fact 3 (f := .glo "clause_of") rfl) F3 fun _ _ _ _ _ _ us hl => match us, hl with | [_, _], _ => rfl
  have D_is_worths := df (x := "is_worths") (st := topS 22) (ps := ["thing", "many"]) X G (d.fact 4 (f := .glo "is_worths") rfl) F4 fun _ _ _ _ _ _ us hl => match us, hl with | [_, _], _ => rfl
  have D_letter_holds := df (x := "letter_holds") (st := topS 23) (ps := ["letter", "worths"]) X G (d.fact 5 (f := .glo "letter_holds") rfl) F5 fun _ _ _ _ _ _ us hl => match us, hl with | [_, _], _ => rfl
  have D_clause_holds := df (x := "clause_holds") (st := topS 24) (ps := ["clause", "worths"]) X G (d.fact 6 (f := .glo "clause_holds") rfl) F6 fun _ _ _ _ _ _ us hl => match us, hl with | [_, _], _ => rfl
  have D__unlike_clauses := df (x := "_unlike_clauses") (st := topS 29) (ps := ["things", "many"]) X G (d.fact 7 (f := .glo "_unlike_clauses") rfl) F7 fun _ _ _ _ _ _ us hl => match us, hl with | [_, _], _ => rfl
  have D__by_length := df (x := "_by_length") (st := topS 30) (ps := ["clause"]) X G (d.fact 8 (f := .glo "_by_length") rfl) F8 fun _ _ _ _ _ _ us hl => match us, hl with | [_], _ => rfl
  have D_is_answer := df (x := "is_answer") (st := topS 31) (ps := ["problem", "thing"]) X G (d.fact 9 (f := .glo "is_answer") rfl) F9 fun _ _ _ _ _ _ us hl => match us, hl with | [_, _], _ => rfl
  have K_answers : FunD K "answers" "answers" (defArgs (topS 32)) (defBody (topS 32)) (defScope (topS 32)) [] [("most", .int 12)] _ _ := F10
  have g_answers := He.glo_ok X G (d.fact 10 (f := .glo "answers") rfl)
  obtain ⟨_, v_answers, b_answers⟩ := K_answers.binds0 (ps := ["problem", "most"]) 1 (by simp) rfl fun _ _ _ _ _ _ us ks h1 h2 => match us, ks, h1, h2 with | [_], [_], _, _ => ⟨_, _, _, _, _, _, rfl, rfl, rfl⟩
  have D__longer_starts := df (x := "_longer_starts") (st := topS 33) (ps := ["start", "truth"]) X G (d.fact 11 (f := .glo "_longer_starts") rfl) F11 fun _ _ _ _ _ _ us hl => match us, hl with | [_, _], _ => rfl
  have D__some_way := df (x := "_some_way") (st := topS 34) (ps := ["clauses"]) X G (d.fact 12 (f := .glo "_some_way") rfl) F12 fun _ _ _ _ _ _ us hl => match us, hl with | [_], _ => rfl
  have D__choices := df (x := "_choices") (st := topS 35) (ps := ["clause"]) X G (d.fact 13 (f := .glo "_choices") rfl) F13 fun _ _ _ _ _ _ us hl => match us, hl with | [_], _ => rfl
  have D__once_so := df (x := "_once_so") (st := topS 36) (ps := ["clauses", "letter"]) X G (d.fact 14 (f := .glo "_once_so") rfl) F14 fun _ _ _ _ _ _ us hl => match us, hl with | [_, _], _ => rfl
  have D__without := df (x := "_without") (st := topS 37) (ps := ["clause", "letter"]) X G (d.fact 15 (f := .glo "_without") rfl) F15 fun _ _ _ _ _ _ us hl => match us, hl with | [_, _], _ => rfl
  have D__law_mixed := df (x := "_law_mixed") (st := topS 39) (ps := ["cell", "k"]) X G (d.fact 16 (f := .glo "_law_mixed") rfl) F16 fun _ _ _ _ _ _ us hl => match us, hl with | [_, _], _ => rfl
  have D__law_next := df (x := "_law_next") (st := topS 40) (ps := ["draw", "size"]) X G (d.fact 17 (f := .glo "_law_next") rfl) F17 fun _ _ _ _ _ _ us hl => match us, hl with | [_, _], _ => rfl
  have D__law_clause := df (x := "_law_clause") (st := topS 41) (ps := ["draw", "many", "top"]) X G (d.fact 18 (f := .glo "_law_clause") rfl) F18 fun _ _ _ _ _ _ us hl => match us, hl with | [_, _, _], _ => rfl
  have D__law_holds := df (x := "_law_holds") (st := topS 42) (ps := ["clause", "answer"]) X G (d.fact 19 (f := .glo "_law_holds") rfl) F19 fun _ _ _ _ _ _ us hl => match us, hl with | [_, _], _ => rfl
  have D__law_word := df (x := "_law_word") (st := topS 43) (ps := ["e"]) X G (d.fact 20 (f := .glo "_law_word") rfl) F20 fun _ _ _ _ _ _ us hl => match us, hl with | [_], _ => rfl
  have D__law_refused := df (x := "_law_refused") (st := topS 44) (ps := ["work"]) X G (d.fact 21 (f := .glo "_law_refused") rfl) F21 fun _ _ _ _ _ _ us hl => match us, hl with | [_], _ => rfl
  have D__law_fixed := df (x := "_law_fixed") (st := topS 45) (ps := ["draw", "many", "loose"]) X G (d.fact 22 (f := .glo "_law_fixed") rfl) F22 fun _ _ _ _ _ _ us hl => match us, hl with | [_, _, _], _ => rfl
  have D__law_due := df (x := "_law_due") (st := topS 46) (ps := ["many", "fixed", "more"]) X G (d.fact 23 (f := .glo "_law_due") rfl) F23 fun _ _ _ _ _ _ us hl => match us, hl with | [_, _, _], _ => rfl
  have x := c.more
  obtain ⟨x0, x⟩ := He.ba x
  obtain ⟨x1, x⟩ := He.ba x
  have x2 := x
  have xP := x2
  obtain ⟨_, FI⟩ := d.def_ 25 (d := dIn) rfl
  obtain ⟨_, FE⟩ := d.def_ 26 (d := dEq) rfl
  obtain ⟨ds3, v3, bI⟩ := FI.binds1 (ps := ["self", "many", "clauses"]) 3 1 (by simp [He.DefD.dvs, dIn]) rfl fun _ _ _ _ _ _ _ us its hu hi => match us, its, hu, hi with | [_, _, _], [_], _, _ => ⟨_, rfl, rfl⟩
  obtain ⟨ds2, v2, bD⟩ := FI.binds1 (ps := ["self", "many", "clauses"]) 2 0 (by simp [He.DefD.dvs, dIn]) rfl fun _ _ _ _ _ _ _ us its hu hi => match us, its, hu, hi with | [_, _], [_], _, _ => ⟨_, rfl, rfl⟩
  have e3 : ds3 = [] := by cases v3; rfl
  subst e3
  have e2 : ds2 = [.ref (aE K)] := by
    cases v2 with
    | cons h t =>
      cases t
      cases h
      rfl
  subst e2
  have cl : Cls K (He.ga K "Problem") := He.cls_ok (d.fact 44 (f := .cls "Problem") rfl)
  have ER : Errs mg (csE K) := ⟨He.glo_ok X G (d.fact 27 (f := .glo "NoProblem") rfl), He.glo_ok X G (d.fact 28 (f := .glo "NoClause") rfl), He.glo_ok X G (d.fact 29 (f := .glo "TooMany") rfl), He.glo_ok X G (d.fact 30 (f := .glo "NoText") rfl), He.glo_ok X G (d.fact 31 (f := .glo "NoTurn") rfl), He.glo_ok X G (d.fact 32 (f := .glo "NoLetter") rfl), He.glo_ok X G (d.fact 33 (f := .glo "NotThere") rfl), He.glo_ok X G (d.fact 34 (f := .glo "NoStep") rfl), He.glo_ok X G (d.fact 35 (f := .glo "NoLog") rfl), He.glo_ok X G (d.fact 36 (f := .glo "NoWay") rfl), He.glo_ok X G (d.fact 37 (f := .glo "NoPart") rfl), He.glo_ok X G (d.fact 38 (f := .glo "NoAnswer") rfl), He.glo_ok X G (d.fact 39 (f := .glo "NoAsk") rfl), He.glo_ok X G (d.fact 40 (f := .glo "Twice") rfl), He.glo_ok X G (d.fact 41 (f := .glo "NoDeed") rfl), He.glo_ok X G (d.fact 42 (f := .glo "TurnError") rfl)⟩
  have EK_TooMany : ErrK K (csE K) (He.ga K "TooMany") 2 := errK_of (by decide) x0
  have OX_TooMany : OwnX K mg "TooMany" (He.ga K "TooMany") := ownX_of (He.glo_ok X G (d.fact 29 (f := .glo "TooMany") rfl)) x1
  have e := hfa.symm.trans (He.glo_ok X G (d.fact 24 (f := .glo "law") rfl))
  cases e
  have La : Fun K "law" "law" (topS 47) _ fd := fun_of F24
  have bl : Bl mg := ⟨He.free_ok X G (d.fact 49 (f := .free "max") rfl), He.free_ok X G (d.fact 50 (f := .free "min") rfl), He.free_ok X G (d.fact 51 (f := .free "len") rfl), He.free_ok X G (d.fact 52 (f := .free "range") rfl), He.free_ok X G (d.fact 53 (f := .free "type") rfl), He.free_ok X G (d.fact 54 (f := .free "int") rfl), He.free_ok X G (d.fact 55 (f := .free "list") rfl), He.free_ok X G (d.fact 56 (f := .free "tuple") rfl), He.free_ok X G (d.fact 57 (f := .free "dict") rfl), He.free_ok X G (d.fact 58 (f := .free "bool") rfl), He.free_ok X G (d.fact 59 (f := .free "abs") rfl), He.free_ok X G (d.fact 60 (f := .free "sorted") rfl), He.free_ok X G (d.fact 61 (f := .free "enumerate") rfl), He.free_ok X G (d.fact 62 (f := .free "isinstance") rfl), He.free_ok X G (d.fact 63 (f := .free "repr") rfl), He.free_ok X G (d.fact 64 (f := .free "str") rfl), He.free_ok X G (d.fact 65 (f := .free "all") rfl), He.free_ok X G (d.fact 66 (f := .free "any") rfl), He.free_ok X G (d.fact 67 (f := .free "zip") rfl), He.free_ok X G (d.fact 68 (f := .free "reversed") rfl), He.free_ok X G (d.fact 69 (f := .free "sum") rfl), He.free_ok X G (d.fact 70 (f := .free "set") rfl), He.free_ok X G (d.fact 71 (f := .free "ValueError") rfl)⟩
  have g_MOST := He.int_ok X G (d.fact 25 (f := .int "MOST" 400) rfl)
  have g_MOST_CLAUSES := He.int_ok X G (d.fact 26 (f := .int "MOST_CLAUSES" 400) rfl)
  have Pg : Prog K mg (He.ga K "Problem") _ _ _ _ _ _ _ _ _ _ _ _ _ _ _ _ (aE K) := ⟨D_is_number, D_is_list, D_is_letter, D_clause_of, D__unlike_clauses, D__by_length, FI, (fun_of FE : Fun K "__eq__" "Problem.__eq__" sEq _ _), bI, bD, tup0_of xP, cl, He.noat_ok (d.fact 45 (f := .noat "Problem" "many") rfl), He.noat_ok (d.fact 46 (f := .noat "Problem" "clauses") rfl), He.glo_ok X G (d.fact 43 (f := .glo "Problem") rfl), He.mkr_ok (d.fact 47 (f := .mkr "Problem") rfl), g_MOST, g_MOST_CLAUSES⟩
  refine ⟨fd, fun s v => FunD.bindsA (x := "law") (qual := "law") (params := defArgs (topS 47)) (body := defBody (topS 47)) (scope := defScope (topS 47)) (ps := ["script"]) F24 (fun _ _ _ _ _ _ us hl => match us, hl with | [_], _ => rfl) s [v] rfl, fun base _ _ TB => ?_⟩
  have FT_ := funT_of (st := topS 47) F24
  have GX := ok_next (P := P) (w := w) (base := base) D__law_next.F bl D__law_mixed
  have GFx := ok_fx (P := P) (w := w) (base := base) D__law_fixed.F bl D__law_next GX
  have GCs := ok_cs (P := P) (w := w) (base := base) D__law_clause.F bl D__law_mixed D__law_next
  have GDu := ok_du (P := P) (w := w) (base := base) D__law_due.F bl D__law_holds
  have GIs := ok_isA (P := P) (w := w) (base := base) D_is_answer.F bl cl Pg.nM Pg.nC D_is_worths D_is_number D_clause_holds D_letter_holds
  have GAn := ok_an (P := P) (w := w) (base := base) K_answers bl bl.min cl Pg.nM Pg.nC D__longer_starts D__some_way D__once_so D__without D__choices
  have GAnR := ok_anR (P := P) (w := w) (base := base) K_answers cl Pg.nM OX_TooMany
  obtain ⟨_, kb⟩ := K_answers.kbinds0 (ps := ["problem", "most"]) 1 ["most"] [] (fun us mv ws => us ++ ws) (by simp) (fun q h => nomatch h) (fun r1 _ r3 => r1.append r3) fun _ _ _ _ _ _ us mv ws h1 h2 h3 => match us, mv, ws, h1, h2, h3 with | [_], [], [_], _, _, _ => rfl
  have GWd := ok_lwd (P := P) (w := w) (base := base) D__law_word.F bl ER
  exact ok_law FT_ bl TB Pg D__law_next GX D__law_fixed GFx D__law_clause GCs D__law_due GDu D_is_answer GIs g_answers K_answers.kp b_answers v_answers kb GAn GAnR D__law_refused D__law_word GWd ER EK_TooMany
end
end Toy

-- part: LZ
open PySem PySem.W PySem.Calls PyProof.Rows
theorem PySem.Challenge.cw_turnless_k05_answers_of_few_truths_holds : PySem.Challenge.rw_turnless_k05_answers_of_few_truths.Holds := by
  w_on; o_law
  refine HandSHeadRun.head_any (r := Toy.R) (q := view Toy.R.prog [47]) (H := Toy.hk) (ob := Toy.ob) (M := 8000) (loose := Toy.loose) (d := HandSHeadRun.topDef Toy.R.prog 47) (kwd := []) Toy.ob_eq
    (by kernel_rfl) (fun s => by kernel_rfl) Toy.run (by kernel_rfl) (by kernel_rfl) (by kernel_rfl) (by rfl) (by first | assumption | decide +kernel) (by decide +kernel) ⟨rfl, rfl, rfl, rfl, rfl, by decide +kernel⟩ ?hw ?hc
  case hw => w_witness2
  case hc =>
    refine Toy.walkG (l := PySem.Challenge.rw_turnless_k05_answers_of_few_truths) (n := 63) (k := 9) (x := "script") rfl (by decide) (by kernel_rfl) ⟨rfl, by decide, by decide⟩ ?F
    intro w mg fa h Y G hmg0
    obtain ⟨K, KX, c⟩ := Y
    have hmg : mg ("law" : PySem.Str) = some (.ref fa) := by
      have e : (HandSHeadRun.topDef Toy.R.prog 47).name = ("law" : PySem.Str) := by kernel_rfl
      rw [← e]
      exact hmg0
    obtain ⟨fd, hb, hF⟩ := Toy.facts (P := (PySem.Challenge.rw_turnless_k05_answers_of_few_truths).prog) (w := w) KX G hmg c
    have hm : (("law", none) : He.Defn) ∈ Toy.tfK := List.mem_singleton.mpr rfl
    refine ⟨K, fd, _, _, _, KX, c.empty _ hm, c.out _ hm, codeHd_of_K KX (c.hd _ hm), hb, fun H a ns hl hT hS => ⟨a, ns, rfl, hS, hl, fun p hp => ?_, fun _ => rfl⟩, hF⟩
    rw [List.mem_singleton.mp hp]
    exact LamX.TabS.nil hT

