import PyProof.Rows.All
import Wide.All
import OpenK.AllK
import Wide.FinOn
import HandS.ForMost
import HandS.Wide
import HandS.SortKw
import HandS.List
import HandS.More
import HandS.Conv
import HandS.Lambda
import PyProof.TypeEq
import PyProof.InstEq
import HandS.Zip0
import HandS.SetKeys
import HandS.SetBool
import HandS.Strs
import PyProof.ReprRoads
import HandS.FStrTup
import HandS.Words
import KE.KUnpackStar
import HandS.Base
import HandS.IsInst
import HandS.Walk
import PyProof.FitsInt
import HandS.Text
import HandS.Comp
import HandS.SetTxt0
import HandS.FStr
import HandS.StrMore
import HandS.Iter
import HandS.Steps
import HandS.Zip
import HandS.TupAny
import HandS.EndTab
import HandS.Head0
import HandS.Head1
import HandS.Head2
import HandS.HeadEnd
import HandS.HeadHook1
import HandS.HeadHook2
import HandS.HeadHook3
import HandS.HeadHook4
import PySem.Challenge.RW_turnless_k77_whole_logs_read_back
set_option Elab.async false
set_option linter.all false
set_option maxRecDepth 100000
set_option maxHeartbeats 0
-- part: A0
namespace Toy
open PySem L2
/-! ### readings, evaluated -/
section
variable {D : Ends} {σ : St} {H : Hp} {Q : VK}
theorem e_seq {t u : TS} : tSeq t u D σ H = t { D with nx := u D } σ H := rfl
theorem e_asg {te : TE} {i : Nat} : tAsg te (gName i) D σ H = te σ H fun x H1 => D.nx (σ.set i (some x)) H1 := rfl
theorem e_asgS {te to ti : TE} {t : TSet} : tAsg te (gSub to ti t) D σ H = te σ H fun v H1 => to σ H1 fun o H2 => ti σ H2 fun i H3 => t o i v H3 fun H4 => D.nx σ H4 := rfl
theorem e_ret {te : TE} : tRet te D σ H = te σ H D.rt := rfl
theorem e_ifS {c : TT} {t u : TS} : tIfS c t u D σ H = c σ H fun b H1 => if b = true then t D σ H1 else u D σ H1 := rfl
theorem e_c {v : V} : tC v σ H Q = Q v H := rfl
theorem e_op {r : R2} {ta tb : TE} : tOp r ta tb σ H Q = ta σ H fun x H1 => tb σ H1 fun y H2 => r x y H2 Q := rfl
theorem e_test {te : TE} {q : Bool → Hp → Prop} : tTest te σ H q = te σ H fun x H1 => ∃ c, x = .bl c ∧ q c H1 := rfl
theorem e_rI0 {g : Int → Int → V} {i j : Int} : rI0 g (.int i) (.int j) H Q = Q (g i j) H := by
  refine propext ⟨?_, fun h => ⟨_, _, rfl, rfl, h⟩⟩
  rintro ⟨a, b, e1, e2, h⟩; cases e1; cases e2; exact h
theorem e_rI {C : Int → Int → Prop} {g : Int → Int → V} {i j : Int} : rI C g (.int i) (.int j) H Q = (C i j ∧ Q (g i j) H) := by
  refine propext ⟨?_, fun h => ⟨_, _, rfl, rfl, h⟩⟩
  rintro ⟨a, b, e1, e2, h⟩; cases e1; cases e2; exact h
theorem e_var0 {v : V} {s : List (Option V)} : tVar 0 (some v :: s) H Q = Q v H := by
  refine propext ⟨?_, fun h => ⟨_, rfl, h⟩⟩
  rintro ⟨a, e, h⟩; cases e; exact h
theorem e_varS {o : Option V} {n : Nat} {s : List (Option V)} : tVar (n + 1) (o :: s) H Q = tVar n s H Q := rfl
theorem e_bl {b : Bool} {q : Bool → Prop} : (∃ c, V.bl b = V.bl c ∧ q c) = q b := by
  refine propext ⟨?_, fun h => ⟨_, rfl, h⟩⟩
  rintro ⟨a, e, h⟩; cases e; exact h
theorem e_nil {q : List V → Hp → Prop} : tNil σ H q = q [] H := rfl
theorem e_cons {ta : TE} {t : TA} {q : List V → Hp → Prop} : tCons ta t σ H q = ta σ H fun x H1 => t σ H1 fun xs H2 => q (x :: xs) H2 := rfl
theorem e_call {sp : Sp} {dvs : List V} {E : XK} {t : TA} : tCall sp dvs E t σ H Q = t σ H fun vs H1 => sp (vs ++ dvs) H1 Q E := rfl
theorem e_cb {r : List V → Hp → VK → Prop} {t : TA} : tCB r t σ H Q = t σ H fun vs H1 => r vs H1 Q := rfl
theorem e_next : tNext D σ H = D.nx σ H := rfl
theorem e_bl2 {b : Bool} {q : Bool → Hp → Prop} : (∃ c, V.bl b = V.bl c ∧ q c H) = q b H := by
  refine propext ⟨?_, fun h => ⟨_, rfl, h⟩⟩
  rintro ⟨a, e, h⟩; cases e; exact h
end
section
variable {D : Ends} {σ : St} {H : Hp} {Q : VK}
theorem e_and {a b : TE} : tAndV a b σ H Q = a σ H fun x H1 => ∃ c, x = .bl c ∧ if c = true then b σ H1 Q else Q (.bl false) H1 := rfl
theorem e_chain {r r' : R2} {a b c : TE} : tChain r r' a b c σ H Q = a σ H fun x H1 => b σ H1 fun y H2 => r x y H2 fun z H3 => ∃ k, z = .bl k ∧ (if k = true then c σ H3 fun w' H4 => r' y w' H4 Q else Q (.bl false) H3) := rfl
theorem e_tif {t : TT} {a b : TE} : tIf t a b σ H Q = t σ H fun c H1 => if c = true then a σ H1 Q else b σ H1 Q := rfl
theorem e_not {t : TT} {q : Bool → Hp → Prop} : tNot t σ H q = t σ H fun c H1 => q (!c) H1 := rfl
theorem e_tb {t : TE} {q : Bool → Hp → Prop} : tB t σ H q = t σ H fun x H1 => ∃ c, x = .bl c ∧ q c H1 := rfl
theorem e_drop {te : TE} : tDrop te D σ H = te σ H fun _ H1 => D.nx σ H1 := rfl
theorem e_or {t u : TT} {q : Bool → Hp → Prop} : tOr t u σ H q = t σ H fun c H1 => if c = true then q true H1 else u σ H1 q := rfl
theorem e_andT {t u : TT} {q : Bool → Hp → Prop} : tAnd t u σ H q = t σ H fun c H1 => if c = true then u σ H1 q else q false H1 := rfl
theorem e_din {ty td : TE} : tDIn ty td σ H Q = ty σ H fun y H1 => td σ H1 fun x H2 => ∃ a o, x = .ref a ∧ DGet H2 a y o ∧ Q (.bl o.isSome) H2 := rfl
theorem e_dnotin {ty td : TE} : tDNotIn ty td σ H Q = ty σ H fun y H1 => td σ H1 fun x H2 => ∃ a o, x = .ref a ∧ DGet H2 a y o ∧ Q (.bl (!o.isSome)) H2 := rfl
theorem e_un {r : V → Hp → VK → Prop} {ta : TE} : tUn r ta σ H Q = ta σ H fun x H1 => r x H1 Q := rfl
theorem e_rU {g : Int → V} {i : Int} : rU g (.int i) H Q = Q (g i) H := by
  refine propext ⟨?_, fun h => ⟨_, rfl, h⟩⟩
  rintro ⟨a, e, h⟩; cases e; exact h
theorem e_dput {td ty tv : TE} : sDPut td ty tv D σ H = tv σ H fun v H1 => td σ H1 fun x H2 => ty σ H2 fun y H3 => ∃ a H4, x = .ref a ∧ DPut H3 a y v H4 ∧ D.nx σ H4 := rfl
theorem e_x1 {v : V} {q : V → Prop} : (∃ x, [v] = [x] ∧ q x) = q v := by
  refine propext ⟨?_, fun h => ⟨_, rfl, h⟩⟩
  rintro ⟨i, e, h⟩; cases e; exact h
theorem e_notV {a : TE} : tNotV a σ H Q = a σ H fun x H1 => ∃ c, x = .bl c ∧ Q (.bl (!c)) H1 := rfl
theorem e_orV {a b : TE} : tOrV a b σ H Q = a σ H fun x H1 => ∃ c, x = .bl c ∧ if c = true then Q (.bl true) H1 else b σ H1 Q := rfl
theorem e_fld {K : PySem.W.Frag} {ta tv : TE} {f : Str} : sFld K ta tv f D σ H = tv σ H fun y H1 => ta σ H1 fun x H2 => ∃ a C dx fs, x = .ref a ∧ H2 a = some (.ins C dx fs) ∧ Cls K C ∧ NoAttr K C f ∧ fs.length < 1000 ∧ D.nx σ (upd H2 a (.ins C dx (putF f y fs))) := rfl
theorem e_par {i j : Nat} {ta : TA} : tPar i j ta D σ H = ta σ H fun vs H1 => ∃ v w, vs = [v, w] ∧ D.nx ((σ.set i (some v)).set j (some w)) H1 := rfl
theorem e_vw {a b : V} {q : V → V → Prop} : (∃ v w, [a, b] = [v, w] ∧ q v w) = q a b := by
  refine propext ⟨?_, fun h => ⟨_, _, rfl, h⟩⟩
  rintro ⟨i, j, e, h⟩; cases e; exact h
theorem e_dnewK : tDNewK σ H Q = ∀ p, H p = none → Q (.ref p) (upd H p (.dK [])) := rfl
theorem e_gName {i : Nat} {v : V} {q : St → Hp → Prop} : gName i v σ H q = q (σ.set i (some v)) H := rfl
theorem e_bm {K : PySem.W.Frag} {T : String} {r : V → List V → Hp → VK → Prop} {to : TE} {t : TA} : tBM K T r to t σ H Q = to σ H fun x H1 => tyV K T x H1 ∧ t σ H1 fun xs H2 => r x xs H2 Q := rfl
theorem e_i1 {a : Int} {q : Int → Prop} : (∃ i, [V.int a] = [V.int i] ∧ q i) = q a := by
  refine propext ⟨?_, fun h => ⟨_, rfl, h⟩⟩
  rintro ⟨i, e, h⟩; cases e; exact h
end
theorem p_ix {K : PySem.W.Frag} {H : Hp} {Q : VK} {p : Addr} {xs : List V} {i : Int} {v : V} (h : SqL K H p xs) (e : atI xs i = some v) (q : Q v H) : rIxL K (.ref p) (.int i) H Q := ⟨p, xs, i, v, rfl, rfl, h, e, q⟩
theorem p_set {H : Hp} {Q : Hp → Prop} {p : Addr} {xs : List V} {i : Int} {j : Nat} {v : V} (h : H p = some (.lst xs)) (e : ixN xs.length i = some j) (q : Q (upd H p (.lst (xs.set j v)))) : rSetL (.ref p) (.int i) v H Q := ⟨p, xs, i, j, rfl, rfl, h, e, q⟩
theorem e_cxK {CX : CXT} {P : Program} {w : World} {K : PySem.W.Frag} {mg : Str → Option Value} {base : Heap} {N : List Str} {qual : Str} {sc : Scope} {f : Addr} {cdv : Value} {A : Around} {outer : List Env} {s : Shared} {H : Hp} {E : XK} : (cxOf CX P w K mg base N qual sc f cdv A outer s H E).K = K := rfl
theorem e_ii {a b : Int} {q : Int → Int → Prop} : (∃ i j, [V.int a, V.int b] = [V.int i, V.int j] ∧ q i j) = q a b := by
  refine propext ⟨?_, fun h => ⟨_, _, rfl, h⟩⟩
  rintro ⟨i, j, e, h⟩; cases e; exact h
theorem e_lst {t : TA} {σ : St} {H : Hp} {Q : VK} : tLst t σ H Q = t σ H fun xs H1 => xs.length ≤ sizeLine ∧ ∀ p, H1 p = none → Q (.ref p) (upd H1 p (.lst xs)) := rfl
theorem e_tup {t : TA} {σ : St} {H : Hp} {Q : VK} : tTup t σ H Q = t σ H fun xs H1 => xs.length ≤ sizeLine ∧ ∀ p, H1 p = none → Q (.ref p) (upd H1 p (.tup xs)) := rfl
theorem p_neD {K : PySem.W.Frag} {H : Hp} {Q : VK} {x y : V} {d e : PyData} (hd : Dp K H x d) (he : Dp K H y e) (sd : SeqAt.shaped d = true) (se : SeqAt.shaped e = true) (q : Q (.bl (!PyData.eqv d e)) H) : rNeD K x y H Q := ⟨d, e, hd, he, sd, se, q⟩
theorem p_eqD {K : PySem.W.Frag} {H : Hp} {Q : VK} {x y : V} {d e : PyData} (hd : Dp K H x d) (he : Dp K H y e) (sd : SeqAt.shaped d = true) (se : SeqAt.shaped e = true) (q : Q (.bl (PyData.eqv d e)) H) : rEqD K x y H Q := ⟨d, e, hd, he, sd, se, q⟩
theorem at_ints {ns : List Int} {i : Int} (h0 : 0 ≤ i) (h1 : i < ns.length) : ∃ z, atI (ns.map V.int) i = some (V.int z) := by
  obtain ⟨j, rfl⟩ := Int.eq_ofNat_of_zero_le h0
  have hj : j < ns.length := by omega
  refine ⟨ns[j], atI_nat ?_⟩
  rw [List.getElem?_map, List.getElem?_eq_getElem hj]
  rfl
theorem p_app {H : Hp} {Q : VK} {l : Addr} {xs : List V} {y : V} (h : H l = some (.lst xs)) (z : xs.length < sizeLine) (q : Q .non (upd H l (.lst (xs ++ [y])))) : rAppend (.ref l) [y] H Q := ⟨l, xs, y, rfl, rfl, h, z, q⟩
/-! ### what stands but for one object -/
def Ex (d : Addr) (H H' : Hp) : Prop := ∀ b o, H b = some o → b ≠ d → H' b = some o
theorem Ex.refl (d : Addr) (H : Hp) : Ex d H H := fun _ _ h _ => h
theorem Ex.trans {d : Addr} {H H1 H2 : Hp} (a : Ex d H H1) (b : Ex d H1 H2) : Ex d H H2 := fun c o h n => b c o (a c o h n) n
theorem Ex.new {d p : Addr} {H : Hp} {o : HO} (h : H p = none) : Ex d H (upd H p o) := fun b u e _ => by rw [upd_ne (ne_of_none e h)]; exact e
theorem Ex.at {d : Addr} {H : Hp} {o : HO} : Ex d H (upd H d o) := fun b u e n => by rw [upd_ne n]; exact e
theorem Ex.same {d : Addr} {H H' : Hp} (e : Same H H') : Ex d H H' := fun b o h _ => e b o h
theorem Ex.sql {d : Addr} {K : PySem.W.Frag} {H H' : Hp} {a : Addr} {xs : List V} (e : Ex d H H') (n : a ≠ d) (h : SqL K H a xs) : SqL K H' a xs := by
  rcases h with (h | ⟨o, h⟩) | h
  · exact .inl (.inl (e _ _ h n))
  · exact .inl (.inr ⟨o, e _ _ h n⟩)
  · exact .inr h
theorem Same.new {p : Addr} {H : Hp} {o : HO} (h : H p = none) : Same H (upd H p o) := fun b u e => by rw [upd_ne (ne_of_none e h)]; exact e
/-- the draws: a list of the script and a count -/
structure Dr (K : PySem.W.Frag) (H : Hp) (d sc : Addr) (ns : List Int) (n : Int) : Prop where
  dr : H d = some (.lst [.ref sc, .int n])
  sq : SqL K H sc (ns.map V.int)
  len : ns.length ≤ 63
  pos : 0 ≤ n
def DrOk (K : PySem.W.Frag) (H : Hp) (d : Addr) : Prop := ∃ sc ns n, Dr K H d sc ns n
theorem DrOk.same {K : PySem.W.Frag} {H H' : Hp} {d : Addr} (e : Same H H') : DrOk K H d → DrOk K H' d := fun ⟨sc, ns, n, h⟩ => ⟨sc, ns, n, e _ _ h.dr, Same.seq e h.sq, h.len, h.pos⟩
theorem DrOk.nd {K : PySem.W.Frag} {H : Hp} {d p : Addr} (h : DrOk K H d) (hp : H p = none) : p ≠ d := fun e => by
  obtain ⟨sc, ns, n, D⟩ := h
  rw [e, D.dr] at hp
  cases hp
theorem ne_ints {sc : Addr} {n : V} {ns : List Int} {r : List V} : ns.map V.int ≠ V.ref sc :: r := fun e => by
  cases ns with
  | nil => cases e
  | cons a l => cases e
theorem Dr.sqx {K : PySem.W.Frag} {H H' : Hp} {d sc : Addr} {ns : List Int} {n : Int} (D : Dr K H d sc ns n) (e : Ex d H H') : SqL K H' sc (ns.map V.int) := by
  have h := D.sq
  have hd := D.dr
  rcases h with (h | ⟨o, h⟩) | h
  · exact .inl (.inl (e _ _ h fun z => by
      rw [z, hd] at h
      exact ne_ints (n := .non) (HO.lst.inj (Option.some.inj h)).symm))
  · exact .inl (.inr ⟨o, e _ _ h fun z => by
      rw [z, hd] at h
      cases h⟩)
  · exact .inr h
def DrA (K : PySem.W.Frag) (sc : Addr) (ns : List Int) (H : Hp) (d : Addr) : Prop := ∃ n, Dr K H d sc ns n
theorem DrA.same {K : PySem.W.Frag} {sc : Addr} {ns : List Int} {H H' : Hp} {d : Addr} (e : Same H H') : DrA K sc ns H d → DrA K sc ns H' d := fun ⟨n, h⟩ => ⟨n, e _ _ h.dr, Same.seq e h.sq, h.len, h.pos⟩
theorem DrA.nd {K : PySem.W.Frag} {sc : Addr} {ns : List Int} {H : Hp} {d p : Addr} (h : DrA K sc ns H d) (hp : H p = none) : p ≠ d := DrOk.nd ⟨_, _, h⟩ hp
/-- a write to an object that was made since -/
theorem DrA.up {K : PySem.W.Frag} {sc : Addr} {ns : List Int} {H0 H : Hp} {d p : Addr} {o : HO} (h0 : DrA K sc ns H0 d) (h : DrA K sc ns H d) (e : Ex d H0 H) (hp : H0 p = none) : DrA K sc ns (upd H p o) d := by
  obtain ⟨n0, D0⟩ := h0
  obtain ⟨n, D⟩ := h
  have nd := DrA.nd ⟨n0, D0⟩ hp
  exact ⟨n, by rw [upd_ne (Ne.symm nd)]; exact D.dr, Dr.sqx D0 (fun b o hb n => by rw [upd_ne (ne_of_none hb hp)]; exact e b o hb n), D.len, D.pos⟩
theorem Ex.up {d p : Addr} {H0 H : Hp} {o : HO} (e : Ex d H0 H) (hp : H0 p = none) : Ex d H0 (upd H p o) := fun b o hb n => by rw [upd_ne (ne_of_none hb hp)]; exact e b o hb n
theorem can_ints : ∀ (l : List Int), PyData.canLayAll0 (l.map PyData.int) = true
  | [] => by simp [PyData.canLayAll0]
  | i :: r => by simp [PyData.canLayAll0, PyData.canLay0, can_ints r]
theorem dep_ints : ∀ (l : List Int), PyData.depthAll (l.map PyData.int) ≤ 1
  | [] => by simp [PyData.depthAll]
  | i :: r => by
    have h := dep_ints r
    simp [PyData.depthAll, PyData.depth] <;> omega
theorem shaped_lints (l : List Int) : SeqAt.shaped (.list (l.map PyData.int)) = true := by
  have h := dep_ints l
  unfold SeqAt.shaped
  rw [Bool.and_eq_true]
  refine ⟨by simp [PyData.canLay0, can_ints], decide_eq_true ?_⟩
  simp only [PyData.depth]
  omega
theorem dp_ints {K : PySem.W.Frag} {H : Hp} : ∀ (l : List Int), DpAll K H (l.map V.int) (l.map PyData.int)
  | [] => .nil
  | i :: r => .cons (.int i) (dp_ints r)
end Toy

-- part: SK1
namespace SrtQ
open PySem PyProof.Rows Srt SrtO
section
variable {prog : Program} {w : World} {A : Around} {E : Value → Shared → Prop} {s : Shared} {a kS : Addr} {e1 : Nat} {vs : List Value}
/-- what runs behind the keys: out is made of the pairs (key, item) in order -/
def Good (ltk : Value → Value → Bool) (ks vs out : List Value) : Prop := ∃ ps : List Keyed, Srtd (lt2 ltk) ps ∧ Stb (lt2 ltk) ps (ks.zip vs) ∧ out = ps.map (·.2)
def endH (h : Heap) (a kS : Addr) (out : List Value) : Heap := (h.update kS (Obj.mapSeq fun _ => (#[] : Array Value))).update a (Obj.mapSeq fun _ => out.toArray)
theorem zip_arr (ks vs : List Value) : (ks.toArray.zip vs.toArray).toList = ks.zip vs := by
  rw [ksk_zip]
theorem tail_ {ltk : Value → Value → Bool} {ks : List Value} {e : Nat} {st : SortSt} {R : PySem.Fin → Shared → Prop} (hka : kS ≠ a) (hk : s.heap.get? kS = some (seqObj "list" ks.toArray e)) (ha : s.heap.get? a = some (seqObj "list" #[] e1))
    (hl : ks.length = vs.length) (hz : vs.length ≤ sizeLine) (h1 : Srtd (lt2 ltk) (arrOf st).toList) (h2 : Stb (lt2 ltk) (arrOf st).toList (ks.zip vs)) (hf : failedOf st = none)
    (h : ∀ out tk, Good ltk ks vs out → R (.done (.ret .none)) { s with heap := endH s.heap a kS out, toks := tk }) :
    wpAny (model prog w) A (ksk_tail a false e1 (.ref kS) st) R E s := by
  have s1 := Heap.SameBut.update s.heap kS (Obj.mapSeq fun _ => (#[] : Array Value))
  have na1 : (s.heap.update kS (Obj.mapSeq fun _ => (#[] : Array Value))).get? a = some (seqObj "list" #[] e1) := (s1.2 a hka.symm).trans ha
  have hsz : (arrOf st).size = vs.length := by
    have q := h2.len
    rw [Array.length_toList, List.length_zip, hl, Nat.min_self] at q
    exact q
  unfold ksk_tail
  try dsimp only
  refine wpAny_bind (listUpdate_at hk rfl ?_ (by rw [List.size_toArray, hl]; exact hz) (Nat.zero_le _))
  refine wpAny_bind (wpAny_letGo ?_)
  refine wpAny_bind (seqEpoch_at na1 rfl ?_)
  refine wpAny_bind (listUpdate_at na1 rfl ?_ (Nat.zero_le _) ?_)
  · rw [hf]
    simp only [bne_self_eq_false, Bool.false_eq_true, if_false]
    have q := h ((arrOf st).toList.map (·.2)) s.toks ⟨_, h1, h2, rfl⟩
    have e2 : ((arrOf st).toList.map (·.2)).toArray = (arrOf st).map (·.2) := by
      apply Array.ext'
      simp
    unfold endH at q
    rw [e2] at q
    exact wpAny_pure q
  · simp only [Bool.false_eq_true, if_false, Array.size_map]
    omega
theorem end_ {ltk : Value → Value → Bool} {ks : List Value} {e : Nat} {R : PySem.Fin → Shared → Prop} (O : Swo ltk) (hka : kS ≠ a) (hk : s.heap.get? kS = some (seqObj "list" ks.toArray e)) (ha : s.heap.get? a = some (seqObj "list" #[] e1))
    (hl : ks.length = vs.length) (hz : vs.length ≤ sizeLine)
    (hS : 2 ≤ vs.length → ∃ κ, (∀ (Q : SortKind → Shared → Prop) (E : Value → Shared → Prop), Q κ s → wpAny (model prog w) A (keyKind' ks.toArray) Q E s) ∧ Cmp prog w A s κ (fun p => p.1 ∈ ks) (lt2 ltk))
    (h : ∀ out tk, Good ltk ks vs out → R (.done (.ret .none)) { s with heap := endH s.heap a kS out, toks := tk }) :
    wpAny (model prog w) A (ksk_end a false vs.toArray e1 (.ref kS) ks.toArray) R E s := by
  unfold ksk_end
  try dsimp only
  simp only [Bool.false_eq_true, if_false]
  by_cases h2 : vs.toArray.size < 2
  · rw [if_pos h2, if_pos h2]
    refine wpAny_bind (wpAny_pure ?_)
    rw [StateT.run_pure]
    refine wpAny_bind (wpAny_pure ?_)
    try dsimp only
    refine tail_ (st := SortSt.mk' general' (ks.toArray.zip vs.toArray) #[] 7 none) hka hk ha hl hz ?_ ?_ rfl h
    · show Srtd (lt2 ltk) (ks.toArray.zip vs.toArray).toList
      rw [zip_arr]
      rw [List.size_toArray] at h2
      match ks, vs, hl, h2 with
      | [], [], _, _ => exact List.Pairwise.nil
      | [k], [v], _, _ => exact List.pairwise_singleton _ _
      | _ :: _ :: _, _, hl, h2 => exact absurd h2 (by rw [← hl, List.length_cons, List.length_cons]; omega)
    · show Stb (lt2 ltk) (ks.toArray.zip vs.toArray).toList _
      rw [zip_arr]
      exact Stb.refl _
  · rw [if_neg h2, if_neg h2]
    rw [List.size_toArray] at h2
    obtain ⟨κ, hkind, hT⟩ := hS (by omega)
    refine wpAny_bind (hkind _ _ ?_)
    have hall : AllL (fun p : Keyed => p.1 ∈ ks) (ks.toArray.zip vs.toArray).toList := fun p hm => by
      rw [zip_arr] at hm
      exact (List.of_mem_zip hm).1
    refine wpAny_bind (wpAny_mono (wpS_sortO (st0 := SortSt.mk' κ (ks.toArray.zip vs.toArray) #[] 7 none)
      (Q := fun _ st' => Srtd (lt2 ltk) (arrOf st').toList ∧ Stb (lt2 ltk) (arrOf st').toList (ks.toArray.zip vs.toArray).toList ∧ failedOf st' = none) (swo2 O) hT rfl hall rfl rfl fun st' a1 a2 a3 => ⟨a1, a2, a3⟩) ?_ fun _ _ e => e)
    rintro ⟨⟨⟩, st'⟩ s' ⟨rfl, hp1, hp2, hf⟩
    try dsimp only
    rw [zip_arr] at hp2
    exact tail_ hka hk ha hl hz hp1 hp2 hf h
/-- the keys are asked one by one; J: what is kept meanwhile, of the keys so far and of the list that takes them -/
theorem rest_ {f : Value} {R : PySem.Fin → Shared → Prop} (J : List Value → Obj → Shared → Prop) (hka : kS ≠ a)
    (hJ : ∀ ks o s', J ks o s' → s'.heap.get? kS = some o ∧ s'.heap.get? a = some (seqObj "list" #[] e1))
    (up : ∀ ks o s' ks' c, J ks o s' → (s'.heap.update kS (Obj.mapSeq fun x => x.push ks')).get? kS = some c → c.cls = .type "list" → (∀ v, c.data ≠ .cell v) → J ks c { s' with heap := s'.heap.update kS (Obj.mapSeq fun x => x.push ks') })
    (step : ∀ i x ks o s', vs[i]? = some x → ks.length = i → J ks o s' → wpAny (model prog w) A (call f [x]) (fun k s'' => J (ks ++ [k]) o s'') (fun _ _ => False) s')
    (hz : vs.length ≤ sizeLine) (h0 : J [] (seqObj "list" #[] 0) s)
    (fin : ∀ ks e s', J ks (seqObj "list" ks.toArray e) s' → ks.length = vs.length → ∃ ltk : Value → Value → Bool, Swo ltk ∧
      (2 ≤ vs.length → ∃ κ, (∀ (Q : SortKind → Shared → Prop) (E : Value → Shared → Prop), Q κ s' → wpAny (model prog w) A (keyKind' ks.toArray) Q E s') ∧ Cmp prog w A s' κ (fun p => p.1 ∈ ks) (lt2 ltk)) ∧
      ∀ out tk, Good ltk ks vs out → R (.done (.ret .none)) { s' with heap := endH s'.heap a kS out, toks := tk }) :
    wpAny (model prog w) A (ksk_rest a f false vs.toArray e1 (.ref kS)) R E s := by
  unfold ksk_rest
  refine wpAny_bind (wpAny_rule ?_)
  first
    | rw [List.forIn_toArray]
    | (rw [← Array.forIn_toList]; simp only [List.toList_toArray])
    | rw [← Array.forIn_toList]
  refine wpAny_bind (ksk_fold (fun i s' => ∃ ks e, ks.length = i ∧ J ks (seqObj "list" ks.toArray e) s') vs 0 s ⟨[], 0, rfl, h0⟩ ?step ?done)
  case step =>
    rintro j x s' hx ⟨ks, e, hl, hj⟩
    simp only [Nat.zero_add] at hl ⊢
    have hlt : j < vs.length := (List.getElem?_eq_some_iff.mp hx).1
    refine wpAny_bind (wpAny_attempt (wpAny_mono (step j x ks _ s' hx hl hj) (fun k s'' he => ?_) fun _ _ hF => hF.elim))
    have nk := (hJ _ _ _ he).1
    obtain ⟨c2, hc2⟩ : ∃ c2, (s''.heap.update kS (Obj.mapSeq (·.push k))).get? kS = some (seqObj "list" (ks.toArray.push k) c2) := ⟨_, get?_update_seq nk (·.push k)⟩
    try dsimp only
    refine wpAny_bind (listUpdate_at nk rfl ?_ (by rw [List.size_toArray]; omega) (by rw [Array.size_push, List.size_toArray]; omega))
    refine wpAny_pure ⟨rfl, ks ++ [k], c2, by rw [List.length_append, hl]; rfl, ?_⟩
    have q := up _ _ _ k _ he hc2 rfl (fun v z => by cases z)
    have e3 : (ks ++ [k]).toArray = ks.toArray.push k := by simp
    rw [e3]
    exact q
  case done =>
    rintro s' ⟨ks, e, hl, hj⟩
    simp only [Nat.zero_add] at hl
    obtain ⟨nk, na⟩ := hJ _ _ _ hj
    try dsimp only
    refine wpAny_bind (listItems_at nk rfl ?_)
    obtain ⟨ltk, O, h1, h2⟩ := fin _ _ _ hj hl
    exact end_ O hka nk na hl hz h1 h2
end
end SrtQ

-- part: SK2
namespace L2
open PySem PySem.Spec PyProof.Rows SrtO SrtQ
/-- a value without its token -/
def toV : Value → V
  | .none => .non
  | .bool b => .bl b
  | .int i _ => .int i
  | .str x _ => .str x
  | .bytes b _ => .byt b
  | .float b _ => .flt b
  | .ref a => .ref a
  | .type n => .ty n
  | _ => .non
theorem toV_of {x : V} {u : Value} (r : RelV x u) : toV u = x := by
  cases x with
  | non => cases r; rfl
  | bl b => cases r; rfl
  | int i => obtain ⟨t, rfl⟩ := r; rfl
  | str x => obtain ⟨t, rfl⟩ := r; rfl
  | byt b => obtain ⟨t, rfl⟩ := r; rfl
  | flt b => obtain ⟨t, rfl⟩ := r; rfl
  | ref a => cases r; rfl
  | ty n => cases r; rfl
theorem vals_toV : ∀ {xs : List V} {us : List Value}, Vals xs us → xs = us.map toV
  | _, _, .nil => rfl
  | _, _, .cons r t => by rw [List.map_cons, toV_of r, ← vals_toV t]
theorem vals_mem : ∀ {xs : List V} {us : List Value}, Vals xs us → ∀ u ∈ us, RelV (toV u) u
  | _, _, .cons r t, u, h => by
    rcases List.mem_cons.mp h with e | h
    · rw [e, toV_of r]; exact r
    · exact vals_mem t u h
theorem vals_of : ∀ {us : List Value}, (∀ u ∈ us, RelV (toV u) u) → Vals (us.map toV) us
  | [], _ => .nil
  | u :: us, h => .cons (h u List.mem_cons_self) (vals_of fun v hv => h v (List.mem_cons_of_mem _ hv))
/-- an untracked object of ours is tracked from here on -/
theorem Inv.track {X : Cx} {pins : List (Addr × Obj)} {σ : St} {H : Hp} {s : Shared} {D : Addr} {o : HO} (I : Inv X pins σ H s) (fD : FpOk X pins H D) (new : ObjOk X.prog X.w (upd H D o) s.heap D o) : Inv X pins σ (upd H D o) s := by
  have hok : HOk X.prog X.w (upd H D o) s.heap := fun b u e => by
    by_cases hb : b = D
    · subst hb; rw [upd_same] at e; cases e; exact new
    · rw [upd_ne hb] at e
      exact (I.hok b u e).stay (fun c v _ q => q) (fun c q => by rw [upd_ne (ne_of_none q fD.1)]; exact q) fun c xs q => by rw [upd_ne (ne_of_none q fD.1)]; exact q
  have q := I.step (g' := s.gens) (d' := s.drawn) (t' := s.toks) (h' := s.heap) (H' := upd H D o) (ch := [D]) (fun b hb => by
      rw [List.mem_singleton.mp hb]
      exact ⟨fD.2.2.2.1, fD.2.1, fD.2.2.2.2.1, fD.2.2.2.2.2⟩)
    (fun b o _ _ _ e _ => e) (fun b o _ _ _ e _ => ⟨o.slots, e⟩) (fun b o hc e n => by rw [upd_ne fun z => hc (by rw [z]; exact List.mem_singleton.mpr rfl)]; exact n) (fun b o _ e => ⟨o, e⟩)
    (fun b xs e => by rw [upd_ne (ne_of_none e fD.1)]; exact e) (fun b o u e => by rw [upd_ne (ne_of_none e fD.1)]; exact e) (fun b ps e => ⟨#[], by rw [upd_ne (ne_of_none e fD.1), e]; simp⟩) (fun m h => h) hok I.bare
  exact q
section
variable {X : Cx} {pins : List (Addr × Obj)} {σ : St} {H : Hp} {s : Shared} {f : Value} {its : List Value} {xs : List V} {R : Result → Shared → Prop} {Q : VK}
/-- what is left of sorted once the items are gathered -/
def sortRest (its : List Value) (kw : List (Str × Value)) : Sem PySem.Fin := do
  let l ← newList its
  let _ ← holding [l] (call (.builtin "list.sort") [l] kw)
  ret l
/-- the pairs (key, item) in order -/
def GoodP (ltk : Value → Value → Bool) (ks its : List Value) (ps : List (Value × Value)) : Prop := Srtd (lt2 ltk) ps ∧ ps.Perm (ks.zip its)
theorem sort_part {E : Value → Shared → Prop} {Z : PySem.Fin → Shared → Prop} (I : Inv X pins σ H s) (rv : Vals xs its) (hz : its.length ≤ sizeLine) (W : List V → Hp → Prop) (w0 : W [] H)
    (ht : ∀ a : Addr, Builtin.«list.sort» ⟨[.ref a], [(Str.ofString "key", f)]⟩ = ksk_tree a f false) (ha2 : ∀ a, argsOk "list.sort" ⟨[a], [(Str.ofString "key", f)]⟩)
    (step : ∀ (pins' : List (Addr × Obj)) (s' : Shared) (H' : Hp) (i : Nat) (x : V) (u : Value) (kv : List V), (∀ p ∈ pins, p ∈ pins') → Inv X pins' σ H' s' → RelV x u → xs[i]? = some x → kv.length = i → W kv H' →
      wpAny (model X.prog X.w) X.A.in1.in1 (call f [u]) (fun k s'' => ∃ kx H'', RelV kx k ∧ Inv X pins' σ H'' s'' ∧ W (kv ++ [kx]) H'') (fun _ _ => False) s')
    (fin : ∀ (pins : List (Addr × Obj)) (kv : List V) (ks : List Value) (H' : Hp) (s' : Shared), Inv X pins σ H' s' → Vals kv ks → W kv H' → kv.length = xs.length → ∃ ltk : Value → Value → Bool, Swo ltk ∧
      (2 ≤ its.length → ∃ κ, (∀ (Q : SortKind → Shared → Prop) (E : Value → Shared → Prop), Q κ s' → wpAny (model X.prog X.w) X.A.in1.in1 (keyKind' ks.toArray) Q E s') ∧ Cmp X.prog X.w X.A.in1.in1 s' κ (fun p => p.1 ∈ ks) (lt2 ltk)) ∧
      ∀ ps : List (Value × Value), GoodP ltk ks its ps → ∀ p, H' p = none → Q (.ref p) (upd H' p (.lst (ps.map fun q => toV q.2))))
    (hZ : ∀ v s', EP X pins σ Q v s' → Z (.done (.ret v)) s') :
    wpAny (model X.prog X.w) X.A.in1 (sortRest its [(Str.ofString "key", f)]) Z E s := by
  unfold sortRest
  refine wpAny_bind (wpAny_newList ?_ hz)
  have ho : (s.heap.push (seqObj "list" its.toArray 0)).get? s.heap.objs.size = some (seqObj "list" its.toArray 0) := Heap.get?_push_size _ rfl
  generalize hD : s.heap.objs.size = D at *
  show wpAny _ _ _ _ _ { s with heap := s.heap.push (seqObj "list" its.toArray 0) }
  refine wpAny_bind (wpAny_holding (wpAny_call_entry_kw slot_list_sort ⟨_, ho, rfl⟩ entry_list_sort ?body (ha2 _)))
  case body =>
    show wpAny (model X.prog X.w) X.A.in1.in1 (Builtin.«list.sort» ⟨[.ref D], [(Str.ofString "key", f)]⟩) _ _ _
    rw [ht]
    unfold ksk_tree
    refine wpAny_bind (listItems_at ho rfl ?_)
    refine wpAny_bind (listUpdate_at ho rfl ?_ (by rw [List.size_toArray]; exact hz) (Nat.zero_le _))
    obtain ⟨e1, ho1⟩ : ∃ e1, ((s.heap.push (seqObj "list" its.toArray 0)).update D (Obj.mapSeq fun _ => (#[] : Array Value))).get? D = some (seqObj "list" #[] e1) := ⟨_, get?_update_seq ho fun _ => #[]⟩
    refine wpAny_bind (seqEpoch_at ho1 rfl ?_)
    refine wpAny_bind (wpAny_newTuple ?_ (by show its.length ≤ _; exact hz))
    refine wpAny_bind (wpAny_newList ?_ (Nat.zero_le _))
    refine wpAny_holding ?_
    have z1 : ((s.heap.push (seqObj "list" its.toArray 0)).update D (Obj.mapSeq fun _ => (#[] : Array Value))).objs.size = D + 1 := by rw [Heap.size_update, size_push', hD]
    have z2 : (((s.heap.push (seqObj "list" its.toArray 0)).update D (Obj.mapSeq fun _ => (#[] : Array Value))).push (seqObj "tuple" its.toArray 0)).objs.size = D + 2 := by rw [size_push', z1]
    have hk0 : ((((s.heap.push (seqObj "list" its.toArray 0)).update D (Obj.mapSeq fun _ => (#[] : Array Value))).push (seqObj "tuple" its.toArray 0)).push (seqObj "list" #[] 0)).get? (D + 2) = some (seqObj "list" #[] 0) := by
      rw [← z2]; exact Heap.get?_push_size _ rfl
    have hD0 : ((((s.heap.push (seqObj "list" its.toArray 0)).update D (Obj.mapSeq fun _ => (#[] : Array Value))).push (seqObj "tuple" its.toArray 0)).push (seqObj "list" #[] 0)).get? D = some (seqObj "list" #[] e1) :=
      Heap.get?_push_of_some _ (Heap.get?_push_of_some _ ho1)
    have keep : ∀ b o, s.heap.get? b = some o → ((((s.heap.push (seqObj "list" its.toArray 0)).update D (Obj.mapSeq fun _ => (#[] : Array Value))).push (seqObj "tuple" its.toArray 0)).push (seqObj "list" #[] 0)).get? b = some o := fun b o q => by
      have hlt : b < D := by rw [← hD]; exact Heap.lt_size q
      refine Heap.get?_push_of_some _ (Heap.get?_push_of_some _ ?_)
      rw [Heap.get?_update_ne _ _ _ _ (Nat.ne_of_lt hlt)]
      exact Heap.get?_push_of_some _ q
    rw [z2]
    have hl : its.length = xs.length := rv.length.symm
    generalize hG : ((((s.heap.push (seqObj "list" its.toArray 0)).update D (Obj.mapSeq fun _ => (#[] : Array Value))).push (seqObj "tuple" its.toArray 0)).push (seqObj "list" #[] 0)) = G at hk0 hD0 keep
    show wpAny _ _ (ksk_rest D f false its.toArray e1 (.ref (D + 2))) _ _ { s with heap := G }
    have I0 : Inv X pins σ H { s with heap := G } := I.kept (t' := s.toks) keep
    have fD : FpOk X pins H D := I.fpOk (Nat.le_of_eq hD) (I.hok.fresh (Nat.le_of_eq hD))
    have fS : FpOk X pins H (D + 2) := I.fpOk (by omega) (I.hok.fresh (by omega))
    -- the pins of the two lists
    have pin2 : ∀ {H' : Hp} {s' : Shared} {o : Obj}, Inv X pins σ H' s' → H' D = none → H' (D + 2) = none → s'.heap.get? (D + 2) = some o → o.cls = .type "list" → (∀ v, o.data ≠ .cell v) → s'.heap.get? D = some (seqObj "list" #[] e1) → Inv X (((D + 2, o) : Addr × Obj) :: (D, seqObj "list" #[] e1) :: pins) σ H' s' := by
      intro H' s' o I' n1 n2 h2 _ nc h1
      refine I'.pins_of fun p hp => ?_
      rcases List.mem_cons.mp hp with rfl | hp
      · exact ⟨h2, n2, fS.2.1, fS.2.2.1, nc⟩
      · rcases List.mem_cons.mp hp with rfl | hp
        · exact ⟨h1, n1, fD.2.1, fD.2.2.1, fun v z => by cases z⟩
        · exact I'.pin p (List.mem_append_right _ hp)
    have unp : ∀ {H' : Hp} {s' : Shared} {o : Obj}, Inv X (((D + 2, o) : Addr × Obj) :: (D, seqObj "list" #[] e1) :: pins) σ H' s' → Inv X pins σ H' s' := fun I' => I'.pins_of fun p hp => I'.pin p (List.mem_append_right _ (List.mem_cons_of_mem _ (List.mem_cons_of_mem _ hp)))
    have atp : ∀ {H' : Hp} {s' : Shared} {o : Obj}, Inv X (((D + 2, o) : Addr × Obj) :: (D, seqObj "list" #[] e1) :: pins) σ H' s' → (s'.heap.get? (D + 2) = some o ∧ H' (D + 2) = none ∧ ∀ v, o.data ≠ .cell v) ∧ s'.heap.get? D = some (seqObj "list" #[] e1) ∧ H' D = none := fun I' => by
      have a1 := I'.pin _ (List.mem_append_right _ List.mem_cons_self)
      have a2 := I'.pin _ (List.mem_append_right _ (List.mem_cons_of_mem _ List.mem_cons_self))
      exact ⟨⟨a1.1, a1.2.1, a1.2.2.2.2⟩, a2.1, a2.2.1⟩
    refine rest_ (s := { s with heap := G }) (fun ks o s' => o.cls = .type "list" ∧ ∃ kv H', Vals kv ks ∧ W kv H' ∧ Inv X (((D + 2, o) : Addr × Obj) :: (D, seqObj "list" #[] e1) :: pins) σ H' s') (show (D + 2 : Nat) ≠ D by omega)
      (fun ks o s' ⟨_, kv, H', _, _, I'⟩ => ⟨(atp I').1.1, (atp I').2.1⟩) ?up ?step hz ⟨rfl, [], H, .nil, w0, pin2 I0 fD.1 fS.1 hk0 rfl (fun v z => by cases z) hD0⟩ ?fin
    case up =>
      rintro ks o s' k c ⟨_, kv, H', rk, wk, I'⟩ hc hcl hcd
      obtain ⟨⟨a1, a2, a3⟩, b1, b2⟩ := atp I'
      refine ⟨hcl, kv, H', rk, wk, ?_⟩
      have fS' : FpOk X pins H' (D + 2) := ⟨a2, fS.2⟩
      have I2 : Inv X pins σ H' { s' with heap := s'.heap.update (D + 2) (Obj.mapSeq fun x => x.push k), toks := s'.toks } := (unp I').turnedL (ch := [D + 2]) (fun b u hb hu => by
        have nb : b ≠ D + 2 := fun z => hb (by rw [z]; exact List.mem_singleton.mpr rfl)
        rw [Heap.get?_update_ne _ _ _ _ nb]
        exact hu) fun b hb => by rw [List.mem_singleton.mp hb]; exact fS'
      refine pin2 I2 b2 a2 hc hcl (fun v z => ?_) ?_
      · exact hcd v z
      · show (s'.heap.update (D + 2) _).get? D = _
        rw [Heap.get?_update_ne _ _ _ _ (show (D : Nat) ≠ D + 2 by omega)]
        exact b1
    case step =>
      rintro i u ks o s' hu hl' ⟨hcl, kv, H', rk, wk, I'⟩
      obtain ⟨x, hx, rx⟩ : ∃ x, xs[i]? = some x ∧ RelV x u := by
        have hi : i < xs.length := by rw [← hl]; exact (List.getElem?_eq_some_iff.mp hu).1
        obtain ⟨u', e1, e2⟩ := rv.get (List.getElem?_eq_getElem hi)
        rw [hu] at e1; cases e1
        exact ⟨_, List.getElem?_eq_getElem hi, e2⟩
      refine wpAny_mono (step _ s' H' i x u kv (fun p hp => List.mem_cons_of_mem _ (List.mem_cons_of_mem _ hp)) I' rx hx (by rw [rk.length, hl']) wk) (fun k s'' ⟨kx, H'', rk2, I2, w2⟩ => ?_) fun _ _ e => e
      exact ⟨hcl, kv ++ [kx], H'', rk.append (.cons rk2 .nil), w2, I2⟩
    case fin =>
      rintro ks e s' ⟨_, kv, H', rk, wk, I'⟩ hkl
      obtain ⟨⟨a1, a2, a3⟩, b1, b2⟩ := atp I'
      obtain ⟨ltk, O, h1, h2⟩ := fin _ kv ks H' s' I' rk wk (by rw [rk.length, hkl, hl])
      refine ⟨ltk, O, h1, ?_⟩
      rintro out tk ⟨ps, g1, g2, rfl⟩
      have hp2 : (ps.map (·.2)).Perm its := by
        have q := g2.perm.map (·.2)
        rw [List.map_snd_zip (by omega)] at q
        exact q
      have I2 : Inv X pins σ H' { s' with heap := endH s'.heap D (D + 2) (ps.map (·.2)), toks := tk } := (unp I').turnedL (ch := [D + 2, D]) (fun b u hb hu => by
        unfold endH
        rw [Heap.get?_update_ne _ _ _ _ (fun z => hb (by rw [z]; exact List.mem_cons_of_mem _ (List.mem_singleton.mpr rfl))), Heap.get?_update_ne _ _ _ _ (fun z => hb (by rw [z]; exact List.mem_cons_self))]
        exact hu) fun b hb => by
          rcases List.mem_cons.mp hb with rfl | hb
          · exact ⟨a2, fS.2⟩
          · rw [List.mem_singleton.mp hb]; exact ⟨b2, fD.2⟩
      obtain ⟨c2, hc2⟩ : ∃ c2, (endH s'.heap D (D + 2) (ps.map (·.2))).get? D = some (seqObj "list" (ps.map (·.2)).toArray c2) := by
        have b3 : (s'.heap.update (D + 2) (Obj.mapSeq fun _ => (#[] : Array Value))).get? D = some (seqObj "list" #[] e1) := by
          rw [Heap.get?_update_ne _ _ _ _ (show (D : Nat) ≠ D + 2 by omega)]; exact b1
        exact ⟨_, get?_update_seq b3 fun _ => (ps.map fun x : Keyed => x.2).toArray⟩
      refine ⟨_, rfl, wpAny_pure (hZ _ _ ?_)⟩
      have hv : Vals (ps.map fun q => toV q.2) (ps.map (·.2)) := by
        have q := vals_of (us := ps.map (·.2)) fun u hu => vals_mem rv u (hp2.mem_iff.mp hu)
        rw [List.map_map] at q
        exact q
      refine ⟨.ref D, upd H' D (.lst (ps.map fun q => toV q.2)), ?_, rfl, h2 ps ⟨g1, g2.perm⟩ D b2⟩
      refine I2.track ⟨b2, fD.2⟩ ⟨?_, ps.map (·.2), c2, hv, hc2⟩
      rw [List.length_map, ← List.length_map (f := fun x : Keyed => x.2), hp2.length_eq]
      exact hz
end
end L2

-- part: SK3
namespace L2
open PySem PySem.Spec PyProof.Rows SrtO SrtQ
/-! ### the order of the keys -/
def numV : Value → Int
  | .int i _ => i
  | _ => 0
theorem swo_of {α : Type} (k : Value → α) {lt : α → α → Bool} (O : Swo lt) : Swo fun u v => lt (k u) (k v) := ⟨fun _ _ => O.asym _ _, fun _ _ _ => O.tr _ _ _⟩
theorem swo_int : Swo (fun a b : Int => decide (a < b)) := by
  refine ⟨fun x y h => ?_, fun x y z h1 h2 => ?_⟩
  · have := of_decide_eq_true h
    exact decide_eq_false (by omega)
  · have a := of_decide_eq_false h1
    have b := of_decide_eq_false h2
    exact decide_eq_false (by omega)
section
variable {prog : Program} {w : World} {A : Around} {s : Shared}
theorem ints_kind {ks : List Value} {kz : List Int} (hk : IntsAre ks kz) (h2 : 2 ≤ ks.length) : ∃ κ, (∀ (Q : SortKind → Shared → Prop) (E : Value → Shared → Prop), Q κ s → wpAny (model prog w) A (keyKind' ks.toArray) Q E s) ∧
    Cmp prog w A s κ (fun p => p.1 ∈ ks) (lt2 fun u v => decide (numV u < numV v)) := by
  refine ⟨oneType', fun Q E q => ?_, fun p q hp hq => ?_⟩
  · rw [ksk_kind (kz := kz) (by simpa using hk) (by rw [List.size_toArray]; exact h2)]
    exact wpAny_pure q
  · have at_ : ∀ u ∈ ks, ∃ i t, u = Value.int i t := by
      clear h2 hp hq
      induction hk with
      | nil => intro u hu; exact nomatch hu
      | cons _ _ _ ih =>
        intro u hu
        rcases List.mem_cons.mp hu with rfl | hu
        · exact ⟨_, _, rfl⟩
        · exact ih u hu
    obtain ⟨i, t, e1⟩ := at_ _ hp
    obtain ⟨j, t', e2⟩ := at_ _ hq
    show wpAny _ _ (keyLt' oneType' p.1 q.1) (fun r s' => s' = s ∧ r = decide (numV p.1 < numV q.1)) _ _
    rw [e1, e2]
    exact PySem.W.kat_lt_int ⟨rfl, rfl⟩
end
/-- the tuple at v is (n, c), c a tuple of ints -/
def KeyT (K : PySem.W.Frag) (H : Hp) (v : V) (k : Int × List Int) : Prop := ∃ t c, v = .ref t ∧ SqT K H t [.int k.1, .ref c] ∧ SqT K H c (k.2.map V.int)
def ltKT (a b : Int × List Int) : Bool := if a.1 = b.1 then HT.lexLt a.2 b.2 else decide (a.1 < b.1)
theorem lex_irrefl : ∀ a : List Int, HT.lexLt a a = false
  | [] => rfl
  | x :: a => by rw [HT.lexLt_cons, if_pos rfl]; exact lex_irrefl a
theorem lex_asym : ∀ a b : List Int, HT.lexLt a b = true → HT.lexLt b a = false
  | [], [], h => by cases h
  | [], y :: b, _ => rfl
  | x :: a, [], h => by cases h
  | x :: a, y :: b, h => by
    rw [HT.lexLt_cons] at h ⊢
    by_cases e : x = y
    · rw [if_pos e] at h; rw [if_pos e.symm]; exact lex_asym a b h
    · rw [if_neg e] at h; rw [if_neg (Ne.symm e)]
      have := of_decide_eq_true h
      exact decide_eq_false (by omega)
theorem lex_tr : ∀ a b c : List Int, HT.lexLt a b = false → HT.lexLt c a = false → HT.lexLt c b = false
  | [], [], [], _, _ => rfl
  | [], [], z :: c, _, _ => rfl
  | [], y :: b, _, h, _ => by cases h
  | x :: a, b, [], _, h => by cases h
  | x :: a, [], z :: c, _, _ => rfl
  | x :: a, y :: b, z :: c, h1, h2 => by
    rw [HT.lexLt_cons] at h1 h2 ⊢
    by_cases e1 : x = y
    · rw [if_pos e1] at h1
      by_cases e2 : z = x
      · rw [if_pos e2] at h2
        rw [if_pos (e2.trans e1)]
        exact lex_tr a b c h1 h2
      · rw [if_neg e2] at h2
        rw [if_neg (by rw [← e1]; exact e2)]
        have := of_decide_eq_false h2
        exact decide_eq_false (by omega)
    · rw [if_neg e1] at h1
      have d1 := of_decide_eq_false h1
      by_cases e2 : z = x
      · rw [if_neg (by rw [e2]; exact e1)]
        exact decide_eq_false (by omega)
      · rw [if_neg e2] at h2
        have d2 := of_decide_eq_false h2
        rw [if_neg (by omega)]
        exact decide_eq_false (by omega)
theorem lex_total : ∀ a b : List Int, HT.lexLt a b = false → HT.lexLt b a = false → a = b
  | [], [], _, _ => rfl
  | [], y :: b, h, _ => by cases h
  | x :: a, [], _, h => by cases h
  | x :: a, y :: b, h1, h2 => by
    rw [HT.lexLt_cons] at h1 h2
    by_cases e : x = y
    · rw [if_pos e] at h1; rw [if_pos e.symm] at h2
      rw [e, lex_total a b h1 h2]
    · rw [if_neg e] at h1; rw [if_neg (Ne.symm e)] at h2
      have d1 := of_decide_eq_false h1
      have d2 := of_decide_eq_false h2
      omega
theorem swo_KT : Swo ltKT := by
  refine ⟨fun x y h => ?_, fun x y z h1 h2 => ?_⟩
  · unfold ltKT at *
    by_cases e : x.1 = y.1
    · rw [if_pos e] at h; rw [if_pos e.symm]; exact lex_asym _ _ h
    · rw [if_neg e] at h; rw [if_neg (Ne.symm e)]
      have := of_decide_eq_true h
      exact decide_eq_false (by omega)
  · unfold ltKT at *
    by_cases e1 : y.1 = x.1
    · rw [if_pos e1] at h1
      by_cases e2 : z.1 = y.1
      · rw [if_pos e2] at h2
        rw [if_pos (e2.trans e1)]
        exact lex_tr _ _ _ h1 h2
      · rw [if_neg e2] at h2
        rw [if_neg (by rw [← e1]; exact e2)]
        have := of_decide_eq_false h2
        exact decide_eq_false (by omega)
    · rw [if_neg e1] at h1
      have d1 := of_decide_eq_false h1
      by_cases e2 : z.1 = y.1
      · rw [if_neg (by rw [e2]; exact e1)]
        exact decide_eq_false (by omega)
      · rw [if_neg e2] at h2
        have d2 := of_decide_eq_false h2
        rw [if_neg (by omega)]
        exact decide_eq_false (by omega)
theorem can_intsD : ∀ (l : List Int), PyData.canLayAll0 (l.map PyData.int) = true
  | [] => by simp [PyData.canLayAll0]
  | i :: r => by simp [PyData.canLayAll0, PyData.canLay0, can_intsD r]
theorem dep_intsD : ∀ (l : List Int), PyData.depthAll (l.map PyData.int) ≤ 1
  | [] => by simp [PyData.depthAll]
  | i :: r => by
    have h := dep_intsD r
    simp [PyData.depthAll, PyData.depth] <;> omega
theorem dpAll_ints {K : PySem.W.Frag} {H : Hp} : ∀ (l : List Int), DpAll K H (l.map V.int) (l.map PyData.int)
  | [] => .nil
  | i :: r => .cons (.int i) (dpAll_ints r)
theorem eqvAll_ints : ∀ a b : List Int, PyData.eqvAll (a.map PyData.int) (b.map PyData.int) = decide (a = b)
  | [], [] => by simp [PyData.eqvAll]
  | [], y :: b => by simp [PyData.eqvAll]
  | x :: a, [] => by simp [PyData.eqvAll]
  | x :: a, y :: b => by
    simp only [List.map_cons, PyData.eqvAll, PyData.eqv, eqvAll_ints a b]
    by_cases h : x = y <;> by_cases h2 : a = b <;> simp [h, h2]
section
variable {X : Cx} {pins : List (Addr × Obj)} {σ : St} {H : Hp} {s : Shared} {A : Around}
theorem kt_cmp (I : Inv X pins σ H s) (hu : A.units + 64 < cLine) {u u' : Value} {v v' : V} {k k' : Int × List Int} (ru : RelV v u) (ru' : RelV v' u') (h : KeyT X.K H v k) (h' : KeyT X.K H v' k') :
    wpAny (model X.prog X.w) A (keyLt' (tuples' true) u u') (fun r s' => s' = s ∧ r = ltKT k k') (fun _ _ => False) s := by
  obtain ⟨t, c, rfl, ht, hc⟩ := h
  obtain ⟨t', c', rfl, ht', hc'⟩ := h'
  cases ru
  cases ru'
  obtain ⟨i1, r1, ⟨o1, ho1, hcl1, n1, hd1⟩, _⟩ := I.tuple ht
  obtain ⟨i2, r2, ⟨o2, ho2, hcl2, n2, hd2⟩, _⟩ := I.tuple ht'
  obtain ⟨a1, b1, rfl, ⟨ta, rfl⟩, rb⟩ := vals2 r1
  obtain ⟨a2, b2, rfl, ⟨tb, rfl⟩, rb'⟩ := vals2 r2
  obtain rfl : b1 = Value.ref c := rb
  obtain rfl : b2 = Value.ref c' := rb'
  refine PySem.W.kat_lt ho1 hd1 ho2 hd2 ?_
  show PySem.W.KatLex X.prog X.w A true (decide (2 < 2)) _ [(.int k.1 ta, .int k'.1 tb), (.ref c, .ref c')] 0 s
  unfold ltKT
  refine PySem.W.kat_cons (SeqAt.EqAt.int_int k.1 ta k'.1 tb X.prog X.w _ _ ?_)
  refine PySem.W.kat_go (fun e1 => ?_) (fun e1 => ?_)
  · have ex : k.1 = k'.1 := by simpa using e1
    rw [if_pos ex]
    obtain ⟨as, q1⟩ := Dp.reads I (.tuple (k.2.map .int)) (.ref c) (.ref c) (.tup hc (dpAll_ints _)) rfl
    obtain ⟨bs, q2⟩ := Dp.reads I (.tuple (k'.2.map .int)) (.ref c') (.ref c') (.tup hc' (dpAll_ints _)) rfl
    have cl : ∀ l : List Int, (PyData.tuple (l.map .int)).canLay0 = true := fun l => by simp [PyData.canLay0, can_intsD]
    have dl : ∀ l : List Int, (PyData.tuple (l.map .int)).depth ≤ 2 := fun l => by have := dep_intsD l; simp only [PyData.depth]; omega
    refine PySem.W.kat_yes (PySem.W.kat_cons (PySem.SeqAt.eqBoolOverData X.prog X.w A _ s _ _ _ _ as bs _ q1 q2 (cl _) (cl _) (by have := dl k.2; omega) ?_))
    have ev : PyData.eqv (.tuple (k.2.map .int)) (.tuple (k'.2.map .int)) = decide (k.2 = k'.2) := by
      simp only [PyData.eqv]
      exact eqvAll_ints _ _
    rw [ev]
    refine PySem.W.kat_go (fun e2 => ?_) (fun e2 => ?_)
    · have ey : k.2 = k'.2 := of_decide_eq_true e2
      rw [ey, lex_irrefl]
      exact PySem.W.kat_yes (PySem.W.kat_nil ⟨rfl, rfl⟩)
    · obtain ⟨j1, s1, p1, _⟩ := I.tuple hc
      obtain ⟨j2, s2, p2, _⟩ := I.tuple hc'
      have g1 : IntsAre j1.toArray.toList k.2 := intsAre_of s1
      have g2 : IntsAre j2.toArray.toList k'.2 := intsAre_of s2
      refine PySem.W.kat_no (PySem.W.kat_one _ _ (HT.lt_tupInts p1 p2 g1 g2 (by omega) ?_))
      exact (show s = s ∧ HT.lexLt k.2 k'.2 = HT.lexLt k.2 k'.2 from ⟨rfl, rfl⟩)
  · have ex : ¬ k.1 = k'.1 := by simpa using e1
    rw [if_neg ex]
    exact PySem.W.kat_no (oneLt_int ⟨rfl, rfl⟩)
/-- the kind of such keys -/
theorem kt_kind (I : Inv X pins σ H s) : ∀ {kv : List V} {ks : List Value} {kz : List (Int × List Int)}, Vals kv ks → Paired (KeyT X.K H) kv kz → ∃ fs, PySem.W.KatTups s.heap ks fs ∧ fs.length = ks.length ∧ ∀ v ∈ fs, ∃ i t, v = Value.int i t
  | _, _, _, .nil, .nil => ⟨[], .nil, rfl, fun v h => nomatch h⟩
  | _, _, _, .cons r rs, .cons h hs => by
    obtain ⟨t, c, rfl, ht, hc⟩ := h
    cases r
    obtain ⟨i1, r1, ⟨o1, ho1, hcl1, n1, hd1⟩, _⟩ := I.tuple ht
    obtain ⟨a1, b1, rfl, ⟨ta, rfl⟩, rb⟩ := vals2 r1
    obtain ⟨fs, q1, q2, q3⟩ := kt_kind I rs hs
    refine ⟨_ :: fs, .cons ho1 hcl1 hd1 (f := .int _ ta) rfl q1, by rw [List.length_cons, List.length_cons, q2], fun v hv => ?_⟩
    rcases List.mem_cons.mp hv with rfl | hv
    · exact ⟨_, _, rfl⟩
    · exact q3 v hv
theorem paired_mem {α β : Type} {F : α → β → Prop} : ∀ {l : List α} {m : List β}, Paired F l m → ∀ x ∈ l, ∃ y ∈ m, F x y
  | _, _, .cons h t, x, hx => by
    rcases List.mem_cons.mp hx with rfl | hx
    · exact ⟨_, List.mem_cons_self, h⟩
    · obtain ⟨y, hy, q⟩ := paired_mem t x hx
      exact ⟨y, List.mem_cons_of_mem _ hy, q⟩
theorem KeyT.inj (I : Inv X pins σ H s) {v : V} {k k' : Int × List Int} (h : KeyT X.K H v k) (h' : KeyT X.K H v k') : k = k' := by
  obtain ⟨t, c, rfl, ht, hc⟩ := h
  obtain ⟨t', c', e, ht', hc'⟩ := h'
  cases e
  have e1 := I.tuple_inj ht ht'
  cases k with | mk n l => cases k' with | mk n' l' =>
  simp only [List.cons.injEq, V.int.injEq, V.ref.injEq, and_true] at e1
  obtain ⟨rfl, rfl⟩ := e1
  have e2 := I.tuple_inj hc hc'
  have e3 : l = l' := by
    have : ∀ a b : List Int, a.map V.int = b.map V.int → a = b := fun a b h => (List.map_inj_right (fun x y h => by cases h; rfl)).mp h
    exact this _ _ e2
  rw [e3]
/-- the key of a value, by what stands -/
noncomputable def keyOfV (K : PySem.W.Frag) (H : Hp) (u : Value) : Int × List Int := by
  classical exact if h : ∃ k, KeyT K H (toV u) k then h.choose else (0, [])
theorem keyOfV_eq (I : Inv X pins σ H s) {v : V} {u : Value} {k : Int × List Int} (r : RelV v u) (h : KeyT X.K H v k) : keyOfV X.K H u = k := by
  unfold keyOfV
  have e : ∃ k, KeyT X.K H (toV u) k := ⟨k, by rw [toV_of r]; exact h⟩
  rw [dif_pos e]
  have q : ∀ x, x = v → KeyT X.K H x e.choose → e.choose = k := fun x hx q => KeyT.inj I (hx ▸ q) h
  exact q (toV u) (toV_of r) e.choose_spec
theorem kt_all (I : Inv X pins σ H s) (hu : A.units + 64 < cLine) {kv : List V} {ks : List Value} {kz : List (Int × List Int)} (r : Vals kv ks) (p : Paired (KeyT X.K H) kv kz) (h2 : 2 ≤ ks.length) :
    ∃ κ, (∀ (Q : SortKind → Shared → Prop) (E : Value → Shared → Prop), Q κ s → wpAny (model X.prog X.w) A (keyKind' ks.toArray) Q E s) ∧ Cmp X.prog X.w A s κ (fun p => p.1 ∈ ks) (lt2 fun u v => ltKT (keyOfV X.K H u) (keyOfV X.K H v)) := by
  refine ⟨tuples' true, fun Q E q => ?_, fun a b ha hb => ?_⟩
  · obtain ⟨fs, q1, q2, q3⟩ := kt_kind I r p
    refine PySem.W.kat_kind (T := .type "int") q1 (by omega) (fun f hm => ?_) (by rfl) ?_
    · obtain ⟨x, t, rfl⟩ := q3 f hm
      exact PySem.W.Looks.now
    · have e : (Value.type "int" != Value.type "tuple") = true := by first | decide +kernel | rfl | decide
      rw [e]
      exact q
  · have at_ : ∀ u ∈ ks, ∃ v k, RelV v u ∧ KeyT X.K H v k := fun u hu => by
      have hv := vals_mem r u hu
      have hm : toV u ∈ kv := by rw [vals_toV r]; exact List.mem_map.mpr ⟨u, hu, rfl⟩
      obtain ⟨k, _, q⟩ := paired_mem p _ hm
      exact ⟨_, k, hv, q⟩
    obtain ⟨v, k, r1, q1⟩ := at_ _ ha
    obtain ⟨v', k', r2, q2⟩ := at_ _ hb
    show wpAny _ _ (keyLt' (tuples' true) a.1 b.1) (fun r s' => s' = s ∧ r = ltKT (keyOfV X.K H a.1) (keyOfV X.K H b.1)) _ _
    rw [keyOfV_eq I r1 q1, keyOfV_eq I r2 q2]
    exact kt_cmp I hu r1 r2 q1 q2
end
end L2

-- part: SK4
namespace L2
open PySem PySem.Spec PyProof.Rows SrtO SrtQ
/-- the keys, one by one, then the items by their keys -/
def SortGo (K : PySem.W.Frag) (rel : V → Hp → VK → Prop) (xs : List V) (H1 : Hp) (Q : VK) : Prop := ∃ W : List V → Hp → Prop, W [] H1 ∧
  (∀ i v kv H', xs[i]? = some v → kv.length = i → W kv H' → rel v H' fun k H'' => W (kv ++ [k]) H'') ∧
  ∀ kv H', W kv H' → kv.length = xs.length →
    (∃ kz : List Int, kv = kz.map V.int ∧ ∀ zs : List (Int × V), zs.Perm (kz.zip xs) → zs.Pairwise (fun p q => p.1 ≤ q.1) → ∀ p, H' p = none → Q (.ref p) (upd H' p (.lst (zs.map (·.2))))) ∨
    (∃ kz : List (Int × List Int), Paired (KeyT K H') kv kz ∧ ∀ zs : List ((Int × List Int) × V), zs.Perm (kz.zip xs) → zs.Pairwise (fun p q => ltKT q.1 p.1 = false) → ∀ p, H' p = none → Q (.ref p) (upd H' p (.lst (zs.map (·.2)))))
/-- f is a key: what a call of it promises -/
def KeyRel (X : Cx) (P : List (Addr × Obj)) (f : Value) (rel : V → Hp → VK → Prop) : Prop := ∀ (pins : List (Addr × Obj)) (s : Shared) (σ : St) (H : Hp) (x : V) (u : Value) (Q : VK), (∀ p ∈ P, p ∈ pins) → Inv X pins σ H s → RelV x u → rel x H Q →
  wpAny (model X.prog X.w) X.A.in1.in1 (call f [u]) (EP X pins σ Q) (fun _ _ => False) s
theorem KeyRel.mono {X : Cx} {P P' : List (Addr × Obj)} {f : Value} {rel : V → Hp → VK → Prop} (h : KeyRel X P f rel) (hp : ∀ p ∈ P, p ∈ P') : KeyRel X P' f rel := fun pins s σ H x u Q z => h pins s σ H x u Q fun p q => z p (hp p q)
theorem nums_of {ks : List Value} {kz : List Int} (h : IntsAre ks kz) : ks.map numV = kz := by
  induction h with
  | nil => rfl
  | cons _ _ _ ih => rw [List.map_cons, ih]; rfl
theorem paired_len {α β : Type} {F : α → β → Prop} : ∀ {l : List α} {m : List β}, Paired F l m → l.length = m.length
  | _, _, .nil => rfl
  | _, _, .cons _ t => by rw [List.length_cons, List.length_cons, paired_len t]
theorem vals_at : ∀ {xs : List V} {us : List Value}, xs.length = us.length → (∀ (j : Nat) (u : Value), us[j]? = some u → ∃ x, xs[j]? = some x ∧ RelV x u) → Vals xs us
  | [], [], _, _ => .nil
  | [], _ :: _, h, _ => by simp at h
  | _ :: _, [], h, _ => by simp at h
  | x :: xs, u :: us, h, q => by
    obtain ⟨x', e, r⟩ := q 0 u rfl
    cases e
    exact .cons r (vals_at (by simpa using h) fun j u' hu => q (j + 1) u' hu)
section
variable {X : Cx} {pins : List (Addr × Obj)} {σ : St} {H : Hp} {s : Shared} {f : Value} {its : List Value} {xs : List V} {Q : VK} {rel : V → Hp → VK → Prop}
theorem keys_of {H' : Hp} {s' : Shared} (I : Inv X pins σ H' s') : ∀ {kv : List V} {ks : List Value} {kz : List (Int × List Int)}, Vals kv ks → Paired (KeyT X.K H') kv kz → ks.map (keyOfV X.K H') = kz
  | _, _, _, .nil, .nil => rfl
  | _, _, _, .cons r rs, .cons h hs => by rw [List.map_cons, keyOfV_eq I r h, keys_of I rs hs]
theorem sort_go {E : Value → Shared → Prop} {Z : PySem.Fin → Shared → Prop} (hu : X.A.units + 100 < cLine) (I : Inv X pins σ H s) (rv : Vals xs its) (hz : its.length ≤ sizeLine) (g : SortGo X.K rel xs H Q) (hf : KeyRel X pins f rel)
    (ht : ∀ a : Addr, Builtin.«list.sort» ⟨[.ref a], [(Str.ofString "key", f)]⟩ = ksk_tree a f false) (hZ : ∀ v s', EP X pins σ Q v s' → Z (.done (.ret v)) s') :
    wpAny (model X.prog X.w) X.A.in1 (sortRest its [(Str.ofString "key", f)]) Z E s := by
  obtain ⟨W, w0, w1, w2⟩ := g
  refine sort_part I rv hz W w0 ht (fun a => ksk_l1 _ _) (fun pins' s' H' i x u kv hp I' rx hx hl wk => ?_) (fun pins kv ks H' s' I' rk wk hl => ?_) hZ
  · refine wpAny_mono (hf pins' s' σ H' x u _ hp I' rx (w1 i x kv H' hx hl wk)) (fun k s'' ⟨kx, H'', a, b, c⟩ => ⟨kx, H'', b, a, c⟩) fun _ _ e => e
  · have lk : ks.length = its.length := by rw [← rk.length, hl, rv.length]
    rcases w2 kv H' wk hl with ⟨kz, rfl, q⟩ | ⟨kz, pk, q⟩
    · have ik := intsAre_of rk
      refine ⟨fun u v => decide (numV u < numV v), swo_of numV swo_int, fun h2 => ints_kind ik (by omega), fun ps g p hp => ?_⟩
      have e1 : (ps.map fun z => (numV z.1, toV z.2)).Perm (kz.zip xs) := by
        have q := g.2.map fun z : Value × Value => (numV z.1, toV z.2)
        have e : (ks.zip its).map (fun z : Value × Value => (numV z.1, toV z.2)) = kz.zip xs := by
          rw [vals_toV rv, ← nums_of ik, List.zip_map]
          rfl
        rw [e] at q
        exact q
      have e2 : (ps.map fun z => (numV z.1, toV z.2)).Pairwise (fun p q => p.1 ≤ q.1) := by
        refine List.pairwise_map.mpr (g.1.imp fun h => ?_)
        have := of_decide_eq_false h
        show numV _ ≤ numV _
        omega
      have z := q _ e1 e2 p hp
      rw [List.map_map] at z
      exact z
    · refine ⟨fun u v => ltKT (keyOfV X.K H' u) (keyOfV X.K H' v), swo_of (keyOfV X.K H') swo_KT, fun h2 => kt_all I' (by show X.A.units + 1 + 1 + 64 < _; omega) rk pk (by omega), fun ps g p hp => ?_⟩
      have e1 : (ps.map fun z => (keyOfV X.K H' z.1, toV z.2)).Perm (kz.zip xs) := by
        have q := g.2.map fun z : Value × Value => (keyOfV X.K H' z.1, toV z.2)
        have e : (ks.zip its).map (fun z : Value × Value => (keyOfV X.K H' z.1, toV z.2)) = kz.zip xs := by
          rw [vals_toV rv, ← keys_of I' rk pk, List.zip_map]
          rfl
        rw [e] at q
        exact q
      have e2 : (ps.map fun z => (keyOfV X.K H' z.1, toV z.2)).Pairwise (fun p q => ltKT q.1 p.1 = false) := List.pairwise_map.mpr (g.1.imp fun h => h)
      have z := q _ e1 e2 p hp
      rw [List.map_map] at z
      exact z
/-- the key's function: what the expression gives -/
def KeyOf (X : Cx) (ke : Expr) (f : Value) : Prop := ∀ (pins : List (Addr × Obj)) (s : Shared) (σ : St) (H : Hp) (R : Value → Shared → Prop), Inv X pins σ H s → R f s → wpAny (model X.prog X.w) X.A (eval ke X.env) R X.xe s
theorem key_abs {p : Pos} (hg : Gl X "abs") (hm : X.mg "abs" = none) : KeyOf X (.Name "abs" p) (.builtin "abs") := fun pins s σ H R I h => ld_blt I hg hm (by decide +kernel) h (by decide)
theorem key_def {x : Str} {p : Pos} {q : Addr} (hg : Gl X x) (hm : X.mg x = some (.ref q)) (hd : (x == ("__debug__" : Str)) = false := by decide) : KeyOf X (.Name x p) (.ref q) := fun pins s σ H R I h => ld_glob I hg hm h hd
theorem rel_abs {P : List (Addr × Obj)} : KeyRel X P (.builtin "abs") (fun x H Q => ∃ i, x = .int i ∧ Q (.int (if i < 0 then -i else i)) H) := by
  intro pins s σ H x u Q _ I r h
  obtain ⟨i, rfl, q⟩ := h
  obtain ⟨t, rfl⟩ := r
  exact call_abs_int fun u tk => ⟨.int (if i < 0 then -i else i), H, I.tok _, ⟨_, rfl⟩, q⟩
theorem rel_def {P : List (Addr × Obj)} {k : Nat} {q : Addr} {fd : FuncData} {x : Str} {sp : Sp} (F : FnOk X.prog X.w X.K X.mg X.base CX0 k q fd [x] sp) (hr : Room (k + 2) X.A) (hb : Binds X.K fd [x] []) : KeyRel X P (.ref q) (fun x H Q => sp [x] H Q E0) := by
  intro pins s σ H x u Q _ I r h
  have hl : ([u] ++ ([] : List Value)).length = 1 := rfl
  refine wpAny_call (codeAny_mono (F.run X.A.in1.in1 X.stack s H ⟨[u], []⟩ [u] [x] Q E0 hr.in1.in1 I.env0.in1.in1 (by have := hb s [u] I.kIn (by rfl); exact this) (.cons r .nil) h) fun r s' hq => ?_)
  cases r with
  | error e => exact hq.elim
  | ok fl =>
    cases fl with
    | ret u => exact I.after hq
    | next => exact False.elim hq
    | brk => exact False.elim hq
    | cont => exact False.elim hq
/-! ### sorted(e, key=ke) -/
/-- of a list; of a dict with ints and texts as keys; of one with tuples -/
def rSortL (K : PySem.W.Frag) (rel : V → Hp → VK → Prop) : V → Hp → VK → Prop := fun x H Q => ∃ a xs, x = .ref a ∧ SqL K H a xs ∧ SortGo K rel xs H Q
def rSortD (K : PySem.W.Frag) (rel : V → Hp → VK → Prop) : V → Hp → VK → Prop := fun x H Q => ∃ a kvs, x = .ref a ∧ Rd H a (.dK kvs) ∧ SortGo K rel (kvs.map fun z => kV z.1) H Q
def rSortT (K : PySem.W.Frag) (rel : V → Hp → VK → Prop) : V → Hp → VK → Prop := fun x H Q => ∃ a kvs, x = .ref a ∧ Rd H a (.dT kvs) ∧ ∀ bs, IsKeys H kvs bs → SortGo K rel (bs.map V.ref) H Q
def tSorted (r : V → Hp → VK → Prop) (t : TA) : TE := fun σ H Q => t σ H fun vs H1 => ∃ x, vs = [x] ∧ r x H1 Q
def RunS (X : Cx) (P : List (Addr × Obj)) (f : Value) (r : V → Hp → VK → Prop) : Prop := ∀ (pins : List (Addr × Obj)) (s : Shared) (σ : St) (H : Hp) (x : V) (u : Value) (Q : VK), (∀ p ∈ P, p ∈ pins) → Inv X pins σ H s → RelV x u → r x H Q →
  wpAny (model X.prog X.w) X.A (call (.builtin "sorted") [u] [(Str.ofString "key", f)]) (EP X pins σ Q) X.xe s
theorem pe_sorted {e ke : Expr} {t : TA} {p pos kpos : Pos} {r : V → Hp → VK → Prop} (run : RunS X [] f r) (hk : KeyOf X ke f) (hg : Gl X "sorted") (hm : X.mg "sorted" = none) (ha : PA X [e] t)
    (h1 : backTo pos (starEach [e] X.env) = (false, eval e X.env) :: backTo pos (starEach [] X.env) := by rfl) (hpl : (backTo pos (starEach [e] X.env)).any (·.1) = false := by rfl)
    (hall : (backToKw pos (keywordEach [⟨some "key", ke, kpos⟩] X.env)).all (·.1.isSome) = true := by rfl) (hnone : (backToKw pos (keywordEach [⟨some "key", ke, kpos⟩] X.env)).any (·.1.isNone) = false := by rfl) :
    PE X (.Call (.Name "sorted" p) [e] [⟨some "key", ke, kpos⟩] pos) (tSorted r t) := by
  refine ⟨fun pins s σ H Q I h => ?_⟩
  refine wpAny_Call_Name_kw (ld_blt I hg hm (u := .builtin "sorted") (by decide +kernel) ?_ (by decide))
  refine PyProof.Rows.callWith_kw (thn (ha.run pos pins s σ H _ I h) fun us s1 ⟨vs, H1, I1, r1, x, ex, q1⟩ => ?_) h1 hpl hall hnone
  subst ex
  obtain ⟨u, rfl, ru⟩ := vals1 r1
  show wpAny _ _ (evalAll ((do let v ← eval ke X.env; standAt pos; pure v) :: [])) _ _ s1
  refine wpAny_evalAll_cons (wpAny_bind (hk pins s1 σ H1 _ I1 (wpAny_bind (wpAny_standAt (wpAny_pure ?_)))))
  refine wpAny_evalAll_nil ?_
  exact run pins s1 σ H1 x u Q (fun _ z => nomatch z) I1 ru q1
theorem run_list {P : List (Addr × Obj)} (hu : X.A.units + 100 < cLine) (hf : KeyRel X P f rel) (ht : ∀ a : Addr, Builtin.«list.sort» ⟨[.ref a], [(Str.ofString "key", f)]⟩ = ksk_tree a f false) : RunS X P f (rSortL X.K rel) := by
  intro pins s σ H x u Q hP I r h
  obtain ⟨a, xs, rfl, hs, g⟩ := h
  cases r
  obtain ⟨its, rv, hl, hz⟩ := I.list hs
  have hz' : its.length ≤ sizeLine := by rw [← rv.length]; exact hz
  refine call_function_entry_kw kind_sorted plain_sorted entry_sorted (ksk_s1 _ _) ?_
  unfold Builtin.«sorted»
  refine wpAny_bind (m := checkCount "sorted" 1 1 _) (wpAny_pure ?_)
  refine wpAny_bind (collect_list hl.isList ?_ hz')
  have I1 : Inv X pins σ H { s with heap := (s.heap.push (seqObj "list" #[] 0)).update s.heap.objs.size (Obj.mapSeq (· ++ its.toArray)) } := I.kept (t' := s.toks) fun b o e => by
    rw [Heap.get?_update_ne _ _ _ _ (Nat.ne_of_lt (Heap.lt_size e))]
    exact Heap.get?_push_of_some _ e
  exact sort_go hu I1 rv hz' g (hf.mono hP) ht fun v s' h => ⟨v, rfl, h⟩
theorem run_dict {P : List (Addr × Obj)} (hcalm : X.calm = true) (hu : X.A.units + 100 < cLine) (hf : KeyRel X P f rel) (ht : ∀ a : Addr, Builtin.«list.sort» ⟨[.ref a], [(Str.ofString "key", f)]⟩ = ksk_tree a f false) : RunS X P f (rSortD X.K rel) := by
  intro pins s σ H x u Q hP I r h
  obtain ⟨a, kvs, rfl, hd, g⟩ := h
  cases r
  obtain ⟨z, lo, vs, rel', dd⟩ := dk_rd I.hok hd
  obtain ⟨ep, hat⟩ := dd.dictAt
  have hkeys : vs.map (·.1) = kvs.map (·.1) := rel'.keys.symm
  have hl : vs.length = kvs.length := by
    have e := congrArg List.length hkeys
    rw [List.length_map, List.length_map] at e
    exact e
  refine call_function_entry_kw kind_sorted plain_sorted entry_sorted (ksk_s1 _ _) ?_
  unfold Builtin.«sorted»
  refine wpAny_bind (m := checkCount "sorted" 1 1 _) (wpAny_pure ?_)
  refine wpAny_bind (PySem.W.kdu_collect (A := X.A.in1) (PySem.W.kdl_dict (knd := mixKind X.prog X.w) (kvs := vs) (ep := ep) lo) (I.ok.hd hcalm) hat (by rw [hl]; exact z) fun h' tk acc hk hacc => ?_)
  have hal : acc.toList.length = kvs.length := by rw [Array.length_toList, hacc.1, hl]
  have rv : Vals (kvs.map fun z => kV z.1) acc.toList := vals_at (by rw [List.length_map, hal]) fun j v e => by
    obtain ⟨k, x, e1, e2⟩ := hacc.2 j v (by rw [← Array.getElem?_toList]; exact e)
    have e3 : (vs.map (·.1))[j]? = some k := by rw [List.getElem?_map, e1]; rfl
    rw [hkeys, List.getElem?_map] at e3
    rw [List.getElem?_map]
    cases e4 : kvs[j]? with
    | none => rw [e4] at e3; cases e3
    | some y =>
      rw [e4] at e3
      have e5 : y.1 = k := Option.some.inj e3
      refine ⟨kV y.1, rfl, ?_⟩
      rw [e5]
      exact keyIs_rel e2
  have I1 : Inv X pins σ H { s with heap := h', toks := tk } := I.kept hk
  exact sort_go hu I1 rv (by rw [hal]; exact z) g (hf.mono hP) ht fun v s' h => ⟨v, rfl, h⟩
theorem run_dictT {P : List (Addr × Obj)} (hcalm : X.calm = true) (hu : X.A.units + 100 < cLine) (hf : KeyRel X P f rel) (ht : ∀ a : Addr, Builtin.«list.sort» ⟨[.ref a], [(Str.ofString "key", f)]⟩ = ksk_tree a f false) : RunS X P f (rSortT X.K rel) := by
  intro pins s σ H x u Q hP I r h
  obtain ⟨d, kvs, rfl, hd, g⟩ := h
  cases r
  obtain ⟨z, hs, ks, pr, o, es, ep, ho, hx, hdt, he, hn⟩ := (show ObjOk X.prog X.w H s.heap d (.dT kvs) from hd.ok I.hok)
  have l1 : es.size = ks.length := size_of_entries he
  have l2 : kvs.length = ks.length := Paired.length pr
  refine call_function_entry_kw kind_sorted plain_sorted entry_sorted (ksk_s1 _ _) ?_
  unfold Builtin.«sorted»
  refine wpAny_bind (m := checkCount "sorted" 1 1 _) (wpAny_pure ?_)
  refine wpAny_bind (PySem.W.kdu_collect (A := X.A.in1) (kdl_raw hs hx hdt) (I.ok.hd hcalm) ho (by omega) fun h' tk acc' kp it => ?_)
  have ea : acc'.toList = ks.map fun x => Value.ref x.2.1 := by
    have hl : acc'.toList.length = ks.length := by rw [Array.length_toList, it.1]; exact l1
    apply List.ext_getElem?
    intro j
    rw [List.getElem?_map]
    cases hj : acc'.toList[j]? with
    | none =>
      have h1 := List.getElem?_eq_none_iff.mp hj
      rw [List.getElem?_eq_none (by omega)]
      all_goals rfl
    | some v =>
      obtain ⟨en, hen, hv⟩ := it.2 j v (by rw [← Array.getElem?_toList]; exact hj)
      have qe := entry_at he j
      rw [hen] at qe
      cases hb : ks[j]? with
      | none =>
        rw [hb] at qe
        exact nomatch (show some en = none from qe)
      | some b =>
        rw [hb] at qe
        have e2 : en = entryOfKey (tupleKind (mixKind X.prog X.w)) b := Option.some.inj qe
        rw [hv, e2]
        all_goals rfl
  have eb : acc'.toList = (ks.map fun x => x.2.1).map Value.ref := by rw [ea, List.map_map]; all_goals rfl
  have rv : Vals ((ks.map fun x => x.2.1).map V.ref) acc'.toList := by rw [eb]; exact vals_refs _
  have I1 : Inv X pins σ H { s with heap := h', toks := tk } := I.kept kp
  exact sort_go hu I1 rv (by rw [ea, List.length_map]; omega) (g _ (isKeys_of pr)) (hf.mono hP) ht fun v s' h => ⟨v, rfl, h⟩
end
end L2

-- part: SK5
namespace L2
open PySem PySem.Spec PyProof.Rows SrtO SrtQ LamX
section
variable {X : Cx} {pins : List (Addr × Obj)} {σ : St} {H : Hp} {s : Shared} {xs : List V} {Q : VK}
abbrev lamQ (X : Cx) : Str := X.env.qual ++ "<lambda>"
/-- a lambda of one parameter, no captured names: its call -/
theorem rel_lam {k : Nat} {f c' : Addr} {x : Str} {params : Arguments} {body : Expr} {scope : Scope} {pm ctv : Value} {tb : TE} (S : FnScope [x] [x] scope) (hr : Room (k + 3) X.A)
    (hbind : ∀ u : Value, bindArgs (PySem.W.kla_fn "<lambda>" (lamQ X) params body scope [] pm (.ref c') ctv) ⟨[u], []⟩ = pure [(x, u)])
    (hbody : ∀ (A : Around) (outer : List Env) (s : Shared) (H : Hp), Room k (A.deeper (envOfC (lamQ X) scope s.heap.objs.size f (.ref c'))) → PE (cxOf CX0 X.prog X.w X.K X.mg X.base [x] (lamQ X) scope f (.ref c') A outer s H E0) body tb) :
    KeyRel X [(f, PySem.W.kla_obj "<lambda>" (lamQ X) params body scope [] pm c' ctv)] (.ref f) (fun v H Q => H c' = some (CodeO c' (lamQ X)) ∧ tb [some v] H Q) := by
  intro pins s σ H v u Q hP I r ⟨hc, ht⟩
  have hf : s.heap.get? f = some (PySem.W.kla_obj "<lambda>" (lamQ X) params body scope [] pm c' ctv) := (I.pin _ (List.mem_append_right _ (hP _ List.mem_cons_self))).1
  obtain ⟨⟨oc, vs, t, hoc, hdc, hvc⟩, _, _⟩ := I.hok c' _ hc
  have hr2 : Room (k + 1) X.A.in1.in1 := hr.in1.in1
  have rc : codeAny (model X.prog X.w) X.A.in1.in1 (.call (.ref f) ⟨[u], []⟩) (CR CX0 X.stack X.prog X.w H s Q E0) s := by
    refine PySem.W.kla_callFunE hr2.depth hf rfl S.co S.gen rfl ⟨c', oc, vs, t, rfl, hoc, hdc, hvc⟩ ?_
    rw [hbind]
    have hkind : ∀ y ∈ [x].zip [u], scope.names.lookup y.1 = some .local ∨ (scope.names.lookup y.1 = some .cell ∧ ((cellsFrom (s.heap.objs.size + 1) scope.names []).lookup y.1).isSome = true) := fun ⟨n, v⟩ hy => by
      rcases S.par n (List.of_mem_zip hy).1 with q | q
      · exact .inl q
      · exact .inr ⟨q, PySem.W.cellsFrom_some _ _ _ (.inl q)⟩
    refine wpAny_pure (wpAny_newFunctionEnv_cells S.kind hkind fun env he s1 z => ?_)
    subst he
    refine ⟨I.nolimit.keeps z.toInCall.keep, ?_⟩
    have J : Inv (cxOf CX0 X.prog X.w X.K X.mg X.base [x] (lamQ X) scope f (.ref c') X.A.in1.in1 X.stack s H E0) [] (start [x] [v]) H s1 := inv_start S hr2.hd I.env0.in1.in1 rfl (.cons r .nil) z
    refine PySem.W.kla_codeExpr (wpAny_mono ((hbody _ _ s H (hr2.deeper _)).run [] _ _ H Q J ht) (fun v' s' hq => ?_) fun e s' hq => hq)
    obtain ⟨w', H', J', rv, q⟩ := hq
    exact ⟨w', H', J'.os, J'.bare, J'.base, J'.hok, rv, q⟩
  refine wpAny_call (codeAny_mono rc fun r s' hq => ?_)
  cases r with
  | error e => exact hq.elim
  | ok fl =>
    cases fl with
    | ret u => exact I.after hq
    | next => exact False.elim hq
    | brk => exact False.elim hq
    | cont => exact False.elim hq
/-- sorted(e, key=lambda x: body) -/
def tSortedLam (X : Cx) (T : List (Addr × Str)) (r : Addr → V → Hp → VK → Prop) (t : TA) : TE := fun σ H Q => t σ H fun vs H1 => ∃ x, vs = [x] ∧ Tabs T H1 ∧ ∀ c' H2, ExtN H1 H2 → Tabs T H2 → H2 c' = some (CodeO c' (lamQ X)) → r c' x H2 Q
theorem pe_sortedLam {e : Expr} {t : TA} {p pos kpos lpos : Pos} {r : Addr → V → Hp → VK → Prop} {T : List (Addr × Str)} {c P : Addr} {params : Arguments} {body : Expr} {scope : Scope}
    (run : ∀ (f c' : Addr) (pm ctv : Value), RunS X [(f, PySem.W.kla_obj "<lambda>" (lamQ X) params body scope [] pm c' ctv)] (.ref f) (r c')) (TB : TabB X.base X.mg c P) (hcode : X.env.code = .ref c)
    (hT : (P, lamQ X) ∈ T) (hu : ∀ p ∈ T, p.1 = P → p.2 = lamQ X) (hcl : cloFrom X.env.cells scope.names [] = []) (hfree : ∀ y ∈ scope.names, y.2 ≠ .free)
    (hg : Gl X "sorted") (hm : X.mg "sorted" = none) (ha : PA X [e] t) (hdef : defaultsOf params X.env = ([], []) := by rfl)
    (h1 : backTo pos (starEach [e] X.env) = (false, eval e X.env) :: backTo pos (starEach [] X.env) := by rfl) (hpl : (backTo pos (starEach [e] X.env)).any (·.1) = false := by rfl)
    (hall : (backToKw pos (keywordEach [⟨some "key", .Lambda params body scope lpos, kpos⟩] X.env)).all (·.1.isSome) = true := by rfl) (hnone : (backToKw pos (keywordEach [⟨some "key", .Lambda params body scope lpos, kpos⟩] X.env)).any (·.1.isNone) = false := by rfl) :
    PE X (.Call (.Name "sorted" p) [e] [⟨some "key", .Lambda params body scope lpos, kpos⟩] pos) (tSortedLam X T r t) := by
  refine ⟨fun pins s σ H Q I h => ?_⟩
  refine wpAny_Call_Name_kw (ld_blt I hg hm (u := .builtin "sorted") (by decide +kernel) ?_ (by decide))
  refine PyProof.Rows.callWith_kw (thn (ha.run pos pins s σ H _ I h) fun us s1 ⟨vs, H1, I1, r1, x, ex, hTab, q1⟩ => ?_) h1 hpl hall hnone
  subst ex
  obtain ⟨u, rfl, ru⟩ := vals1 r1
  show wpAny _ _ (evalAll ((do let v ← eval (.Lambda params body scope lpos) X.env; standAt pos; pure v) :: [])) _ _ s1
  refine wpAny_evalAll_cons (wpAny_bind (lam_make2 I1 TB hcode hT hu hTab hdef (fun y hy e => absurd e (hfree y hy)) fun f c' pm ctv H2 s2 I2 e2 t2 hf nf nfr hc => wpAny_bind (wpAny_standAt (wpAny_pure ?_))))
  refine wpAny_evalAll_nil ?_
  rw [hcl] at hf
  have nL : f ≠ X.env.locals := fun z => by
    obtain ⟨m, ⟨o, es, ep, ho, hd, _⟩, _⟩ := I2.loc
    rw [z, ho] at hf; cases hf
    cases hd
  have nF : f ∉ X.fs := fun z => nfr (by
    rcases I2.ok.stk with e | ⟨e, hfr⟩
    · rw [e]; exact z
    · rw [e]
      show f ∈ frs (X.env :: X.outer)
      unfold frs
      rw [List.filterMap_cons, hfr]
      exact List.mem_cons_of_mem _ z)
  have I3 : Inv X ((f, PySem.W.kla_obj "<lambda>" (lamQ X) params body scope [] pm c' ctv) :: pins) σ H2 s2 := I2.pins_of fun p hp => by
    rcases List.mem_cons.mp hp with rfl | hp
    · exact ⟨hf, nf, nL, nF, fun v z => by cases z⟩
    · exact I2.pin p (List.mem_append_right _ hp)
  refine thn (run f c' pm ctv _ s2 σ H2 x u Q (fun p hp => by rw [List.mem_singleton.mp hp]; exact List.mem_cons_self) I3 ru (q1 c' H2 e2 t2 hc)) fun v s3 ⟨y, H3, I4, r4, q4⟩ => ?_
  exact ⟨y, H3, I4.pins_of fun p hp => I4.pin p (List.mem_append_right _ (List.mem_cons_of_mem _ hp)), r4, q4⟩
end
end L2

-- part: TY1
namespace L2
open PySem PySem.Spec PyProof.Rows
/-- the built-in classes that are compared -/
def Kn (n : String) : Prop := n = "int" ∨ n = "str" ∨ n = "bool" ∨ n = "NoneType" ∨ n = "list" ∨ n = "tuple" ∨ n = "dict" ∨ n = "bytes"
theorem Kn.is {n : String} (h : Kn n) (s : Shared) : s.TypeIs (.type n) "type" := by
  rcases h with rfl | rfl | rfl | rfl | rfl | rfl | rfl | rfl
  · exact TypeEq.meta_int s
  · exact TypeEq.meta_str s
  · exact TypeEq.meta_bool s
  · exact TypeEq.meta_NoneType s
  · exact TypeEq.meta_list s
  · exact TypeEq.meta_tuple s
  · exact TypeEq.meta_dict s
  · exact TypeEq.meta_bytes s
theorem Kn.ty {K : PySem.W.Frag} {H : Hp} {x : V} {T : String} (t : TyB K H x T) : Kn T := by cases t <;> simp [Kn]
theorem eqAt_ty {a b : String} (ha : Kn a) (hb : Kn b) (A : Around) (s : Shared) : SeqAt.EqAt A s (.type a) (.type b) (decide (a = b)) := by
  intro prog w E Q q
  by_cases e : a = b
  · subst e
    rw [decide_eq_true rfl] at q
    unfold eqBool
    refine wpAny_holding ?_
    rw [if_pos (by simp)]
    exact wpAny_bind (wpAny_rule (wpAny_pure q))
  · rw [decide_eq_false e] at q
    have hb' : (Value.type a == Value.type b) = false := by rw [ty_beq]; exact decide_eq_false e
    unfold eqBool
    refine wpAny_holding ?_
    rw [if_neg (by rw [hb']; decide)]
    refine wpAny_bind (wpAny_mono (TypeEq.eq_type_other (fun s' => ha.is s') (fun s' => hb.is s') hb' (Q := fun v s' => v = .bool false ∧ Q false s') ⟨rfl, q⟩) (fun v s' hv => ?_) fun _ _ x => x)
    obtain ⟨rfl, q⟩ := hv
    exact wpAny_truthy_bool q
section
variable {X : Cx}
theorem op_eqTy : OpR X (compareOp .Eq) (fun x y H Q => ∃ a b, x = .ty a ∧ y = .ty b ∧ Kn a ∧ Kn b ∧ Q (.bl (decide (a = b))) H) := by
  intro pins s σ H x y v u Q I rx ry h
  obtain ⟨a, b, rfl, rfl, ka, kb, q⟩ := h
  cases rx
  cases ry
  by_cases e : a = b
  · subst e
    rw [decide_eq_true rfl] at q
    exact TypeEq.eq_type_same (fun s' => ka.is s') ⟨.bl true, H, I, rfl, q⟩
  · rw [decide_eq_false e] at q
    exact TypeEq.eq_type_other (fun s' => ka.is s') (fun s' => kb.is s') (by rw [ty_beq]; exact decide_eq_false e) ⟨.bl false, H, I, rfl, q⟩
theorem op_neTy : OpR X (compareOp .NotEq) (fun x y H Q => False) := fun _ _ _ _ _ _ _ _ _ _ _ _ h => h.elim
theorem vals_tys : ∀ {bs : List String} {us : List Value}, Vals (bs.map V.ty) us → us = bs.map Value.type
  | [], _, .nil => rfl
  | b :: bs, _, .cons r t => by
    cases r
    rw [vals_tys t]; rfl
theorem op_inTy : OpR X (compareOp .In) (fun x y H Q => ∃ (a : String) (p : Addr) (bs : List String), x = .ty a ∧ y = .ref p ∧ SqT X.K H p (bs.map V.ty) ∧ Kn a ∧ (∀ b ∈ bs, Kn b) ∧ Q (.bl (bs.contains a)) H) := by
  intro pins s σ H x y v u Q I rx ry h
  obtain ⟨a, p, bs, rfl, rfl, hq, ka, kb, q⟩ := h
  cases rx
  cases ry
  obtain ⟨its, r, pl, hz⟩ := I.tuple hq
  have e := vals_tys r
  subst e
  refine SeqAt.in_tupleAt (fun y => match y with | .type n => decide (n = a) | _ => false) pl (fun y hy => ?_) ⟨.bl _, H, I, rfl, ?_⟩
  · have hy' : y ∈ bs.map Value.type := by simpa using hy
    obtain ⟨b, hb, rfl⟩ := List.mem_map.mp hy'
    exact eqAt_ty (kb b hb) ka _ _
  · have e2 : ((bs.map Value.type).toArray.any fun y => match y with | .type n => decide (n = a) | _ => false) = bs.contains a := by
      rw [List.any_toArray, List.any_map]
      rw [List.contains_eq_any_beq]
      congr 1
      funext n
      show decide (n = a) = (a == n)
      by_cases h : n = a
      · simp [h]
      · rw [decide_eq_false h]
        exact (beq_eq_false_iff_ne.mpr (Ne.symm h)).symm
    rw [e2]
    exact q
end
/-- walked as this or as that -/
def iOr (w1 w2 : TI) : TI := fun σ H R => w1 σ H R ∨ w2 σ H R
theorem pi_or {X : Cx} {tg it : Expr} {w1 w2 : TI} (h1 : PI X tg it w1) (h2 : PI X tg it w2) : PI X tg it (iOr w1 w2) :=
  ⟨fun pins s σ H R I h => h.elim (fun h => h1.run pins s σ H R I h) fun h => h2.run pins s σ H R I h⟩
end L2

-- part: TN1
namespace L2
open PySem PySem.Spec PySem.Calls PyProof.Rows
theorem slot_type_ne : Slot "type" (cmpInfo .NotEq).2.1 "object.__ne__" :=
  .of (owner := "object") (n := "__ne__") (by rw [typeLookup_type, builtinLookup_eq_fast]; kernel_rfl) (by decide +kernel) (by decide +kernel) (by decide +kernel)
    (by first | exact .inl (by decide +kernel) | exact .inr (by decide +kernel)) (by rw [isSubtype_type]; kernel_rfl)
theorem slot_type_ne_refl : Slot "type" (cmpInfo .NotEq).2.2 "object.__ne__" :=
  .of (owner := "object") (n := "__ne__") (by rw [typeLookup_type, builtinLookup_eq_fast]; kernel_rfl) (by decide +kernel) (by decide +kernel) (by decide +kernel)
    (by first | exact .inl (by decide +kernel) | exact .inr (by decide +kernel)) (by rw [isSubtype_type]; kernel_rfl)
theorem slot_type_eq1 : Slot "type" "__eq__" "object.__eq__" := TypeEq.slot_type_eq
section
variable {prog : Program} {w : World} {A : Around} {E : Value → Shared → Prop} {s : Shared}
theorem ne_same_entry {a : String} (ha : ∀ s' : Shared, s'.TypeIs (.type a) "type") {Q : Fin → Shared → Prop} (q : Q (.done (.ret (.bool false))) s) :
    wpAny (model prog w) A (Builtin.«object.__ne__» ⟨[.type a, .type a], []⟩) Q E s := by
  unfold Builtin.«object.__ne__»
  repeat (first
    | with_reducible refine wpAny_cRoomFor_byValue rfl ?_
    | (refine wpAny_bind (m := callSpecialIfBound? (.type a) (Str.ofString "__eq__") [.type a]) (wpAny_callSpecialIfBound?_slot (ha s) slot_type_eq1
        (call_gives slot_type_eq1 (ha s) F.entry_object_eq (F.args_object_eq_2 _ _) (TypeEq.object_eq_same rfl (by simp)) ?_)); try dsimp only [Made.post])
    | (refine wpAny_bind (m := truthy (.bool _)) (wpAny_truthy_bool ?_))
    | wp_step)
  exact q
theorem ne_other_entry {a b : String} (ha : ∀ s' : Shared, s'.TypeIs (.type a) "type") (hne : (Value.type a == Value.type b) = false) {Q : Fin → Shared → Prop} (q : Q (.done (.ret .notImplemented)) s) :
    wpAny (model prog w) A (Builtin.«object.__ne__» ⟨[.type a, .type b], []⟩) Q E s := by
  unfold Builtin.«object.__ne__»
  repeat (first
    | with_reducible refine wpAny_cRoomFor_byValue rfl ?_
    | (refine wpAny_bind (m := callSpecialIfBound? (.type a) (Str.ofString "__eq__") [.type b]) (wpAny_callSpecialIfBound?_slot (ha s) slot_type_eq1
        (call_gives slot_type_eq1 (ha s) F.entry_object_eq (F.args_object_eq_2 _ _) (TypeEq.object_eq_other rfl hne) ?_)); try dsimp only [Made.post])
    | wp_step)
  exact q
theorem ne_type_same {a : String} (ha : ∀ s' : Shared, s'.TypeIs (.type a) "type") {Q : Value → Shared → Prop} (q : Q (.bool false) s) : wpAny (model prog w) A (compareOp .NotEq (.type a) (.type a)) Q E s := by
  show wpAny _ A (richCompare .NotEq _ _) Q E s
  exact wpAny_richCompare_same (T := "type") (ha s) (ha s) slot_type_ne (wpAny_call_entry slot_type_ne (ha s) F.cmpEntry_ne (ne_same_entry ha ⟨_, rfl, (by intro e; cases e), q⟩) (F.cmpArgs_ne _ _))
theorem ne_type_other {a b : String} (ha : ∀ s' : Shared, s'.TypeIs (.type a) "type") (hb : ∀ s' : Shared, s'.TypeIs (.type b) "type") (hne : (Value.type a == Value.type b) = false) {Q : Value → Shared → Prop} (q : Q (.bool true) s) :
    wpAny (model prog w) A (compareOp .NotEq (.type a) (.type b)) Q E s := by
  have hne' : (Value.type b == Value.type a) = false := by
    rw [Bool.eq_false_iff] at hne ⊢
    intro e
    exact hne (by rw [beq_iff_eq] at e ⊢; exact e.symm)
  show wpAny _ A (richCompare .NotEq _ _) Q E s
  rcases hi : cmpInfo CmpOp.NotEq with ⟨sym, f, r⟩
  have h1 : Slot "type" f "object.__ne__" := by have := slot_type_ne; rw [hi] at this; exact this
  have h2 : Slot "type" r "object.__ne__" := by have := slot_type_ne_refl; rw [hi] at this; exact this
  simp only [richCompare, hi, (ha s).oneThing_none]
  try with_reducible refine wpAny_holding ?_
  refine wpAny_bind (wpAny_cRoomFor_byValue rfl ?_)
  refine wpAny_bind (wpAny_typeOf (ha s) (wpAny_bind (wpAny_typeOf (hb s) ?_)))
  simp only [bne_self_eq_false, Bool.false_eq_true, if_false, pure_bind, Bool.not_false, if_true]
  refine wpAny_bind (m := tryCompare (.type a) _ (.type b)) (wpAny_tryCompare_declines (ha s) h1 (wpAny_call_entry h1 (ha s) F.cmpEntry_ne (ne_other_entry ha hne ⟨_, rfl, rfl, ?_⟩) (F.cmpArgs_ne _ _)))
  refine wpAny_bind (m := tryCompare (.type b) _ (.type a)) (wpAny_tryCompare_declines (hb s) h2 (wpAny_call_entry h2 (hb s) F.cmpEntry_ne (ne_other_entry hb hne' ⟨_, rfl, rfl, ?_⟩) (F.cmpArgs_ne _ _)))
  have hk : isSame (.type a) (.type b) = pure false := by rw [isSame_plain rfl, hne]
  exact wpAny_bind (wpAny_rule (wpAny_bind (wpAny_of_eq hk (wpAny_pure q))))
end
section
variable {X : Cx}
theorem op_neT : OpR X (compareOp .NotEq) (fun x y H Q => ∃ a b, x = .ty a ∧ y = .ty b ∧ Kn a ∧ Kn b ∧ Q (.bl (!decide (a = b))) H) := by
  intro pins s σ H x y v u Q I rx ry h
  obtain ⟨a, b, rfl, rfl, ka, kb, q⟩ := h
  cases rx
  cases ry
  by_cases e : a = b
  · subst e
    rw [decide_eq_true rfl] at q
    exact ne_type_same (fun s' => ka.is s') ⟨.bl false, H, I, rfl, q⟩
  · rw [decide_eq_false e] at q
    exact ne_type_other (fun s' => ka.is s') (fun s' => kb.is s') (by rw [ty_beq]; exact decide_eq_false e) ⟨.bl true, H, I, rfl, q⟩
end
end L2

-- part: EN1
/-! enumerate of a tuple -/
namespace EnT
open PySem
open PySem.AutoSeq1 (wpAny_loadPart')
theorem made (l : Addr) (items : Array Value) (n : Nat) (dct : Option Addr) (sl : Array (Option Value)) :
    Meets (Builtin.«enumerate.__new__» ⟨[.type "enumerate", .ref l], []⟩) (fun _ R s => s.heap.get? l = some { cls := .type "tuple", dict := dct, data := .seq items n, slots := sl } ∧
      R (.ok (.ret (.ref (s.heap.push { cls := .type "tuple_iterator", data := .fields #[.ref l, .int 0 0] }).objs.size)))
        { s with heap := (s.heap.push { cls := .type "tuple_iterator", data := .fields #[.ref l, .int 0 0] }).push { cls := .type "enumerate", data := .fields #[.none, .bool false, .ref s.heap.objs.size, rawInt 0, .none, .none] } }) :=
  .of_wp fun prog w A R s h => by
    obtain ⟨hp, g, d, tk, os⟩ := s
    obtain ⟨hl, h⟩ := h
    have hsub := sub_enumerate
    have hL : Heap.IsTuple (Shared.heap ⟨hp, g, d, tk, os⟩) l items := ⟨_, hl, rfl, n, rfl⟩
    wp_walk using wpAny_loadPart' hl
    refine wpAny_stack_any fun st => wpAny_pure ?_
    split
    · rename_i c _ _ _ _ _
      cases (c == Value.type "enumerate")
      · wp_walk using wpAny_loadPart' hl, wpAny_pyIter_tuple hL
        exact ⟨_, rfl, h⟩
      · wp_walk using wpAny_loadPart' hl, wpAny_pyIter_tuple hL
        exact ⟨_, rfl, h⟩
    · wp_walk using wpAny_loadPart' hl, wpAny_pyIter_tuple hL
      exact ⟨_, rfl, h⟩
section
variable {prog : Program} {w : World} {A : Around} {E : Value → Shared → Prop} {s : Shared}
theorem call_enum {l : Addr} {items : Array Value} {Q : Value → Shared → Prop} (hL : s.heap.IsTuple l items)
    (h : ∀ h', IsEnum h' (s.heap.objs.size + 1) s.heap.objs.size 0 .none → h'.IsTupleIter s.heap.objs.size l 0 → (∀ b o, s.heap.get? b = some o → h'.get? b = some o) → Q (.ref (s.heap.objs.size + 1)) { s with heap := h' }) :
    wpAny (model prog w) A (call (.type "enumerate") [.ref l]) Q E s := by
  obtain ⟨⟨c, dct, dt, sl⟩, hl, hc, n, hd⟩ := hL
  obtain rfl : c = .type "tuple" := hc
  obtain rfl : dt = .seq items n := hd
  refine callType_new F.called_enumerate (by decide) (F.typeCall_enumerate_1 _) (F.newCall_enumerate_1 _) (fun obj => F.args_object_init_2 obj _) F.entry_enumerate_new (made l items n dct sl) ⟨hl, ?_⟩
  have hz : (s.heap.push { cls := .type "tuple_iterator", data := .fields #[.ref l, .int 0 0] }).objs.size = s.heap.objs.size + 1 := Heap.size_push ..
  have q := Heap.get?_push_size (s.heap.push { cls := .type "tuple_iterator", data := .fields #[.ref l, .int 0 0] }) (o := { cls := .type "enumerate", data := .fields #[.none, .bool false, .ref s.heap.objs.size, rawInt 0, .none, .none] }) rfl
  rw [hz] at q
  show _ ∧ _
  rw [hz]
  exact ⟨⟨_, q, rfl⟩, h _ q ⟨_, Heap.get?_push_of_some _ (Heap.get?_push_size _ rfl), rfl, rfl⟩ fun b o x => Heap.get?_push_of_some _ (Heap.get?_push_of_some _ x)⟩
/-- one turn: y, the iterator below, hands out x -/
theorem next_item {e it l : Addr} {i : Nat} {items : Array Value} {x old : Value} {Q : Option Value → Shared → Prop}
    (he : IsEnum s.heap e it i old) (hit : s.heap.IsTupleIter it l i) (hl : s.heap.IsTuple l items) (hx : items[i]? = some x) (hne : e ≠ it)
    (hQ : ∀ h', IsEnumOut h' e it ((i : Int) + 1) x s.heap.objs.size → h'.IsTupleIter it l (i + 1) → h'.get? s.heap.objs.size = some { cls := .type "tuple", data := .seq #[.int i s.toks, x] } →
      (∀ b o, b ≠ e → b ≠ it → s.heap.get? b = some o → h'.get? b = some o) → Q (some (.ref s.heap.objs.size)) { s with heap := h', toks := s.toks + 1 }) :
    wpAny (model prog w) A (pyNext (.ref e)) Q E s := by
  have hT : s.TypeIs (.ref e) "enumerate" := ⟨_, he, rfl⟩
  unfold pyNext
  refine wpAny_bind (wpAny_attempt (wpAny_callSpecial?_slot (name := Str.ofString "__next__") hT F.slot_enumerate_next (wpAny_call_entry F.slot_enumerate_next hT F.entry_enumerate_next ?_ (F.args_enumerate_next_1 _))))
  obtain ⟨hp, g, d, tk, os⟩ := s
  show wpAny _ _ (field (.ref e) 2 >>= _) _ _ _
  refine wpAny_bind (wpAny_field he rfl (x := .ref it) rfl (wpAny_bind (RZ.nextOf_tuple_item hit hl hx fun h1 hit1 k1 => ?_)))
  have k1 : Heap.SameBut it hp h1 := k1
  have he1 : IsEnum h1 e it i old := (k1.2 e hne).trans he
  show wpAny _ _ (field (.ref e) 3 >>= _) _ _ ⟨h1, g, d, tk, os⟩
  refine wpAny_bind (wpAny_field he1 rfl (x := rawInt i) rfl ?_)
  show wpAny _ _ (field (.ref e) 4 >>= _) _ _ ⟨h1, g, d, tk, os⟩
  refine wpAny_bind (wpAny_field he1 rfl (x := .none) rfl ?_)
  show wpAny _ _ (mkInt i >>= _) _ _ ⟨h1, g, d, tk, os⟩
  refine wpAny_bind (wpAny_mkInt ?_)
  refine wpAny_bind (wpAny_setField_rec (s := ⟨h1, g, d, tk + 1, os⟩) he1 (by simp) fun h2 he2 k2 => ?_)
  have k2 : Heap.SameBut e h1 h2 := k2
  have he2 : IsEnum h2 e it ((i : Int) + 1) old := he2
  refine wpAny_bind (wpAny_setField_rec (s := ⟨h2, g, d, tk + 1, os⟩) he2 (by simp) fun h3 he3 k3 => ?_)
  have k3 : Heap.SameBut e h2 h3 := k3
  have he3 : IsEnum h3 e it ((i : Int) + 1) old := he3
  have z3 : h3.objs.size = hp.objs.size := by rw [k3.1, k2.1, k1.1]
  have hel : e < hp.objs.size := Heap.lt_size he
  show wpAny _ _ (newTuple [.int i tk, x] >>= _) _ _ ⟨h3, g, d, tk + 1, os⟩
  refine wpAny_bind (wpAny_newTuple ?_)
  have he4 : IsEnum (h3.push { cls := .type "tuple", data := .seq #[.int i tk, x] }) e it ((i : Int) + 1) old := Heap.get?_push_of_some _ he3
  have ht4 : (h3.push { cls := .type "tuple", data := .seq #[.int i tk, x] }).get? hp.objs.size = some { cls := .type "tuple", data := .seq #[.int i tk, x] } := by rw [← z3]; exact Heap.get?_push_size _ rfl
  have kk : ∀ b o, b ≠ e → b ≠ it → hp.get? b = some o → (h3.push { cls := .type "tuple", data := .seq #[.int i tk, x] }).get? b = some o := fun b o n1 n2 q =>
    Heap.get?_push_of_some _ (k3.extBut b o n1 (k2.extBut b o n1 (k1.extBut b o n2 q)))
  have hit4 : (h3.push { cls := .type "tuple", data := .seq #[.int i tk, x] }).IsTupleIter it l (i + 1) := by
    obtain ⟨o, ho, r⟩ := (hit1.extBut k2.extBut (Ne.symm hne)).extBut k3.extBut (Ne.symm hne)
    exact ⟨o, Heap.get?_push_of_some _ ho, r⟩
  rw [z3]
  generalize h3.push { cls := .type "tuple", data := .seq #[.int i tk, x] } = h4 at he4 ht4 kk hit4
  show wpAny _ _ (Builtin.SmallTypes.ownedTupleIsFree (.ref e) >>= _) _ _ ⟨h4, g, d, tk + 1, os⟩
  refine wpAny_bind ?_
  unfold Builtin.SmallTypes.ownedTupleIsFree
  refine wpAny_bind (wpAny_field he4 rfl (x := .none) rfl (wpAny_pure ?_))
  simp only [if_true]
  refine wpAny_bind (wpAny_rule (wpAny_bind (wpAny_field he4 rfl (x := old) rfl ?_)))
  refine wpAny_bind (wpAny_setField_rec (s := ⟨h4, g, d, tk + 1, os⟩) he4 (by simp) fun h5 he5 k5 => ?_)
  have k5 : Heap.SameBut e h4 h5 := k5
  have he5 : IsEnum h5 e it ((i : Int) + 1) x := he5
  show wpAny _ _ (Builtin.SmallTypes.ownedTupleHandOut (.ref e) (.ref hp.objs.size) >>= _) _ _ ⟨h5, g, d, tk + 1, os⟩
  refine wpAny_bind ?_
  unfold Builtin.SmallTypes.ownedTupleHandOut
  refine wpAny_bind (wpAny_setField_rec he5 (by simp) fun h6 he6 k6 => ?_)
  have k6 : Heap.SameBut e h5 h6 := k6
  have he6 : IsEnumOut h6 e it ((i : Int) + 1) x hp.objs.size := he6
  refine wpAny_setField_rec he6 (by simp) fun h7 he7 k7 => ?_
  have k7 : Heap.SameBut e h6 h7 := k7
  have he7 : IsEnumOut h7 e it ((i : Int) + 1) x hp.objs.size := he7
  refine wpAny_bind (wpAny_letGo (wpAny_pure ⟨_, rfl, wpAny_pure (hQ h7 he7 ?_ ?_ ?_)⟩))
  · exact ((hit4.extBut k5.extBut (Ne.symm hne)).extBut k6.extBut (Ne.symm hne)).extBut k7.extBut (Ne.symm hne)
  · exact k7.extBut _ _ (Nat.ne_of_gt hel) (k6.extBut _ _ (Nat.ne_of_gt hel) (k5.extBut _ _ (Nat.ne_of_gt hel) ht4))
  · exact fun b o n1 n2 q => k7.extBut b o n1 (k6.extBut b o n1 (k5.extBut b o n1 (kk b o n1 n2 q)))
theorem next_end {e it l : Addr} {i : Nat} {items : Array Value} {old : Value} {Q : Option Value → Shared → Prop} (hh : A.handled = none)
    (he : IsEnum s.heap e it i old) (hit : s.heap.IsTupleIter it l i) (hl : s.heap.IsTuple l items) (hx : items[i]? = none)
    (hQ : ∀ h', Heap.ExtBut it s.heap h' → Q none { s with heap := h' }) : wpAny (model prog w) A (pyNext (.ref e)) Q E s := by
  have hT : s.TypeIs (.ref e) "enumerate" := ⟨_, he, rfl⟩
  unfold pyNext
  refine wpAny_bind (wpAny_attempt (wpAny_callSpecial?_slot (name := Str.ofString "__next__") hT F.slot_enumerate_next (wpAny_call_entry F.slot_enumerate_next hT F.entry_enumerate_next ?_ (F.args_enumerate_next_1 _))))
  show wpAny _ _ (field (.ref e) 2 >>= _) _ _ _
  refine wpAny_bind (wpAny_field he rfl (x := .ref it) rfl (wpAny_bind (RZ.nextOf_tuple_end hh hit hl hx fun h' y ke hy => ?_)))
  obtain ⟨o, ho, hc⟩ := hy
  exact wpAny_bind (wpAny_isInstance (T := "StopIteration") (b := true) ⟨o, ho, hc⟩ isSubtype_stop (wpAny_pure (hQ _ ke)))
end
end EnT
namespace L2
open PySem PySem.Spec PyProof.Rows
/-- the tuple at a, each item in a new pair -/
def IteT (K : PySem.W.Frag) (a : Addr) : It :=
  ⟨fun i H => ∃ (xs : List V) (x : V), SqT K H a xs ∧ xs[i]? = some x, fun i H v H' => ∃ T x, v = .ref T ∧ H T = none ∧ H' = upd H T (.tup [.int (i : Nat), x]) ∧ ∀ xs, SqT K H a xs → xs[i]? = some x, fun i H => ∃ xs : List V, SqT K H a xs ∧ xs.length ≤ i⟩
theorem turn_enumT {P : Program} {w : World} {K : PySem.W.Frag} {elts : List Expr} {kk : Nat} {tpos : Pos} (a e it : Addr) :
    Turn P w K (.Tuple elts kk tpos) (IteT K a) [e, it] e (fun i h => (∃ old, IsEnum h e it ((i : Nat) : Int) old) ∧ h.IsTupleIter it a i ∧ e ≠ it) where
  mem := by simp
  obj := fun i h ⟨⟨old, he⟩, ⟨o, ho, hc, hd⟩, _⟩ b hb => by
    rcases (show b = e ∨ b = it by simpa using hb) with z | z
    · rw [z]; exact ⟨_, he, fun v q => nomatch q⟩
    · rw [z]; exact ⟨o, ho, fun v q => by rw [hd] at q; cases q⟩
  keep := fun i h h' st k => let ⟨⟨old, he⟩, hi, hne⟩ := st; ⟨⟨old, k e (by simp) _ he⟩, hi.at fun o q => k it (by simp) o q, hne⟩
  item := by
    intro X hP hw hK hc i pins s σ H E I hf st hg
    subst hP hw hK
    obtain ⟨⟨old, he⟩, hit, hne⟩ := st
    obtain ⟨xs, x, hq, hx⟩ := hg
    obtain ⟨its, rv, p, hz⟩ := I.tuple hq
    obtain ⟨u, hu, ru⟩ := rv.get hx
    have hel : e < s.heap.objs.size := Heap.lt_size he
    have hil : it < s.heap.objs.size := by obtain ⟨_, q, _⟩ := hit; exact Heap.lt_size q
    refine EnT.next_item he hit p (x := u) (by simpa using hu) hne fun h' ho hit' hT hk => ?_
    refine ⟨_, rfl, wpAny_letOwnedTupleGo_enum (s := { s with heap := h', toks := s.toks + 1 }) ho fun h2 he2 sb => ?_⟩
    have hT2 : h2.get? s.heap.objs.size = some { cls := .type "tuple", data := .seq #[.int i s.toks, u] } := (sb.2 _ (Nat.ne_of_gt hel)).trans hT
    have I1 : Inv X pins σ (upd H s.heap.objs.size (.tup [.int (i : Nat), x])) { s with heap := h2, toks := s.toks + 1 } :=
      I.turnedNew (ch := [e, it]) (fun b ob hb q => (sb.2 b (fun z => hb (by simp [z]))).trans (hk b ob (fun z => hb (by simp [z])) (fun z => hb (by simp [z])) q)) hf (Nat.le_refl _)
        ⟨by show 2 ≤ sizeLine; decide, [.int i s.toks, u], .cons ⟨_, rfl⟩ (.cons ru .nil), ⟨_, hT2, rfl, _, rfl⟩⟩
    refine ⟨.ref s.heap.objs.size, _, I1, rfl, ⟨_, x, rfl, I.hok.fresh (Nat.le_refl _), rfl, fun ys hy => by rw [I.tuple_inj hy hq]; exact hx⟩, ⟨⟨u, ?_⟩, hit'.at fun o q => (sb.2 it (Ne.symm hne)).trans q, hne⟩, fun b hb => ?_⟩
    · rw [show ((i + 1 : Nat) : Int) = (i : Int) + 1 by omega]
      exact he2
    · have hb' : b < s.heap.objs.size := by
        rcases (show b = e ∨ b = it by simpa using hb) with z | z
        · rw [z]; exact hel
        · rw [z]; exact hil
      rw [upd_ne (Nat.ne_of_lt hb')]
      exact (hf b hb).1
  done := by
    intro X hP hw hK hc i pins s σ H E I hf st hg
    subst hP hw hK
    obtain ⟨⟨old, he⟩, hit, hne⟩ := st
    obtain ⟨xs, hq, hx⟩ := hg
    obtain ⟨its, rv, p, hz⟩ := I.tuple hq
    obtain ⟨f0, f1, f2, f3, f4, f5⟩ := hf it (by simp)
    have hl := rv.length
    exact EnT.next_end (I.ok.hd hc) he hit p (by simp; omega) fun h' eb => ⟨rfl, I.turned (t' := s.toks) (fun b o hb q => eb b o hb q) f0 f1 f3 f4 f5⟩
  self := fun A i s Q E st h => let ⟨⟨_, he⟩, _⟩ := st; wpAny_pyIter_enum he h
def iEnumT (K : PySem.W.Frag) (ta : TA) : TI := fun σ H R => ta σ H fun vs H1 => ∃ a xs, vs = [.ref a] ∧ SqT K H1 a xs ∧ R (IteT K a) H1
theorem pi_enumT {X : Cx} {e : Expr} {ta : TA} {p pos tpos : Pos} {elts : List Expr} {kk : Nat} (hg : Gl X "enumerate") (hm : X.mg "enumerate" = none) (ha : PA X [e] ta) (hs : starEach [e] X.env = [(false, eval e X.env)] := by rfl) :
    PI X (.Tuple elts kk tpos) (.Call (.Name "enumerate" p) [e] [] pos) (iEnumT X.K ta) := by
  refine ⟨fun pins s σ H R I h => ?_⟩
  refine Call_ (ld_blt I hg hm boot_enumerate (PyProof.Rows.callWith_type1 (thn (ha.run pos pins s σ H _ I h) fun us s1 ⟨vs, H1, I1, r1, a, xs, ex, hq, q⟩ => ?_) hs rfl))
  subst ex
  obtain ⟨u, rfl, ru⟩ := vals1 r1
  cases ru
  obtain ⟨its, rv, p', hz⟩ := I1.tuple hq
  refine EnT.call_enum p' fun h' he hit hk => wpAny_pyIter_enum he ?_
  refine ⟨s1.heap.objs.size + 1, [s1.heap.objs.size + 1, s1.heap.objs.size], _, _, H1, rfl, I1.kept (t' := s1.toks) hk, turn_enumT a (s1.heap.objs.size + 1) s1.heap.objs.size, ⟨⟨.none, he⟩, hit, Nat.succ_ne_self _⟩, fun b hb => ?_, q⟩
  have hle : s1.heap.objs.size ≤ b := by
    rcases (show b = s1.heap.objs.size + 1 ∨ b = s1.heap.objs.size by simpa using hb) with z | z
    · rw [z]; exact Nat.le_add_right _ _
    · rw [z]; exact Nat.le_refl _
  exact I1.fpOk hle (I1.hok.fresh hle)
/-- for the loop over such pairs: the turn -/
theorem for_enumA {xs : List V} {J : It} {g : TG} {tb : TS} {D : Ends} {σ : St} {H : Hp} (S : Hp → Prop) (hgo : ∀ i H, S H → i < xs.length → J.go i H) (hst : ∀ H, S H → J.stop xs.length H)
    (hy : ∀ i H y H', S H → J.yld i H y H' → ∃ T x, y = V.ref T ∧ H T = none ∧ H' = upd H T (.tup [.int (i : Nat), x]) ∧ xs[i]? = some x)
    (Pv : Nat → St → Hp → Prop) (h0 : Pv 0 σ H) (hl : ∀ i σ H, i ≤ xs.length → Pv i σ H → S H)
    (hs : ∀ i x T σ H, xs[i]? = some x → Pv i σ H → H T = none → g (.ref T) σ (upd H T (.tup [.int (i : Nat), x])) fun σ2 H2 => tb { D with nx := Pv (i + 1), ct := Pv (i + 1), bk := D.nx } σ2 H2) (hd : ∀ σ H, Pv xs.length σ H → D.nx σ H) :
    ∃ W : Nat → Nat → St → Hp → Prop, (∃ m, W 0 m σ H) ∧ ∀ i m σ H, W i m σ H →
      (J.stop i H ∧ D.nx σ H) ∨ (J.go i H ∧ ∃ N : St → Hp → Prop, (∀ σ' H', N σ' H' → ∃ m', m' < m ∧ W (i + 1) m' σ' H') ∧ ∀ x H', J.yld i H x H' → g x σ H' fun σ2 H2 => tb { D with nx := N, ct := N, bk := D.nx } σ2 H2) := by
  refine ⟨fun i m σ H => m = xs.length - i ∧ i ≤ xs.length ∧ Pv i σ H, ⟨xs.length, by simp, Nat.zero_le _, h0⟩, ?_⟩
  rintro i m σ H ⟨rfl, hi, p⟩
  have st := hl i σ H hi p
  by_cases hlt : i < xs.length
  · refine .inr ⟨hgo i H st hlt, Pv (i + 1), fun σ' H' q => ⟨xs.length - (i + 1), by omega, rfl, by omega, q⟩, fun y H' h => ?_⟩
    obtain ⟨T, x, rfl, hT, rfl, hx⟩ := hy i H y H' st h
    exact hs i x T σ H hx p hT
  · have e : i = xs.length := by omega
    subst e
    exact .inl ⟨hst H st, hd σ H p⟩
section
variable {K : PySem.W.Frag} {a : Addr} {xs : List V} {g : TG} {tb : TS} {D : Ends} {σ : St} {H : Hp} (Pv : Nat → St → Hp → Prop) (h0 : Pv 0 σ H)
  (hs : ∀ i x T σ H, xs[i]? = some x → Pv i σ H → H T = none → g (.ref T) σ (upd H T (.tup [.int (i : Nat), x])) fun σ2 H2 => tb { D with nx := Pv (i + 1), ct := Pv (i + 1), bk := D.nx } σ2 H2) (hd : ∀ σ H, Pv xs.length σ H → D.nx σ H)
include h0 hs hd
theorem for_enumL (hl : ∀ i σ H, i ≤ xs.length → Pv i σ H → SqL K H a xs) : ∃ W : Nat → Nat → St → Hp → Prop, (∃ m, W 0 m σ H) ∧ ∀ i m σ H, W i m σ H →
      ((Ite K a).stop i H ∧ D.nx σ H) ∨ ((Ite K a).go i H ∧ ∃ N : St → Hp → Prop, (∀ σ' H', N σ' H' → ∃ m', m' < m ∧ W (i + 1) m' σ' H') ∧ ∀ x H', (Ite K a).yld i H x H' → g x σ H' fun σ2 H2 => tb { D with nx := N, ct := N, bk := D.nx } σ2 H2) :=
  for_enumA (J := Ite K a) (fun H => SqL K H a xs) (fun i H h hi => ⟨xs, _, h, List.getElem?_eq_getElem hi⟩) (fun H h => ⟨xs, h, Nat.le_refl _⟩) (fun i H y H' h ⟨T, x, e, hT, e2, q⟩ => ⟨T, x, e, hT, e2, q xs h⟩) Pv h0 hl hs hd
theorem for_enumT (hl : ∀ i σ H, i ≤ xs.length → Pv i σ H → SqT K H a xs) : ∃ W : Nat → Nat → St → Hp → Prop, (∃ m, W 0 m σ H) ∧ ∀ i m σ H, W i m σ H →
      ((IteT K a).stop i H ∧ D.nx σ H) ∨ ((IteT K a).go i H ∧ ∃ N : St → Hp → Prop, (∀ σ' H', N σ' H' → ∃ m', m' < m ∧ W (i + 1) m' σ' H') ∧ ∀ x H', (IteT K a).yld i H x H' → g x σ H' fun σ2 H2 => tb { D with nx := N, ct := N, bk := D.nx } σ2 H2) :=
  for_enumA (J := IteT K a) (fun H => SqT K H a xs) (fun i H h hi => ⟨xs, _, h, List.getElem?_eq_getElem hi⟩) (fun H h => ⟨xs, h, Nat.le_refl _⟩) (fun i H y H' h ⟨T, x, e, hT, e2, q⟩ => ⟨T, x, e, hT, e2, q xs h⟩) Pv h0 hl hs hd
end
end L2

-- part: G1
namespace Toy
open PySem L2
/-! ### letters and clauses -/
def absI (i : Int) : Int := if i < 0 then -i else i
theorem absI_nat (i : Int) : absI i = (i.natAbs : Int) := by unfold absI; split <;> omega
/-- the clause of a row: rising by truths, the same letters -/
structure IsCl (row c : List Int) : Prop where
  inc : c.Pairwise fun a b => a.natAbs < b.natAbs
  mem : ∀ x, x ∈ c ↔ x ∈ row
structure RowOk (t : Int) (row : List Int) : Prop where
  low : ∀ x ∈ row, 1 ≤ x.natAbs
  top : ∀ x ∈ row, (x.natAbs : Int) ≤ t
  one : ∀ x ∈ row, -x ∉ row
theorem inc_ext : ∀ {c d : List Int}, c.Pairwise (fun a b => a.natAbs < b.natAbs) → d.Pairwise (fun a b => a.natAbs < b.natAbs) → (∀ x, x ∈ c ↔ x ∈ d) → c = d
  | [], [], _, _, _ => rfl
  | [], y :: d, _, _, h => absurd ((h y).mpr List.mem_cons_self) (by simp)
  | x :: c, [], _, _, h => absurd ((h x).mp List.mem_cons_self) (by simp)
  | x :: c, y :: d, hc, hd, h => by
    have c1 := List.pairwise_cons.mp hc
    have d1 := List.pairwise_cons.mp hd
    have e : x = y := by
      rcases List.mem_cons.mp ((h x).mp List.mem_cons_self) with e | hx
      · exact e
      · rcases List.mem_cons.mp ((h y).mpr List.mem_cons_self) with e | hy
        · exact e.symm
        · have a1 := d1.1 x hx
          have a2 := c1.1 y hy
          omega
    subst e
    have nx : x ∉ c := fun z => by have := c1.1 x z; omega
    have ny : x ∉ d := fun z => by have := d1.1 x z; omega
    rw [inc_ext c1.2 d1.2 fun z => ⟨fun hz => (List.mem_cons.mp ((h z).mp (List.mem_cons_of_mem _ hz))).resolve_left fun e => nx (e ▸ hz), fun hz => (List.mem_cons.mp ((h z).mpr (List.mem_cons_of_mem _ hz))).resolve_left fun e => ny (e ▸ hz)⟩]
theorem IsCl.ext {row row' c c' : List Int} (h : IsCl row c) (h' : IsCl row' c') (e : ∀ x, x ∈ row ↔ x ∈ row') : c = c' :=
  inc_ext h.inc h'.inc fun x => (h.mem x).trans ((e x).trans (h'.mem x).symm)
/-- ints unlike by their truths, in order -/
theorem strict_of {ks out : List Int} (p : out.Perm ks) (nd : ks.Nodup) (one : ∀ x ∈ ks, -x ∉ ks) (low : ∀ x ∈ ks, 1 ≤ x.natAbs) (h : out.Pairwise fun a b => absI a ≤ absI b) : out.Pairwise fun a b => a.natAbs < b.natAbs := by
  have nd' : out.Nodup := p.nodup_iff.mpr nd
  have hm : ∀ x ∈ out, x ∈ ks := fun x hx => p.mem_iff.mp hx
  have q := h.imp_of_mem (S := fun a b => a ≠ b → a.natAbs < b.natAbs) fun {a b} ha hb hab ne => by
    rw [absI_nat, absI_nat] at hab
    have h1 := one a (hm a ha)
    have h2 := low a (hm a ha)
    have h3 : b ≠ -a := fun e => h1 (by rw [← e]; exact hm b hb)
    omega
  exact (q.and nd').imp fun h => h.1 h.2
section
variable {X : Cx} {H : Hp} {Q : VK}
/-- sorted by the truths -/
theorem go_abs {K : PySem.W.Frag} {ks : List Int} (q : ∀ (out : List Int) (p : Addr), out.Perm ks → out.Pairwise (fun a b => absI a ≤ absI b) → H p = none → Q (.ref p) (upd H p (.lst (out.map V.int)))) :
    SortGo K (fun x H Q => ∃ i, x = .int i ∧ Q (.int (if i < 0 then -i else i)) H) (ks.map V.int) H Q := by
  refine ⟨fun kv H' => H' = H ∧ kv = (ks.take kv.length).map fun i => V.int (absI i), ⟨rfl, by simp⟩, ?_, ?_⟩
  · rintro i v kv H' hi hl ⟨rfl, hk⟩
    rw [List.getElem?_map] at hi
    cases e : ks[i]? with
    | none => rw [e] at hi; cases hi
    | some z =>
      rw [e] at hi
      cases hi
      refine ⟨z, rfl, rfl, ?_⟩
      rw [List.length_append, List.length_singleton, hl, List.take_add_one, e]
      rw [hl] at hk
      simp only [Option.toList_some, List.map_append, List.map_cons, List.map_nil]
      rw [← hk]
      rfl
  · rintro kv H' ⟨rfl, hk⟩ hl
    rw [List.length_map] at hl
    rw [hl, List.take_length] at hk
    refine .inl ⟨ks.map absI, by rw [hk, List.map_map]; rfl, fun zs hp ho p hn => ?_⟩
    have e1 : (ks.map absI).zip (ks.map V.int) = ks.map fun i => (absI i, V.int i) := by
      rw [List.zip_map]
      have : ks.zip ks = ks.map fun i => (i, i) := by
        clear q hk hl hp
        induction ks with
        | nil => rfl
        | cons a r ih => rw [List.zip_cons_cons, ih]; rfl
      rw [this, List.map_map]
      rfl
    rw [e1] at hp
    have at_ : ∀ z ∈ zs, ∃ i, z = (absI i, V.int i) := fun z hz => by
      obtain ⟨i, _, e⟩ := List.mem_map.mp (hp.mem_iff.mp hz)
      exact ⟨i, e.symm⟩
    -- the ints of zs
    let f : Int × V → Int := fun z => match z.2 with | .int i => i | _ => 0
    have ef : zs.map (fun z => (absI (f z), V.int (f z))) = zs := by
      have : ∀ l : List (Int × V), (∀ z ∈ l, ∃ i, z = (absI i, V.int i)) → l.map (fun z => (absI (f z), V.int (f z))) = l := by
        intro l
        induction l with
        | nil => intro _; rfl
        | cons a r ih =>
          intro h
          obtain ⟨i, rfl⟩ := h a List.mem_cons_self
          rw [List.map_cons, ih fun z hz => h z (List.mem_cons_of_mem _ hz)]
      exact this zs at_
    have pk : (zs.map f).Perm ks := by
      have q1 := hp.map f
      rw [List.map_map] at q1
      have e2 : ks.map (f ∘ fun i => (absI i, V.int i)) = ks := by
        have : (f ∘ fun i => (absI i, V.int i)) = id := by funext i; rfl
        rw [this, List.map_id]
      rw [e2] at q1
      exact q1
    have po : (zs.map f).Pairwise fun a b => absI a ≤ absI b := by
      rw [← ef] at ho
      rw [List.pairwise_map] at ho ⊢
      exact ho
    have q2 := q (zs.map f) p pk po hn
    have e3 : (zs.map f).map V.int = zs.map (·.2) := by
      conv => rhs; rw [← ef]
      rw [List.map_map, List.map_map]
      rfl
    rw [e3] at q2
    exact q2
end
/-- tuples of ints at places -/
def TupsAt (H : Hp) (bs : List Addr) (cs : List (List Int)) : Prop := Paired (fun (b : Addr) (c : List Int) => H b = some (.tup (c.map V.int))) bs cs
theorem TupsAt.same {H H' : Hp} (e : Same H H') : ∀ {bs : List Addr} {cs : List (List Int)}, TupsAt H bs cs → TupsAt H' bs cs
  | _, _, .nil => .nil
  | _, _, .cons h t => .cons (e _ _ h) (TupsAt.same e t)
theorem TupsAt.len {H : Hp} : ∀ {bs : List Addr} {cs : List (List Int)}, TupsAt H bs cs → bs.length = cs.length
  | _, _, .nil => rfl
  | _, _, .cons _ t => by rw [List.length_cons, List.length_cons, TupsAt.len t]
theorem TupsAt.get {H : Hp} : ∀ {bs : List Addr} {cs : List (List Int)} {i : Nat} {b : Addr}, TupsAt H bs cs → bs[i]? = some b → ∃ c, cs[i]? = some c ∧ H b = some (.tup (c.map V.int))
  | _, _, _, _, .nil, h => by simp at h
  | _, _, 0, _, .cons h t, e => by cases e; exact ⟨_, rfl, h⟩
  | _, _, i + 1, _, .cons h t, e => TupsAt.get (i := i) t e
theorem TupsAt.zip {H : Hp} : ∀ {bs : List Addr} {cs : List (List Int)}, TupsAt H bs cs → ∀ p ∈ bs.zip cs, H p.1 = some (.tup (p.2.map V.int))
  | _, _, .nil, p, h => by simp at h
  | _, _, .cons h t, p, hp => by
    rw [List.zip_cons_cons] at hp
    rcases List.mem_cons.mp hp with rfl | hp
    · exact h
    · exact TupsAt.zip t p hp
theorem TupsAt.of_zip {H : Hp} : ∀ {zs : List (Addr × List Int)}, (∀ p ∈ zs, H p.1 = some (.tup (p.2.map V.int))) → TupsAt H (zs.map (·.1)) (zs.map (·.2))
  | [], _ => .nil
  | z :: zs, h => .cons (h z List.mem_cons_self) (TupsAt.of_zip fun p hp => h p (List.mem_cons_of_mem _ hp))
/-- shorter ones first, then rising -/
def ltC (a b : List Int) : Bool := ltKT ((a.length : Int), a) ((b.length : Int), b)
/-- what the key makes of a clause -/
def relLen (x : V) (H : Hp) (Q : VK) : Prop := ∃ c l, x = .ref c ∧ H c = some (.tup l) ∧ ∀ t, H t = none → Q (.ref t) (upd H t (.tup [.int (l.length : Int), .ref c]))
theorem go_cls {K : PySem.W.Frag} {rel : V → Hp → VK → Prop} {H : Hp} {Q : VK} {bs : List Addr} {cs : List (List Int)} (G : Hp → Prop) (g0 : G H) (gs : ∀ H1 H2, G H1 → Same H1 H2 → G H2)
    (hrel : ∀ x H Q, G H → relLen x H Q → rel x H Q) (T : TupsAt H bs cs)
    (q : ∀ (zs : List (Addr × List Int)) (H' : Hp) (p : Addr), zs.Perm (bs.zip cs) → zs.Pairwise (fun a b => ltC b.2 a.2 = false) → Same H H' → G H' → TupsAt H' (zs.map (·.1)) (zs.map (·.2)) → H' p = none → Q (.ref p) (upd H' p (.lst (zs.map fun z => V.ref z.1)))) :
    SortGo K rel (bs.map V.ref) H Q := by
  have hlen := T.len
  refine ⟨fun kv H' => Same H H' ∧ G H' ∧ ∃ ts : List Addr, kv = ts.map V.ref ∧ ∀ (i : Nat) (t b : Addr) (c : List Int), ts[i]? = some t → bs[i]? = some b → cs[i]? = some c → H' t = some (.tup [.int (c.length : Int), .ref b]), ⟨Same.refl H, g0, [], rfl, fun i t b c h => by simp at h⟩, ?_, ?_⟩
  · rintro i v kv H' hi hl ⟨sm, g, ts, rfl, hts⟩
    rw [List.getElem?_map] at hi
    cases e : bs[i]? with
    | none => rw [e] at hi; cases hi
    | some b =>
      rw [e] at hi
      cases hi
      obtain ⟨c, hc, hb⟩ := T.get e
      refine hrel _ _ _ g ⟨b, _, rfl, sm _ _ hb, fun t ht => ?_⟩
      have s2 : Same H' (upd H' t (.tup [.int ((c.map V.int).length : Int), .ref b])) := Same.new ht
      refine ⟨Same.trans sm s2, gs _ _ g s2, ts ++ [t], by rw [List.map_append]; rfl, fun j t' b' c' h1 h2 h3 => ?_⟩
      rw [List.length_map] at hl
      by_cases hj : j < ts.length
      · rw [List.getElem?_append_left hj] at h1
        exact s2 _ _ (hts j t' b' c' h1 h2 h3)
      · have hj' : j = ts.length := by
          have := (List.getElem?_eq_some_iff.mp h1).1
          rw [List.length_append, List.length_singleton] at this
          omega
        subst hj'
        rw [List.getElem?_append_right (Nat.le_refl _), Nat.sub_self] at h1
        cases h1
        rw [hl, e] at h2
        cases h2
        rw [hl, hc] at h3
        cases h3
        rw [upd_same, List.length_map]
  · rintro kv H' ⟨sm, g, ts, rfl, hts⟩ hl
    rw [List.length_map, List.length_map] at hl
    have T' := TupsAt.same sm T
    refine .inr ⟨cs.map fun c => ((c.length : Int), c), ?_, fun zs hp ho p hn => ?_⟩
    · -- the keys stand
      have : ∀ (ts bs : List Addr) (cs : List (List Int)), ts.length = bs.length → bs.length = cs.length → (∀ (i : Nat) (t b : Addr) (c : List Int), ts[i]? = some t → bs[i]? = some b → cs[i]? = some c → H' t = some (.tup [.int (c.length : Int), .ref b])) → TupsAt H' bs cs → Paired (KeyT K H') (ts.map V.ref) (cs.map fun c => ((c.length : Int), c)) := by
        intro ts
        induction ts with
        | nil =>
          intro bs cs h1 h2 _ _
          cases bs with
          | nil =>
            cases cs with
            | nil => exact .nil
            | cons c cs => simp at h2
          | cons b bs => simp at h1
        | cons t ts ih =>
          intro bs cs h1 h2 h3 h4
          cases h4 with
          | nil => simp at h1
          | cons hb ht =>
            refine .cons ⟨t, _, rfl, SqT.of (h3 0 _ _ _ rfl rfl rfl), SqT.of hb⟩ (ih _ _ (by simpa using h1) (by simpa using h2) (fun i t' b' c' a1 a2 a3 => h3 (i + 1) t' b' c' a1 a2 a3) ht)
      exact this ts bs cs hl hlen hts T'
    · have ez : (cs.map fun c => ((c.length : Int), c)).zip (bs.map V.ref) = (bs.zip cs).map fun z => (((z.2.length : Int), z.2), V.ref z.1) := by
        have : ∀ (bs : List Addr) (cs : List (List Int)), (cs.map fun c => ((c.length : Int), c)).zip (bs.map V.ref) = (bs.zip cs).map fun z => (((z.2.length : Int), z.2), V.ref z.1) := by
          intro bs
          induction bs with
          | nil => intro cs; cases cs <;> rfl
          | cons b bs ih =>
            intro cs
            cases cs with
            | nil => rfl
            | cons c cs =>
              rw [List.map_cons, List.map_cons, List.zip_cons_cons, List.zip_cons_cons, List.map_cons, ih]
        exact this bs cs
      rw [ez] at hp
      let f : (Int × List Int) × V → Addr × List Int := fun z => (match z.2 with | .ref a => a | _ => 0, z.1.2)
      have ef : zs.map (fun z => ((((f z).2.length : Int), (f z).2), V.ref (f z).1)) = zs := by
        have : ∀ l : List ((Int × List Int) × V), (∀ z ∈ l, ∃ y : Addr × List Int, z = (((y.2.length : Int), y.2), V.ref y.1)) → l.map (fun z => ((((f z).2.length : Int), (f z).2), V.ref (f z).1)) = l := by
          intro l
          induction l with
          | nil => intro _; rfl
          | cons a r ih =>
            intro h
            obtain ⟨y, rfl⟩ := h a List.mem_cons_self
            rw [List.map_cons, ih fun z hz => h z (List.mem_cons_of_mem _ hz)]
        exact this zs fun z hz => by
          obtain ⟨y, _, e⟩ := List.mem_map.mp (hp.mem_iff.mp hz)
          exact ⟨y, e.symm⟩
      have pk : (zs.map f).Perm (bs.zip cs) := by
        have q1 := hp.map f
        rw [List.map_map] at q1
        have e2 : (bs.zip cs).map (f ∘ fun z => (((z.2.length : Int), z.2), V.ref z.1)) = bs.zip cs := by
          have : (f ∘ fun z : Addr × List Int => (((z.2.length : Int), z.2), V.ref z.1)) = id := by funext z; rfl
          rw [this, List.map_id]
        rw [e2] at q1
        exact q1
      have po : (zs.map f).Pairwise fun a b => ltC b.2 a.2 = false := by
        rw [← ef] at ho
        rw [List.pairwise_map] at ho ⊢
        exact ho
      have tz : TupsAt H' ((zs.map f).map (·.1)) ((zs.map f).map (·.2)) := TupsAt.of_zip fun y hy => TupsAt.zip T' y (pk.mem_iff.mp hy)
      have q2 := q (zs.map f) H' p pk po sm g tz hn
      have e3 : (zs.map f).map (fun z => V.ref z.1) = zs.map (·.2) := by
        conv => rhs; rw [← ef]
        rw [List.map_map, List.map_map]
        rfl
      rw [e3] at q2
      exact q2
end Toy
namespace Toy
open PySem L2
/-! ### dicts by their keys -/
section
variable {κ α : Type} [DecidableEq κ] [DecidableEq α]
theorem valV_none {kvs : List (κ × V)} {k : κ} : valV kvs k = none ↔ k ∉ kvs.map (·.1) := by
  constructor
  · exact valV_not
  · intro h
    cases e : valV kvs k with
    | none => rfl
    | some v => exact absurd (valV_in e) h
/-- once more, at the end, if it isn't there -/
def addU (ks : List α) (n : α) : List α := if n ∈ ks then ks else ks ++ [n]
theorem keys_put {f : α → κ} (inj : ∀ a b, f a = f b → a = b) {kvs : List (κ × V)} {ks : List α} (h : kvs.map (·.1) = ks.map f) (n : α) (v : V) : (putK kvs (f n) v).map (·.1) = (addU ks n).map f := by
  unfold addU
  by_cases hn : n ∈ ks
  · rw [if_pos hn]
    have hm : f n ∈ kvs.map (·.1) := by rw [h]; exact List.mem_map.mpr ⟨n, hn, rfl⟩
    have ha : (kvs.any fun kv => decide (kv.1 = f n)) = true := by
      rw [List.any_eq_true]
      obtain ⟨p, hp, e⟩ := List.mem_map.mp hm
      exact ⟨p, hp, decide_eq_true e⟩
    unfold putK
    rw [if_pos ha, ← h, List.map_map]
    refine List.map_congr_left fun p _ => ?_
    show (if p.1 = f n then (p.1, v) else p).1 = p.1
    split <;> rfl
  · rw [if_neg hn]
    have hv : valV kvs (f n) = none := valV_none.mpr fun z => by
      rw [h] at z
      obtain ⟨m, hm, e⟩ := List.mem_map.mp z
      rw [inj _ _ e] at hm
      exact hn hm
    rw [putK_new v hv, List.map_append, h, List.map_append]
    rfl
theorem nd_add {ks : List α} (h : ks.Nodup) (n : α) : (addU ks n).Nodup := by
  unfold addU
  split
  · exact h
  · rename_i hn
    rw [List.nodup_append]
    exact ⟨h, by simp, fun a ha b hb => by rw [List.mem_singleton.mp hb]; exact fun e => hn (e ▸ ha)⟩
theorem mem_add {ks : List α} (n z : α) : z ∈ addU ks n ↔ z ∈ ks ∨ z = n := by
  unfold addU
  split
  · rename_i hn
    exact ⟨.inl, fun h => h.elim id fun e => e ▸ hn⟩
  · simp
theorem len_add {ks : List α} (n : α) : (addU ks n).length ≤ ks.length + 1 := by
  unfold addU
  split
  · omega
  · simp
theorem val_keys {f : α → κ} (inj : ∀ a b, f a = f b → a = b) {kvs : List (κ × V)} {ks : List α} (h : kvs.map (·.1) = ks.map f) (n : α) : (valV kvs (f n)).isSome = decide (n ∈ ks) := by
  by_cases hn : n ∈ ks
  · rw [decide_eq_true hn]
    cases e : valV kvs (f n) with
    | some v => rfl
    | none => exact absurd (by rw [h]; exact List.mem_map.mpr ⟨n, hn, rfl⟩) (valV_none.mp e)
  · rw [decide_eq_false hn, valV_none.mpr fun z => by
      rw [h] at z
      obtain ⟨m, hm, e⟩ := List.mem_map.mp z
      rw [inj _ _ e] at hm
      exact hn hm]
    rfl
end
theorem inl_inj (a b : Int) (h : (Sum.inl a : Key) = Sum.inl b) : a = b := Sum.inl.inj h
/-- a tuple of ints as a key -/
def tkey (c : List Int) : List Key := c.map Sum.inl
theorem tkey_inj (a b : List Int) (h : tkey a = tkey b) : a = b := (List.map_inj_right (fun x y h => Sum.inl.inj h)).mp h
theorem tkey_kV (c : List Int) : (tkey c).map kV = c.map V.int := by
  unfold tkey
  rw [List.map_map]
  rfl
end Toy
namespace Toy
open PySem L2
theorem e_sorted {r : V → Hp → VK → Prop} {t : TA} {σ : St} {H : Hp} {Q : VK} : tSorted r t σ H Q = t σ H fun vs H1 => ∃ x, vs = [x] ∧ r x H1 Q := rfl
end Toy
namespace Toy
open PySem L2
/-! ### the clauses of a problem -/
theorem ltC_irrefl (a : List Int) : ltC a a = false := by
  unfold ltC ltKT
  rw [if_pos rfl]
  exact lex_irrefl a
theorem ltC_total {a b : List Int} (h1 : ltC a b = false) (h2 : ltC b a = false) : a = b := by
  unfold ltC ltKT at h1 h2
  by_cases e : (a.length : Int) = (b.length : Int)
  · have h1 : HT.lexLt a b = false := by rw [if_pos e] at h1; exact h1
    have h2 : HT.lexLt b a = false := by rw [if_pos e.symm] at h2; exact h2
    exact lex_total a b h1 h2
  · rw [if_neg e] at h1
    rw [if_neg (Ne.symm e)] at h2
    have d1 := of_decide_eq_false h1
    have d2 := of_decide_eq_false h2
    omega
theorem ltC_asym {a b : List Int} (h : ltC a b = true) : ltC b a = false := swo_KT.asym _ _ h
theorem ltC_trans {a b c : List Int} (h1 : ltC a b = true) (h2 : ltC b c = true) : ltC a c = true := swo_KT.ltle h1 (swo_KT.asym _ _ h2)
/-- shorter ones first, rising: the unlike clauses of the rows -/
structure IsDue (rows cs : List (List Int)) : Prop where
  inc : cs.Pairwise fun a b => ltC a b = true
  mem : ∀ c, c ∈ cs ↔ ∃ row ∈ rows, IsCl row c
theorem ltC_ext : ∀ {c d : List (List Int)}, c.Pairwise (fun a b => ltC a b = true) → d.Pairwise (fun a b => ltC a b = true) → (∀ x, x ∈ c ↔ x ∈ d) → c = d
  | [], [], _, _, _ => rfl
  | [], y :: d, _, _, h => absurd ((h y).mpr List.mem_cons_self) (by simp)
  | x :: c, [], _, _, h => absurd ((h x).mp List.mem_cons_self) (by simp)
  | x :: c, y :: d, hc, hd, h => by
    have c1 := List.pairwise_cons.mp hc
    have d1 := List.pairwise_cons.mp hd
    have irr : ∀ z : List Int, ltC z z = true → False := fun z q => by rw [ltC_irrefl] at q; cases q
    have e : x = y := by
      rcases List.mem_cons.mp ((h x).mp List.mem_cons_self) with e | hx
      · exact e
      · rcases List.mem_cons.mp ((h y).mpr List.mem_cons_self) with e | hy
        · exact e.symm
        · exact (irr _ (ltC_trans (d1.1 x hx) (c1.1 y hy))).elim
    subst e
    have nx : x ∉ c := fun z => irr _ (c1.1 x z)
    have ny : x ∉ d := fun z => irr _ (d1.1 x z)
    rw [ltC_ext c1.2 d1.2 fun z => ⟨fun hz => (List.mem_cons.mp ((h z).mp (List.mem_cons_of_mem _ hz))).resolve_left fun e => nx (e ▸ hz), fun hz => (List.mem_cons.mp ((h z).mpr (List.mem_cons_of_mem _ hz))).resolve_left fun e => ny (e ▸ hz)⟩]
theorem IsDue.ext {r r' c c' : List (List Int)} (h : IsDue r c) (h' : IsDue r' c') (e : ∀ x, (∃ row ∈ r, IsCl row x) ↔ ∃ row ∈ r', IsCl row x) : c = c' :=
  ltC_ext h.inc h'.inc fun x => (h.mem x).trans ((e x).trans (h'.mem x).symm)
theorem inc_of {cs out : List (List Int)} (p : out.Perm cs) (nd : cs.Nodup) (h : out.Pairwise fun a b => ltC b a = false) : out.Pairwise fun a b => ltC a b = true := by
  have nd' : out.Nodup := p.nodup_iff.mpr nd
  refine (h.and nd').imp fun {a b} h => ?_
  cases e : ltC a b with
  | true => rfl
  | false => exact absurd (ltC_total e h.1) h.2
/-- the tuples that are the keys of a dict -/
theorem tups_of_keys {H : Hp} : ∀ {kvs : List (List Key × V)} {bs : List Addr} {cs : List (List Int)}, IsKeys H kvs bs → kvs.map (·.1) = cs.map tkey → TupsAt H bs cs
  | _, _, [], .nil, _ => .nil
  | _, _, _ :: _, .nil, h => by cases h
  | _, _, [], .cons _ _, h => by cases h
  | _, _, c :: cs, .cons hb t, h => by
    rw [List.map_cons, List.map_cons] at h
    have h1 := (List.cons.inj h).1
    have h2 := (List.cons.inj h).2
    refine .cons ?_ (tups_of_keys t h2)
    rw [h1, tkey_kV] at hb
    exact hb
end Toy
namespace Toy
open PySem L2
/-! ### clauses as data -/
def dTup (c : List Int) : PyData := .tuple (c.map PyData.int)
def dCls (cs : List (List Int)) : PyData := .tuple (cs.map dTup)
theorem dpAll_cls {K : PySem.W.Frag} {H : Hp} : ∀ {bs : List Addr} {cs : List (List Int)}, TupsAt H bs cs → DpAll K H (bs.map V.ref) (cs.map dTup)
  | _, _, .nil => .nil
  | _, _, .cons h t => .cons (.tup (SqT.of h) (dpAll_ints _)) (dpAll_cls t)
theorem can_cls : ∀ cs : List (List Int), PyData.canLayAll0 (cs.map dTup) = true
  | [] => by simp [PyData.canLayAll0]
  | c :: cs => by simp [PyData.canLayAll0, dTup, PyData.canLay0, can_intsD, can_cls cs]
theorem dep_cls : ∀ cs : List (List Int), PyData.depthAll (cs.map dTup) ≤ 2
  | [] => by simp [PyData.depthAll]
  | c :: cs => by
    have h1 := dep_cls cs
    have h2 := dep_intsD c
    simp only [List.map_cons, PyData.depthAll, dTup, PyData.depth]
    omega
theorem shaped_cls (cs : List (List Int)) : SeqAt.shaped (dCls cs) = true := by
  have h := dep_cls cs
  unfold SeqAt.shaped dCls
  rw [Bool.and_eq_true]
  refine ⟨by simp [PyData.canLay0, can_cls], decide_eq_true ?_⟩
  simp only [PyData.depth]
  omega
theorem eqvAll_cls : ∀ a b : List (List Int), PyData.eqvAll (a.map dTup) (b.map dTup) = decide (a = b)
  | [], [] => by simp [PyData.eqvAll]
  | [], y :: b => by simp [PyData.eqvAll]
  | x :: a, [] => by simp [PyData.eqvAll]
  | x :: a, y :: b => by
    simp only [List.map_cons, PyData.eqvAll, dTup, PyData.eqv, eqvAll_ints]
    rw [eqvAll_cls a b]
    by_cases h1 : x = y <;> by_cases h2 : a = b <;> simp [h1, h2]
theorem eqv_cls (a b : List (List Int)) : PyData.eqv (dCls a) (dCls b) = decide (a = b) := by
  unfold dCls
  simp only [PyData.eqv]
  exact eqvAll_cls a b
end Toy
namespace Toy
open PySem L2
theorem e_dsetd {td ty tx : TE} {σ : St} {H : Hp} {Q : VK} : tDSetd td ty tx σ H Q = td σ H fun x H1 => ∃ a, x = .ref a ∧ IsD H1 a ∧ ty σ H1 fun y H2 => tx σ H2 fun z H3 => ∃ (kvs : List (Key × V)) (k : Key), H3 a = some (.dK kvs) ∧ y = kV k ∧ kvs.length < sizeLine ∧
  (∀ v, valV kvs k = some v → Q v H3) ∧ (valV kvs k = none → Q z (upd H3 a (.dK (putK kvs k z)))) := rfl
/-- the draw of one of two -/
theorem at_two {a b : V} {r : Int} (h0 : 0 ≤ r) (h1 : r < 2) : (r = 0 ∧ atI [a, b] r = some a) ∨ (r = 1 ∧ atI [a, b] r = some b) := by
  have : r = 0 ∨ r = 1 := by omega
  rcases this with rfl | rfl
  · exact .inl ⟨rfl, rfl⟩
  · exact .inr ⟨rfl, rfl⟩
end Toy

-- part: SC1
namespace L2
open PySem PySem.Spec PySem.Calls PyProof.Rows
/-- one turn of {a number for a target in ..}: what was a turn's state W goes on to the next, the number in the set at D -/
def SetTurn (w : World) (g : TG) (te : TE) (vs : List Nat) (σ : St) (D : Addr) (Nx : Hp → Prop) (x : V) (H : Hp) : Prop :=
  g x (wipe σ vs) H fun τ H2 => wipe τ vs = wipe σ vs ∧ te τ H2 fun y H3 => ∃ (k : Int) (S : Int → Bool) (n : Nat), y = .int k ∧ H3 D = some (SetO w D S n) ∧ n + 1 < scanBound ∧ Nx (upd H3 D (SetO w D (fun j => S j || decide (j = k)) (if S k = true then n else n + 1)))
/-- the reading of {number for target in it} -/
def tSetI (w : World) (wi : TI) (g : TG) (te : TE) (vs : List Nat) : TE := fun σ H Q => wi σ H fun J H1 => ∀ D, H1 D = none →
  ∃ W : Nat → Nat → Hp → Prop, (∃ m, W 0 m (upd H1 D (SetO w D (fun _ => false) 0))) ∧
    ∀ i m Hi, W i m Hi → (J.stop i Hi ∧ Q (.ref D) Hi) ∨ (J.go i Hi ∧ ∃ Nx : Hp → Prop, (∀ H', Nx H' → ∃ m', m' < m ∧ W (i + 1) m' H') ∧ ∀ x H', J.yld i Hi x H' → SetTurn w g te vs σ D Nx x H')
section
variable {X : Cx}
theorem pe_setI {el tg src : Expr} {sc : Scope} {own : List (Str × Nat)} {at_ : Pos} {wi : TI} {g : TG} {te : TE} (calm : X.calm = true) (nd : X.N.Nodup) (pi : PI X tg src wi) (blk : BlkOk X.N X.env.scope sc own)
    (hg : ∀ (s : Shared) (H : Hp) (C : Addr) (cl : List (Str × Addr)) (fp : List Addr), PG (X.blk s H sc (compEnvC sc cl C X.env) fp) tg g)
    (he : ∀ (s : Shared) (H : Hp) (C : Addr) (cl : List (Str × Addr)) (fp : List Addr), PE (X.blk s H sc (compEnvC sc cl C X.env) fp) el te) (plain : ∀ x, foldedSetIterable src X.env x = pure x := by intro _; rfl) :
    PE X (.SetComp el [⟨tg, src, [], 0⟩] sc at_) (tSetI X.w wi g te (own.map (·.2))) := by
  refine ⟨fun pins s σ H Q I0 rd => ?_⟩
  rw [PpSet.eval_SetComp]
  have cells : ∀ y ∈ sc.names, y.2 = .free → ∃ c, X.env.cells.lookup y.1 = some c := fun y hy e => (blk.free y hy e).elim (fun k => I0.ok.has _ (.inl k)) fun k => I0.ok.has _ (.inr k)
  refine wpAny_comprehension_free (use := none) rfl plain (closure_ok cells) blk.kind (fun y hy e => by rw [blk.uniq y hy, e]) (thn (pi.run pins s σ H _ I0 rd) fun _ sa hx => thn hx fun _ sb ⟨it, fp, tn, J, Ha, ev, Ia, T, sta, fa, rdA⟩ => ?_)
  cases ev
  refine PpSet.newSet_ok (newEnv_comp ?_)
  obtain ⟨D, eD⟩ : ∃ D, sb.heap.objs.size = D := ⟨_, rfl⟩
  rw [eD]
  obtain ⟨W, ⟨m0, w0⟩, turn⟩ := rdA D (Ia.hok.fresh (Nat.le_of_eq eD))
  -- the new set stands
  obtain ⟨sn, esn⟩ : ∃ sn : Shared, sn = { sb with heap := sb.heap.push { cls := .type "set", dict := none, data := .set #[] 0 (.fresh 0 0 (!X.w.params.followText "set-order")) } } := ⟨_, rfl⟩
  obtain ⟨Hn, eHn⟩ : ∃ Hn : Hp, Hn = upd Ha D (SetO X.w D (fun _ => false) 0) := ⟨_, rfl⟩
  rw [← eHn] at w0
  rw [← esn]
  have older : ∀ b o, sb.heap.get? b = some o → sn.heap.get? b = some o := fun b o e => by rw [esn]; exact Heap.get?_push_of_some _ e
  have In : Inv X pins σ Hn sn := by
    rw [eHn, esn]
    exact Ia.laid (t' := sb.toks) (fun b o e => Heap.get?_push_of_some _ e) (Nat.le_of_eq eD) (by rw [← eD]; exact setO_new (setR_fresh X.w))
  have fn : ∀ b ∈ fp, FpOk X pins Hn b ∧ b < sn.heap.objs.size := fun b hb => by
    obtain ⟨o, e, _⟩ := T.obj _ _ sta b hb
    have lt := Heap.lt_size e
    have nb : b ≠ D := by rw [← eD]; exact Nat.ne_of_lt lt
    refine ⟨⟨by rw [eHn, upd_ne nb]; exact (fa b hb).1, (fa b hb).2⟩, ?_⟩
    rw [esn, Heap.size_push]
    exact Nat.lt_succ_of_lt lt
  have free : ∀ b ∈ fp, Hn b = none := fun b hb => (fn b hb).1.1
  have stn : tn 0 sn.heap := T.keep _ _ _ sta fun b _ o e => older b o e
  have Iblk := block_start In blk nd fn
  obtain ⟨cl, ecl⟩ : ∃ cl, cl = cellsFrom (sn.heap.objs.size + 1) sc.names (cloFrom X.env.cells sc.names []) := ⟨_, rfl⟩
  rw [← ecl] at Iblk
  have rg := hg sn Hn sn.heap.objs.size cl fp
  have re := he sn Hn sn.heap.objs.size cl fp
  obtain ⟨ce, ece⟩ : ∃ ce, ce = compEnvC sc cl sn.heap.objs.size X.env := ⟨_, rfl⟩
  rw [← ece] at Iblk rg re
  have here : ce.locals = sn.heap.objs.size := by rw [ece]; rfl
  obtain ⟨s4, es4⟩ : ∃ s4 : Shared, s4 = { sn with heap := pushCells (sn.heap.push { cls := .type "dict", data := .dict #[] }) sc.names } := ⟨_, rfl⟩
  have Iblk : Inv (X.blk sn Hn sc ce fp) [] (wipe σ (own.map (·.2))) Hn s4 := by rw [es4]; exact Iblk
  have st4 : tn 0 s4.heap := T.keep _ _ _ stn fun b _ o e => by rw [es4]; exact pushCells_keeps _ _ _ _ (Heap.get?_push_of_some _ e)
  suffices z : codeAny (model X.prog X.w) X.A (.compStart (.SetComp el [⟨tg, src, [], 0⟩] sc at_) 0 (.ref it) (.ref D) ce) (compPost (model X.prog X.w) X.A X.xe none (EP X pins σ Q) (.ref D) sn.heap.objs.size) s4 by
    subst ecl ece es4
    exact z
  have known : ∀ {τ : St} {H' : Hp} {s' : Shared}, Inv (X.blk sn Hn sc ce fp) [] τ H' s' → (∀ b ∈ fp, H' b = none) → ∀ b ∈ fp, FpOk (X.blk sn Hn sc ce fp) [] H' b := fun {τ H' s'} I' out b hb =>
    ⟨out b hb, (I'.ok.exf b hb).1, I'.ok.exfs b hb, .inl hb, fun x c e => (I'.ok.exf b hb).2 x c e, fun p hp => absurd (show p ∈ ([] : List (Addr × Obj)) ++ [] from hp) (by simp)⟩
  have loop : codeAny (model X.prog X.w) X.A (.compLoop (.SetComp el [⟨tg, src, [], 0⟩] sc at_) 0 (.ref it) (.ref D) ce) (compPost (model X.prog X.w) X.A X.xe none (EP X pins σ Q) (.ref D) sn.heap.objs.size) s4 := by
    refine PpSet.compLoopS_any (fun n s' => ∃ i H', Inv (X.blk sn Hn sc ce fp) [] (wipe σ (own.map (·.2))) H' s' ∧ tn i s'.heap ∧ (∀ b ∈ fp, H' b = none) ∧ W i n H') (fun n s5 ⟨i, H5, I5, st5, out5, w5⟩ => ?_) m0 ⟨0, Hn, Iblk, st4, free, w0⟩
    rcases turn i n H5 w5 with ⟨stop, fin⟩ | ⟨goes, Nx, less, step⟩
    · refine thnF (T.done (X.blk sn Hn sc ce fp) rfl rfl rfl calm i [] s5 _ H5 (fun _ _ => False) I5 (known I5 out5) st5 stop) fun r s6 ⟨er, I6⟩ => ?_
      cases er
      have back : Inv X pins σ H5 s6 := In.call' (ch := fp) I6.os I6.base I6.hok I6.bare fun b hb => by
        obtain ⟨⟨_, q1, q2, q3, q4, q5⟩, _⟩ := fn b hb
        exact ⟨q3, q1, q4, q5⟩
      obtain ⟨m, ns, _⟩ := I6.loc
      have ns : s6.heap.Ns ce.locals m := ns
      have out : H5 ce.locals = none := I6.free
      rw [here] at ns out
      obtain ⟨f0, f1, f2, f3, f4, f5⟩ := In.fpOk (Nat.le_refl _) out
      exact ⟨m, ns, fun h' same => ⟨.ref D, H5, back.turned (t' := s6.toks) (fun b o nb e => (same.2 b nb).trans e) f0 f1 f3 f4 f5, rfl, fin⟩⟩
    · refine thnF (T.item (X.blk sn Hn sc ce fp) rfl rfl rfl calm i [] s5 _ H5 (fun _ _ => False) I5 (known I5 out5) st5 goes) fun r s6 ⟨u, er, h6⟩ => ?_
      cases er
      refine thnF h6 fun _ s7 ⟨x, H7, I7, r7, y7, st7, out7⟩ => ?_
      refine thnF (rg.run _ s7 _ H7 x u _ (I7.pinned (known I7 out7) (T.obj _ _ st7)) r7 (step x H7 y7)) fun _ s8 ⟨τ, H8, I8, ew, q8⟩ => ?_
      refine wpAny_pure ?_
      simp only [if_true]
      refine thnF (re.run _ s8 τ H8 _ I8 q8) fun z s9 ⟨y, H9, I9, r9, k, S, c, ey, hD, room, nx⟩ => ?_
      cases ey
      obtain ⟨tk, rfl⟩ := r9
      refine thnF (mt_sadd (X := X.blk sn Hn sc ce fp) _ s9 τ H9 (.ref D) [.int k] (.ref D) [.int k tk] (fun _ H' => Nx H') I9 rfl (.cons ⟨tk, rfl⟩ .nil) ⟨D, k, S, c, rfl, rfl, hD, room, nx⟩) fun _ s10 ⟨_, H10, I10, _, nx10⟩ => ?_
      obtain ⟨m', lt, w'⟩ := less H10 nx10
      have stay : ∀ b ∈ fp, ∀ o, s7.heap.get? b = some o → s10.heap.get? b = some o ∧ H10 b = none := fun b hb o e => by
        have p := I10.pin (b, o) (List.mem_append_right _ (List.mem_append_right _ (mem_pinsAt hb e)))
        exact ⟨p.1, p.2.1⟩
      refine ⟨m', lt, i + 1, H10, (I10.unpinned (pins := [])).weak (by rw [← ew, wipe_length]) (fun j v e => by rw [← ew] at e; exact (wipe_some e).1), T.keep _ _ _ st7 fun b hb o e => (stay b hb o e).1, fun b hb => ?_, w'⟩
      obtain ⟨o, e, _⟩ := T.obj _ _ st7 b hb
      exact (stay b hb o e).2
  exact PpSet.codeAny_compStart_set loop (T.self X.A 0 _ _ _ st4 loop)
/-- len of such a set -/
theorem call_len_ints : CallR X (.builtin "len") (fun xs H Q => ∃ (a : Addr) (S : Int → Bool) (n : Nat), xs = [.ref a] ∧ H a = some (SetO X.w a S n) ∧ n < 1000000 ∧ Q (.int n) H) := by
  intro pins s σ H xs us Q I r h
  obtain ⟨a, S, n, rfl, ha, hn, q⟩ := h
  obtain ⟨o, es, ep, t, ho, hex, hd, _, _, _, _, hf, hs, _⟩ := setO_get I ha
  cases r with
  | cons r rr =>
    cases rr
    cases r
    exact call_len_set ho hex hd hf (by rw [hs]; omega) ⟨.int n, H, I.tok _, ⟨_, by rw [hs]⟩, q⟩
end
end L2

-- part: RG
namespace L2
open PySem PySem.Spec PyProof.Rows
section
variable {X : Cx}
/-- repr of nested lists and tuples -/
def rRepr (K : PySem.W.Frag) : List V → Hp → VK → Prop := fun xs H Q => ∃ a d, xs = [.ref a] ∧ Dp K H (.ref a) d ∧ d.showable = true ∧ d.hasDict = false ∧ d.depth ≤ 60 ∧ d.shown.length ≤ sizeLine ∧ Q (.str d.shown) H
theorem call_reprD (hg : X.A.guards = some []) (hu : X.A.units + 100 < cLine) : CallR X (.builtin "repr") (rRepr X.K) := by
  intro pins s σ H xs us Q I r h
  obtain ⟨a, d, rfl, hd, hs, hn, hp, hz, q⟩ := h
  obtain ⟨u, rfl, ru⟩ := vals1 r
  obtain ⟨as, hr⟩ := Dp.reads I d _ _ hd ru
  cases ru
  exact PySem.repr_of_reads' hr hs (PyData.noDict_hsm hn) hg (by omega) (fun _ _ e => e) (fun h' u tk hk => ⟨.str _, H, I.un (Un.kept hk) (I.hok.kept hk), ⟨_, rfl⟩, q⟩) hz
end
/-- a def that is called where no object's text is under way -/
structure FnG (P : Program) (w : World) (K : PySem.W.Frag) (mg : Str → Option Value) (base : Heap) (k : Nat) (f : Addr) (fd : FuncData) (ps : List Str) (sp : Sp) : Prop where
  len : ∀ vs H Q E, sp vs H Q E → vs.length = ps.length
  run : ∀ (A : Around) (outer : List Env) (s : Shared) (H : Hp) (args : Args) (us : List Value) (vs : List V) (Q : VK) (E : XK), A.guards = some [] → Room k A → Env0 P w K mg base A outer s H → BindsTo s fd args (ps.zip us) → Vals vs us → sp vs H Q E →
    codeAny (model P w) A (.call (.ref f) args) (CR CX0 outer P w H s Q E) s
theorem deeper_guards {A : Around} {env : Env} (h : A.guards = some []) : (A.deeper env).guards = some [] := by
  show _ = _
  simp [Around.deeper, h]
section
variable {P : Program} {w : World} {K : PySem.W.Frag} {mg : Str → Option Value} {base : Heap}
theorem FnG.of {x qual : Str} {st : Stmt} {f : Addr} {fd : FuncData} {N ps : List Str} {k : Nat} {sp : Sp} (F : Fun K x qual st f fd) (S : FnScope N ps (defScope st)) (len : ∀ vs H Q E, sp vs H Q E → vs.length = ps.length)
    (hbody : ∀ (cdv : Value) (A : Around) (outer : List Env) (s : Shared) (H : Hp) (vs : List V) (Q : VK) (E : XK), A.guards = some [] → Room k (A.deeper (envOfC qual (defScope st) s.heap.objs.size f cdv)) → sp vs H Q E →
      ∃ t, PSs (cxOf CX0 P w K mg base N qual (defScope st) f cdv A outer s H E).nox (defBody st) t ∧ t { nx := fun _ H' => Q .non H', rt := Q } (start N vs) H) : FnG P w K mg base (k + 1) f fd ps sp := by
  obtain ⟨oc, od, kV, doc, pm, an, cdv, ct, osl, rfl, lk, hcd⟩ := F.ex
  refine ⟨len, fun A outer s H args us vs Q E hg hr e0 hb r hsp => ?_⟩
  obtain ⟨t, ht, hq⟩ := hbody cdv A outer s H vs Q E hg (hr.deeper _) hsp
  have kp := fun b o e => (e0.bs b o e).1
  have KX : K.In s.heap := e0.mod.kin.keeps kp
  have kinds : ∀ y ∈ ps.zip us, (defScope st).names.lookup y.1 = some .local ∨ ((defScope st).names.lookup y.1 = some .cell ∧ ((cellsFrom (s.heap.objs.size + 1) (defScope st).names []).lookup y.1).isSome = true) := fun y hy =>
    (S.par y.1 (List.of_mem_zip (show (y.1, y.2) ∈ _ from hy)).1).imp id fun q => ⟨q, PySem.W.cellsFrom_some _ _ _ (.inl q)⟩
  refine codeAny_call_function hr.depth (KX _ _ lk) rfl S.co S.gen rfl (PySem.W.codeRec_of KX hcd) (hb _ _ _ _ (wpAny_newFunctionEnv_cells S.kind kinds fun env he s1 x => ?_))
  subst he
  refine ⟨(e0.mod.nolimit.keeps kp).keeps x.toInCall.keep, codeAny_func ?_⟩
  have I : Inv (cxOf CX0 P w K mg base N qual (defScope st) f cdv A outer s H E) [] (start N vs) H s1 := inv_start S hr.hd e0 (len _ _ _ _ hsp) r x
  refine wpAny_mono (ht.nox.run [] s1 (start N vs) H _ I hq) (fun fl s' hs => ?_) fun e s' hs => hs
  cases fl with
  | ret u =>
    obtain ⟨v, _, H', J, rv, q⟩ := hs
    exact ⟨v, H', J.os, J.bare, J.base, J.hok, rv, q⟩
  | next =>
    obtain ⟨_, H', J, q⟩ := hs
    exact ⟨V.non, H', J.os, J.bare, J.base, J.hok, rfl, q⟩
  | brk => exact hs.elim fun _ h => h.elim fun _ h => False.elim h.2
  | cont => exact hs.elim fun _ h => h.elim fun _ h => False.elim h.2
variable {X : Cx} {k : Nat} {f : Addr} {fd : FuncData} {ps : List Str} {sp : Sp} {x : Str} {p pos : Pos} {e : Expr} {es : List Expr} {t : TA}
theorem pe_callG (F : FnG X.prog X.w X.K X.mg X.base k f fd ps sp) (hgu : X.A.guards = some []) (hr : Room k X.A) (hg : Gl X x) (hm : X.mg x = some (.ref f)) (hk : PySem.W.keepIn X.K (.ref f) = true) (hb : Binds X.K fd ps [])
    (ha : PA X (e :: es) t) (hdb : (x == ("__debug__" : Str)) = false := by decide) (he : starEach (e :: es) X.env = (false, eval e X.env) :: starEach es X.env := by rfl) (hpl : (backTo pos (starEach es X.env)).any (·.1) = false := by rfl) :
    PE X (.Call (.Name x p) (e :: es) [] pos) (tCall sp [] E0 t) := by
  refine ⟨fun pins s σ H Q I h => wpAny_Call_Name_kw (ld_glob I hg hm (PySem.W.callWith_K (h₀ := X.base) I.ok.mod.kin hk (thn (ha.run pos pins s σ H _ I h) fun us s1 ⟨vs, H1, I1, r, q⟩ => ⟨I1.kIn, ?_⟩) he hpl) hdb)⟩
  have q : sp (vs ++ []) H1 Q E0 := q
  rw [List.append_nil] at q
  have b1 := hb s1 us I1.kIn (by rw [List.append_nil, ← r.length]; exact F.len _ _ _ _ q)
  rw [List.append_nil] at b1
  refine wpAny_call (codeAny_mono (F.run X.A X.stack s1 H1 ⟨us, []⟩ us vs Q E0 hgu hr I1.env0 b1 r q) fun r s' hq => ?_)
  cases r with
  | error e => exact pass0 pins σ H1 s1 e s' I1 hq
  | ok fl =>
    cases fl with
    | ret u => exact I1.after hq
    | next => exact False.elim hq
    | brk => exact False.elim hq
    | cont => exact False.elim hq
end
end L2

-- part: ST1
namespace L2
open PySem PySem.Spec PySem.Calls PyProof.Rows
/-- *a, b = a list of at least one: the last to b, a new list of the others to a -/
def gStar0 (K : PySem.W.Frag) (t : TGs) : TG := fun v σ H Q => ∃ a xs z, v = .ref a ∧ SqL K H a (xs ++ [z]) ∧ ∀ D, H D = none → t [.ref D, z] σ (upd H D (.lst xs)) Q
theorem vals_split : ∀ {xs ys : List V} {its : List Value}, Vals (xs ++ ys) its → ∃ us vs, its = us ++ vs ∧ Vals xs us ∧ Vals ys vs
  | [], _, its, h => ⟨[], its, rfl, .nil, h⟩
  | x :: xs, ys, _, .cons r t => by
    obtain ⟨us, vs, e, h1, h2⟩ := vals_split (xs := xs) t
    exact ⟨_ :: us, vs, by rw [e]; rfl, .cons r h1, h2⟩
variable {X : Cx}
theorem pg_star0 {e1 e2 : Expr} {p pos : Pos} {k : Nat} {t : TGs} (hc : X.calm = true) (h : PGs X [e1, e2] t) (he : (assignEach [.Starred e1 p, e2] X.env).map (·.2) = (assignEach [e1, e2] X.env).map (·.2) := by rfl)
    (hl : (assignEach [.Starred e1 p, e2] X.env).length = 2 := by rfl) (hs : (assignEach [.Starred e1 p, e2] X.env).findIdx? (·.1) = some 0 := by rfl) : PG X (.Tuple [.Starred e1 p, e2] k pos) (gStar0 X.K t) := by
  refine ⟨fun pins s σ H v u Q I r hw => ?_⟩
  obtain ⟨a, xs, z, rfl, hq, hw⟩ := hw
  cases r
  obtain ⟨its, rv, ho, hz⟩ := I.list hq
  have hh := I.ok.hd hc
  rw [assign_Tuple]
  refine wpAny_bind (wpAny_standAt ?_)
  unfold unpack
  rw [hl, hs]
  refine wpAny_bind (wpAny_holding ?_)
  have hlt : a ≠ s.heap.objs.size := Nat.ne_of_lt ho.lt
  unfold unpackItems
  refine wpAny_bind ?_
  unfold notIterableAtAll
  refine wpAny_bind (wpAny_specialOf ho.isList.typeIs slot_list_iter.lookup ?_)
  refine wpAny_pure ?_
  simp only [Bool.false_eq_true, if_false]
  have hL : s.heap.IsList a its.toArray := by
    obtain ⟨o, n, h1, h2, _, h4⟩ := ho
    exact ⟨o, h1, h2, n, h4⟩
  refine wpAny_bind (wpAny_holding (wpAny_pyIter_list hL ?_))
  refine wpAny_bind (wpAny_holding (wpAny_pure ?_))
  rw [if_neg (show ¬ (([] : List Value).length < 0) from Nat.lt_irrefl 0)]
  have e1 := Heap.get?_push_size s.heap (o := { cls := .type "list_iterator", data := .fields #[.ref a, .int 0 0] }) rfl
  have hl1 : (s.heap.push { cls := .type "list_iterator", data := .fields #[.ref a, .int 0 0] }).IsList a its.toArray := hL.push _
  have sz : its.length = xs.length + 1 := by rw [← rv.length, List.length_append]; rfl
  rw [List.length_append] at hz
  have hz1 : xs.length + 1 ≤ sizeLine := hz
  obtain ⟨ol, hol, _⟩ := id hl1
  refine wpAny_bind (wpAny_holding (PySem.W.kun_collect (items := its.toArray) (T := "list_iterator") (.inr (.inr (.inl rfl))) (Walks.list (A := X.A.in1) hh s.heap.objs.size a hlt its.toArray) (fun j u st => st.1.typeIs) (k := 0) (Nat.zero_le _) ⟨⟨_, e1, rfl, rfl⟩, hl1⟩ (Heap.lt_size e1) (Heap.lt_size hol) (fun h2 tk hk => ?_) (by rw [List.size_toArray, sz]; exact hz1)))
  obtain ⟨us, vs, rfl, r1, r2⟩ := vals_split rv
  obtain ⟨uz, rfl, rz⟩ : ∃ uz, vs = [uz] ∧ RelV z uz := by
    cases r2 with
    | cons h t =>
      cases t
      exact ⟨_, rfl, h⟩
  have lu : us.length = xs.length := r1.length.symm
  have d0 : List.drop 0 (us ++ [uz]).toArray.toList = us ++ [uz] := by simp
  rw [d0]
  have ln : (us ++ [uz]).length - (2 - 1 - 0) = us.length := by rw [List.length_append]; simp
  rw [if_neg (by rw [List.length_append]; simp), ln]
  have k2 : ∀ b o, s.heap.get? b = some o → h2.get? b = some o := fun b o hb => hk b o (Nat.ne_of_lt (Heap.lt_size hb)) (Heap.get?_push_of_some _ hb)
  have I2 : Inv X pins σ H { s with heap := h2, toks := tk } := I.kept k2
  refine wpAny_bind (wpAny_newList (wpAny_pure ?_))
  have et : List.take us.length (us ++ [uz]) = us := by simp
  have ed : List.drop us.length (us ++ [uz]) = [uz] := by simp
  rw [et, ed]
  have hD : H h2.objs.size = none := I2.hok.fresh (Nat.le_refl _)
  have I3 : Inv X pins σ (upd H h2.objs.size (.lst xs)) { s with heap := h2.push { cls := .type "list", data := .seq us.toArray }, toks := tk } :=
    Inv.laid (s := { s with heap := h2, toks := tk }) I2 (fun b o hb => Heap.get?_push_of_some _ hb) (Nat.le_refl _) ⟨by omega, us, _, r1, Heap.get?_push_size _ rfl⟩
  show wpAny _ _ (assignInOrder _ [.ref h2.objs.size, uz]) _ _ _
  rw [he]
  exact h.run pins _ σ _ [.ref h2.objs.size, z] _ Q I3 (.cons rfl (.cons rz .nil)) (hw _ hD)
end L2

local macro_rules | `(tactic| walk_at "rd") => `(tactic| try simp only [Toy.e_seq, Toy.e_asg, Toy.e_asgS, Toy.e_ret, Toy.e_ifS, Toy.e_c, Toy.e_op, Toy.e_test, Toy.e_rI0, Toy.e_rI, Toy.e_var0, Toy.e_varS, Toy.e_bl, Toy.e_nil, Toy.e_cons, Toy.e_call, Toy.e_cb, Toy.e_next, Toy.e_bl2, Toy.e_cxK, Toy.e_ii, Toy.e_lst, Toy.e_tup, Toy.e_and, Toy.e_chain, Toy.e_tif, Toy.e_not, Toy.e_tb, Toy.e_drop, Toy.e_i1, Toy.e_or, Toy.e_andT, Toy.e_din, Toy.e_dnotin, Toy.e_un, Toy.e_rU, Toy.e_dput, Toy.e_x1, Toy.e_notV, Toy.e_orV, Toy.e_sorted, Toy.e_fld, Toy.e_gName, Toy.e_bm, Toy.e_dsetd, Toy.e_par, Toy.e_vw, Toy.e_dnewK, List.set_cons_zero, List.set_cons_succ, List.append_nil, List.nil_append, List.cons_append])
-- part: IX
namespace Toy
open PySem L2
def topS (i : Nat) : Stmt := PySem.Challenge.pw_turnless_k77_whole_logs_read_back.main.body.getD i (.Pass ⟨0, 0, 0, 0⟩)
abbrev s_is_figures : Stmt := topS 7
abbrev s_is_letters_row : Stmt := topS 8
abbrev s_letters_row : Stmt := topS 9
abbrev s_letters_of : Stmt := topS 10
abbrev s_is_clause_row : Stmt := topS 11
abbrev s_clause_row : Stmt := topS 12
abbrev s_letters_of_clause : Stmt := topS 13
abbrev s_log_text : Stmt := topS 20
abbrev s_read_log : Stmt := topS 21
abbrev s__row_of : Stmt := topS 22
abbrev s__step_of : Stmt := topS 23
abbrev s__rises : Stmt := topS 24
abbrev s__is_step_number : Stmt := topS 25
abbrev s__law_mixed : Stmt := topS 27
abbrev s__law_next : Stmt := topS 28
abbrev s__law_rising : Stmt := topS 29
abbrev s__law_steps : Stmt := topS 30
abbrev s_law : Stmt := topS 31
/-- a def of the top -/
structure Df (K : PySem.W.Frag) (mg : Str → Option Value) (x : Str) (st : Stmt) (ps : List Str) (f : Addr) (fd : FuncData) : Prop where
  F : Fun K x x st f fd
  g : mg x = some (.ref f)
  b : Binds K fd ps []
/-- the built-in names -/
structure Bl (mg : Str → Option Value) : Prop where
  max : mg "max" = none
  min : mg "min" = none
  len : mg "len" = none
  range : mg "range" = none
  type : mg "type" = none
  int : mg "int" = none
  list : mg "list" = none
  tuple : mg "tuple" = none
  dict : mg "dict" = none
  bool : mg "bool" = none
  abs : mg "abs" = none
  sorted : mg "sorted" = none
  enumerate : mg "enumerate" = none
  isinstance : mg "isinstance" = none
  repr : mg "repr" = none
  str : mg "str" = none
  all : mg "all" = none
  any : mg "any" = none
  zip : mg "zip" = none
  reversed : mg "reversed" = none
  sum : mg "sum" = none
end Toy

-- part: P1q
namespace Toy
open PySem L2
end Toy

-- part: L0q
namespace Toy
open PySem L2
abbrev sMixed : Stmt := s__law_mixed
theorem scMixed : FnScope ["cell", "k", "mix"] ["cell", "k"] (defScope sMixed) := ⟨rfl, rfl, rfl, by decide +kernel, rfl, by decide +kernel, by decide +kernel⟩
def spMixed : Sp := fun vs H Q _ => ∃ (c k : Int), vs = [.int c, .int k] ∧ 0 ≤ k ∧ k < 127 ∧ ∀ r : Int, 0 ≤ r → r < 2147483399 → Q (.int r) H
section
variable {P : Program} {w : World} {K : PySem.W.Frag} {mg : Str → Option Value} {base : Heap}
theorem ok_mixed {f : Addr} {fd : FuncData} (F : Fun K "_law_mixed" "_law_mixed" sMixed f fd) : FnOk P w K mg base CX0 1 f fd ["cell", "k"] spMixed := by
  refine F.ok scMixed (fun vs H Q E h => ?_) (fun cdv A outer s H vs Q E hr h => ?_)
  · obtain ⟨c, k, rfl, _⟩ := h
    rfl
  · obtain ⟨c, k, rfl, k0, k1, q⟩ := h
    refine ⟨_, pss_cons (ps_set (i := 2) scMixed.nd rfl (Or.inl rfl)
        (pe_op op_modN (pe_op op_pow (pe_op op_modN (pe_op op_mul (pe_op op_add (pe_op op_add (pe_op op_modN (pv 0) pe_int) (pe_op op_mul pe_int (pv 1))) pe_int) pe_int) pe_int) pe_int) pe_int))
      (pss_cons (ps_if (pt_cmpR op_lt (pv 0) (pe_op op_pow pe_int pe_int) (nomark _)) (pss_one (ps_ret (pv 2))) pss_nil)
      (pss_one (ps_ret (pe_op op_modN (pe_op op_add (pv 2) (pe_op op_modN (pe_op op_fdivW (pv 0) (pe_op op_pow pe_int pe_int)) (pe_op op_add pe_int (pe_op op_mul (pe_op op_add (pv 1) pe_int) pe_int)))) pe_int)))), ?_⟩
    show tSeq _ _ _ [some (.int c), some (.int k), none] H
    walk_at "rd"
    have m0 : ∀ a : Int, 0 ≤ a.fmod 2147483399 ∧ a.fmod 2147483399 < 2147483399 := fun a => by
      rw [Int.fmod_eq_emod_of_nonneg _ (by decide)]
      omega
    have m1 := m0 c
    have m2 := m0 ((c.fmod 2147483399 + 104729 * k + 11) * 48271)
    generalize c.fmod 2147483399 = x at *
    generalize ((x + 104729 * k + 11) * 48271).fmod 2147483399 = y at *
    have m3 := m0 (y ^ Int.toNat 5)
    refine ⟨by decide, .inl ⟨by decide, by decide⟩, .inl ⟨by omega, by omega⟩, by decide, ⟨by decide, by decide, by omega⟩, by decide, ⟨by decide, by decide, by decide⟩, ite2 (fun _ => q _ m3.1 m3.2) (fun _ => ?_)⟩
    have big : (1 : Int) + (k + 1) * 4014476939333036189094441199026045136645885247730 ≠ 0 := by omega
    refine ⟨⟨by decide, by decide, by decide⟩, wide_div (b := 60) (by decide) (by decide) (by decide) (by decide), .inl ⟨by omega, by omega⟩, big, by decide, q _ (m0 _).1 (m0 _).2⟩
abbrev sNext : Stmt := s__law_next
theorem scNext : FnScope ["draw", "size", "at", "many", "cell"] ["draw", "size"] (defScope sNext) := ⟨rfl, rfl, rfl, by decide +kernel, rfl, by decide +kernel, by decide +kernel⟩
def spNext (K : PySem.W.Frag) : Sp := fun vs H Q _ => ∃ (d : Addr) (z : Int) (sc : Addr) (ns : List Int), vs = [.ref d, .int z] ∧ 0 < z ∧ DrA K sc ns H d ∧ ∀ (r : Int) (H' : Hp), 0 ≤ r → r < z → Ex d H H' → DrA K sc ns H' d → Q (.int r) H'
theorem ok_next {f fM : Addr} {fd fdM : FuncData} (F : Fun K "_law_next" "_law_next" sNext f fd) (B : Bl mg) (M : Df K mg "_law_mixed" sMixed ["cell", "k"] fM fdM) : FnOk P w K mg base CX0 2 f fd ["draw", "size"] (spNext K) := by
  have GM : FnOk P w K mg base CX0 1 fM fdM ["cell", "k"] spMixed := ok_mixed M.F
  refine F.ok scNext (fun vs H Q E h => ?_) (fun cdv A outer s H vs Q E hr h => ?_)
  · obtain ⟨c, k, sc, ns, rfl, _⟩ := h
    rfl
  · obtain ⟨d, z, sc, ns, rfl, z0, ⟨n, D⟩, q⟩ := h
    have hu := hu_of hr
    refine ⟨_, pss_cons (ps_set (i := 2) scNext.nd rfl (Or.inl rfl) (pe_ix ix_list (pv 0) pe_int (fun _ _ => rfl)))
      (pss_cons (ps_asg (pe_op op_add (pv 2) pe_int) (pg_sub (pv 0) pe_int set_list))
      (pss_cons (ps_set (i := 3) scNext.nd rfl (Or.inl rfl) (pe_callB (call_max2 rfl) (by rfl) B.max (by decide +kernel) (pa_cons pe_int (pa_cons (pe_callB call_len_seq (by rfl) B.len PySem.boot_len (pa_cons (pe_ix ix_list (pv 0) pe_int (fun _ _ => rfl)) pa_nil)) pa_nil))))
      (pss_cons (ps_set (i := 4) scNext.nd rfl (Or.inl rfl) pe_int)
      (pss_cons (ps_if (pt_cmpR (op_neD hr.units) (pe_ix ix_list (pv 0) pe_int (fun _ _ => rfl)) (pe_lst pa_nil) (nomark _)) (pss_one (ps_set (i := 4) scNext.nd rfl (Or.inl rfl) (pe_ix ix_list (pe_ix ix_list (pv 0) pe_int (fun _ _ => rfl)) (pe_op op_modN (pv 2) (pv 3)) (fun _ _ => rfl)))) pss_nil)
      (pss_one (ps_ret (pe_op op_modN (pe_op op_fdivN (pe_call GM hr rfl M.g M.F.kp M.b .nil pass0 (pa_cons (pv 4) (pa_cons (pe_op op_modN (pe_op op_fdivN (pv 2) (pv 3)) pe_int) pa_nil))) pe_int) (pv 1)))))))), ?_⟩
    show tSeq _ _ _ [some (.ref d), some (.int z), none, none, none] H
    walk_at "rd"
    refine p_ix (SqL.of D.dr) (i := 1) (v := .int n) rfl ?_
    walk_at "rd"
    refine p_set D.dr (j := 1) rfl ?_
    have D1 : Dr K (upd H d (.lst [.ref sc, .int (n + 1)])) d sc ns (n + 1) := ⟨upd_same, Dr.sqx D Ex.at, D.len, by have := D.pos; omega⟩
    refine p_ix (SqL.of D1.dr) (i := 0) (v := .ref sc) rfl ?_
    refine ⟨_, _, rfl, .inl D1.sq, ?_⟩
    walk_at "rd"
    refine p_ix (SqL.of D1.dr) (i := 0) (v := .ref sc) rfl ?_
    walk_at "rd"
    refine ⟨Nat.zero_le _, fun p hp => ?_⟩
    refine p_neD (.lst (Same.seq (Same.new hp) D1.sq) (dp_ints ns)) (.lst (SqL.of upd_same) .nil) (shaped_lints ns) (by decide) ?_
    walk_at "rd"
    rw [List.length_map]
    have D2 : Dr K (upd (upd H d (.lst [.ref sc, .int (n + 1)])) p (.lst [])) d sc ns (n + 1) := ⟨Same.new hp _ _ D1.dr, Same.seq (Same.new hp) D1.sq, D.len, D1.pos⟩
    have X2 : Ex d H (upd (upd H d (.lst [.ref sc, .int (n + 1)])) p (.lst [])) := Ex.trans Ex.at (Ex.same (Same.new hp))
    generalize upd (upd H d (.lst [.ref sc, .int (n + 1)])) p (.lst []) = H2 at *
    have hm : ∃ m : Int, (if (ns.length : Int) > 1 then (ns.length : Int) else 1) = m ∧ 0 < m ∧ m ≤ 63 ∧ (ns ≠ [] → m = ns.length) := by
      have l := D.len
      refine ⟨_, rfl, ?_⟩
      by_cases c : (ns.length : Int) > 1
      · rw [if_pos c]
        exact ⟨by omega, by omega, fun _ => rfl⟩
      · rw [if_neg c]
        refine ⟨by decide, by decide, fun e => ?_⟩
        have := List.length_pos_iff.mpr e
        omega
    obtain ⟨m, em, m0, m1, m2⟩ := hm
    rw [em]
    have n0 := D.pos
    have fin : ∀ c : Int, CDivN n m ∧ (127 : Int) ≠ 0 ∧ spMixed [V.int c, V.int ((n.fdiv m).fmod 127)] H2 (fun x H1 => rI CDivN (fun i j => V.int (i.fdiv j)) x (V.int 7) H1 fun x H1 => rI (fun x j => j ≠ 0) (fun i j => V.int (i.fmod j)) x (V.int z) H1 Q) E0 := by
      intro c
      refine ⟨⟨by omega, by omega⟩, by decide, c, _, rfl, ?_, ?_, fun r r0 r1 => ?_⟩
      · rw [Int.fmod_eq_emod_of_nonneg _ (by decide)]; omega
      · rw [Int.fmod_eq_emod_of_nonneg _ (by decide)]; omega
      · walk_at "rd"
        refine ⟨⟨by decide, by decide⟩, by omega, ?_⟩
        rw [Int.fmod_eq_emod_of_nonneg _ (by omega)]
        exact q _ _ (Int.emod_nonneg _ (by omega)) (Int.emod_lt_of_pos _ z0) X2 ⟨_, D2⟩
    refine ite2 (fun hc => ?_) (fun _ => fin 0)
    have hne : ns ≠ [] := fun e => by subst e; exact absurd hc (by decide)
    refine p_ix (SqL.of D2.dr) (i := 0) (v := .ref sc) rfl ?_
    refine ⟨by omega, ?_⟩
    obtain ⟨c, hc⟩ := at_ints (ns := ns) (i := n.fmod m) (by rw [Int.fmod_eq_emod_of_nonneg _ (by omega)]; exact Int.emod_nonneg _ (by omega)) (by rw [Int.fmod_eq_emod_of_nonneg _ (by omega), ← m2 hne]; exact Int.emod_lt_of_pos _ m0)
    exact p_ix D2.sq hc (fin c)
end
end Toy

-- part: D1
namespace Toy
open PySem L2
/-! ### how many unlike ones -/
def dist (l : List Int) : Nat := (l.foldl addU []).length
theorem dist_snoc (l : List Int) (k : Int) : dist (l ++ [k]) = if k ∈ l then dist l else dist l + 1 := by
  unfold dist
  rw [List.foldl_append]
  show (addU (l.foldl addU []) k).length = _
  have m : k ∈ l.foldl addU [] ↔ k ∈ l := by
    have : ∀ (l ks : List Int), k ∈ l.foldl addU ks ↔ k ∈ ks ∨ k ∈ l := by
      intro l
      induction l with
      | nil => intro ks; simp
      | cons a l ih =>
        intro ks
        rw [List.foldl_cons, ih, mem_add, List.mem_cons]
        constructor
        · rintro ((h | h) | h)
          · exact .inl h
          · exact .inr (.inl h)
          · exact .inr (.inr h)
        · rintro (h | h | h)
          · exact .inl (.inl h)
          · exact .inl (.inr h)
          · exact .inr h
    rw [this]
    simp
  generalize l.foldl addU [] = R at *
  unfold addU
  by_cases h : k ∈ l
  · rw [if_pos (m.mpr h), if_pos h]
  · rw [if_neg fun z => h (m.mp z), if_neg h, List.length_append]
    rfl
theorem dist_le : ∀ n : Nat, ∀ l : List Int, l.length = n → dist l ≤ n
  | 0, l, h => by
    rw [List.eq_nil_of_length_eq_zero h]
    exact Nat.le_refl _
  | n + 1, l, h => by
    obtain ⟨r, k, rfl⟩ : ∃ (r : List Int) (k : Int), l = r ++ [k] := ⟨_, _, (List.dropLast_concat_getLast (fun z => by rw [z] at h; cases h)).symm⟩
    have hr : r.length = n := by
      rw [List.length_append] at h
      exact Nat.succ.inj h
    have ih := dist_le n r hr
    rw [dist_snoc]
    split <;> omega
theorem dist_nodup : ∀ n : Nat, ∀ l : List Int, l.length = n → (dist l = n ↔ l.Nodup)
  | 0, l, h => by
    rw [List.eq_nil_of_length_eq_zero h]
    exact ⟨fun _ => List.nodup_nil, fun _ => rfl⟩
  | n + 1, l, h => by
    obtain ⟨r, k, rfl⟩ : ∃ (r : List Int) (k : Int), l = r ++ [k] := ⟨_, _, (List.dropLast_concat_getLast (fun z => by rw [z] at h; cases h)).symm⟩
    have hr : r.length = n := by
      rw [List.length_append] at h
      exact Nat.succ.inj h
    have ih := dist_nodup n r hr
    have le := dist_le n r hr
    rw [dist_snoc, List.nodup_append]
    constructor
    · intro e
      split at e
      · omega
      · rename_i hk
        refine ⟨ih.mp (by omega), by simp, fun a ha b hb => ?_⟩
        rw [List.mem_singleton.mp hb]
        exact fun z => hk (z ▸ ha)
    · rintro ⟨h1, _, h3⟩
      rw [if_neg fun hk => h3 k hk k (List.mem_singleton.mpr rfl) rfl, ih.mpr h1]
/-! ### types -/
def SqA (K : PySem.W.Frag) (H : Hp) (p : Addr) (xs : List V) : Prop := SqL K H p xs ∨ SqT K H p xs
theorem Same.sqt {K : PySem.W.Frag} {H H' : Hp} {a : Addr} {xs : List V} (e : Same H H') (h : SqT K H a xs) : SqT K H' a xs := by
  rcases h with (h | ⟨o, h⟩) | h
  · exact .inl (.inl (e _ _ h))
  · exact .inl (.inr ⟨o, e _ _ h⟩)
  · exact .inr h
theorem SqA.same {K : PySem.W.Frag} {H H' : Hp} {p : Addr} {xs : List V} (e : Same H H') (h : SqA K H p xs) : SqA K H' p xs := h.elim (fun h => .inl (Same.seq e h)) fun h => .inr (Same.sqt e h)
theorem SqA.ty {K : PySem.W.Frag} {H : Hp} {p : Addr} {xs : List V} (h : SqA K H p xs) : ∃ T, TyB K H (.ref p) T ∧ (["list", "tuple"].contains T) = true := h.elim (fun h => ⟨"list", .lst h, by decide⟩) fun h => ⟨"tuple", .tup h, by decide⟩

theorem Kn.tup {K : PySem.W.Frag} {T : String} (h : Kn T) : PySem.W.kitOne K (.type T) (.type "tuple") = some (decide (T = "tuple")) := by
  rcases h with rfl | rfl | rfl | rfl | rfl | rfl | rfl | rfl <;> rfl
theorem Kn.bool {K : PySem.W.Frag} {T : String} (h : Kn T) : PySem.W.kitOne K (.type T) (.type "bool") = some (decide (T = "bool")) := by
  rcases h with rfl | rfl | rfl | rfl | rfl | rfl | rfl | rfl <;> rfl
theorem Kn.int {K : PySem.W.Frag} {T : String} (h : Kn T) : PySem.W.kitOne K (.type T) (.type "int") = some (decide (T = "int" ∨ T = "bool")) := by
  rcases h with rfl | rfl | rfl | rfl | rfl | rfl | rfl | rfl <;> rfl
theorem TyB.x {K : PySem.W.Frag} {H : Hp} {x : V} {T : String} (t : TyB K H x T) : TyX K H x (.type T) := by
  cases t with
  | non => exact .base .non
  | bl b => exact .base (.bl b)
  | int i => exact .base (.int i)
  | str z => exact .base (.str z)
  | byt b => exact .byt b
  | lst h =>
    rcases h with (h | ⟨o, h⟩) | ⟨o, its, n, lk, c, _⟩
    · exact .base (.lst h)
    · exact .base (.frz h)
    · exact .kList lk c
  | tup h =>
    rcases h with (h | ⟨o, h⟩) | ⟨o, its, n, lk, c, _⟩
    · exact .base (.tup h)
    · exact .fTuple h
    · exact .kTuple lk c
  | dK h => exact .base (.dK h)
theorem TyB.same {K : PySem.W.Frag} {H H' : Hp} (e : Same H H') {y : V} {T : String} (t : TyB K H y T) : TyB K H' y T := by
  cases t with
  | non => exact .non
  | bl b => exact .bl b
  | int i => exact .int i
  | str z => exact .str z
  | byt b => exact .byt b
  | lst h => exact .lst (Same.seq e h)
  | tup h => exact .tup (Same.sqt e h)
  | dK h => exact .dK (e _ _ h)
theorem seq_gen {t1 rest : TS} {D : Ends} {σ : St} {H : Hp} (Good : St → Hp → Prop) (h1 : ∀ nx : St → Hp → Prop, (∀ σ' H', Good σ' H' → nx σ' H') → t1 { D with nx := nx } σ H) (h2 : ∀ σ' H', Good σ' H' → rest D σ' H') : tSeq t1 rest D σ H := h1 _ h2
/-- the turns of a comprehension of numbers, whatever it goes over -/
theorem st_it {J : It} {n : Nat} {G : Hp → Prop} {Y : Nat → Hp → V → Hp → Prop} (wk : Walk J n G Y) {w : World} {g : TG} {te : TE} {vs : List Nat} {σ : St} {H1 : Hp} {D : Addr} {Qd : Hp → Prop} (Pv : Nat → Hp → Prop) (h0 : Pv 0 (upd H1 D (SetO w D (fun _ => false) 0)))
    (hG : ∀ i H, i ≤ n → Pv i H → G H) (hs : ∀ i x H H', i < n → Pv i H → Y i H x H' → SetTurn w g te vs σ D (Pv (i + 1)) x H') (hd : ∀ H, Pv n H → Qd H) :
    ∃ W : Nat → Nat → Hp → Prop, (∃ m, W 0 m (upd H1 D (SetO w D (fun _ => false) 0))) ∧
      ∀ i m Hi, W i m Hi → (J.stop i Hi ∧ Qd Hi) ∨ (J.go i Hi ∧ ∃ Nx : Hp → Prop, (∀ H', Nx H' → ∃ m', m' < m ∧ W (i + 1) m' H') ∧ ∀ x H', J.yld i Hi x H' → SetTurn w g te vs σ D Nx x H') := by
  refine ⟨fun i m H => i + m = n ∧ Pv i H, ⟨n, Nat.zero_add n, h0⟩, fun i m Hi ⟨e, p⟩ => ?_⟩
  have st := hG i Hi (by omega) p
  cases m with
  | zero =>
    have e0 : i = n := e
    subst e0
    exact .inl ⟨wk.stops Hi st, hd Hi p⟩
  | succ m => exact .inr ⟨wk.goes i Hi (by omega) st, Pv (i + 1), fun H' p' => ⟨m, Nat.lt_succ_self m, by omega, p'⟩, fun x H' y => hs i x Hi H' (by omega) p (wk.yields i Hi x H' (by omega) st y)⟩
theorem itT {A B : Prop} (h : A) : if True then A else B := by rw [if_pos trivial]; exact h
theorem kn_tup : Kn "tuple" := .inr (.inr (.inr (.inr (.inr (.inl rfl)))))
theorem yesT {σ : St} {H : Hp} {a b : Hp → Prop} (h : a H) : tYes σ H fun b' H3 => if b' = true then a H3 else b H3 := h
end Toy

-- part: R0
namespace Toy
open PySem L2
/-! ### texts of numbers and rows, free of the program -/
def numS (i : Int) : Str := toString i
/-- the letters with blanks between -/
def ltrS (c : List Int) : Str := Txt.join " " (c.map numS)
def rowS (c : List Int) : Str := if c = [] then "-" else ltrS c
def FitN (n b : Nat) (l : List Int) : Prop := l.length ≤ n ∧ ∀ x ∈ l, x.natAbs ≤ b
theorem num_len {x : Int} (h : x.natAbs ≤ 99999) : (numS x).length ≤ 6 := by
  have e := PySem.int_text_length_le10 (a := x) (k := 5) (by decide) (by omega)
  show (Str.ofString (toString x)).length ≤ 6
  rw [PySem.ofString_length]
  exact e
theorem num_log {x : Int} (h : x.natAbs ≤ 99999) : x.natAbs.log2 < 1920 := by
  by_cases h0 : x.natAbs = 0
  · rw [h0]
    decide
  · exact Nat.lt_trans ((Nat.log2_lt (k := 17) h0).mpr (by omega)) (by decide)
theorem nat_len (m : Nat) : 1 ≤ (Nat.repr m).length := by simpa [Nat.repr] using PySem.toDigits_len_ge 10 m
theorem num_pos (x : Int) : 1 ≤ (numS x).length := by
  show 1 ≤ (Str.ofString (toString x)).length
  rw [PySem.ofString_length]
  cases x with
  | ofNat m => exact nat_len m
  | negSucc m =>
    have e : toString (Int.negSucc m) = "-" ++ Nat.repr (m + 1) := rfl
    rw [e, String.length_append]
    have e1 : "-".length = 1 := rfl
    omega
theorem sum_le : ∀ (c : List Int), (∀ x ∈ c, x.natAbs ≤ 99999) → ((c.map numS).map (·.length)).sum ≤ c.length * 6
  | [], _ => Nat.le_refl _
  | x :: r, h => by
    have h1 := num_len (h x List.mem_cons_self)
    have h2 := sum_le r fun y hy => h y (List.mem_cons_of_mem _ hy)
    rw [List.map_cons, List.map_cons, List.sum_cons, List.length_cons]
    omega
theorem join_le (y : Str) : ∀ parts : List Str, (Str.join y parts).length ≤ (parts.map (·.length)).sum + parts.length * y.length
  | [] => by show 0 ≤ _; exact Nat.zero_le _
  | [x] => by show x.length ≤ _; simp
  | x :: z :: r => by
    have ih := join_le y (z :: r)
    have e : Str.join y (x :: z :: r) = x ++ y ++ Str.join y (z :: r) := rfl
    rw [e, strLen_append, strLen_append, List.map_cons, List.sum_cons, List.length_cons, Nat.add_mul, Nat.one_mul]
    omega
theorem join_ge (y : Str) : ∀ (x : Str) (r : List Str), x.length ≤ (Str.join y (x :: r)).length
  | x, [] => by show x.length ≤ x.length; omega
  | x, z :: r => by
    have e : Str.join y (x :: z :: r) = x ++ y ++ Str.join y (z :: r) := rfl
    rw [e, strLen_append, strLen_append]
    omega
theorem ltrS_len {c : List Int} (h : FitN 1000 99999 c) : (ltrS c).length ≤ c.length * 7 := by
  have h4 := sum_le c h.2
  have h5 := join_le " " (c.map numS)
  have e1 : ((" " : Str)).length = 1 := rfl
  unfold ltrS
  rw [TL.join_eq]
  rw [List.length_map, e1] at h5
  omega
theorem ltrS_pos {c : List Int} (h : c ≠ []) : 1 ≤ (ltrS c).length := by
  cases c with
  | nil => exact absurd rfl h
  | cons x r =>
    have h1 := num_pos x
    have h2 := join_ge " " (numS x) (r.map numS)
    unfold ltrS
    rw [TL.join_eq, List.map_cons]
    omega
theorem rowS_len {c : List Int} (h : FitN 1000 99999 c) : (rowS c).length ≤ 7001 := by
  unfold rowS
  split
  · decide
  · have := ltrS_len h
    have := h.1
    omega
theorem FitN.mono {n b n' b' : Nat} {c : List Int} (h : FitN n b c) (hn : n ≤ n') (hb : b ≤ b') : FitN n' b' c := ⟨Nat.le_trans h.1 hn, fun x hx => Nat.le_trans (h.2 x hx) hb⟩
/-! ### pairs of lists -/
theorem pr_snoc {α β : Type} {F : α → β → Prop} {x : α} {y : β} (h : F x y) : ∀ {l : List α} {m : List β}, Paired F l m → Paired F (l ++ [x]) (m ++ [y])
  | _, _, .nil => .cons h .nil
  | _, _, .cons a t => .cons a (pr_snoc h t)
theorem pr_imp {α β : Type} {F G : α → β → Prop} (h : ∀ x y, F x y → G x y) : ∀ {l : List α} {m : List β}, Paired F l m → Paired G l m
  | _, _, .nil => .nil
  | _, _, .cons a t => .cons (h _ _ a) (pr_imp h t)
theorem pr_len {α β : Type} {F : α → β → Prop} : ∀ {l : List α} {m : List β}, Paired F l m → l.length = m.length
  | _, _, .nil => rfl
  | _, _, .cons _ t => by rw [List.length_cons, List.length_cons, pr_len t]
theorem pr_get {α β : Type} {F : α → β → Prop} {x : α} : ∀ {l : List α} {m : List β} {i : Nat}, Paired F l m → l[i]? = some x → ∃ y, m[i]? = some y ∧ F x y
  | _, _, _, .nil, h => by simp at h
  | _, _, 0, .cons a _, h => by simp at h; subst h; exact ⟨_, rfl, a⟩
  | _, _, i + 1, .cons _ t, h => by
    rw [List.getElem?_cons_succ] at h
    obtain ⟨y, h1, h2⟩ := pr_get t h
    exact ⟨y, by rw [List.getElem?_cons_succ]; exact h1, h2⟩
theorem can_ints' : ∀ (l : List Int), PyData.canLayAll0 (l.map PyData.int) = true
  | [] => by simp [PyData.canLayAll0]
  | i :: r => by simp [PyData.canLayAll0, PyData.canLay0, can_ints' r]
theorem p_ixT {K : PySem.W.Frag} {H : Hp} {Q : VK} {p : Addr} {xs : List V} {i : Int} {v : V} (h : SqT K H p xs) (e : atI xs i = some v) (q : Q v H) : rIxT K (.ref p) (.int i) H Q := ⟨p, xs, i, v, rfl, rfl, h, e, q⟩
/-- how a text of letters is made -/
def tLetS (i : Nat) : TE := tCB (fun xs H Q => ∃ i : Int, xs = [.int i] ∧ i.natAbs.log2 < 1920 ∧ Q (.str (toString i)) H) (tCons (tVar i) tNil)
end Toy

-- part: R1
namespace Toy
open PySem L2
section
variable {P : Program} {w : World} {K : PySem.W.Frag} {mg : Str → Option Value} {base : Heap}
abbrev sLR : Stmt := s_letters_row
theorem scLR : FnScope ["letters", "letter"] ["letters"] (defScope sLR) := ⟨rfl, rfl, rfl, by decide +kernel, rfl, by decide +kernel, by decide +kernel⟩
def spLR (K : PySem.W.Frag) : Sp := fun vs H Q _ => ∃ a c, vs = [.ref a] ∧ SqT K H a (c.map V.int) ∧ FitN 1000 99999 c ∧ ∀ H', Same H H' → Q (.str (ltrS c)) H'
theorem ok_lr {f : Addr} {fd : FuncData} (F : Fun K "letters_row" "letters_row" sLR f fd) (B : Bl mg) : FnOk P w K mg base CX0 1 f fd ["letters"] (spLR K) := by
  refine F.ok scLR (fun vs H Q E h => ?_) (fun cdv A outer s H vs Q E hr h => ?_)
  · obtain ⟨a, c, rfl, _⟩ := h
    rfl
  · obtain ⟨a, c, rfl, ha, ⟨hc, hx⟩, q⟩ := h
    have hu := hu_of hr
    refine ⟨_, pss_one (ps_ret (pe_join pe_str (pe_lc (own := [("letter", 1)]) (g := gName 1) (tt := tYes) (te := tLetS 1) rfl scLR.nd (pi_tup (pv 0)) (blkOk_by (own := [("letter", 1)]) (N := ["letters", "letter"]) (sc := defScope sLR) (by decide +kernel))
        (fun _ _ _ _ _ => pg_name (i := 1) scLR.nd rfl (Or.inl rfl)) (fun _ _ _ _ _ => pts_nil) (fun _ _ _ _ _ => pe_callTy (T := "str") call_str_int (by rfl) B.str (by decide +kernel) (pa_cons (pv 1) pa_nil))))), ?_⟩
    show tRet _ _ [some (.ref a), none] H
    walk_at "rd"
    refine ⟨⟨_, rfl⟩, _, rfl, a, rfl, ⟨_, ha⟩, fun D hD => lc_tup (K := K) (a := a) (xs := c.map V.int) (fun j Hj => Same H Hj ∧ Hj D = some (.lst ((c.take j).map fun i => V.str (numS i)))) ⟨Same.new hD, upd_same⟩ (fun j Hj _ ⟨e, _⟩ => Same.sqt e ha) ?_ ?_⟩
    · rintro j x Hj hj ⟨ej, hDj⟩
      rw [List.getElem?_map] at hj
      cases ez : c[j]? with
      | none => rw [ez] at hj; cases hj
      | some z =>
      rw [ez] at hj
      cases hj
      have hjl : j < c.length := (List.getElem?_eq_some_iff.mp ez).1
      have hz := hx z (List.mem_of_getElem? ez)
      refine ⟨rfl, yesT ?_⟩
      refine ⟨_, rfl, z, rfl, num_log hz, _, hDj, by rw [List.length_map, List.length_take]; exact small1000 (by omega), fun b o hb => ?_, ?_⟩
      · rw [upd_ne (ne_of_none hb hD)]
        exact ej b o hb
      · rw [upd_same, List.take_add_one, ez]
        simp only [Option.toList_some, List.map_append, List.map_cons, List.map_nil]
        rfl
    · rintro Hj ⟨ej, hDj⟩
      rw [List.length_map, List.take_length] at hDj
      refine ⟨" ", D, c.map numS, rfl, rfl, .inl (SqL.of (by rw [hDj, List.map_map]; rfl)), ?_, q Hj ej⟩
      have h4 := sum_le c hx
      have e1 : ((" " : Str)).length = 1 := rfl
      rw [List.length_map, e1]
      omega
abbrev sCR : Stmt := s_clause_row
theorem scCR : FnScope ["clause"] ["clause"] (defScope sCR) := ⟨rfl, rfl, rfl, by decide +kernel, rfl, by decide +kernel, by decide +kernel⟩
def spCR (K : PySem.W.Frag) : Sp := fun vs H Q _ => ∃ a c, vs = [.ref a] ∧ SqT K H a (c.map V.int) ∧ FitN 1000 99999 c ∧ ∀ H', Same H H' → Q (.str (rowS c)) H'
theorem ok_cr {f fL : Addr} {fd fdL : FuncData} (F : Fun K "clause_row" "clause_row" sCR f fd) (B : Bl mg) (gE : ∃ t, mg "_EMPTY" = some (.str "-" t)) (L : Df K mg "letters_row" sLR ["letters"] fL fdL) : FnOk P w K mg base CX0 2 f fd ["clause"] (spCR K) := by
  have GL : FnOk P w K mg base CX0 1 fL fdL ["letters"] (spLR K) := ok_lr L.F B
  obtain ⟨te, hE⟩ := gE
  refine F.ok scCR (fun vs H Q E h => ?_) (fun cdv A outer s H vs Q E hr h => ?_)
  · obtain ⟨a, c, rfl, _⟩ := h
    rfl
  · obtain ⟨a, c, rfl, ha, hf, q⟩ := h
    have hu := hu_of hr
    refine ⟨_, pss_one (ps_ret (pe_ifExp (pt_cmpR (op_eqD hr.units) (pv 0) (pe_tup pa_nil) (nomark _)) (pe_glob rfl hE (v := .str "-") ⟨_, rfl⟩) (pe_call GL hr rfl L.g L.F.kp L.b .nil pass0 (pa_cons (pv 0) pa_nil)))), ?_⟩
    show tRet _ _ [some (.ref a)] H
    walk_at "rd"
    refine ⟨Nat.zero_le _, fun p hp => ?_⟩
    have s1 : Same H (upd H p (.tup [])) := Same.new hp
    refine p_eqD (d := .tuple (c.map PyData.int)) (e := .tuple []) (.tup (Same.sqt s1 ha) (dp_ints c)) (.tup (SqT.of upd_same) .nil) ?_ (by decide) ?_
    · have h := dep_ints c
      unfold SeqAt.shaped
      rw [Bool.and_eq_true]
      refine ⟨by simp [PyData.canLay0, can_ints'], decide_eq_true ?_⟩
      simp only [PyData.depth]
      omega
    generalize upd H p (.tup []) = H1 at *
    have ee : PyData.eqv (.tuple (c.map PyData.int)) (.tuple []) = decide (c = []) := by
      simp only [PyData.eqv]
      cases c with
      | nil => rfl
      | cons x r => rfl
    rw [ee]
    unfold rowS at q
    by_cases h0 : c = []
    · rw [if_pos h0] at q
      rw [decide_eq_true h0]
      walk_at "rd"
      exact q H1 s1
    · rw [if_neg h0] at q
      rw [decide_eq_false h0]
      walk_at "rd"
      exact iteF ⟨a, c, rfl, Same.sqt s1 ha, hf, fun H' e' => q H' (Same.trans s1 e')⟩
/-! ### steps -/
inductive Sd where
  | two (w : Str) (c : List Int)
  | trd (i : Int) (c : List Int)
def SdOk : Sd → Prop
  | .two w c => (((w = "order" ∨ w = "turn") ∧ c ≠ []) ∨ w = "learn" ∨ w = "pure" ∨ w = "drop") ∧ FitN 100 999 c
  | .trd i c => c ≠ [] ∧ FitN 100 999 c ∧ 0 ≤ i ∧ i ≤ 9999
def SdLow : Sd → Prop
  | .two w c => (∀ x ∈ c, 1 ≤ x.natAbs) ∧ (w = "learn" ∨ w = "pure" ∨ w = "drop" → c.Pairwise fun a b => a.natAbs < b.natAbs)
  | .trd _ c => ∀ x ∈ c, 1 ≤ x.natAbs
def StepAt (H : Hp) (a : Addr) : Sd → Prop
  | .two w c => ∃ b, H a = some (.tup [.str w, .ref b]) ∧ H b = some (.tup (c.map V.int))
  | .trd i c => ∃ b, H a = some (.tup [.str "turned", .int i, .ref b]) ∧ H b = some (.tup (c.map V.int))
theorem StepAt.same {H H' : Hp} {a : Addr} (e : Same H H') : ∀ {s : Sd}, StepAt H a s → StepAt H' a s
  | .two _ _, ⟨b, h1, h2⟩ => ⟨b, e _ _ h1, e _ _ h2⟩
  | .trd _ _, ⟨b, h1, h2⟩ => ⟨b, e _ _ h1, e _ _ h2⟩
def sdText : Sd → Str
  | .two w c => w ++ " " ++ rowS c
  | .trd i c => "turned " ++ numS i ++ " by " ++ rowS c
theorem sdText_len : ∀ {s : Sd}, SdOk s → (sdText s).length ≤ 8000
  | .two w c, ⟨h1, h2⟩ => by
    have h3 := rowS_len (h2.mono (n' := 1000) (b' := 99999) (by decide) (by decide))
    have h4 : w.length ≤ 6 := by
      rcases h1 with ⟨rfl | rfl, _⟩ | rfl | rfl | rfl <;> decide +kernel
    unfold sdText
    rw [strLen_append, strLen_append]
    have e1 : ((" " : Str)).length = 1 := rfl
    omega
  | .trd i c, ⟨_, h2, h5, h6⟩ => by
    have h3 := rowS_len (h2.mono (n' := 1000) (b' := 99999) (by decide) (by decide))
    have h4 := num_len (x := i) (by omega)
    unfold sdText
    rw [strLen_append, strLen_append, strLen_append]
    have e1 : (("turned " : Str)).length = 7 := by decide +kernel
    have e2 : ((" by " : Str)).length = 4 := by decide +kernel
    omega
abbrev StepsAt (H : Hp) (bs : List Addr) (ss : List Sd) : Prop := Paired (fun b s => StepAt H b s) bs ss
def stS (ss : List Sd) : Str := Txt.join "" (ss.map fun s => sdText s ++ "\n")
abbrev sRo : Stmt := s__row_of
theorem scRo : FnScope ["step", "word"] ["step"] (defScope sRo) := ⟨rfl, rfl, rfl, by decide +kernel, rfl, by decide +kernel, by decide +kernel⟩
def spRo (K : PySem.W.Frag) : Sp := fun vs H Q _ => ∃ a s, vs = [.ref a] ∧ StepAt H a s ∧ SdOk s ∧ ∀ H', Same H H' → Q (.str (sdText s)) H'
/-- the words that stand in the tuples of the module -/
structure Wds (K : PySem.W.Frag) (mg : Str → Option Value) (aL aC : Addr) : Prop where
  gL : mg "_LETTERS" = some (.ref aL)
  gC : mg "_CLAUSES" = some (.ref aC)
  sL : ∀ H, SqT K H aL [.str "order", .str "turn"]
  sC : ∀ H, SqT K H aC [.str "learn", .str "pure", .str "drop"]
  by' : ∃ t, mg "_BY" = some (.str " by " t)
theorem ok_ro {f fL fC aL aC : Addr} {fd fdL fdC : FuncData} (F : Fun K "_row_of" "_row_of" sRo f fd) (W : Wds K mg aL aC) (L : Df K mg "letters_row" sLR ["letters"] fL fdL) (GL : FnOk P w K mg base CX0 1 fL fdL ["letters"] (spLR K)) (C : Df K mg "clause_row" sCR ["clause"] fC fdC) (GC : FnOk P w K mg base CX0 2 fC fdC ["clause"] (spCR K)) :
    FnOk P w K mg base CX0 3 f fd ["step"] (spRo K) := by
  obtain ⟨tb, hB⟩ := W.by'
  refine F.ok scRo (fun vs H Q E h => ?_) (fun cdv A outer s H vs Q E hr h => ?_)
  · obtain ⟨a, c, rfl, _⟩ := h
    rfl
  · obtain ⟨a, st, rfl, ha, ok, q⟩ := h
    have hu := hu_of hr
    refine ⟨_, pss_cons (ps_set (i := 1) scRo.nd rfl (Or.inl rfl) (pe_ix ix_tup (pv 0) pe_int (fun _ _ => rfl)))
      (pss_cons (ps_if (pt_cmpR op_in_seq (pv 1) (pe_glob rfl W.gL (v := .ref aL) rfl) (by rfl)) (pss_one (ps_ret (pe_joined (PJ.cons (pe_fmt (pv 1)) (PJ.cons pe_str (PJ.cons (pe_fmt (pe_call GL (hr.mono (by decide)) rfl L.g L.F.kp L.b .nil pass0 (pa_cons (pe_ix ix_tup (pv 0) pe_int (fun _ _ => rfl)) pa_nil))) PJ.nil)))))) pss_nil)
      (pss_cons (ps_if (pt_cmpR op_in_seq (pv 1) (pe_glob rfl W.gC (v := .ref aC) rfl) (by rfl)) (pss_one (ps_ret (pe_joined (PJ.cons (pe_fmt (pv 1)) (PJ.cons pe_str (PJ.cons (pe_fmt (pe_call GC hr rfl C.g C.F.kp C.b .nil pass0 (pa_cons (pe_ix ix_tup (pv 0) pe_int (fun _ _ => rfl)) pa_nil))) PJ.nil)))))) pss_nil)
      (pss_one (ps_ret (pe_joined (PJ.cons (pe_fmt (pv 1)) (PJ.cons pe_str (PJ.cons (pe_fmt (pe_ix ix_tup (pv 0) pe_int (fun _ _ => rfl))) (PJ.cons (pe_fmt (pe_glob rfl hB (v := .str " by ") ⟨_, rfl⟩)) (PJ.cons (pe_fmt (pe_call GL (hr.mono (by decide)) rfl L.g L.F.kp L.b .nil pass0 (pa_cons (pe_ix ix_tup (pv 0) pe_int (fun _ _ => rfl)) pa_nil))) PJ.nil)))))))))), ?_⟩
    show tSeq _ _ _ [some (.ref a), none] H
    have eZ : sizeLine = 16777216 := rfl
    have e1 : ((" " : Str)).length = 1 := rfl
    cases st with
    | two wd c =>
      obtain ⟨b, h1, h2⟩ := ha
      obtain ⟨hw, hf⟩ := ok
      have hf' := hf.mono (n' := 1000) (b' := 99999) (by decide) (by decide)
      have wl : wd.length ≤ 6 := by rcases hw with ⟨rfl | rfl, _⟩ | rfl | rfl | rfl <;> decide +kernel
      have lr := rowS_len hf'
      walk_at "rd"
      refine p_ixT (SqT.of h1) (i := 0) (v := .str wd) rfl ?_
      refine ⟨aL, _, rfl, .inr (W.sL _), rfl, rfl, ?_⟩
      have e0 : ∀ z : Str, Str.empty ++ z = z := PySem.Str.empty_append
      rcases hw with ⟨hw, hc⟩ | hw
      · have ew : inV (.str wd) [.str "order", .str "turn"] = true := by rcases hw with rfl | rfl <;> decide +kernel
        have er : rowS c = ltrS c := if_neg hc
        rw [er] at lr
        refine ⟨true, by rw [ew]; rfl, ?_⟩
        refine iteT ⟨_, rfl, .inl ⟨wd, rfl, by omega, wd, rfl, by rw [e0]; omega, " ", rfl, by rw [e0, strLen_append]; omega, _, rfl, p_ixT (SqT.of h1) (i := 1) (v := .ref b) rfl ⟨b, c, rfl, SqT.of h2, hf', fun H' e' => .inl ⟨ltrS c, rfl, by omega, ltrS c, rfl, by rw [e0, strLen_append, strLen_append]; omega, ?_⟩⟩⟩⟩
        have t1 : sdText (.two wd c) = wd ++ " " ++ ltrS c := by
          show wd ++ " " ++ rowS c = _
          rw [er]
        have := q H' e'
        rw [t1] at this
        rw [e0]
        exact this
      · have ew : inV (.str wd) [.str "order", .str "turn"] = false := by rcases hw with rfl | rfl | rfl <;> decide +kernel
        have ec : inV (.str wd) [.str "learn", .str "pure", .str "drop"] = true := by rcases hw with rfl | rfl | rfl <;> decide +kernel
        refine ⟨false, by rw [ew]; rfl, iteF ?_⟩
        walk_at "rd"
        refine ⟨aC, _, rfl, .inr (W.sC _), rfl, rfl, ?_⟩
        refine ⟨true, by rw [ec]; rfl, ?_⟩
        refine iteT ⟨_, rfl, .inl ⟨wd, rfl, by omega, wd, rfl, by rw [e0]; omega, " ", rfl, by rw [e0, strLen_append]; omega, _, rfl, p_ixT (SqT.of h1) (i := 1) (v := .ref b) rfl ⟨b, c, rfl, SqT.of h2, hf', fun H' e' => .inl ⟨rowS c, rfl, by omega, rowS c, rfl, by rw [e0, strLen_append, strLen_append]; omega, ?_⟩⟩⟩⟩
        have := q H' e'
        unfold sdText at this
        rw [e0]
        exact this
    | trd i c =>
      obtain ⟨b, h1, h2⟩ := ha
      obtain ⟨hc, hf, i0, i9⟩ := ok
      have hf' := hf.mono (n' := 1000) (b' := 99999) (by decide) (by decide)
      have er : rowS c = ltrS c := if_neg hc
      have lr := rowS_len hf'
      rw [er] at lr
      have ln := num_len (x := i) (by omega)
      have e0 : ∀ z : Str, Str.empty ++ z = z := PySem.Str.empty_append
      have eb : ((" by " : Str)).length = 4 := by decide +kernel
      have et : (("turned " : Str)).length = 7 := by decide +kernel
      walk_at "rd"
      refine p_ixT (SqT.of h1) (i := 0) (v := .str "turned") rfl ?_
      refine ⟨aL, _, rfl, .inr (W.sL _), rfl, rfl, false, by decide +kernel, iteF ?_⟩
      walk_at "rd"
      refine ⟨aC, _, rfl, .inr (W.sC _), rfl, rfl, false, by decide +kernel, iteF ?_⟩
      walk_at "rd"
      have e7 : Str.empty ++ "turned" ++ " " = ("turned " : Str) := by decide +kernel
      refine ⟨_, rfl, .inl ⟨"turned", rfl, by decide +kernel, "turned", rfl, by decide +kernel, " ", rfl, by decide +kernel, _, rfl, ?_⟩⟩
      simp only [e_c]
      refine p_ixT (SqT.of h1) (i := 1) (v := .int i) rfl ?_
      refine .inr ⟨i, rfl, num_log (by omega), numS i, rfl, by rw [e7, strLen_append]; omega, ?_⟩
      refine .inl ⟨" by ", rfl, by decide +kernel, " by ", rfl, by rw [e7, strLen_append, strLen_append]; omega, _, rfl, ?_⟩
      simp only [e_c]
      refine p_ixT (SqT.of h1) (i := 2) (v := .ref b) rfl ⟨b, c, rfl, SqT.of h2, hf', fun H' e' => .inl ⟨ltrS c, rfl, by omega, ltrS c, rfl, by rw [e7, strLen_append, strLen_append, strLen_append]; omega, ?_⟩⟩
      have t1 : sdText (.trd i c) = "turned " ++ numS i ++ " by " ++ ltrS c := by
        show "turned " ++ numS i ++ " by " ++ rowS c = _
        rw [er]
      have := q H' e'
      rw [t1] at this
      rw [e7]
      exact this
end
end Toy

-- part: R2
namespace Toy
open PySem L2
section
variable {P : Program} {w : World} {K : PySem.W.Frag} {mg : Str → Option Value} {base : Heap}
theorem stS_sum : ∀ ss : List Sd, (∀ s ∈ ss, SdOk s) → ((ss.map fun s => sdText s ++ ("\n" : Str)).map (·.length)).sum ≤ ss.length * 8001
  | [], _ => Nat.le_refl _
  | x :: r, h => by
    have h1 := sdText_len (h x List.mem_cons_self)
    have h2 := stS_sum r fun y hy => h y (List.mem_cons_of_mem _ hy)
    have e1 : (("\n" : Str)).length = 1 := rfl
    rw [List.map_cons, List.map_cons, List.sum_cons, List.length_cons, strLen_append, e1]
    omega
/-- a step's row, by which a comprehension over a list or a tuple makes texts -/
theorem rows_step {H : Hp} {bs : List Addr} {ss : List Sd} {D : Addr} {j : Nat} {x : V} {Hj : Hp} (hs : StepsAt H bs ss) (ok : ∀ s ∈ ss, SdOk s) (l : ss.length ≤ 100) (hD : H D = none) (hj : (bs.map V.ref)[j]? = some x) (e : Same H Hj) (hDj : Hj D = some (.lst ((ss.take j).map fun s => V.str (sdText s ++ "\n")))) :
    ∃ b s, x = .ref b ∧ StepAt Hj b s ∧ SdOk s ∧ ∀ H', Same Hj H' → ((sdText s).length ≤ 8000 ∧ ∃ acc, H' D = some (.lst acc) ∧ acc.length < sizeLine ∧ (Same H (upd H' D (.lst (acc ++ [V.str (sdText s ++ "\n")]))) ∧ upd H' D (.lst (acc ++ [V.str (sdText s ++ "\n")])) D = some (.lst ((ss.take (j + 1)).map fun s => V.str (sdText s ++ "\n"))))) := by
  rw [List.getElem?_map] at hj
  cases ez : bs[j]? with
  | none => rw [ez] at hj; cases hj
  | some b =>
  rw [ez] at hj
  cases hj
  obtain ⟨s, hz, hb⟩ := pr_get hs ez
  have hjl : j < ss.length := (List.getElem?_eq_some_iff.mp hz).1
  have o := ok s (List.mem_of_getElem? hz)
  refine ⟨b, s, rfl, StepAt.same e hb, o, fun H' e' => ⟨sdText_len o, _, e' _ _ hDj, by rw [List.length_map, List.length_take]; exact small1000 (by omega), fun b o hb => ?_, ?_⟩⟩
  · rw [upd_ne (ne_of_none hb hD)]
    exact e' _ _ (e b o hb)
  · rw [upd_same, List.take_add_one, hz]
    simp only [Option.toList_some, List.map_append, List.map_cons, List.map_nil]
abbrev sLT : Stmt := s_log_text
theorem scLT : FnScope ["log", "step"] ["log"] (defScope sLT) := ⟨rfl, rfl, rfl, by decide +kernel, rfl, by decide +kernel, by decide +kernel⟩
def spLT (K : PySem.W.Frag) : Sp := fun vs H Q _ => ∃ a bs ss, vs = [.ref a] ∧ SqA K H a (bs.map V.ref) ∧ StepsAt H bs ss ∧ (∀ s ∈ ss, SdOk s) ∧ ss.length ≤ 100 ∧ ∀ H', Same H H' → Q (.str (stS ss)) H'
theorem ok_lt {f fR : Addr} {fd fdR : FuncData} (F : Fun K "log_text" "log_text" sLT f fd) (R : Df K mg "_row_of" sRo ["step"] fR fdR) (GR : FnOk P w K mg base CX0 3 fR fdR ["step"] (spRo K)) : FnOk P w K mg base CX0 4 f fd ["log"] (spLT K) := by
  refine F.ok scLT (fun vs H Q E h => ?_) (fun cdv A outer s H vs Q E hr h => ?_)
  · obtain ⟨a, bs, ss, rfl, _⟩ := h
    rfl
  · obtain ⟨a, bs, ss, rfl, ha, hs, ok, l, q⟩ := h
    have hu := hu_of hr
    refine ⟨_, pss_one (ps_ret (pe_join pe_str (pe_lc (own := [("step", 1)]) (g := gName 1) (tt := tYes) rfl scLT.nd (pi_or (pi_list (pv 0)) (pi_tup (pv 0))) (blkOk_by (own := [("step", 1)]) (N := ["log", "step"]) (sc := defScope sLT) (by decide +kernel))
        (fun _ _ _ _ _ => pg_name (i := 1) scLT.nd rfl (Or.inl rfl)) (fun _ _ _ _ _ => pts_nil) (fun _ _ _ _ _ => pe_op op_add_str (pe_call GR hr rfl R.g R.F.kp R.b .nil pass0 (pa_cons (pv 1) pa_nil)) pe_str)))), ?_⟩
    show tRet _ _ [some (.ref a), none] H
    walk_at "rd"
    have eZ : sizeLine = 16777216 := rfl
    have e1 : (("\n" : Str)).length = 1 := rfl
    have fin : ∀ (D : Addr) (Hj : Hp), (Same H Hj ∧ Hj D = some (.lst ((ss.take (bs.map V.ref).length).map fun s => V.str (sdText s ++ "\n")))) → ∃ (a : Str) (p : Addr) (ys : List Str), V.str "" = V.str a ∧ [V.ref D] = [V.ref p] ∧ (SqL K Hj p (ys.map V.str) ∨ SqT K Hj p (ys.map V.str)) ∧ (ys.map (·.length)).sum + ys.length * a.length ≤ 16777216 ∧ Q (.str (Txt.join a ys)) Hj := by
      rintro D Hj ⟨ej, hDj⟩
      rw [List.length_map, pr_len hs, List.take_length] at hDj
      refine ⟨"", D, ss.map fun s => sdText s ++ "\n", rfl, rfl, .inl (SqL.of (by rw [hDj, List.map_map]; rfl)), ?_, q Hj ej⟩
      have h4 := stS_sum ss ok
      have e0 : (("" : Str)).length = 0 := rfl
      rw [e0, Nat.mul_zero]
      omega
    refine ⟨⟨_, rfl⟩, ?_⟩
    rcases ha with ha | ha
    · refine .inl ⟨_, rfl, a, rfl, ⟨_, ha⟩, fun D hD => lc_list (K := K) (a := a) (xs := bs.map V.ref) (fun j Hj => Same H Hj ∧ Hj D = some (.lst ((ss.take j).map fun s => V.str (sdText s ++ "\n")))) ⟨Same.new hD, upd_same⟩ (fun j Hj _ ⟨e, _⟩ => Same.seq e ha) ?_ (fin D)⟩
      rintro j x Hj hj ⟨ej, hDj⟩
      refine ⟨rfl, yesT ?_⟩
      obtain ⟨b, s, rfl, hb, o, fn⟩ := rows_step hs ok l hD hj ej hDj
      exact ⟨_, rfl, b, s, rfl, hb, o, fun H' e' => by
        obtain ⟨ln, f2⟩ := fn H' e'
        exact ⟨sdText s, "\n", rfl, rfl, by omega, f2⟩⟩
    · refine .inr ⟨_, rfl, a, rfl, ⟨_, ha⟩, fun D hD => lc_tup (K := K) (a := a) (xs := bs.map V.ref) (fun j Hj => Same H Hj ∧ Hj D = some (.lst ((ss.take j).map fun s => V.str (sdText s ++ "\n")))) ⟨Same.new hD, upd_same⟩ (fun j Hj _ ⟨e, _⟩ => Same.sqt e ha) ?_ (fin D)⟩
      rintro j x Hj hj ⟨ej, hDj⟩
      refine ⟨rfl, yesT ?_⟩
      obtain ⟨b, s, rfl, hb, o, fn⟩ := rows_step hs ok l hD hj ej hDj
      exact ⟨_, rfl, b, s, rfl, hb, o, fun H' e' => by
        obtain ⟨ln, f2⟩ := fn H' e'
        exact ⟨sdText s, "\n", rfl, rfl, by omega, f2⟩⟩
end
end Toy

-- part: R3
namespace Toy
open PySem L2
section
variable {P : Program} {w : World} {K : PySem.W.Frag} {mg : Str → Option Value} {base : Heap}
theorem none_bk {d sc a : Addr} {ns : List Int} {H H' : Hp} (e : Ex d H H') (D : DrA K sc ns H' d) (ha : H' a = none) : H a = none := by
  cases h : H a with
  | none => rfl
  | some o =>
    have := e a o h (D.nd ha)
    rw [ha] at this
    cases this
/-- a sign drawn -/
theorem sign_of {r : Int} (h0 : 0 ≤ r) (h1 : r < 2) : ∃ s : Int, atI [V.int 1, V.int (-1)] r = some (.int s) ∧ (s = 1 ∨ s = -1) := by
  rcases at_two (a := V.int 1) (b := V.int (-1)) h0 h1 with ⟨_, e⟩ | ⟨_, e⟩
  · exact ⟨_, e, .inl rfl⟩
  · exact ⟨_, e, .inr rfl⟩
abbrev sRi : Stmt := s__law_rising
abbrev nRi : List Str := ["draw", "many", "found", "last", "k"]
theorem scRi : FnScope nRi ["draw", "many"] (defScope sRi) := ⟨rfl, rfl, rfl, by decide +kernel, rfl, by decide +kernel, by decide +kernel⟩
def spRi (K : PySem.W.Frag) : Sp := fun vs H Q _ => ∃ d m sc ns, vs = [.ref d, .int m] ∧ 1 ≤ m ∧ m ≤ 999 ∧ DrA K sc ns H d ∧
  ∀ (a : Addr) (c : List Int) (H' : Hp), FitN 4 999 c ∧ (∀ x ∈ c, 1 ≤ x.natAbs) ∧ c.Pairwise (fun a b => a.natAbs < b.natAbs) → Ex d H H' → DrA K sc ns H' d → H' a = some (.tup (c.map V.int)) → H a = none → Q (.ref a) H'
theorem ok_ri {f fX : Addr} {fd fdX : FuncData} (F : Fun K "_law_rising" "_law_rising" sRi f fd) (B : Bl mg) (X : Df K mg "_law_next" sNext ["draw", "size"] fX fdX) (GX : FnOk P w K mg base CX0 2 fX fdX ["draw", "size"] (spNext K)) :
    FnOk P w K mg base CX0 3 f fd ["draw", "many"] (spRi K) := by
  refine F.ok scRi (fun vs H Q E h => ?_) (fun cdv A outer s H vs Q E hr h => ?_)
  · obtain ⟨d, m, sc, ns, rfl, _⟩ := h
    rfl
  · obtain ⟨d, m, sc, ns, rfl, m1, m9, hD, q⟩ := h
    have hu := hu_of hr
    refine ⟨_, pss_cons (ps_par (i := 2) (j := 3) rfl scRi.nd rfl rfl (by decide) rfl rfl (pa_cons (pe_lst pa_nil) (pa_cons pe_int pa_nil)) (by rfl))
      (pss_cons (ps_for PassesOwn.never rfl (pi_range1 rfl B.range (pa_cons (pe_call GX hr rfl X.g X.F.kp X.b .nil pass0 (pa_cons (pv 0) (pa_cons pe_int pa_nil))) pa_nil)) (pg_name (i := 4) scRi.nd rfl (Or.inl rfl))
        (pss_cons (ps_set (i := 3) scRi.nd rfl (Or.inl rfl) (pe_op op_add (pe_op op_add (pv 3) pe_int) (pe_call GX hr rfl X.g X.F.kp X.b .nil pass0 (pa_cons (pv 0) (pa_cons (pe_callB (call_max2 rfl) (by rfl) B.max (by decide +kernel) (pa_cons pe_int (pa_cons (pe_op op_fdiv (pv 1) pe_int) pa_nil))) pa_nil)))))
        (pss_one (ps_if (pt_cmpR op_le (pv 3) (pv 1) (nomark _)) (pss_one (ps_expr (pe_bm PySem.F.plainAttrs_list PySem.F.slot_list_append PySem.F.type_list_append mt_append (pv 2) (pa_cons (pe_op op_mul (pv 3) (pe_ix ix_list (pe_lst (pa_cons pe_int (pa_cons (pe_un un_neg pe_int) pa_nil))) (pe_call GX hr rfl X.g X.F.kp X.b .nil pass0 (pa_cons (pv 0) (pa_cons pe_int pa_nil))) (fun _ _ => rfl))) pa_nil)))) pss_nil))))
      (pss_one (ps_ret (pe_callTy call_tuple_of (by rfl) B.tuple (by decide +kernel) (pa_cons (pv 2) pa_nil))))), ?_⟩
    show tSeq _ _ _ [some (.ref d), some (.int m), none, none, none] H
    walk_at "rd"
    refine ⟨Nat.zero_le _, fun l hl => ?_⟩
    walk_at "rd"
    have D1 := DrA.same (Same.new (o := .lst []) hl) hD
    have nld : l ≠ d := hD.nd hl
    have hl1 : upd H l (.lst []) l = some (.lst []) := upd_same
    have s1 : Same H (upd H l (.lst [])) := Same.new hl
    generalize upd H l (.lst []) = H1 at *
    refine ⟨_, rfl, d, 5, sc, ns, rfl, by decide, D1, fun r0 H3 r00 r01 E3 D3 => ⟨r0, rfl, by omega, by omega, ?_⟩⟩
    refine for_range (fun i σ H' => ∃ (c : List Int) (last : Int) (l4 : Option V), σ = [some (.ref d), some (.int m), some (.ref l), some (.int last), l4] ∧ Ex d H H' ∧ DrA K sc ns H' d ∧ H' l = some (.lst (c.map V.int)) ∧ c.length ≤ i ∧ 0 ≤ last ∧ last ≤ 1000 * i ∧ (∀ x ∈ c, 1 ≤ x.natAbs ∧ (x.natAbs : Int) ≤ m ∧ (x.natAbs : Int) ≤ last) ∧ c.Pairwise (fun a b => a.natAbs < b.natAbs))
      ⟨[], 0, none, rfl, Ex.trans (Ex.same s1) E3, D3, E3 _ _ hl1 nld, Nat.le_refl _, Int.le_refl _, by omega, (fun _ h => nomatch h), .nil⟩ ?_ ?_
    · rintro i σ H4 hi ⟨c, last, l4, rfl, E4, D4, hl4, lc, la0, la1, hc, inc⟩
      have hi5 : i < 5 := by omega
      walk_at "rd"
      refine ⟨⟨by decide, by decide⟩, ?_⟩
      have hm : ∃ z : Int, (if m / 4 > 1 then m / 4 else 1) = z ∧ 0 < z ∧ z ≤ 999 := by
        refine ⟨_, rfl, ?_⟩
        split <;> omega
      obtain ⟨z, ez, z0, z9⟩ := hm
      rw [ez]
      refine ⟨d, z, sc, ns, rfl, z0, D4, fun r1 H5 r10 r11 E5 D5 => ?_⟩
      walk_at "rd"
      have hl5 := E5 _ _ hl4 nld
      have E05 := Ex.trans E4 E5
      by_cases hle : last + 1 + r1 ≤ m
      · rw [decide_eq_true hle]
        refine iteT ?_
        refine ⟨Or.inl ⟨rfl, _, SqL.of hl5⟩, ?_⟩
        refine ⟨by show 2 ≤ sizeLine; decide, fun p hp => ?_⟩
        have D6 := DrA.same (Same.new (o := .lst [.int 1, .int (-1)]) hp) D5
        refine ⟨d, 2, sc, ns, rfl, by decide, D6, fun r2 H7 r20 r21 E7 D7 => ?_⟩
        have hp7 : H7 p = some (.lst [.int 1, .int (-1)]) := E7 _ _ upd_same (D5.nd hp)
        obtain ⟨sg, hsg, sg1⟩ := sign_of r20 r21
        refine p_ix (SqL.of hp7) hsg ?_
        walk_at "rd"
        have hl7 : H7 l = some (.lst (c.map V.int)) := E7 _ _ (Same.new hp _ _ hl5) nld
        have E07 : Ex d H H7 := Ex.trans E05 (Ex.trans (Ex.new hp) E7)
        refine ⟨.inl ⟨by omega, by omega⟩, p_app hl7 (by rw [List.length_map]; exact small1000 (by omega)) ?_⟩
        have ea : ((last + 1 + r1) * sg).natAbs = (last + 1 + r1).natAbs := by
          rcases sg1 with rfl | rfl
          · rw [Int.mul_one]
          · rw [Int.mul_neg, Int.mul_one, Int.natAbs_neg]
        refine ⟨c ++ [(last + 1 + r1) * sg], last + 1 + r1, _, rfl, Ex.up E07 hl, DrA.up hD D7 E07 hl, by rw [upd_same, List.map_append]; rfl, by rw [List.length_append]; show c.length + 1 ≤ i + 1; omega, by omega, by omega, fun x hx => ?_, ?_⟩
        · rcases List.mem_append.mp hx with h | h
          · obtain ⟨h1, h2, h3⟩ := hc x h
            exact ⟨h1, h2, by omega⟩
          · rw [List.mem_singleton.mp h, ea]
            omega
        · refine List.pairwise_append.mpr ⟨inc, List.pairwise_singleton _ _, fun x hx y hy => ?_⟩
          rw [List.mem_singleton.mp hy, ea]
          have := (hc x hx).2.2
          omega
      · rw [decide_eq_false hle]
        refine iteF ?_
        exact ⟨c, last + 1 + r1, _, rfl, E05, D5, hl5, by omega, by omega, by omega, fun x hx => ⟨(hc x hx).1, (hc x hx).2.1, by have := (hc x hx).2.2; omega⟩, inc⟩
    · rintro σ H4 ⟨c, last, l4, rfl, E4, D4, hl4, lc, la0, la1, hc, inc⟩
      walk_at "rd"
      refine ⟨l, _, rfl, .inl ⟨SqL.of hl4, fun a ha => ?_⟩⟩
      exact q a c _ ⟨⟨by omega, fun x hx => by have := (hc x hx).2.1; omega⟩, fun x hx => (hc x hx).1, inc⟩ (Ex.trans E4 (Ex.same (Same.new ha))) (DrA.same (Same.new ha) D4) upd_same (none_bk E4 D4 ha)
end
end Toy

-- part: R4
namespace Toy
open PySem L2
section
variable {P : Program} {w : World} {K : PySem.W.Frag} {mg : Str → Option Value} {base : Heap}
theorem StepAt.ex {H H' : Hp} {a d : Addr} (e : Ex d H H') {xs : List V} (hd : H d = some (.lst xs)) : ∀ {s : Sd}, StepAt H a s → StepAt H' a s
  | .two _ _, ⟨b, h1, h2⟩ => ⟨b, e _ _ h1 (ne_of h1 hd (by intro z; cases z)), e _ _ h2 (ne_of h2 hd (by intro z; cases z))⟩
  | .trd _ _, ⟨b, h1, h2⟩ => ⟨b, e _ _ h1 (ne_of h1 hd (by intro z; cases z)), e _ _ h2 (ne_of h2 hd (by intro z; cases z))⟩
theorem DrA.lst {sc d : Addr} {ns : List Int} {H : Hp} (h : DrA K sc ns H d) : ∃ xs, H d = some (.lst xs) := by
  obtain ⟨n, D⟩ := h
  exact ⟨_, D.dr⟩
abbrev sSt : Stmt := s__law_steps
abbrev nSt : List Str := ["draw", "most", "found", "k", "way", "many", "turn", "clause", "word", "j"]
theorem scSt : FnScope nSt ["draw", "most"] (defScope sSt) := ⟨rfl, rfl, rfl, by decide +kernel, rfl, by decide +kernel, by decide +kernel⟩
def spSt (K : PySem.W.Frag) : Sp := fun vs H Q _ => ∃ d m sc ns, vs = [.ref d, .int m] ∧ 0 ≤ m ∧ m ≤ 99 ∧ DrA K sc ns H d ∧
  ∀ (a : Addr) (bs : List Addr) (ss : List Sd) (H' : Hp), StepsAt H' bs ss → (∀ s ∈ ss, SdOk s ∧ SdLow s) → ss.length ≤ m.toNat → Ex d H H' → DrA K sc ns H' d → H' a = some (.lst (bs.map V.ref)) → H a = none → Q (.ref a) H'
def tTurn (K : PySem.W.Frag) : TE := tOp (rI CMul fun i j => .int (i * j)) (tOp (rI0 fun i j => .int (i + j)) (tC (.int 1)) (tCall (spNext K) [] E0 (tCons (tVar 0) (tCons (tVar 5) tNil)))) (tOp (rIxL K) (tLst (tCons (tC (.int 1)) (tCons (tUn (rU fun i => .int (-i)) (tC (.int 1))) tNil))) (tCall (spNext K) [] E0 (tCons (tVar 0) (tCons (tC (.int 2)) tNil))))
theorem at_three {a b c : V} {r : Int} (h0 : 0 ≤ r) (h1 : r < 3) : (r = 0 ∧ atI [a, b, c] r = some a) ∨ (r = 1 ∧ atI [a, b, c] r = some b) ∨ (r = 2 ∧ atI [a, b, c] r = some c) := by
  have : r = 0 ∨ r = 1 ∨ r = 2 := by omega
  rcases this with rfl | rfl | rfl
  · exact .inl ⟨rfl, rfl⟩
  · exact .inr (.inl ⟨rfl, rfl⟩)
  · exact .inr (.inr ⟨rfl, rfl⟩)
theorem at_four {a b c e : V} {r : Int} (h0 : 0 ≤ r) (h1 : r < 4) : ∃ v, atI [a, b, c, e] r = some v ∧ (v = a ∨ v = b ∨ v = c ∨ v = e) := by
  have : r = 0 ∨ r = 1 ∨ r = 2 ∨ r = 3 := by omega
  rcases this with rfl | rfl | rfl | rfl
  · exact ⟨_, rfl, .inl rfl⟩
  · exact ⟨_, rfl, .inr (.inl rfl)⟩
  · exact ⟨_, rfl, .inr (.inr (.inl rfl))⟩
  · exact ⟨_, rfl, .inr (.inr (.inr rfl))⟩
theorem at_words {r : Int} (h0 : 0 ≤ r) (h1 : r < 6) : ∃ w : Str, atI [V.str "order", V.str "turn", V.str "learn", V.str "pure", V.str "drop", V.str "learn"] r = some (.str w) ∧ (r < 2 → w = "order" ∨ w = "turn") ∧ (¬ r < 2 → w = "learn" ∨ w = "pure" ∨ w = "drop") := by
  have : r = 0 ∨ r = 1 ∨ r = 2 ∨ r = 3 ∨ r = 4 ∨ r = 5 := by omega
  rcases this with rfl | rfl | rfl | rfl | rfl | rfl
  · exact ⟨_, rfl, fun _ => .inl rfl, fun h => absurd (by decide) h⟩
  · exact ⟨_, rfl, fun _ => .inr rfl, fun h => absurd (by decide) h⟩
  · exact ⟨_, rfl, fun h => absurd h (by decide), fun _ => .inl rfl⟩
  · exact ⟨_, rfl, fun h => absurd h (by decide), fun _ => .inr (.inl rfl)⟩
  · exact ⟨_, rfl, fun h => absurd h (by decide), fun _ => .inr (.inr rfl)⟩
  · exact ⟨_, rfl, fun h => absurd h (by decide), fun _ => .inl rfl⟩
theorem ok_st {f fX fR : Addr} {fd fdX fdR : FuncData} (F : Fun K "_law_steps" "_law_steps" sSt f fd) (B : Bl mg) (X : Df K mg "_law_next" sNext ["draw", "size"] fX fdX) (GX : FnOk P w K mg base CX0 2 fX fdX ["draw", "size"] (spNext K))
    (R : Df K mg "_law_rising" sRi ["draw", "many"] fR fdR) (GR : FnOk P w K mg base CX0 3 fR fdR ["draw", "many"] (spRi K)) : FnOk P w K mg base CX0 4 f fd ["draw", "most"] (spSt K) := by
  refine F.ok scSt (fun vs H Q E h => ?_) (fun cdv A outer s H vs Q E hr h => ?_)
  · obtain ⟨d, m, sc, ns, rfl, _⟩ := h
    rfl
  · obtain ⟨d, m, sc, ns, rfl, m1, m9, hD, q⟩ := h
    have hu := hu_of hr
    refine ⟨_, pss_cons (ps_set (i := 2) scSt.nd rfl (Or.inl rfl) (pe_lst pa_nil))
      (pss_cons (ps_for PassesOwn.never rfl (pi_range1 rfl B.range (pa_cons (pe_call GX (hr.mono (by decide)) rfl X.g X.F.kp X.b .nil pass0 (pa_cons (pv 0) (pa_cons (pe_op op_add (pv 1) pe_int) pa_nil))) pa_nil)) (pg_name (i := 3) scSt.nd rfl (Or.inl rfl))
        (pss_cons (ps_asg (pe_tup (pa_cons (pe_call GX (hr.mono (by decide)) rfl X.g X.F.kp X.b .nil pass0 (pa_cons (pv 0) (pa_cons pe_int pa_nil))) (pa_cons (pe_ix ix_list (pe_lst (pa_cons pe_int (pa_cons pe_int (pa_cons pe_int pa_nil)))) (pe_call GX (hr.mono (by decide)) rfl X.g X.F.kp X.b .nil pass0 (pa_cons (pv 0) (pa_cons pe_int pa_nil))) (fun _ _ => rfl)) pa_nil)))
          (pg_tup rfl (pgs_cons (pg_name (i := 4) scSt.nd rfl (Or.inl rfl)) (pgs_cons (pg_name (i := 5) scSt.nd rfl (Or.inr rfl)) pgs_nil))))
        (pss_cons (ps_set (i := 6) scSt.nd rfl (Or.inl rfl) (pe_callTy call_tuple_of (by rfl) B.tuple (by decide +kernel) (pa_cons
          (pe_lc (own := [("j", 9)]) (g := gName 9) (tt := tYes) (te := tTurn K) rfl scSt.nd (pi_range1 rfl B.range (pa_cons (pe_op op_add pe_int (pe_call GX (hr.mono (by decide)) rfl X.g X.F.kp X.b .nil pass0 (pa_cons (pv 0) (pa_cons pe_int pa_nil)))) pa_nil)) (blkOk_by (own := [("j", 9)]) (N := nSt) (sc := defScope sSt) (by decide +kernel))
            (fun _ _ _ _ _ => pg_name (i := 9) scSt.nd rfl (Or.inl rfl)) (fun _ _ _ _ _ => pts_nil) (fun _ _ _ _ _ => pe_op op_mul (pe_op op_add pe_int (pe_call GX (hr.mono (by decide)) rfl X.g X.F.kp X.b .nil pass0 (pa_cons (pv 0) (pa_cons (pv 5) pa_nil))))
              (pe_ix ix_list (pe_lst (pa_cons pe_int (pa_cons (pe_un un_neg pe_int) pa_nil))) (pe_call GX (hr.mono (by decide)) rfl X.g X.F.kp X.b .nil pass0 (pa_cons (pv 0) (pa_cons pe_int pa_nil))) (fun _ _ => rfl)))) pa_nil)))
        (pss_cons (ps_set (i := 7) scSt.nd rfl (Or.inl rfl) (pe_call GR hr rfl R.g R.F.kp R.b .nil pass0 (pa_cons (pv 0) (pa_cons (pv 5) pa_nil))))
        (pss_one (ps_if (pt_cmpR op_eq (pv 4) pe_int (nomark _))
          (pss_one (ps_expr (pe_bm PySem.F.plainAttrs_list PySem.F.slot_list_append PySem.F.type_list_append mt_append (pv 2) (pa_cons (pe_tup (pa_cons pe_str (pa_cons
            (pe_ix ix_list (pe_lst (pa_cons pe_int (pa_cons (pe_call GX (hr.mono (by decide)) rfl X.g X.F.kp X.b .nil pass0 (pa_cons (pv 0) (pa_cons pe_int pa_nil))) (pa_cons pe_int (pa_cons (pe_call GX (hr.mono (by decide)) rfl X.g X.F.kp X.b .nil pass0 (pa_cons (pv 0) (pa_cons pe_int pa_nil))) pa_nil)))))
              (pe_call GX (hr.mono (by decide)) rfl X.g X.F.kp X.b .nil pass0 (pa_cons (pv 0) (pa_cons pe_int pa_nil))) (fun _ _ => rfl)) (pa_cons (pv 6) pa_nil)))) pa_nil))))
          (pss_cons (ps_set (i := 8) scSt.nd rfl (Or.inl rfl) (pe_ix ix_list (pe_lst (pa_cons pe_str (pa_cons pe_str (pa_cons pe_str (pa_cons pe_str (pa_cons pe_str (pa_cons pe_str pa_nil))))))) (pv 4) (fun _ _ => rfl)))
          (pss_one (ps_expr (pe_bm PySem.F.plainAttrs_list PySem.F.slot_list_append PySem.F.type_list_append mt_append (pv 2) (pa_cons (pe_tup (pa_cons (pv 8) (pa_cons (pe_ifExp (pt_cmpR op_lt (pv 4) pe_int (nomark _)) (pv 6) (pv 7)) pa_nil))) pa_nil)))))))))))
      (pss_one (ps_ret (pv 2)))), ?_⟩
    show tSeq _ _ _ [some (.ref d), some (.int m), none, none, none, none, none, none, none, none] H
    walk_at "rd"
    refine ⟨Nat.zero_le _, fun l hl => ?_⟩
    walk_at "rd"
    have D1 := DrA.same (Same.new (o := .lst []) hl) hD
    have nld : l ≠ d := hD.nd hl
    have hl1 : upd H l (.lst []) l = some (.lst []) := upd_same
    have s1 : Same H (upd H l (.lst [])) := Same.new hl
    generalize upd H l (.lst []) = H1 at *
    refine ⟨_, rfl, _, rfl, m, 1, rfl, rfl, d, m + 1, sc, ns, rfl, by omega, D1, fun r0 H3 r00 r01 E3 D3 => ⟨r0, rfl, by omega, by omega, ?_⟩⟩
    refine for_range (fun i σ H' => ∃ (bs : List Addr) (ss : List Sd) (l3 l4 l5 l6 l7 l8 : Option V), σ = [some (.ref d), some (.int m), some (.ref l), l3, l4, l5, l6, l7, l8, none] ∧ Ex d H H' ∧ DrA K sc ns H' d ∧ H' l = some (.lst (bs.map V.ref)) ∧ ss.length ≤ i ∧ StepsAt H' bs ss ∧ ∀ s ∈ ss, SdOk s ∧ SdLow s)
      ⟨[], [], none, none, none, none, none, none, rfl, Ex.trans (Ex.same s1) E3, D3, E3 _ _ hl1 nld, Nat.le_refl _, .nil, fun _ h => nomatch h⟩ ?_ ?_
    · rintro i σ H4 hi ⟨bs, ss, l3, l4, l5, l6, l7, l8, rfl, E4, D4, hl4, lss, hss, oks⟩
      have hi9 : i < 100 := by omega
      show tSeq _ _ _ [some (.ref d), some (.int m), some (.ref l), some (.int (0 + (i : Int))), l4, l5, l6, l7, l8, none] H4
      refine seq_gen (fun σ' H' => ∃ (wy n : Nat), σ' = [some (.ref d), some (.int m), some (.ref l), some (.int (0 + (i : Int))), some (.int wy), some (.int n), l6, l7, l8, none] ∧ wy < 7 ∧ 1 ≤ n ∧ n ≤ 999 ∧ Ex d H4 H' ∧ DrA K sc ns H' d) (fun nx hnx => ?_) ?_
      · unfold tAsg
        walk_at "rd"
        refine ⟨d, 7, sc, ns, rfl, by decide, D4, fun r1 H5 r10 r11 E5 D5 => ?_⟩
        walk_at "rd"
        refine ⟨by show 3 ≤ sizeLine; decide, fun p hp => ?_⟩
        have D6 := DrA.same (Same.new (o := .lst [.int 4, .int 12, .int 999]) hp) D5
        refine ⟨d, 3, sc, ns, rfl, by decide, D6, fun r2 H7 r20 r21 E7 D7 => ?_⟩
        have hp7 : H7 p = some (.lst [.int 4, .int 12, .int 999]) := E7 _ _ upd_same (D5.nd hp)
        obtain ⟨n, hn, n1, n9⟩ : ∃ n : Nat, atI [V.int 4, V.int 12, V.int 999] r2 = some (.int n) ∧ 1 ≤ n ∧ n ≤ 999 := by
          rcases at_three (a := V.int 4) (b := V.int 12) (c := V.int 999) r20 r21 with ⟨_, e⟩ | ⟨_, e⟩ | ⟨_, e⟩
          · exact ⟨4, e, by decide, by decide⟩
          · exact ⟨12, e, by decide, by decide⟩
          · exact ⟨999, e, by decide, by decide⟩
        refine p_ix (SqL.of hp7) hn ?_
        walk_at "rd"
        refine ⟨by show 2 ≤ sizeLine; decide, fun p2 hp2 => ?_⟩
        obtain ⟨r1, rfl⟩ := Int.eq_ofNat_of_zero_le r10
        exact ⟨p2, _, rfl, SqT.of upd_same, rfl, _, _, rfl, _, _, rfl, rfl, hnx _ _ ⟨r1, n, rfl, by omega, n1, n9, Ex.trans E5 (Ex.trans (Ex.new hp) (Ex.trans E7 (Ex.new hp2))), DrA.same (Same.new hp2) D7⟩⟩
      rintro σ H5 ⟨wy, n, rfl, w7, n1, n9, E5, D5⟩
      refine seq_gen (fun σ' H' => ∃ (t : Addr) (W : List Int), σ' = [some (.ref d), some (.int m), some (.ref l), some (.int (0 + (i : Int))), some (.int wy), some (.int n), some (.ref t), l7, l8, none] ∧ H' t = some (.tup (W.map V.int)) ∧ W ≠ [] ∧ (FitN 6 999 W ∧ ∀ x ∈ W, 1 ≤ x.natAbs) ∧ Ex d H4 H' ∧ DrA K sc ns H' d) (fun nx hnx => ?_) ?_
      · walk_at "rd"
        refine ⟨_, rfl, d, 6, sc, ns, rfl, by decide, D5, fun r3 H6 r30 r31 E6 D6 => ⟨_, _, rfl, rfl, 1 + r3, rfl, by omega, by omega, fun D' hD' => ?_⟩⟩
        obtain ⟨k3, rfl⟩ := Int.eq_ofNat_of_zero_le r30
        have nDd := D6.nd hD'
        refine lc_range (lo := 0) (n := (1 + (k3 : Int)).toNat) (g := gName 9) (tt := tYes) (te := tTurn K) (fun j Hj => Ex d H6 Hj ∧ DrA K sc ns Hj d ∧ ∃ W : List Int, Hj D' = some (.lst (W.map V.int)) ∧ W.length = j ∧ ∀ z ∈ W, 1 ≤ z.natAbs ∧ z.natAbs ≤ 999)
          ⟨Ex.new hD', DrA.same (Same.new hD') D6, [], upd_same, rfl, fun _ h => nomatch h⟩ ?_ ?_
        · rintro k Hj hk ⟨Ej, Dj, W, hDj, lW, bW⟩
          refine ⟨rfl, yesT ?_⟩
          show tTurn K [some (.ref d), some (.int m), some (.ref l), some (.int (0 + (i : Int))), some (.int wy), some (.int n), l6, l7, l8, some (.int (0 + (k : Int)))] Hj _
          unfold tTurn
          walk_at "rd"
          refine ⟨d, n, sc, ns, rfl, by omega, Dj, fun x Hk x0 x1 Ek Dk => ?_⟩
          walk_at "rd"
          refine ⟨by show 2 ≤ sizeLine; decide, fun p hp => ?_⟩
          have D7 := DrA.same (Same.new (o := .lst [.int 1, .int (-1)]) hp) Dk
          refine ⟨d, 2, sc, ns, rfl, by decide, D7, fun r4 Hl r40 r41 El Dl => ?_⟩
          have hpl : Hl p = some (.lst [.int 1, .int (-1)]) := El _ _ upd_same (Dk.nd hp)
          obtain ⟨sg, hsg, sg1⟩ := sign_of r40 r41
          refine p_ix (SqL.of hpl) hsg ?_
          walk_at "rd"
          have Ejl : Ex d Hj Hl := Ex.trans Ek (Ex.trans (Ex.new hp) El)
          have ea : ((1 + x) * sg).natAbs = (1 + x).natAbs := by
            rcases sg1 with rfl | rfl
            · rw [Int.mul_one]
            · rw [Int.mul_neg, Int.mul_one, Int.natAbs_neg]
          refine ⟨.inl ⟨by omega, by omega⟩, W.map V.int, Ejl _ _ hDj nDd, by rw [List.length_map]; exact small1000 (by omega), Ex.up (Ex.trans Ej Ejl) hD', DrA.up D6 Dl (Ex.trans Ej Ejl) hD', W ++ [(1 + x) * sg], by rw [upd_same, List.map_append]; rfl, by rw [List.length_append, lW]; rfl, fun y hy => ?_⟩
          rcases List.mem_append.mp hy with h | h
          · exact bW y h
          · rw [List.mem_singleton.mp h, ea]
            omega
        · rintro H8 ⟨E8, D8, W, hD8, lW, bW⟩
          walk_at "rd"
          refine ⟨D', _, rfl, .inl ⟨SqL.of hD8, fun b hb => ?_⟩⟩
          exact hnx _ _ ⟨b, W, rfl, upd_same, fun e => by rw [e] at lW; have : (1 + (k3 : Int)).toNat = 0 := lW.symm; omega, ⟨⟨by omega, fun x hx => (bW x hx).2⟩, fun x hx => (bW x hx).1⟩, Ex.trans E5 (Ex.trans E6 (Ex.trans E8 (Ex.same (Same.new hb)))), DrA.same (Same.new hb) D8⟩
      rintro σ H6 ⟨t, W, rfl, ht, W0, ⟨fW, loW⟩, E6, D6⟩
      refine seq_gen (fun σ' H' => ∃ (c : Addr) (C : List Int), σ' = [some (.ref d), some (.int m), some (.ref l), some (.int (0 + (i : Int))), some (.int wy), some (.int n), some (.ref t), some (.ref c), l8, none] ∧ H' t = some (.tup (W.map V.int)) ∧ H' c = some (.tup (C.map V.int)) ∧ (FitN 4 999 C ∧ (∀ x ∈ C, 1 ≤ x.natAbs) ∧ C.Pairwise (fun a b => a.natAbs < b.natAbs)) ∧ Ex d H4 H' ∧ DrA K sc ns H' d) (fun nx hnx => ?_) ?_
      · walk_at "rd"
        refine ⟨d, n, sc, ns, rfl, by omega, by omega, D6, fun c C H7 fC E7 D7 hc nc => ?_⟩
        obtain ⟨xs, hd6⟩ := D6.lst
        exact hnx _ _ ⟨c, C, rfl, E7 _ _ ht (ne_of ht hd6 (by intro z; cases z)), hc, fC, Ex.trans E6 E7, D7⟩
      rintro σ H7 ⟨c, C, rfl, ht7, hc7, ⟨fC, loC, inC⟩, E7, D7⟩
      obtain ⟨xs4, hd4⟩ := D4.lst
      have hl7 := E7 _ _ hl4 nld
      have hss7 : StepsAt H7 bs ss := pr_imp (fun _ _ h => StepAt.ex E7 hd4 h) hss
      have E07 := Ex.trans E4 E7
      -- the step at b, behind the draws
      have fin : ∀ (b : Addr) (s : Sd) (o : HO) (H8 : Hp) (l8 : Option V), H8 b = none → Ex d H7 H8 → DrA K sc ns H8 d → SdOk s ∧ SdLow s → StepAt (upd H8 b o) b s → (upd H8 b o) l = some (.lst (bs.map V.ref)) ∧ (bs.map V.ref).length < sizeLine ∧
          ∃ (bs' : List Addr) (ss' : List Sd) (l3 l4 l5 l6 l7 l8' : Option V), [some (.ref d), some (.int m), some (.ref l), some (.int (0 + (i : Int))), some (.int (wy : Int)), some (.int (n : Int)), some (.ref t), some (.ref c), l8, none] = [some (.ref d), some (.int m), some (.ref l), l3, l4, l5, l6, l7, l8', none] ∧ Ex d H (upd (upd H8 b o) l (.lst (bs.map V.ref ++ [V.ref b]))) ∧ DrA K sc ns (upd (upd H8 b o) l (.lst (bs.map V.ref ++ [V.ref b]))) d ∧ upd (upd H8 b o) l (.lst (bs.map V.ref ++ [V.ref b])) l = some (.lst (bs'.map V.ref)) ∧ ss'.length ≤ i + 1 ∧ StepsAt (upd (upd H8 b o) l (.lst (bs.map V.ref ++ [V.ref b]))) bs' ss' ∧ ∀ s ∈ ss', SdOk s ∧ SdLow s := by
        intro b s o H8 l8 hb E8 D8 os hs
        obtain ⟨xs7, hd7⟩ := D7.lst
        have hl8 := E8 _ _ hl7 nld
        have sb : Same H8 (upd H8 b o) := Same.new hb
        have hl9 := sb _ _ hl8
        have D9 := DrA.same sb D8
        have E9 : Ex d H (upd H8 b o) := Ex.trans E07 (Ex.trans E8 (Ex.same sb))
        have hss9 : StepsAt (upd H8 b o) bs ss := pr_imp (fun _ _ h => StepAt.ex (Ex.trans E8 (Ex.same sb)) hd7 h) hss7
        generalize upd H8 b o = H9 at *
        have lb : bs.length ≤ i := by rw [pr_len hss]; exact lss
        refine ⟨hl9, by rw [List.length_map]; exact small1000 (by omega), bs ++ [b], ss ++ [s], _, _, _, _, _, _, rfl, Ex.up E9 hl, DrA.up hD D9 E9 hl, by rw [upd_same, List.map_append]; rfl, by rw [List.length_append]; show ss.length + 1 ≤ i + 1; omega, ?_, fun s' hs' => ?_⟩
        · exact pr_snoc (StepAt.ex Ex.at hl9 hs) (pr_imp (fun _ _ h => StepAt.ex Ex.at hl9 h) hss9)
        · rcases List.mem_append.mp hs' with h | h
          · exact oks s' h
          · rw [List.mem_singleton.mp h]
            exact os
      have td : ∀ (H8 : Hp), Ex d H7 H8 → H8 t = some (.tup (W.map V.int)) ∧ H8 c = some (.tup (C.map V.int)) := fun H8 E8 => by
        obtain ⟨xs7, hd7⟩ := D7.lst
        exact ⟨E8 _ _ ht7 (ne_of ht7 hd7 (by intro z; cases z)), E8 _ _ hc7 (ne_of hc7 hd7 (by intro z; cases z))⟩
      walk_at "rd"
      by_cases hw : wy = 6
      · subst hw
        refine ⟨rfl, true, by rw [decide_eq_true]; rfl, iteT ?_⟩
        refine ⟨Or.inl ⟨rfl, _, SqL.of hl7⟩, ?_⟩
        walk_at "rd"
        refine ⟨d, 12, sc, ns, rfl, by decide, D7, fun r5 H8 r50 r51 E8 D8 => ?_⟩
        walk_at "rd"
        refine ⟨d, 10000, sc, ns, rfl, by decide, D8, fun r6 H9 r60 r61 E9 D9 => ?_⟩
        walk_at "rd"
        refine ⟨by show 4 ≤ sizeLine; decide, fun p hp => ?_⟩
        have D10 := DrA.same (Same.new (o := .lst [.int 0, .int r5, .int 9999, .int r6]) hp) D9
        refine ⟨d, 4, sc, ns, rfl, by decide, D10, fun r7 Ha r70 r71 Ea Da => ?_⟩
        have hpa : Ha p = some (.lst [.int 0, .int r5, .int 9999, .int r6]) := Ea _ _ upd_same (D9.nd hp)
        obtain ⟨z, hz, z0, z9⟩ : ∃ z : Int, atI [V.int 0, V.int r5, V.int 9999, V.int r6] r7 = some (.int z) ∧ 0 ≤ z ∧ z ≤ 9999 := by
          obtain ⟨v, e, h⟩ := at_four (a := V.int 0) (b := V.int r5) (c := V.int 9999) (e := V.int r6) r70 r71
          rcases h with rfl | rfl | rfl | rfl
          · exact ⟨_, e, by omega, by omega⟩
          · exact ⟨_, e, by omega, by omega⟩
          · exact ⟨_, e, by omega, by omega⟩
          · exact ⟨_, e, by omega, by omega⟩
        refine p_ix (SqL.of hpa) hz ?_
        walk_at "rd"
        refine ⟨by show 3 ≤ sizeLine; decide, fun b hb => ?_⟩
        have E7a : Ex d H7 Ha := Ex.trans E8 (Ex.trans E9 (Ex.trans (Ex.new hp) Ea))
        obtain ⟨ht8, hc8⟩ := td Ha E7a
        obtain ⟨g1, g2, g3⟩ := fin b (.trd z W) (.tup [.str "turned", .int z, .ref t]) Ha l8 hb E7a Da ⟨⟨W0, fW.mono (by decide) (Nat.le_refl _), z0, z9⟩, loW⟩ ⟨t, upd_same, Same.new hb _ _ ht8⟩
        exact p_app g1 g2 g3
      · refine ⟨rfl, false, by rw [decide_eq_false]; exact fun e => hw (by have := V.int.inj e; omega), iteF ?_⟩
        refine ⟨by show 6 ≤ sizeLine; decide, fun p hp => ?_⟩
        obtain ⟨wd, hwd, w1, w2⟩ := at_words (r := (wy : Int)) (by omega) (by omega)
        refine p_ix (SqL.of upd_same) hwd ?_
        walk_at "rd"
        have hl8 := Same.new (o := .lst [V.str "order", V.str "turn", V.str "learn", V.str "pure", V.str "drop", V.str "learn"]) hp _ _ hl7
        refine ⟨Or.inl ⟨rfl, _, SqL.of hl8⟩, ?_⟩
        walk_at "rd"
        have E78 : Ex d H7 (upd H7 p (.lst [V.str "order", V.str "turn", V.str "learn", V.str "pure", V.str "drop", V.str "learn"])) := Ex.new hp
        have D8 := DrA.same (Same.new (o := .lst [V.str "order", V.str "turn", V.str "learn", V.str "pure", V.str "drop", V.str "learn"]) hp) D7
        generalize upd H7 p (.lst [V.str "order", V.str "turn", V.str "learn", V.str "pure", V.str "drop", V.str "learn"]) = H8 at *
        obtain ⟨ht8, hc8⟩ := td H8 E78
        by_cases h2 : (wy : Int) < 2
        · rw [decide_eq_true h2]
          refine iteT ⟨by show 2 ≤ sizeLine; decide, fun b hb => ?_⟩
          obtain ⟨g1, g2, g3⟩ := fin b (.two wd W) (.tup [.str wd, .ref t]) H8 _ hb E78 D8 ⟨⟨.inl ⟨w1 h2, W0⟩, fW.mono (by decide) (Nat.le_refl _)⟩, loW, fun hw => absurd hw (by rcases w1 h2 with rfl | rfl <;> decide +kernel)⟩ ⟨t, upd_same, Same.new hb _ _ ht8⟩
          exact p_app g1 g2 g3
        · rw [decide_eq_false h2]
          refine iteF ⟨by show 2 ≤ sizeLine; decide, fun b hb => ?_⟩
          obtain ⟨g1, g2, g3⟩ := fin b (.two wd C) (.tup [.str wd, .ref c]) H8 _ hb E78 D8 ⟨⟨.inr (w2 h2), fC.mono (by decide) (Nat.le_refl _)⟩, loC, fun _ => inC⟩ ⟨c, upd_same, Same.new hb _ _ hc8⟩
          exact p_app g1 g2 g3
    · rintro σ H4 ⟨bs, ss, l3, l4, l5, l6, l7, l8, rfl, E4, D4, hl4, lss, hss, oks⟩
      walk_at "rd"
      exact q l bs ss H4 hss oks (by omega) E4 D4 hl4 hl
end
end Toy

-- part: S0
namespace Toy
open PySem L2
/-! ### figures and rows read, free of the program -/
structure FigN (m : Nat) (z : Str) : Prop where
  lo : 1 ≤ z.length
  hi : z.length ≤ m
  first : ∃ c, atI z.cps.toList 0 = some c ∧ c ≠ 48
  all : ∀ (i c : Nat), z.cps[i]? = some c → c ∈ ("0123456789" : Str).cps.toList
def figB (m : Nat) (z : Str) : Bool := decide (1 ≤ z.length) && (decide (z.length ≤ m) && ((match z.cps.toList with
  | c :: _ => decide (c ≠ 48)
  | [] => false) && z.cps.toList.all fun c => decide (c ∈ ("0123456789" : Str).cps.toList)))
theorem fig_of {m : Nat} {z : Str} (h : figB m z = true) : FigN m z := by
  unfold figB at h
  simp only [Bool.and_eq_true] at h
  obtain ⟨h1, h2, h3, h4⟩ := h
  have h1 : 1 ≤ z.length := of_decide_eq_true h1
  have h2 : z.length ≤ m := of_decide_eq_true h2
  refine ⟨h1, h2, ?_, fun i c hc => ?_⟩
  · split at h3
    · rename_i c l e
      refine ⟨c, ?_, of_decide_eq_true h3⟩
      rw [e]
      have hx : ixN (c :: l).length 0 = some 0 := by
        unfold ixN
        rw [if_pos (by decide), if_pos (by rw [List.length_cons]; omega)]
        rfl
      unfold atI
      rw [hx]
      rfl
    · cases h3
  · have hm : c ∈ z.cps.toList := by
      rw [← Array.getElem?_toList] at hc
      exact List.mem_of_getElem? hc
    exact of_decide_eq_true (List.all_eq_true.mp h4 c hm)
theorem fig_pre : ∀ n : Nat, n < 1000 → 1 ≤ n → figB 3 (Txt.removeprefix (numS (n : Int)) "-") = true ∧ figB 3 (Txt.removeprefix (numS (-(n : Int))) "-") = true := by decide +kernel
theorem fig_let {x : Int} (h1 : 1 ≤ x.natAbs) (h4 : x.natAbs ≤ 999) : FigN 3 (Txt.removeprefix (numS x) "-") := by
  have q := fig_pre x.natAbs (by omega) h1
  rcases Int.natAbs_eq x with e | e
  · rw [e]; exact fig_of q.1
  · rw [e]; exact fig_of q.2
theorem head_digit : ∀ n : Nat, 1 ≤ n → ∃ c l, Nat.toDigits 10 n = c :: l ∧ c.toNat ≠ 48 := by
  intro n
  induction n using Nat.strongRecOn with
  | _ n ih =>
    intro h1
    by_cases h : n < 10
    · have q : ∀ d : Nat, d < 10 → 1 ≤ d → (Nat.digitChar d).toNat ≠ 48 := by decide
      exact ⟨_, _, Nat.toDigits_of_lt_base h, q n h h1⟩
    · have hm : n % 10 < 10 := Nat.mod_lt n (by decide)
      have t : Nat.toDigits 10 (n / 10) ++ Nat.toDigits 10 (n % 10) = Nat.toDigits 10 (10 * (n / 10) + n % 10) := Nat.toDigits_append_toDigits (by decide) (by omega) hm
      rw [Nat.div_add_mod] at t
      obtain ⟨c, l, e, hc⟩ := ih (n / 10) (by omega) (by omega)
      rw [e] at t
      exact ⟨c, _, t.symm, hc⟩
theorem fig_gen {n m : Nat} (h1 : 1 ≤ n) (hm0 : 0 < m) (h9 : n < 10 ^ m) : FigN m (numS (n : Int)) := by
  have es : (numS (n : Int)).cps.toList = (Nat.toDigits 10 n).map Char.toNat := PySem.W.KIN.signs_num n
  have el : (numS (n : Int)).length = (Nat.toDigits 10 n).length := by
    show (numS (n : Int)).cps.size = _
    rw [← Array.length_toList, es, List.length_map]
  obtain ⟨c, l, e, hc⟩ := head_digit n h1
  refine ⟨num_pos _, ?_, ⟨c.toNat, ?_, hc⟩, fun i d hd => ?_⟩
  · rw [el]
    exact (Nat.length_toDigits_le_iff (by decide) hm0).mpr h9
  · rw [es, e, List.map_cons]
    have hx : ixN (c.toNat :: l.map Char.toNat).length 0 = some 0 := by
      unfold ixN
      rw [if_pos (by decide), if_pos (by rw [List.length_cons]; omega)]
      rfl
    unfold atI
    rw [hx]
    rfl
  · have hm : d ∈ (numS (n : Int)).cps.toList := by
      rw [← Array.getElem?_toList] at hd
      exact List.mem_of_getElem? hd
    rw [es] at hm
    obtain ⟨ch, h2, rfl⟩ := List.mem_map.mp hm
    have h3 := Nat.isDigit_of_mem_toDigits (by decide) (by decide) h2
    have h4 : 48 ≤ ch.toNat ∧ ch.toNat ≤ 57 := by
      unfold Char.isDigit at h3
      simp only [Bool.and_eq_true, decide_eq_true_eq] at h3
      exact ⟨h3.1, h3.2⟩
    have e9 : ("0123456789" : Str).cps.toList = [48, 49, 50, 51, 52, 53, 54, 55, 56, 57] := by decide +kernel
    rw [e9]
    have : ch.toNat = 48 ∨ ch.toNat = 49 ∨ ch.toNat = 50 ∨ ch.toNat = 51 ∨ ch.toNat = 52 ∨ ch.toNat = 53 ∨ ch.toNat = 54 ∨ ch.toNat = 55 ∨ ch.toNat = 56 ∨ ch.toNat = 57 := by omega
    simp only [List.mem_cons, List.not_mem_nil, or_false]
    exact this
theorem fig_num {n : Nat} (h1 : 1 ≤ n) (h4 : n ≤ 999) : FigN 3 (numS (n : Int)) := fig_gen h1 (by decide) (by omega)
theorem int_facts : ∀ n : Nat, n < 1000 → PySem.intText? (numS (n : Int)) = some (n : Int) ∧ PySem.intText? (numS (-(n : Int))) = some (-(n : Int)) := by decide +kernel
theorem int_of {x : Int} (h : x.natAbs ≤ 999) : PySem.intText? (numS x) = some x := by
  have q := int_facts x.natAbs (by omega)
  rcases Int.natAbs_eq x with e | e
  · rw [e]; exact q.1
  · rw [e]; exact q.2
theorem num_no (k : Nat) (hk : k ≠ 45 ∧ (k < 48 ∨ 57 < k)) (x : Int) : k ∉ TL.tl (numS x) := PyProof.Rows.int_text_free' k hk x
theorem ltr_split {c : List Int} (h0 : c ≠ []) : Txt.split (ltrS c) " " = c.map numS := by
  unfold ltrS
  exact TL.split_join (s := 32) (S := []) (by decide +kernel) (by decide +kernel) (fun e => h0 (List.map_eq_nil_iff.mp e)) fun p hp => by
    obtain ⟨x, hx, rfl⟩ := List.mem_map.mp hp
    exact num_no 32 ⟨by decide, by decide⟩ x
theorem ltr_ne {c : List Int} (h : FitN 1000 999 c) (h0 : c ≠ []) : ltrS c ≠ "-" := fun e => by
  have q := ltr_split h0
  rw [e] at q
  have e2 : Txt.split ("-" : Str) " " = [("-" : Str)] := by decide +kernel
  rw [e2] at q
  match c, h, q with
  | [x], h, q =>
    have e3 : ("-" : Str) = numS x := (List.cons.inj q).1
    have := int_of (h.2 x List.mem_cons_self)
    rw [← e3] at this
    have e4 : PySem.intText? ("-" : Str) = none := by decide +kernel
    rw [e4] at this
    cases this
  | _ :: _ :: _, _, q => cases (List.cons.inj q).2
  | [], _, q => cases q
theorem joinL_no {k : Nat} {S : List Nat} (hS : k ∉ S) : ∀ ps : List (List Nat), (∀ p ∈ ps, k ∉ p) → k ∉ TL.joinL S ps
  | [], _ => by simp [TL.joinL]
  | [p], h => h p (List.mem_singleton.mpr rfl)
  | p :: q :: r, h => by
    show k ∉ p ++ (S ++ TL.joinL S (q :: r))
    have ih := joinL_no hS (q :: r) fun x hx => h x (List.mem_cons_of_mem _ hx)
    have hp := h p List.mem_cons_self
    intro hm
    rcases List.mem_append.mp hm with hm | hm
    · exact hp hm
    · rcases List.mem_append.mp hm with hm | hm
      · exact hS hm
      · exact ih hm
theorem ltr_no (k : Nat) (hk : k ≠ 45 ∧ k ≠ 32 ∧ (k < 48 ∨ 57 < k)) (c : List Int) : k ∉ TL.tl (ltrS c) := by
  unfold ltrS
  rw [TL.join_eq, TL.tl_join]
  have e1 : TL.tl (" " : Str) = [32] := by decide +kernel
  refine joinL_no (by rw [e1]; simp only [List.mem_singleton]; exact hk.2.1) _ fun p hp => ?_
  obtain ⟨s, hs, rfl⟩ := List.mem_map.mp hp
  obtain ⟨x, hx, rfl⟩ := List.mem_map.mp hs
  exact num_no k ⟨hk.1, hk.2.2⟩ x
theorem row_no (k : Nat) (hk : k ≠ 45 ∧ k ≠ 32 ∧ (k < 48 ∨ 57 < k)) (c : List Int) : k ∉ TL.tl (rowS c) := by
  unfold rowS
  split
  · have e1 : TL.tl ("-" : Str) = [45] := by decide +kernel
    rw [e1]
    simp only [List.mem_singleton]
    exact hk.1
  · exact ltr_no k hk c
theorem feed_join : ∀ l : List Str, Txt.join "" (l.map fun s : Str => s ++ ("\n" : Str)) = Txt.join "\n" (l ++ [("" : Str)]) := by
  intro l
  by_cases h : l = []
  · rw [h]
    decide +kernel
  rw [TL.join_eq, TL.join_eq]
  refine TL.ext_tl ?_
  rw [TL.tl_join, TL.tl_join, List.map_map, List.map_append]
  have e0 : TL.tl ("" : Str) = [] := by decide +kernel
  have e1 : TL.tl ("\n" : Str) = [10] := by decide +kernel
  have em : (l.map (TL.tl ∘ fun s : Str => s ++ ("\n" : Str))) = (l.map TL.tl).map fun x => x ++ [10] := by
    rw [List.map_map]
    refine List.map_congr_left fun s _ => ?_
    show TL.tl (s ++ ("\n" : Str)) = TL.tl s ++ [10]
    rw [TL.tl_append, e1]
  rw [em, e0, e1, List.map_cons, List.map_nil, e0]
  have key : ∀ ms : List (List Nat), ms ≠ [] → TL.joinL [] (ms.map fun x => x ++ [10]) = TL.joinL [10] (ms ++ [[]]) := by
    intro ms
    induction ms with
    | nil => intro h; exact absurd rfl h
    | cons m r ih =>
      intro _
      cases r with
      | nil => show m ++ [10] = m ++ ([10] ++ []); rfl
      | cons n r2 =>
        show (m ++ [10]) ++ ([] ++ TL.joinL [] ((n :: r2).map fun x => x ++ [10])) = m ++ ([10] ++ TL.joinL [10] ((n :: r2) ++ [[]]))
        rw [ih (by simp), List.nil_append, List.append_assoc]
  exact key _ fun e => h (List.map_eq_nil_iff.mp e)
/-- rows, each ended by a line end, parted again -/
theorem rows_split (l : List Str) (h : ∀ s ∈ l, 10 ∉ TL.tl s) : Txt.split (Txt.join "" (l.map fun s : Str => s ++ ("\n" : Str))) "\n" = l ++ [("" : Str)] := by
  rw [feed_join]
  refine TL.split_join (s := 10) (S := []) (by decide +kernel) (by decide +kernel) (by simp) fun p hp => ?_
  rcases List.mem_append.mp hp with hp | hp
  · exact h p hp
  · rw [List.mem_singleton.mp hp]
    decide +kernel
theorem at_zero {α : Type} (c : α) (l : List α) : atI (c :: l) 0 = some c := by
  have hx : ixN (c :: l).length 0 = some 0 := by
    unfold ixN
    rw [if_pos (by decide), if_pos (by rw [List.length_cons]; omega)]
    rfl
  unfold atI
  rw [hx]
  rfl
end Toy

-- part: S1
namespace Toy
open PySem L2
section
variable {P : Program} {w : World} {K : PySem.W.Frag} {mg : Str → Option Value} {base : Heap}
abbrev sFig : Stmt := s_is_figures
theorem scFig : FnScope ["word", "most", "sign"] ["word", "most"] (defScope sFig) := ⟨rfl, rfl, rfl, by decide +kernel, rfl, by decide +kernel, by decide +kernel⟩
def spFig : Sp := fun vs H Q _ => ∃ (z : Str) (m : Nat), vs = [.str z, .int (m : Int)] ∧ m ≤ 100 ∧ FigN m z ∧ ∀ H', Same H H' → Q (.bl true) H'
theorem ok_fig {f : Addr} {fd : FuncData} (F : Fun K "is_figures" "is_figures" sFig f fd) (B : Bl mg) (gF : ∃ t, mg "_FIGURES" = some (.str "0123456789" t)) : FnOk P w K mg base CX0 1 f fd ["word", "most"] spFig := by
  obtain ⟨tF, hF⟩ := gF
  refine F.ok scFig (fun vs H Q E h => ?_) (fun cdv A outer s H vs Q E hr h => ?_)
  · obtain ⟨z, m, rfl, _⟩ := h
    rfl
  · obtain ⟨z, m, rfl, m1, hz, q⟩ := h
    have hu := hu_of hr
    refine ⟨_, pss_cons (ps_if (PW.pt (pw_or (pt_not (pt_chain op_le op_le pe_int (pe_callB call_len_str (by rfl) B.len PySem.boot_len (pa_cons (pv 0) pa_nil)) (pv 1)))
        (pw_or1 (pt_cmpR op_eq (pe_ix ix_str (pv 0) pe_int (fun _ _ => rfl)) pe_str (nomark _))))) (pss_one (ps_ret pe_bl)) pss_nil)
      (pss_one (ps_ret (pe_callB (cr_all rfl) (by rfl) B.all (by decide +kernel) (pa_cons (pe_lc (own := [("sign", 2)]) (g := gName 2) (tt := tYes) (te := tOp rInS (tVar 2) (tC (.str "0123456789"))) rfl scFig.nd (pi_str (pv 0)) (blkOk_by (own := [("sign", 2)]) (N := ["word", "most", "sign"]) (sc := defScope sFig) (by decide +kernel))
        (fun _ _ _ _ _ => pg_name (i := 2) scFig.nd rfl (Or.inl rfl)) (fun _ _ _ _ _ => pts_nil) (fun _ _ _ _ _ => pe_cmpR op_inS (pv 2) (pe_glob rfl hF (v := .str "0123456789") ⟨_, rfl⟩) (by rfl))) pa_nil)))), ?_⟩
    show tSeq _ _ _ [some (.str z), some (.int (m : Int)), none] H
    walk_at "rd"
    obtain ⟨z1, z3, ⟨c, hc0, hc⟩, za⟩ := hz
    have e2 : sizeLine = 16777216 := rfl
    refine ⟨z, rfl, by omega, ?_⟩
    rw [decide_eq_true (by omega : (1 : Int) ≤ (z.length : Int))]
    rw [decide_eq_true (by omega : (z.length : Int) ≤ (m : Int))]
    refine iteT (iteF ⟨z, 0, c, rfl, rfl, by omega, hc0, rfl, false, ?_, iteF ?_⟩)
    · rw [decide_eq_false]
      intro e
      have e3 : (⟨#[c]⟩ : Str) = ("0" : Str) := V.str.inj e
      have e4 : (#[c] : Array Nat) = ("0" : Str).cps := congrArg Str.cps e3
      have e5 : c = 48 := by
        have h1 := congrArg (fun a : Array Nat => a[0]?) e4
        have h2 : ("0" : Str).cps[0]? = some 48 := by decide +kernel
        have h3 : (#[c] : Array Nat)[0]? = some c := rfl
        exact Option.some.inj (h3.symm.trans (h1.trans h2))
      exact hc e5
    refine ⟨_, rfl, z, rfl, fun D hD => lc_it (walk_str (z := z)) (fun j Hj => Same H Hj ∧ Hj D = some (.lst ((List.replicate j true).map V.bl))) ⟨Same.new hD, upd_same⟩ (fun _ _ _ _ => trivial) ?_ ?_⟩
    · rintro j x Hj H' hj ⟨ej, hDj⟩ ⟨rfl, ch, hch, rfl⟩
      have hjl : j < m := Nat.lt_of_lt_of_le hj z3
      refine ⟨rfl, yesT ?_⟩
      refine ⟨_, rfl, ch, "0123456789", rfl, rfl, ?_⟩
      rw [decide_eq_true (za j ch hch)]
      refine ⟨_, hDj, by rw [List.length_map, List.length_replicate]; exact small1000 (by omega), fun b o hb => ?_, ?_⟩
      · rw [upd_ne (ne_of_none hb hD)]
        exact ej b o hb
      · rw [upd_same, List.replicate_succ', List.map_append]
        rfl
    · rintro Hj ⟨ej, hDj⟩
      refine ⟨D, _, rfl, SqL.of hDj, ?_⟩
      have : (List.replicate z.cps.size true).all id = true := by simp
      rw [this]
      exact q Hj ej
abbrev sILR : Stmt := s_is_letters_row
theorem scILR : FnScope ["row", "word"] ["row"] (defScope sILR) := ⟨rfl, rfl, rfl, by decide +kernel, rfl, by decide +kernel, by decide +kernel⟩
def LtOk (c : List Int) : Prop := FitN 1000 999 c ∧ ∀ x ∈ c, 1 ≤ x.natAbs
def spILR : Sp := fun vs H Q _ => ∃ c, vs = [.str (ltrS c)] ∧ c ≠ [] ∧ LtOk c ∧ ∀ H', Same H H' → Q (.bl true) H'
theorem ok_ilr {f fF : Addr} {fd fdF : FuncData} (F : Fun K "is_letters_row" "is_letters_row" sILR f fd) (B : Bl mg) (gM : ∃ t, mg "MOST_FIGURES" = some (.int 3 t)) (G : Df K mg "is_figures" sFig ["word", "most"] fF fdF) (GF : FnOk P w K mg base CX0 1 fF fdF ["word", "most"] spFig) :
    FnOk P w K mg base CX0 2 f fd ["row"] spILR := by
  obtain ⟨tM, hM⟩ := gM
  refine F.ok scILR (fun vs H Q E h => ?_) (fun cdv A outer s H vs Q E hr h => ?_)
  · obtain ⟨c, rfl, _⟩ := h
    rfl
  · obtain ⟨c, rfl, h0, ⟨hc, hx⟩, q⟩ := h
    have hu := hu_of hr
    refine ⟨_, pss_one (ps_ret (pe_callB (cr_all rfl) (by rfl) B.all (by decide +kernel) (pa_cons (pe_lc (own := [("word", 1)]) (g := gName 1) (tt := tYes) rfl scILR.nd (pi_list (pe_split (pv 0) pe_str)) (blkOk_by (own := [("word", 1)]) (N := ["row", "word"]) (sc := defScope sILR) (by decide +kernel))
        (fun _ _ _ _ _ => pg_name (i := 1) scILR.nd rfl (Or.inl rfl)) (fun _ _ _ _ _ => pts_nil) (fun _ _ _ _ _ => pe_call GF hr rfl G.g G.F.kp G.b .nil pass0 (pa_cons (pe_m1 PySem.F.slot_str_removeprefix PySem.F.type_str_removeprefix mt_removeprefix (pv 1) pe_str) (pa_cons (pe_glob rfl hM (v := .int 3) ⟨_, rfl⟩) pa_nil)))) pa_nil))), ?_⟩
    show tRet _ _ [some (.str (ltrS c)), none] H
    walk_at "rd"
    have hl := ltrS_len (hc.mono (Nat.le_refl _) (by decide))
    have lc := hc.1
    have e2 : sizeLine = 16777216 := rfl
    refine ⟨_, rfl, ⟨_, rfl⟩, ltrS c, " ", rfl, rfl, rfl, by omega, fun l hl1 => ?_⟩
    rw [ltr_split h0]
    have s1 : Same H (upd H l (.lst ((c.map numS).map V.str))) := Same.new hl1
    have h1 : upd H l (.lst ((c.map numS).map V.str)) l = some (.lst ((c.map numS).map V.str)) := upd_same
    generalize upd H l (.lst ((c.map numS).map V.str)) = H1 at *
    refine ⟨l, rfl, ⟨_, SqL.of h1⟩, fun D hD => lc_list (K := K) (a := l) (xs := (c.map numS).map V.str) (fun j Hj => Same H1 Hj ∧ Hj D = some (.lst ((List.replicate j true).map V.bl))) ⟨Same.new hD, upd_same⟩ (fun j Hj _ ⟨e, _⟩ => SqL.of (e _ _ h1)) ?_ ?_⟩
    · rintro j x Hj hj ⟨ej, hDj⟩
      rw [List.map_map, List.getElem?_map] at hj
      cases ez : c[j]? with
      | none => rw [ez] at hj; cases hj
      | some z =>
      rw [ez] at hj
      cases hj
      have hjl : j < c.length := (List.getElem?_eq_some_iff.mp ez).1
      have hm := List.mem_of_getElem? ez
      have hz := hc.2 z hm
      have hn := num_len (x := z) (by omega)
      refine ⟨rfl, yesT ?_⟩
      refine ⟨_, rfl, ⟨_, rfl⟩, numS z, "-", rfl, rfl, by omega, _, 3, rfl, by decide, fig_let (hx z hm) hz, fun H' e' => ⟨_, e' _ _ hDj, by rw [List.length_map, List.length_replicate]; exact small1000 (by omega), fun b o hb => ?_, ?_⟩⟩
      · rw [upd_ne (ne_of_none hb hD)]
        exact e' _ _ (ej b o hb)
      · rw [upd_same, List.replicate_succ', List.map_append]
        rfl
    · rintro Hj ⟨ej, hDj⟩
      refine ⟨D, _, rfl, SqL.of hDj, ?_⟩
      have : ∀ n : Nat, (List.replicate n true).all id = true := by intro n; simp
      rw [this]
      exact q Hj (Same.trans s1 ej)
abbrev sLO : Stmt := s_letters_of
theorem scLO : FnScope ["row", "word"] ["row"] (defScope sLO) := ⟨rfl, rfl, rfl, by decide +kernel, rfl, by decide +kernel, by decide +kernel⟩
def spLO : Sp := fun vs H Q _ => ∃ c, vs = [.str (ltrS c)] ∧ c ≠ [] ∧ FitN 1000 999 c ∧ ∀ (a : Addr) (H' : Hp), Same H H' → H a = none → H' a = some (.tup (c.map V.int)) → Q (.ref a) H'
theorem none_same {a : Addr} {H H' : Hp} (e : Same H H') (ha : H' a = none) : H a = none := by
  cases h : H a with
  | none => rfl
  | some o =>
    have := e a o h
    rw [ha] at this
    cases this
theorem ok_lo {f : Addr} {fd : FuncData} (F : Fun K "letters_of" "letters_of" sLO f fd) (B : Bl mg) : FnOk P w K mg base CX0 1 f fd ["row"] spLO := by
  refine F.ok scLO (fun vs H Q E h => ?_) (fun cdv A outer s H vs Q E hr h => ?_)
  · obtain ⟨c, rfl, _⟩ := h
    rfl
  · obtain ⟨c, rfl, h0, hc, q⟩ := h
    have hu := hu_of hr
    refine ⟨_, pss_one (ps_ret (pe_callTy call_tuple_of (by rfl) B.tuple (by decide +kernel) (pa_cons (pe_lc (own := [("word", 1)]) (g := gName 1) (tt := tYes) (te := tCB (fun xs H Q => ∃ a n, xs = [.str a] ∧ PySem.intText? a = some n ∧ a.length ≤ 640 ∧ Q (.int n) H) (tCons (tVar 1) tNil)) rfl scLO.nd (pi_list (pe_split (pv 0) pe_str)) (blkOk_by (own := [("word", 1)]) (N := ["row", "word"]) (sc := defScope sLO) (by decide +kernel))
        (fun _ _ _ _ _ => pg_name (i := 1) scLO.nd rfl (Or.inl rfl)) (fun _ _ _ _ _ => pts_nil) (fun _ _ _ _ _ => pe_callTy (T := "int") call_int_str (by rfl) B.int (by decide +kernel) (pa_cons (pv 1) pa_nil))) pa_nil))), ?_⟩
    show tRet _ _ [some (.str (ltrS c)), none] H
    walk_at "rd"
    have hl := ltrS_len (hc.mono (Nat.le_refl _) (by decide))
    have lc := hc.1
    have e2 : sizeLine = 16777216 := rfl
    refine ⟨_, rfl, ⟨_, rfl⟩, ltrS c, " ", rfl, rfl, rfl, by omega, fun l hl1 => ?_⟩
    rw [ltr_split h0]
    have s1 : Same H (upd H l (.lst ((c.map numS).map V.str))) := Same.new hl1
    have h1 : upd H l (.lst ((c.map numS).map V.str)) l = some (.lst ((c.map numS).map V.str)) := upd_same
    generalize upd H l (.lst ((c.map numS).map V.str)) = H1 at *
    refine ⟨l, rfl, ⟨_, SqL.of h1⟩, fun D hD => lc_list (K := K) (a := l) (xs := (c.map numS).map V.str) (fun j Hj => Same H1 Hj ∧ Hj D = some (.lst ((c.take j).map V.int))) ⟨Same.new hD, upd_same⟩ (fun j Hj _ ⟨e, _⟩ => SqL.of (e _ _ h1)) ?_ ?_⟩
    · rintro j x Hj hj ⟨ej, hDj⟩
      rw [List.map_map, List.getElem?_map] at hj
      cases ez : c[j]? with
      | none => rw [ez] at hj; cases hj
      | some z =>
      rw [ez] at hj
      cases hj
      have hjl : j < c.length := (List.getElem?_eq_some_iff.mp ez).1
      have hz := hc.2 z (List.mem_of_getElem? ez)
      have hn := num_len (x := z) (by omega)
      refine ⟨rfl, yesT ?_⟩
      refine ⟨_, rfl, numS z, z, rfl, int_of hz, by omega, _, hDj, by rw [List.length_map, List.length_take]; exact small1000 (by omega), fun b o hb => ?_, ?_⟩
      · rw [upd_ne (ne_of_none hb hD)]
        exact ej b o hb
      · rw [upd_same, List.take_add_one, ez]
        simp only [Option.toList_some, List.map_append, List.map_cons, List.map_nil]
    · rintro Hj ⟨ej, hDj⟩
      rw [List.length_map, List.length_map, List.take_length] at hDj
      exact ⟨D, _, rfl, .inl ⟨SqL.of hDj, fun a ha => q a _ (Same.trans s1 (Same.trans ej (Same.new ha))) (none_same (Same.trans s1 ej) ha) upd_same⟩⟩
abbrev sICR : Stmt := s_is_clause_row
theorem scICR : FnScope ["row"] ["row"] (defScope sICR) := ⟨rfl, rfl, rfl, by decide +kernel, rfl, by decide +kernel, by decide +kernel⟩
def spICR : Sp := fun vs H Q _ => ∃ c, vs = [.str (rowS c)] ∧ LtOk c ∧ ∀ H', Same H H' → Q (.bl true) H'
theorem ok_icr {f fL : Addr} {fd fdL : FuncData} (F : Fun K "is_clause_row" "is_clause_row" sICR f fd) (gE : ∃ t, mg "_EMPTY" = some (.str "-" t)) (L : Df K mg "is_letters_row" sILR ["row"] fL fdL) (GL : FnOk P w K mg base CX0 2 fL fdL ["row"] spILR) : FnOk P w K mg base CX0 3 f fd ["row"] spICR := by
  obtain ⟨te, hE⟩ := gE
  refine F.ok scICR (fun vs H Q E h => ?_) (fun cdv A outer s H vs Q E hr h => ?_)
  · obtain ⟨c, rfl, _⟩ := h
    rfl
  · obtain ⟨c, rfl, hc, q⟩ := h
    refine ⟨_, pss_one (ps_ret (pe_or (pe_cmpR op_eq (pv 0) (pe_glob rfl hE (v := .str "-") ⟨_, rfl⟩) (nomark _)) (pe_one (pe_call GL hr rfl L.g L.F.kp L.b .nil pass0 (pa_cons (pv 0) pa_nil))))), ?_⟩
    show tRet _ _ [some (.str (rowS c))] H
    walk_at "rd"
    by_cases h0 : c = []
    · subst h0
      refine ⟨rfl, true, by rw [decide_eq_true]; rfl, ?_⟩
      first
        | exact q H (Same.refl H)
        | exact iteT (q H (Same.refl H))
    · have er : rowS c = ltrS c := if_neg h0
      rw [er]
      refine ⟨rfl, false, by rw [decide_eq_false fun e => ltr_ne hc.1 h0 (V.str.inj e)], iteF ?_⟩
      exact ⟨c, rfl, h0, hc, q⟩
abbrev sLC : Stmt := s_letters_of_clause
theorem scLC : FnScope ["row"] ["row"] (defScope sLC) := ⟨rfl, rfl, rfl, by decide +kernel, rfl, by decide +kernel, by decide +kernel⟩
def spLC : Sp := fun vs H Q _ => ∃ c, vs = [.str (rowS c)] ∧ FitN 1000 999 c ∧ ∀ (a : Addr) (H' : Hp), Same H H' → H a = none → H' a = some (.tup (c.map V.int)) → Q (.ref a) H'
theorem ok_lcl {f fL : Addr} {fd fdL : FuncData} (F : Fun K "letters_of_clause" "letters_of_clause" sLC f fd) (gE : ∃ t, mg "_EMPTY" = some (.str "-" t)) (L : Df K mg "letters_of" sLO ["row"] fL fdL) (GL : FnOk P w K mg base CX0 1 fL fdL ["row"] spLO) : FnOk P w K mg base CX0 2 f fd ["row"] spLC := by
  obtain ⟨te, hE⟩ := gE
  refine F.ok scLC (fun vs H Q E h => ?_) (fun cdv A outer s H vs Q E hr h => ?_)
  · obtain ⟨c, rfl, _⟩ := h
    rfl
  · obtain ⟨c, rfl, hc, q⟩ := h
    refine ⟨_, pss_one (ps_ret (pe_ifExp (pt_cmpR op_eq (pv 0) (pe_glob rfl hE (v := .str "-") ⟨_, rfl⟩) (nomark _)) (pe_tup pa_nil) (pe_call GL hr rfl L.g L.F.kp L.b .nil pass0 (pa_cons (pv 0) pa_nil)))), ?_⟩
    show tRet _ _ [some (.str (rowS c))] H
    walk_at "rd"
    by_cases h0 : c = []
    · subst h0
      refine ⟨rfl, true, by rw [decide_eq_true]; rfl, ?_⟩
      refine iteT ⟨Nat.zero_le _, fun a ha => q a _ (Same.new ha) ha upd_same⟩
    · have er : rowS c = ltrS c := if_neg h0
      rw [er]
      refine ⟨rfl, false, by rw [decide_eq_false fun e => ltr_ne hc h0 (V.str.inj e)], iteF ?_⟩
      exact ⟨c, rfl, h0, hc, q⟩
end
end Toy

-- part: S2
namespace Toy
open PySem L2
open RZ
section
variable {P : Program} {w : World} {K : PySem.W.Frag} {mg : Str → Option Value} {base : Heap}
theorem walk_zipT {a b : Addr} {xs ys : List V} {n : Nat} (hn : n = min xs.length ys.length) : Walk (ItzT K a b) n (fun H => SqT K H a xs ∧ SqT K H b ys) (YPair (fun i => xs[i]?) (fun i => ys[i]?)) := by
  subst hn
  refine ⟨fun i _ hi q => ?_, fun _ q => ⟨xs, ys, q.1, q.2, by omega⟩, fun i H v H' _ q y => ?_⟩
  · have h1 : i < xs.length := by omega
    have h2 : i < ys.length := by omega
    exact ⟨xs, ys, xs[i], ys[i], q.1, q.2, by simp [h1], by simp [h2]⟩
  · obtain ⟨T, x, z, h1, h2, h3, h4, h5⟩ := y
    exact ⟨T, x, z, h1, h2, h3, h4 xs q.1, h5 ys q.2⟩
theorem cut_one (xs : List V) : cutV xs (some 1) none = xs.drop 1 := by
  unfold cutV
  have e2 : HT.sIx xs.length xs.length none = xs.length := by
    unfold HT.sIx
    simp
  cases xs with
  | nil => simp
  | cons a r =>
    have e1 : HT.sIx (a :: r).length 0 (some 1) = 1 := by
      unfold HT.sIx
      simp
    rw [e1, e2]
    simp
abbrev sRs : Stmt := s__rises
abbrev nRs : List Str := ["clause", "one", "other"]
theorem scRs : FnScope nRs ["clause"] (defScope sRs) := ⟨rfl, rfl, rfl, by decide +kernel, rfl, by decide +kernel, by decide +kernel⟩
def spRs (K : PySem.W.Frag) : Sp := fun vs H Q _ => ∃ (a : Addr) (c : List Int), vs = [.ref a] ∧ SqT K H a (c.map V.int) ∧ c.length ≤ 500 ∧ c.Pairwise (fun a b => a.natAbs < b.natAbs) ∧ ∀ H', Same H H' → Q (.bl true) H'
def tLess : TE := tOp (rI0 fun i j => .bl (decide (i < j))) (tCB (fun xs H Q => ∃ i : Int, xs = [.int i] ∧ Q (.int (if i < 0 then -i else i)) H) (tCons (tVar 1) tNil)) (tCB (fun xs H Q => ∃ i : Int, xs = [.int i] ∧ Q (.int (if i < 0 then -i else i)) H) (tCons (tVar 2) tNil))
theorem ok_rs {f : Addr} {fd : FuncData} (F : Fun K "_rises" "_rises" sRs f fd) (B : Bl mg) : FnOk P w K mg base CX0 1 f fd ["clause"] (spRs K) := by
  refine F.ok scRs (fun vs H Q E h => ?_) (fun cdv A outer s H vs Q E hr h => ?_)
  · obtain ⟨a, c, rfl, _⟩ := h
    rfl
  · obtain ⟨a, c, rfl, ha, lc, inc, q⟩ := h
    have hu := hu_of hr
    refine ⟨_, pss_one (ps_ret (pe_callB (cr_all rfl) (by rfl) B.all (by decide +kernel) (pa_cons (pe_lc (own := [("one", 1), ("other", 2)]) (g := gTup K 2 (gCons (gName 1) (gCons (gName 2) gNil))) (tt := tYes) (te := tLess) rfl scRs.nd (pi_zipA (by rfl) B.zip (pa_cons (pv 0) (pa_cons (pe_slice sl_tupA (pv 0) (po_some pe_int) po_none) pa_nil)))
        (blkOk_by (own := [("one", 1), ("other", 2)]) (N := nRs) (sc := defScope sRs) (by decide +kernel)) (fun _ _ _ _ _ => pg_tup rfl (pgs_cons (pg_name (i := 1) scRs.nd rfl (Or.inl rfl)) (pgs_cons (pg_name (i := 2) scRs.nd rfl (Or.inl rfl)) pgs_nil))) (fun _ _ _ _ _ => pts_nil)
        (fun _ _ _ _ _ => pe_cmpR op_lt (pe_callB call_abs (by rfl) B.abs (by decide +kernel) (pa_cons (pv 1) pa_nil)) (pe_callB call_abs (by rfl) B.abs (by decide +kernel) (pa_cons (pv 2) pa_nil)) (nomark _))) pa_nil))), ?_⟩
    show tRet _ _ [some (.ref a), none, none] H
    walk_at "rd"
    have key : ∀ (b : Addr) (H1 : Hp), Same H H1 → SqT K H1 b ((c.drop 1).map V.int) → ∀ D, H1 D = none → ∃ W : Nat → Nat → Hp → Prop, (∃ m, W 0 m (upd H1 D (.lst []))) ∧ ∀ i m H, W i m H →
        ((ItzT K a b).stop i H ∧ ∃ (x : Addr) (bs : List Bool), [V.ref D] = [V.ref x] ∧ SqL K H x (bs.map V.bl) ∧ Q (.bl (bs.all id)) H) ∨ ((ItzT K a b).go i H ∧ ∃ Nx : Hp → Prop, (∀ H', Nx H' → ∃ m', m' < m ∧ W (i + 1) m' H') ∧ ∀ x H', (ItzT K a b).yld i H x H' → gTup K 2 (gCons (gName 1) (gCons (gName 2) gNil)) x (wipe [some (.ref a), none, none] ([(("one" : Str), 1), ("other", 2)].map (·.2))) H' fun σ2 H2 => wipe σ2 ([(("one" : Str), 1), ("other", 2)].map (·.2)) = wipe [some (.ref a), none, none] ([(("one" : Str), 1), ("other", 2)].map (·.2)) ∧ tYes σ2 H2 fun b H3 =>
          if b = true then tLess σ2 H3 fun y H4 => ∃ acc, H4 D = some (.lst acc) ∧ acc.length < sizeLine ∧ Nx (upd H4 D (.lst (acc ++ [y]))) else Nx H3) := by
      intro b H1 s1 hb D hD
      have ha1 := Same.sqt s1 ha
      refine lc_it (walk_zipT (K := K) (a := a) (b := b) (xs := c.map V.int) (ys := (c.drop 1).map V.int) rfl) (fun j Hj => Same H1 Hj ∧ Hj D = some (.lst ((List.replicate j true).map V.bl))) ⟨Same.new hD, upd_same⟩ (fun j Hj _ ⟨e, _⟩ => ⟨Same.sqt e ha1, Same.sqt e hb⟩) ?_ ?_
      · rintro j x Hj Hk hj ⟨ej, hDj⟩ ⟨T, y, z, rfl, nT, rfl, hy, hz⟩
        have hy : (c.map V.int)[j]? = some y := hy
        have hz : ((c.drop 1).map V.int)[j]? = some z := hz
        rw [List.getElem?_map] at hy hz
        rw [List.getElem?_drop] at hz
        cases ey : c[j]? with
        | none => rw [ey] at hy; cases hy
        | some u =>
        cases ez : c[1 + j]? with
        | none => rw [ez] at hz; cases hz
        | some v =>
        rw [ey] at hy
        rw [ez] at hz
        cases hy
        cases hz
        obtain ⟨j1, e1⟩ := List.getElem?_eq_some_iff.mp ey
        obtain ⟨j2, e2⟩ := List.getElem?_eq_some_iff.mp ez
        have lt : u.natAbs < v.natAbs := by
          have := List.pairwise_iff_getElem.mp inc j (1 + j) j1 j2 (by omega)
          rw [e1, e2] at this
          exact this
        have sT : Same Hj (upd Hj T (.tup [.int u, .int v])) := Same.new nT
        have hT : upd Hj T (.tup [.int u, .int v]) T = some (.tup [.int u, .int v]) := upd_same
        generalize upd Hj T (.tup [.int u, .int v]) = Hk at *
        refine ⟨T, _, rfl, SqT.of hT, rfl, _, _, rfl, _, _, rfl, rfl, rfl, yesT ?_⟩
        show tLess [some (.ref a), some (.int u), some (.int v)] Hk _
        unfold tLess
        walk_at "rd"
        have e : decide ((if u < 0 then -u else u) < (if v < 0 then -v else v)) = true := decide_eq_true (by split <;> split <;> omega)
        rw [e]
        refine ⟨_, sT _ _ hDj, by rw [List.length_map, List.length_replicate]; exact small1000 (by omega), fun c o hc => ?_, ?_⟩
        · rw [upd_ne (ne_of_none hc hD)]
          exact sT _ _ (ej c o hc)
        · rw [upd_same, List.replicate_succ', List.map_append]
          rfl
      · rintro Hj ⟨ej, hDj⟩
        refine ⟨D, _, rfl, SqL.of hDj, ?_⟩
        have : ∀ n : Nat, (List.replicate n true).all id = true := by intro n; simp
        rw [this]
        exact q Hj (Same.trans s1 ej)
    refine ⟨_, rfl, _, rfl, 1, rfl, a, _, rfl, ha, fun hw => ?_, fun hw p hp => ?_⟩
    · refine ⟨a, a, _, _, rfl, .inr ⟨ha, ha, fun D hD => ?_⟩⟩
      have e : c.map V.int = (c.drop 1).map V.int := by
        have e1 : cutV (c.map V.int) (some 1) none = c.map V.int := by
          unfold cutV
          rw [hw.1, hw.2, List.drop_zero, Nat.sub_zero, List.take_length]
        rw [cut_one] at e1
        rw [← e1, List.map_drop]
      exact key a H (Same.refl H) (by rw [← e]; exact ha) D hD
    · rw [cut_one, ← List.map_drop]
      have s1 : Same H (upd H p (.tup ((c.drop 1).map V.int))) := Same.new hp
      have h1 : upd H p (.tup ((c.drop 1).map V.int)) p = some (.tup ((c.drop 1).map V.int)) := upd_same
      generalize upd H p (.tup ((c.drop 1).map V.int)) = H1 at *
      exact ⟨a, p, _, _, rfl, .inr ⟨Same.sqt s1 ha, SqT.of h1, fun D hD => key p H1 s1 (SqT.of h1) D hD⟩⟩
end
end Toy

-- part: S3
namespace Toy
open PySem L2
section
variable {P : Program} {w : World} {K : PySem.W.Frag} {mg : Str → Option Value} {base : Heap}
abbrev sSN : Stmt := s__is_step_number
theorem scSN : FnScope ["word"] ["word"] (defScope sSN) := ⟨rfl, rfl, rfl, by decide +kernel, rfl, by decide +kernel, by decide +kernel⟩
def spSN : Sp := fun vs H Q _ => ∃ i : Int, vs = [.str (numS i)] ∧ 0 ≤ i ∧ i ≤ 9999 ∧ ∀ H', Same H H' → Q (.bl true) H'
theorem ok_sn {f fF : Addr} {fd fdF : FuncData} (F : Fun K "_is_step_number" "_is_step_number" sSN f fd) (gM : ∃ t, mg "_MOST_FIGURES_OF_STEP" = some (.int 4 t)) (G : Df K mg "is_figures" sFig ["word", "most"] fF fdF) (GF : FnOk P w K mg base CX0 1 fF fdF ["word", "most"] spFig) : FnOk P w K mg base CX0 2 f fd ["word"] spSN := by
  obtain ⟨tM, hM⟩ := gM
  refine F.ok scSN (fun vs H Q E h => ?_) (fun cdv A outer s H vs Q E hr h => ?_)
  · obtain ⟨c, rfl, _⟩ := h
    rfl
  · obtain ⟨i, rfl, i0, i9, q⟩ := h
    refine ⟨_, pss_one (ps_ret (pe_or (pe_cmpR op_eq (pv 0) pe_str (nomark _)) (pe_one (pe_call GF hr rfl G.g G.F.kp G.b .nil pass0 (pa_cons (pv 0) (pa_cons (pe_glob rfl hM (v := .int 4) ⟨_, rfl⟩) pa_nil)))))), ?_⟩
    show tRet _ _ [some (.str (numS i))] H
    walk_at "rd"
    by_cases h0 : i = 0
    · subst h0
      refine ⟨rfl, true, by rw [decide_eq_true]; rfl, ?_⟩
      first
        | exact q H (Same.refl H)
        | exact iteT (q H (Same.refl H))
    · obtain ⟨n, rfl⟩ := Int.eq_ofNat_of_zero_le i0
      have hf : FigN 4 (numS (n : Int)) := fig_gen (by omega) (by decide) (by omega)
      refine ⟨rfl, false, ?_, iteF ?_⟩
      · rw [decide_eq_false]
        intro e
        have e1 : numS (n : Int) = "0" := V.str.inj e
        obtain ⟨c, hc, hn⟩ := hf.first
        rw [e1] at hc
        have e2 : atI ("0" : Str).cps.toList 0 = some 48 := by decide +kernel
        rw [e2] at hc
        exact hn (Option.some.inj hc).symm
      · exact ⟨_, 4, rfl, by decide, hf, q⟩
theorem part_one (wd : Str) (z : Str) (h : 32 ∉ TL.tl wd) : Txt.partition (wd ++ " " ++ z) " " = (wd, (" " : Str), z) := TL.partition_app (y := " ") (s := 32) (S := []) (by decide +kernel) h
theorem part_by (x z : Str) (h : 32 ∉ TL.tl x) : Txt.partition (x ++ " by " ++ z) " by " = (x, (" by " : Str), z) := TL.partition_app (y := " by ") (s := 32) (S := [98, 121, 32]) (by decide +kernel) h
abbrev sSO : Stmt := s__step_of
abbrev nSO : List Str := ["row", "word", "_", "told", "clause", "at", "letters"]
theorem scSO : FnScope nSO ["row"] (defScope sSO) := ⟨rfl, rfl, rfl, by decide +kernel, rfl, by decide +kernel, by decide +kernel⟩
def spSO : Sp := fun vs H Q _ => ∃ s, vs = [.str (sdText s)] ∧ SdOk s ∧ SdLow s ∧ ∀ (a : Addr) (H' : Hp), Same H H' → H a = none → StepAt H' a s → Q (.ref a) H'
theorem ok_so {aL aC f fI fL fJ fC fR fN : Addr} {fd fdI fdL fdJ fdC fdR fdN : FuncData} (F : Fun K "_step_of" "_step_of" sSO f fd) (B : Bl mg) (W : Wds K mg aL aC) (gT : ∃ t, mg "_TURNED" = some (.str "turned" t))
    (I : Df K mg "is_letters_row" sILR ["row"] fI fdI) (GI : FnOk P w K mg base CX0 2 fI fdI ["row"] spILR) (L : Df K mg "letters_of" sLO ["row"] fL fdL) (GL : FnOk P w K mg base CX0 1 fL fdL ["row"] spLO)
    (J : Df K mg "is_clause_row" sICR ["row"] fJ fdJ) (GJ : FnOk P w K mg base CX0 3 fJ fdJ ["row"] spICR) (C : Df K mg "letters_of_clause" sLC ["row"] fC fdC) (GC : FnOk P w K mg base CX0 2 fC fdC ["row"] spLC)
    (R : Df K mg "_rises" sRs ["clause"] fR fdR) (GR : FnOk P w K mg base CX0 1 fR fdR ["clause"] (spRs K)) (N : Df K mg "_is_step_number" sSN ["word"] fN fdN) (GN : FnOk P w K mg base CX0 2 fN fdN ["word"] spSN) : FnOk P w K mg base CX0 4 f fd ["row"] spSO := by
  obtain ⟨tb, hB⟩ := W.by'
  obtain ⟨tT, hT⟩ := gT
  refine F.ok scSO (fun vs H Q E h => ?_) (fun cdv A outer s H vs Q E hr h => ?_)
  · obtain ⟨c, rfl, _⟩ := h
    rfl
  · obtain ⟨st, rfl, ok, low, q⟩ := h
    have hu := hu_of hr
    refine ⟨_, pss_cons (ps_asg (pe_partition (pv 0) pe_str) (pg_tup rfl (pgs_cons (pg_name (i := 1) scSO.nd rfl (Or.inl rfl)) (pgs_cons (pg_name (i := 2) scSO.nd rfl (Or.inl rfl)) (pgs_cons (pg_name (i := 3) scSO.nd rfl (Or.inl rfl)) pgs_nil)))))
      (pss_cons (ps_if (PW.pt (pw_and (pt_cmpR op_in_seq (pv 1) (pe_glob rfl W.gL (v := .ref aL) rfl) (by rfl)) (pw_and1 (pt_val (pe_call GI (hr.mono (by decide)) rfl I.g I.F.kp I.b .nil pass0 (pa_cons (pv 3) pa_nil))))))
        (pss_one (ps_ret (pe_tup (pa_cons (pv 1) (pa_cons (pe_call GL (hr.mono (by decide)) rfl L.g L.F.kp L.b .nil pass0 (pa_cons (pv 3) pa_nil)) pa_nil))))) pss_nil)
      (pss_cons (ps_if (PW.pt (pw_and (pt_cmpR op_in_seq (pv 1) (pe_glob rfl W.gC (v := .ref aC) rfl) (by rfl)) (pw_and1 (pt_val (pe_call GJ hr rfl J.g J.F.kp J.b .nil pass0 (pa_cons (pv 3) pa_nil))))))
        (pss_cons (ps_set (i := 4) scSO.nd rfl (Or.inl rfl) (pe_call GC (hr.mono (by decide)) rfl C.g C.F.kp C.b .nil pass0 (pa_cons (pv 3) pa_nil)))
        (pss_one (ps_ret (pe_ifExp (pt_val (pe_call GR (hr.mono (by decide)) rfl R.g R.F.kp R.b .nil pass0 (pa_cons (pv 4) pa_nil))) (pe_tup (pa_cons (pv 1) (pa_cons (pv 4) pa_nil))) pe_non)))) pss_nil)
      (pss_cons (ps_if (pt_cmpR op_eq (pv 1) (pe_glob rfl hT (v := .str "turned") ⟨_, rfl⟩) (nomark _))
        (pss_cons (ps_asg (pe_partition (pv 3) (pe_glob rfl hB (v := .str " by ") ⟨_, rfl⟩)) (pg_tup rfl (pgs_cons (pg_name (i := 5) scSO.nd rfl (Or.inl rfl)) (pgs_cons (pg_name (i := 2) scSO.nd rfl (Or.inl rfl)) (pgs_cons (pg_name (i := 6) scSO.nd rfl (Or.inl rfl)) pgs_nil)))))
        (pss_one (ps_if (PW.pt (pw_and (pt_val (pe_call GN (hr.mono (by decide)) rfl N.g N.F.kp N.b .nil pass0 (pa_cons (pv 5) pa_nil))) (pw_and1 (pt_val (pe_call GI (hr.mono (by decide)) rfl I.g I.F.kp I.b .nil pass0 (pa_cons (pv 6) pa_nil))))))
          (pss_one (ps_ret (pe_tup (pa_cons (pv 1) (pa_cons (pe_callTy (T := "int") call_int_str (by rfl) B.int (by decide +kernel) (pa_cons (pv 5) pa_nil)) (pa_cons (pe_call GL (hr.mono (by decide)) rfl L.g L.F.kp L.b .nil pass0 (pa_cons (pv 6) pa_nil)) pa_nil)))))) pss_nil))) pss_nil)
      (pss_one (ps_ret pe_non))))), ?_⟩
    show tSeq _ _ _ [some (.str (sdText st)), none, none, none, none, none, none] H
    have eZ : sizeLine = 16777216 := rfl
    have tlen := sdText_len ok
    cases st with
    | two wd c =>
      obtain ⟨hw, hf⟩ := ok
      have hf' := hf.mono (n' := 1000) (b' := 999) (by decide) (by decide)
      have w32 : 32 ∉ TL.tl wd := by rcases hw with ⟨rfl | rfl, _⟩ | rfl | rfl | rfl <;> decide +kernel
      have et : sdText (.two wd c) = wd ++ " " ++ rowS c := rfl
      have lo : ∀ x ∈ c, 1 ≤ x.natAbs := low.1
      rw [et] at tlen
      refine seq_gen (fun σ' H' => σ' = [some (.str (wd ++ " " ++ rowS c)), some (.str wd), some (.str " "), some (.str (rowS c)), none, none, none] ∧ Same H H') (fun nx hnx => ?_) ?_
      · unfold tAsg
        refine ⟨_, rfl, ⟨_, rfl⟩, _, " ", rfl, rfl, rfl, by rw [et]; omega, fun p hp => ?_⟩
        rw [et, part_one wd _ w32]
        exact ⟨p, _, rfl, SqT.of upd_same, rfl, _, _, rfl, _, _, rfl, _, _, rfl, rfl, hnx _ _ ⟨rfl, Same.new hp⟩⟩
      rintro σ H1 ⟨rfl, s1⟩
      walk_at "rd"
      rcases hw with ⟨hw, hc⟩ | hw
      · have ew : inV (.str wd) [.str "order", .str "turn"] = true := by rcases hw with rfl | rfl <;> decide +kernel
        have er : rowS c = ltrS c := if_neg hc
        rw [er]
        refine ⟨aL, _, rfl, .inr (W.sL _), rfl, rfl, true, by rw [ew]; rfl, iteT ?_⟩
        refine ⟨c, rfl, hc, ⟨hf', lo⟩, fun H2 s2 => ⟨true, rfl, iteT ?_⟩⟩
        refine ⟨c, rfl, hc, hf', fun a H3 s3 na ha => ⟨by show 2 ≤ sizeLine; decide, fun b hb => ?_⟩⟩
        have s13 := Same.trans s1 (Same.trans s2 s3)
        exact q b _ (Same.trans s13 (Same.new hb)) (none_same s13 hb) ⟨a, upd_same, Same.new hb _ _ ha⟩
      · have ew : inV (.str wd) [.str "order", .str "turn"] = false := by rcases hw with rfl | rfl | rfl <;> decide +kernel
        have ec : inV (.str wd) [.str "learn", .str "pure", .str "drop"] = true := by rcases hw with rfl | rfl | rfl <;> decide +kernel
        refine ⟨aL, _, rfl, .inr (W.sL _), rfl, rfl, false, by rw [ew]; rfl, iteF ?_⟩
        walk_at "rd"
        refine ⟨aC, _, rfl, .inr (W.sC _), rfl, rfl, true, by rw [ec]; rfl, iteT ?_⟩
        refine ⟨c, rfl, ⟨hf', lo⟩, fun H2 s2 => ⟨true, rfl, iteT ?_⟩⟩
        refine ⟨c, rfl, hf', fun a H3 s3 na ha => ?_⟩
        walk_at "rd"
        have s13 := Same.trans s1 (Same.trans s2 s3)
        refine ⟨a, c, rfl, SqT.of ha, Nat.le_trans hf.1 (by decide), low.2 hw, fun H4 s4 => ⟨true, rfl, iteT ?_⟩⟩
        refine ⟨by show 2 ≤ sizeLine; decide, fun b hb => ?_⟩
        exact q b _ (Same.trans s13 (Same.trans s4 (Same.new hb))) (none_same (Same.trans s13 s4) hb) ⟨a, upd_same, Same.new hb _ _ (s4 _ _ ha)⟩
    | trd i c =>
      obtain ⟨hc, hf, i0, i9⟩ := ok
      have hf' := hf.mono (n' := 1000) (b' := 999) (by decide) (by decide)
      have er : rowS c = ltrS c := if_neg hc
      have lo : ∀ x ∈ c, 1 ≤ x.natAbs := low
      have e7 : ("turned " : Str) = ("turned" : Str) ++ " " := by decide +kernel
      have et : sdText (.trd i c) = ("turned" : Str) ++ " " ++ (numS i ++ " by " ++ ltrS c) := by
        show "turned " ++ numS i ++ " by " ++ rowS c = _
        rw [er, e7, PySem.Str.append_assoc, PySem.Str.append_assoc, PySem.Str.append_assoc, PySem.Str.append_assoc, PySem.Str.append_assoc]
      have i32 : 32 ∉ TL.tl (numS i) := num_no 32 ⟨by decide, by decide⟩ i
      rw [et] at tlen
      have ln := num_len (x := i) (by omega)
      have ll := ltrS_len (hf.mono (n' := 1000) (b' := 99999) (by decide) (by decide))
      have lc := hf.1
      have eb : ((" by " : Str)).length = 4 := by decide +kernel
      refine seq_gen (fun σ' H' => σ' = [some (.str (sdText (.trd i c))), some (.str "turned"), some (.str " "), some (.str (numS i ++ " by " ++ ltrS c)), none, none, none] ∧ Same H H') (fun nx hnx => ?_) ?_
      · unfold tAsg
        refine ⟨_, rfl, ⟨_, rfl⟩, _, " ", rfl, rfl, rfl, by rw [et]; omega, fun p hp => ?_⟩
        have ep : Txt.partition (sdText (.trd i c)) " " = (("turned" : Str), (" " : Str), numS i ++ " by " ++ ltrS c) := by
          rw [et]
          exact part_one _ _ (by decide +kernel)
        rw [ep]
        exact ⟨p, _, rfl, SqT.of upd_same, rfl, _, _, rfl, _, _, rfl, _, _, rfl, rfl, hnx _ _ ⟨rfl, Same.new hp⟩⟩
      rintro σ H1 ⟨rfl, s1⟩
      walk_at "rd"
      refine ⟨aL, _, rfl, .inr (W.sL _), rfl, rfl, false, by decide +kernel, iteF ?_⟩
      walk_at "rd"
      refine ⟨aC, _, rfl, .inr (W.sC _), rfl, rfl, false, by decide +kernel, iteF ?_⟩
      walk_at "rd"
      refine ⟨rfl, true, by rw [decide_eq_true]; rfl, iteT ?_⟩
      refine ⟨_, rfl, ⟨_, rfl⟩, _, " by ", rfl, rfl, by decide +kernel, by rw [strLen_append, strLen_append]; omega, fun p hp => ?_⟩
      rw [part_by _ _ i32]
      have s2 : Same H1 (upd H1 p (.tup [.str (numS i), .str " by ", .str (ltrS c)])) := Same.new hp
      refine ⟨p, _, rfl, SqT.of upd_same, rfl, _, _, rfl, _, _, rfl, _, _, rfl, rfl, ?_⟩
      walk_at "rd"
      generalize upd H1 p (.tup [.str (numS i), .str " by ", .str (ltrS c)]) = H2 at *
      refine ⟨i, rfl, i0, i9, fun H3 s3 => ⟨true, rfl, iteT ?_⟩⟩
      refine ⟨c, rfl, hc, ⟨hf', lo⟩, fun H4 s4 => ⟨true, rfl, iteT ?_⟩⟩
      have hi : PySem.intText? (numS i) = some i := PySem.W.KIN.num_reads i0 (by omega)
      refine ⟨numS i, i, rfl, hi, by omega, ?_⟩
      refine ⟨c, rfl, hc, hf', fun a H5 s5 na ha => ⟨by show 3 ≤ sizeLine; decide, fun b hb => ?_⟩⟩
      have s15 := Same.trans s1 (Same.trans s2 (Same.trans s3 (Same.trans s4 s5)))
      exact q b _ (Same.trans s15 (Same.new hb)) (none_same s15 hb) ⟨a, upd_same, Same.new hb _ _ ha⟩
end
end Toy

-- part: S4
namespace Toy
open PySem L2
section
variable {P : Program} {w : World} {K : PySem.W.Frag} {mg : Str → Option Value} {base : Heap}
theorem sd_nl : ∀ {s : Sd}, SdOk s → 10 ∉ TL.tl (sdText s)
  | .two wd c, ⟨h, _⟩ => by
    have w10 : 10 ∉ TL.tl wd := by rcases h with ⟨rfl | rfl, _⟩ | rfl | rfl | rfl <;> decide +kernel
    have e1 : TL.tl (" " : Str) = [32] := by decide +kernel
    have e2 := row_no 10 ⟨by decide, by decide, by decide⟩ c
    show 10 ∉ TL.tl (wd ++ " " ++ rowS c)
    rw [TL.tl_append, TL.tl_append, e1]
    intro hm
    rcases List.mem_append.mp hm with hm | hm
    · rcases List.mem_append.mp hm with hm | hm
      · exact w10 hm
      · revert hm
        decide
    · exact e2 hm
  | .trd i c, _ => by
    have e1 : 10 ∉ TL.tl ("turned " : Str) := by decide +kernel
    have e2 : 10 ∉ TL.tl (" by " : Str) := by decide +kernel
    have e3 := row_no 10 ⟨by decide, by decide, by decide⟩ c
    have e4 := num_no 10 ⟨by decide, by decide⟩ i
    show 10 ∉ TL.tl ("turned " ++ numS i ++ " by " ++ rowS c)
    rw [TL.tl_append, TL.tl_append, TL.tl_append]
    intro hm
    rcases List.mem_append.mp hm with hm | hm
    · rcases List.mem_append.mp hm with hm | hm
      · rcases List.mem_append.mp hm with hm | hm
        · exact e1 hm
        · exact e4 hm
      · exact e2 hm
    · exact e3 hm
theorem st_split {ss : List Sd} (ok : ∀ s ∈ ss, SdOk s) : Txt.split (stS ss) "\n" = ss.map sdText ++ [("" : Str)] := by
  have e : stS ss = Txt.join "" ((ss.map sdText).map fun s : Str => s ++ ("\n" : Str)) := by
    unfold stS
    rw [List.map_map]
    rfl
  rw [e]
  refine rows_split _ fun z hz => ?_
  obtain ⟨s, hs, rfl⟩ := List.mem_map.mp hz
  exact sd_nl (ok s hs)
theorem st_len {ss : List Sd} (ok : ∀ s ∈ ss, SdOk s) (l : ss.length ≤ 100) : (stS ss).length ≤ 800100 := by
  unfold stS
  rw [TL.join_eq]
  refine Nat.le_trans (join_le _ _) ?_
  have h4 := stS_sum ss ok
  have e0 : (("" : Str)).length = 0 := rfl
  rw [e0, Nat.mul_zero]
  omega
abbrev sRL : Stmt := s_read_log
abbrev nRL : List Str := ["text", "rows", "last", "steps", "at", "row", "step"]
theorem scRL : FnScope nRL ["text"] (defScope sRL) := ⟨rfl, rfl, rfl, by decide +kernel, rfl, by decide +kernel, by decide +kernel⟩
def spRL : Sp := fun vs H Q _ => ∃ ss, vs = [.str (stS ss)] ∧ (∀ s ∈ ss, SdOk s ∧ SdLow s) ∧ ss.length ≤ 100 ∧ ∀ (a : Addr) (bs : List Addr) (H' : Hp), Same H H' → H a = none → H' a = some (.lst (bs.map V.ref)) → StepsAt H' bs ss → Q (.ref a) H'
theorem ok_rl {f fS : Addr} {fd fdS : FuncData} (F : Fun K "read_log" "read_log" sRL f fd) (B : Bl mg) (S : Df K mg "_step_of" sSO ["row"] fS fdS) (GS : FnOk P w K mg base CX0 4 fS fdS ["row"] spSO) : FnOk P w K mg base CX0 5 f fd ["text"] spRL := by
  refine F.ok scRL (fun vs H Q E h => ?_) (fun cdv A outer s H vs Q E hr h => ?_)
  · obtain ⟨ss, rfl, _⟩ := h
    rfl
  · obtain ⟨ss, rfl, ok, lss, q⟩ := h
    have hu := hu_of hr
    refine ⟨_, pss_cons (ps_if (pt_cmpR op_neT (pe_callTy call_type1 (by rfl) B.type (by decide +kernel) (pa_cons (pv 0) pa_nil)) (pe_bltn (v := .ty "str") (by rfl) B.str (by decide +kernel) rfl) (nomark _)) (pss_one ps_never) pss_nil)
      (pss_cons (ps_asg (pe_split (pv 0) pe_str) (pg_star0 rfl (pgs_cons (pg_name (i := 1) scRL.nd rfl (Or.inl rfl)) (pgs_cons (pg_name (i := 2) scRL.nd rfl (Or.inl rfl)) pgs_nil))))
      (pss_cons (ps_set (i := 3) scRL.nd rfl (Or.inl rfl) (pe_lst pa_nil))
      (pss_cons (ps_for PassesOwn.never rfl (pi_enum (by rfl) B.enumerate (pa_cons (pv 1) pa_nil)) (pg_tup rfl (pgs_cons (pg_name (i := 4) scRL.nd rfl (Or.inl rfl)) (pgs_cons (pg_name (i := 5) scRL.nd rfl (Or.inl rfl)) pgs_nil)))
        (pss_cons (ps_set (i := 6) scRL.nd rfl (Or.inl rfl) (pe_call GS hr rfl S.g S.F.kp S.b .nil pass0 (pa_cons (pv 5) pa_nil)))
        (pss_cons (ps_if (pt_cmpR op_isN (pv 6) pe_non (nomark _)) (pss_one ps_never) pss_nil)
        (pss_one (ps_expr (pe_bm PySem.F.plainAttrs_list PySem.F.slot_list_append PySem.F.type_list_append mt_append (pv 3) (pa_cons (pv 6) pa_nil)))))))
      (pss_cons (ps_if (pt_cmpR op_ne (pv 2) pe_str (nomark _)) (pss_one ps_never) pss_nil)
      (pss_one (ps_ret (pv 3))))))), ?_⟩
    show tSeq _ _ _ [some (.str (stS ss)), none, none, none, none, none, none] H
    have ok1 : ∀ s ∈ ss, SdOk s := fun s hs => (ok s hs).1
    have tl := st_len ok1 lss
    have ts := st_split ok1
    have e2 : sizeLine = 16777216 := rfl
    generalize stS ss = z at *
    walk_at "rd"
    refine ⟨.str z, "str", rfl, .str z, "str", "str", rfl, rfl, .inr (.inl rfl), .inr (.inl rfl), ?_⟩
    walk_at "rd"
    refine iteF ⟨_, rfl, ⟨_, rfl⟩, z, "\n", rfl, rfl, rfl, by omega, fun l hl => ?_⟩
    rw [ts]
    have s1 : Same H (upd H l (.lst ((ss.map sdText ++ [("" : Str)]).map V.str))) := Same.new hl
    have h1 : upd H l (.lst ((ss.map sdText ++ [("" : Str)]).map V.str)) l = some (.lst ((ss.map sdText ++ [("" : Str)]).map V.str)) := upd_same
    generalize upd H l (.lst ((ss.map sdText ++ [("" : Str)]).map V.str)) = H1 at *
    rw [List.map_append] at h1
    refine ⟨l, (ss.map sdText).map V.str, .str "", rfl, SqL.of h1, fun D hD => ?_⟩
    have s2 : Same H1 (upd H1 D (.lst ((ss.map sdText).map V.str))) := Same.new hD
    have h2 : upd H1 D (.lst ((ss.map sdText).map V.str)) D = some (.lst ((ss.map sdText).map V.str)) := upd_same
    generalize upd H1 D (.lst ((ss.map sdText).map V.str)) = H2 at *
    refine ⟨_, _, rfl, _, _, rfl, rfl, ?_⟩
    walk_at "rd"
    refine ⟨Nat.zero_le _, fun st hst => ?_⟩
    have s12 := Same.trans s1 s2
    have nst := none_same s12 hst
    have nDs : D ≠ st := ne_of_none h2 hst
    have s3 : Same H2 (upd H2 st (.lst [])) := Same.new hst
    have h3 : upd H2 st (.lst []) st = some (.lst []) := upd_same
    have h32 := s3 _ _ h2
    have s13 := Same.trans s12 s3
    generalize upd H2 st (.lst []) = H3 at *
    walk_at "rd"
    refine ⟨_, rfl, D, (ss.map sdText).map V.str, rfl, SqL.of h32, for_enumL (K := K) (a := D) (fun i σ H' => ∃ (bs : List Addr) (l4 l5 l6 : Option V), σ = [some (.str z), some (.ref D), some (.str ""), some (.ref st), l4, l5, l6] ∧ Same H H' ∧ H' D = some (.lst ((ss.map sdText).map V.str)) ∧ H' st = some (.lst (bs.map V.ref)) ∧ StepsAt H' bs (ss.take i))
      ⟨[], none, none, none, rfl, s13, h32, h3, .nil⟩ ?_ ?_ (fun i σ H' _ ⟨_, _, _, _, _, _, e, _⟩ => SqL.of e)⟩
    · rintro i x T σ H' hi ⟨bs, l4, l5, l6, rfl, e1, hD', hst', hss⟩ hT
      rw [List.map_map, List.getElem?_map] at hi
      cases ey : ss[i]? with
      | none => rw [ey] at hi; cases hi
      | some t =>
      rw [ey] at hi
      cases hi
      have il : i < ss.length := (List.getElem?_eq_some_iff.mp ey).1
      obtain ⟨o1, o2⟩ := ok t (List.mem_of_getElem? ey)
      have sT : Same H' (upd H' T (.tup [.int (i : Nat), .str (sdText t)])) := Same.new hT
      refine ⟨T, _, rfl, SqT.of upd_same, rfl, _, _, rfl, _, _, rfl, rfl, ?_⟩
      show tSeq _ _ _ _ (upd H' T (.tup [.int (i : Nat), .str (sdText t)]))
      generalize upd H' T (.tup [.int (i : Nat), .str (sdText t)]) = H4 at *
      walk_at "rd"
      refine ⟨t, rfl, o1, o2, fun a H5 s5 na ha => ?_⟩
      have s45 := Same.trans sT s5
      have hst5 := s45 _ _ hst'
      have hss5 : StepsAt H5 bs (ss.take i) := pr_imp (fun _ _ h => StepAt.same s45 h) hss
      have lb : bs.length = i := by rw [pr_len hss, List.length_take]; omega
      walk_at "rd"
      refine ⟨trivial, Or.inl ⟨rfl, _, SqL.of hst5⟩, ?_⟩
      walk_at "rd"
      refine p_app hst5 (by rw [List.length_map]; exact small1000 (by omega)) ?_
      refine ⟨bs ++ [a], _, _, _, rfl, fun b o hb => ?_, ?_, by rw [upd_same, List.map_append]; rfl, ?_⟩
      · rw [upd_ne (ne_of_none hb nst)]
        exact s45 _ _ (e1 _ _ hb)
      · rw [upd_ne nDs]
        exact s45 _ _ hD'
      · rw [List.take_add_one, ey]
        exact pr_snoc (StepAt.ex Ex.at hst5 ha) (pr_imp (fun _ _ h => StepAt.ex Ex.at hst5 h) hss5)
    · rintro σ H4 ⟨bs, l4, l5, l6, rfl, e1, hD', hst', hss⟩
      rw [List.length_map, List.length_map, List.take_length] at hss
      walk_at "rd"
      refine ⟨rfl, false, by rw [decide_eq_true rfl]; rfl, iteF ?_⟩
      exact q st bs H4 e1 nst hst' hss
end
end Toy

-- part: TX
namespace Toy
open PySem PySem.Spec PyProof.Rows L2
/-! ### how long the texts are -/
theorem piled_le {m : Nat} : ∀ {ts : List Str}, (∀ t ∈ ts, t.length ≤ m) → piled ts ≤ ts.length * (m + 2)
  | [], _ => Nat.zero_le _
  | t :: r, h => by
    have h1 := h t List.mem_cons_self
    have h2 := piled_le fun t ht => h t (List.mem_cons_of_mem _ ht)
    rw [piled_cons, List.length_cons, Nat.add_mul, Nat.one_mul]
    omega
theorem list_len (ts : List Str) : (listText ts).length ≤ piled ts + 2 := by
  cases ts with
  | nil => decide
  | cons t r =>
    have h := textFrom_length_pos r 1 (("[" : Str) ++ (if (0 : Nat) > 0 then ", " else "" : String) ++ t) (Nat.succ_pos 0)
    have e : ((("[" : Str) ++ (if (0 : Nat) > 0 then ", " else "" : String) ++ t)).length = 1 + t.length := by
      rw [strLen_append, strLen_append]; rfl
    have hX : (listText (t :: r)).length = (textFrom 1 (("[" : Str) ++ (if (0 : Nat) > 0 then ", " else "" : String) ++ t) r).length + 1 := by
      show (textFrom 0 "[" (t :: r) ++ "]").length = _
      rw [strLen_append]; rfl
    rw [hX, h, e, piled_cons]
    omega
theorem int_len4 : ∀ n : Nat, n < 401 → ((toString (n : Int) : String) : Str).length ≤ 4 ∧ ((toString (-(n : Int)) : String) : Str).length ≤ 4 := by decide +kernel
theorem int_shown {x : Int} (h : x.natAbs ≤ 400) : (PyData.shown (.int x)).length ≤ 4 := by
  simp only [PyData.shown]
  have q := int_len4 x.natAbs (by omega)
  rcases Int.natAbs_eq x with e | e
  · rw [e]
    exact q.1
  · rw [e]
    exact q.2
theorem all_shown {α : Type} (f : α → PyData) (m : Nat) : ∀ l : List α, (∀ x ∈ l, (f x).shown.length ≤ m) → (PyData.shownAll (l.map f)).length = l.length ∧ ∀ t ∈ PyData.shownAll (l.map f), t.length ≤ m
  | [], _ => by simp [PyData.shownAll]
  | x :: r, h => by
    obtain ⟨h1, h2⟩ := all_shown f m r fun y hy => h y (List.mem_cons_of_mem _ hy)
    simp only [List.map_cons, PyData.shownAll, List.length_cons, h1, true_and]
    intro t ht
    rcases List.mem_cons.mp ht with rfl | ht
    · exact h x List.mem_cons_self
    · exact h2 t ht
theorem showable_ints : ∀ l : List Int, (∀ x ∈ l, x.natAbs ≤ 400) → PyData.showableAll (l.map PyData.int) = true
  | [], _ => by simp [PyData.showableAll]
  | x :: r, h => by
    have h1 := h x List.mem_cons_self
    have h2 : x.natAbs.log2 < 1920 := Nat.lt_of_le_of_lt (Nat.log2_le_self _) (by omega)
    simp only [List.map_cons, PyData.showableAll, PyData.showable, showable_ints r fun y hy => h y (List.mem_cons_of_mem _ hy), Bool.and_true, decide_eq_true_eq]
    exact h2
theorem noDict_ints : ∀ l : List Int, PyData.hasDictAll (l.map PyData.int) = false
  | [] => by simp [PyData.hasDictAll]
  | x :: r => by simp [PyData.hasDictAll, PyData.hasDict, noDict_ints r]
/-- a list or a tuple of letters -/
def dI (z : Bool × List Int) : PyData := if z.1 = true then .list (z.2.map PyData.int) else .tuple (z.2.map PyData.int)
def Fits (n : Nat) (l : List Int) : Prop := l.length ≤ n ∧ ∀ x ∈ l, x.natAbs ≤ 400
theorem dI_shown {z : Bool × List Int} {n : Nat} (h : Fits n z.2) : (dI z).shown.length ≤ n * 6 + 2 ∧ (dI z).showable = true ∧ (dI z).hasDict = false ∧ (dI z).depth ≤ 2 := by
  obtain ⟨b, l⟩ := z
  obtain ⟨h1, h2⟩ := h
  obtain ⟨a1, a2⟩ := all_shown PyData.int 4 l fun x hx => int_shown (h2 x hx)
  have a3 := piled_le a2
  rw [a1] at a3
  have h1 : l.length ≤ n := h1
  have a4 : l.length * (4 + 2) ≤ n * 6 := Nat.mul_le_mul_right _ h1
  have d := dep_intsD l
  have s := showable_ints l h2
  have nd := noDict_ints l
  cases b with
  | true =>
    have a5 := list_len (PyData.shownAll (l.map PyData.int))
    refine ⟨?_, ?_, ?_, ?_⟩
    · show (PyData.shown (.list _)).length ≤ _
      simp only [PyData.shown]
      omega
    · show PyData.showable (.list _) = true
      simp only [PyData.showable]
      exact s
    · show PyData.hasDict (.list _) = false
      simp only [PyData.hasDict]
      exact nd
    · show PyData.depth (.list _) ≤ 2
      simp only [PyData.depth]
      omega
  | false =>
    have a5 := fmt_text (PyData.shownAll (l.map PyData.int))
    refine ⟨?_, ?_, ?_, ?_⟩
    · show (PyData.shown (.tuple _)).length ≤ _
      simp only [PyData.shown]
      omega
    · show PyData.showable (.tuple _) = true
      simp only [PyData.showable]
      exact s
    · show PyData.hasDict (.tuple _) = false
      simp only [PyData.hasDict]
      exact nd
    · show PyData.depth (.tuple _) ≤ 2
      simp only [PyData.depth]
      omega
end Toy

-- part: S5
namespace Toy
open PySem L2
section
theorem num_shown {x : Int} (h : x.natAbs ≤ 99999) : (PyData.shown (.int x)).length ≤ 6 := by
  simp only [PyData.shown]
  exact num_len h
theorem showable_nums : ∀ l : List Int, (∀ x ∈ l, x.natAbs ≤ 99999) → PyData.showableAll (l.map PyData.int) = true
  | [], _ => by simp [PyData.showableAll]
  | x :: r, h => by
    have h1 := num_log (h x List.mem_cons_self)
    simp only [List.map_cons, PyData.showableAll, PyData.showable, showable_nums r fun y hy => h y (List.mem_cons_of_mem _ hy), Bool.and_true, decide_eq_true_eq]
    exact h1
theorem tup_shown (ds : List PyData) : (PyData.shown (.tuple ds)).length ≤ PySem.piled (PyData.shownAll ds) + 2 := by
  have a5 := fmt_text (PyData.shownAll ds)
  simp only [PyData.shown]
  omega
theorem dTup_shown {c : List Int} (h : FitN 100 999 c) : (dTup c).shown.length ≤ 802 := by
  obtain ⟨h1, h2⟩ := h
  obtain ⟨a1, a2⟩ := all_shown PyData.int 6 c fun x hx => num_shown (by have := h2 x hx; omega)
  have a3 := piled_le a2
  rw [a1] at a3
  have := tup_shown (c.map PyData.int)
  show (PyData.shown (.tuple _)).length ≤ 802
  omega
def dSd : Sd → PyData
  | .two w c => .tuple [.str w, dTup c]
  | .trd i c => .tuple [.str "turned", .int i, dTup c]
theorem dSd_shown : ∀ {s : Sd}, SdOk s → (dSd s).shown.length ≤ 900 ∧ (dSd s).showable = true ∧ (dSd s).hasDict = false ∧ (dSd s).depth ≤ 3
  | .two wd c, ⟨h, hf⟩ => by
    have hw : (PyData.shown (.str wd)).length ≤ 10 ∧ PyData.showable (.str wd) = true := by rcases h with ⟨rfl | rfl, _⟩ | rfl | rfl | rfl <;> decide +kernel
    have hc := dTup_shown hf
    have h1 := tup_shown [.str wd, dTup c]
    have h2 := dep_ints c
    have h3 := showable_nums c fun x hx => by have := hf.2 x hx; omega
    have h4 := noDict_ints c
    refine ⟨?_, ?_, ?_, ?_⟩
    · show (PyData.shown (.tuple [.str wd, dTup c])).length ≤ 900
      simp only [PyData.shownAll, piled_cons] at h1
      have e : PySem.piled [] = 0 := rfl
      omega
    · simp only [dSd, dTup, PyData.showable, PyData.showableAll] at hw ⊢
      simp [h3, hw.2]
    · simp [dSd, dTup, PyData.hasDict, PyData.hasDictAll, h4]
    · simp only [dSd, dTup, PyData.depth, PyData.depthAll]
      omega
  | .trd i c, ⟨_, hf, i0, i9⟩ => by
    have hw : (PyData.shown (.str "turned")).length ≤ 10 ∧ PyData.showable (.str "turned") = true := by decide +kernel
    have hc := dTup_shown hf
    have hi := num_shown (x := i) (by omega)
    have hl := num_log (x := i) (by omega)
    have h1 := tup_shown [.str "turned", .int i, dTup c]
    have h2 := dep_ints c
    have h3 := showable_nums c fun x hx => by have := hf.2 x hx; omega
    have h4 := noDict_ints c
    refine ⟨?_, ?_, ?_, ?_⟩
    · show (PyData.shown (.tuple [.str "turned", .int i, dTup c])).length ≤ 900
      simp only [PyData.shownAll, piled_cons] at h1
      have e : PySem.piled [] = 0 := rfl
      omega
    · simp only [dSd, dTup, PyData.showable, PyData.showableAll] at hw ⊢
      simp [h3, hw.2, hl]
    · simp [dSd, dTup, PyData.hasDict, PyData.hasDictAll, h4]
    · simp only [dSd, dTup, PyData.depth, PyData.depthAll]
      omega
theorem dSds_all : ∀ {ss : List Sd}, (∀ s ∈ ss, SdOk s) → PyData.showableAll (ss.map dSd) = true ∧ PyData.hasDictAll (ss.map dSd) = false ∧ PyData.depthAll (ss.map dSd) ≤ 3
  | [], _ => by simp [PyData.showableAll, PyData.hasDictAll, PyData.depthAll]
  | s :: r, h => by
    obtain ⟨_, h2, h3, h4⟩ := dSd_shown (h s List.mem_cons_self)
    obtain ⟨g2, g3, g4⟩ := dSds_all fun x hx => h x (List.mem_cons_of_mem _ hx)
    refine ⟨?_, ?_, ?_⟩
    · simp [PyData.showableAll, h2, g2]
    · simp [PyData.hasDictAll, h3, g3]
    · simp only [List.map_cons, PyData.depthAll]
      omega
theorem dL_shown {ss : List Sd} (ok : ∀ s ∈ ss, SdOk s) (l : ss.length ≤ 100) : (PyData.shown (.list (ss.map dSd))).length ≤ sizeLine ∧ PyData.showable (.list (ss.map dSd)) = true ∧ PyData.hasDict (.list (ss.map dSd)) = false ∧ PyData.depth (.list (ss.map dSd)) ≤ 60 := by
  obtain ⟨a1, a2⟩ := all_shown dSd 900 ss fun s hs => (dSd_shown (ok s hs)).1
  have a3 := piled_le a2
  rw [a1] at a3
  have a5 := list_len (PyData.shownAll (ss.map dSd))
  obtain ⟨g2, g3, g4⟩ := dSds_all ok
  have eZ : sizeLine = 16777216 := rfl
  refine ⟨?_, ?_, ?_, ?_⟩
  · simp only [PyData.shown]
    omega
  · simp only [PyData.showable]
    exact g2
  · simp only [PyData.hasDict]
    exact g3
  · simp only [PyData.depth]
    omega
variable {P : Program} {w : World} {K : PySem.W.Frag} {mg : Str → Option Value} {base : Heap}
theorem dp_sd {H : Hp} {a : Addr} : ∀ {s : Sd}, StepAt H a s → Dp K H (.ref a) (dSd s)
  | .two w c, ⟨b, h1, h2⟩ => .tup (SqT.of h1) (.cons (.str _) (.cons (.tup (SqT.of h2) (dp_ints c)) .nil))
  | .trd i c, ⟨b, h1, h2⟩ => .tup (SqT.of h1) (.cons (.str _) (.cons (.int _) (.cons (.tup (SqT.of h2) (dp_ints c)) .nil)))
theorem dp_sds {H : Hp} : ∀ {bs : List Addr} {ss : List Sd}, StepsAt H bs ss → DpAll K H (bs.map V.ref) (ss.map dSd)
  | _, _, .nil => .nil
  | _, _, .cons h t => .cons (dp_sd h) (dp_sds t)
theorem pr_app {α β : Type} {F : α → β → Prop} : ∀ {l l' : List α} {m m' : List β}, Paired F l m → Paired F l' m' → Paired F (l ++ l') (m ++ m')
  | _, _, _, _, .nil, h => h
  | _, _, _, _, .cons a t, h => .cons a (pr_app t h)
theorem stS_app (s t : List Sd) : stS (s ++ t) = stS s ++ stS t := by
  unfold stS
  rw [List.map_append, TL.join_eq, TL.join_eq, TL.join_eq]
  generalize s.map (fun s => sdText s ++ ("\n" : Str)) = A
  generalize t.map (fun s => sdText s ++ ("\n" : Str)) = B
  refine TL.ext_tl ?_
  have e0 : TL.tl ("" : Str) = [] := by decide +kernel
  have key : ∀ l : List (List Nat), TL.joinL [] l = l.flatten := by
    intro l
    induction l with
    | nil => rfl
    | cons m r ih =>
      cases r with
      | nil => simp [TL.joinL]
      | cons n r2 =>
        show m ++ ([] ++ TL.joinL [] (n :: r2)) = _
        rw [ih, List.nil_append]
        rfl
  rw [TL.tl_append, TL.tl_join, TL.tl_join, TL.tl_join, e0, key, key, key, List.map_append, List.flatten_append]
theorem Same.upn {H H' : Hp} {a : Addr} {o : HO} (e : Same H H') (n : H a = none) : Same H (upd H' a o) := fun b u hb => by
  rw [upd_ne (ne_of_none hb n)]
  exact e _ _ hb
end
end Toy

-- part: S6
namespace Toy
open PySem L2
section
variable {P : Program} {w : World} {K : PySem.W.Frag} {mg : Str → Option Value} {base : Heap}
theorem u100 {k : Nat} {A : Around} (hr : Room k A) : A.units + 100 < cLine := by have := hr.un; omega
/-- what a for asks of its turns -/
def LoopOk (J : It) (g : TG) (tb : TS) (D : Ends) (σ : St) (H : Hp) : Prop := ∃ W : Nat → Nat → St → Hp → Prop, (∃ m, W 0 m σ H) ∧ ∀ i m σ H, W i m σ H →
  (J.stop i H ∧ D.nx σ H) ∨ (J.go i H ∧ ∃ N : St → Hp → Prop, (∀ σ' H', N σ' H' → ∃ m', m' < m ∧ W (i + 1) m' σ' H') ∧ ∀ x H', J.yld i H x H' → g x σ H' fun σ2 H2 => tb { D with nx := N, ct := N, bk := D.nx } σ2 H2)
theorem p_forL {tl : TE} {g : TG} {tb : TS} {D : Ends} {σ : St} {H : Hp} (h : tl σ H fun x H1 => ∃ a, x = .ref a ∧ (∃ xs, SqL K H1 a xs) ∧ LoopOk (Itl K a) g tb D σ H1) : tFor (iList K tl) g tb D σ H := h
abbrev sLaw : Stmt := s_law
abbrev nLaw : List Str := ["script", "draw", "turn", "log", "other", "texts", "told", "text", "asked", "found"]
theorem scLaw : FnScope nLaw ["script"] (defScope sLaw) := ⟨rfl, rfl, rfl, by decide +kernel, rfl, by decide +kernel, by decide +kernel⟩
def spLaw (K : PySem.W.Frag) : Sp := fun vs H Q _ => ∃ (sc : Addr) (ns : List Int), vs = [.ref sc] ∧ SqL K H sc (ns.map V.int) ∧ ns.length ≤ 63 ∧ ∀ H', Q (.bl true) H'
theorem ok_law {f fX fS fL fR : Addr} {fd fdX fdS fdL fdR : FuncData} (F : Fun K "law" "law" sLaw f fd) (B : Bl mg) (X : Df K mg "_law_next" sNext ["draw", "size"] fX fdX)
    (S : Df K mg "_law_steps" sSt ["draw", "most"] fS fdS) (GS : FnOk P w K mg base CX0 4 fS fdS ["draw", "most"] (spSt K)) (L : Df K mg "log_text" sLT ["log"] fL fdL) (GL : FnOk P w K mg base CX0 4 fL fdL ["log"] (spLT K))
    (R : Df K mg "read_log" sRL ["text"] fR fdR) (GR : FnOk P w K mg base CX0 5 fR fdR ["text"] spRL) : FnG P w K mg base 6 f fd ["script"] (spLaw K) := by
  refine FnG.of F scLaw (fun vs H Q E h => ?_) (fun cdv A outer s H vs Q E hgu hr h => ?_)
  · obtain ⟨sc, ns, rfl, _⟩ := h
    rfl
  · obtain ⟨sc, ns, rfl, hS, hn, q⟩ := h
    have hu := hu_of hr
    refine ⟨_, pss_cons (ps_set (i := 1) scLaw.nd rfl (Or.inl rfl) (pe_lst (pa_cons (pe_callTy (T := "list") call_list_of (by rfl) B.list (by decide +kernel) (pa_cons (pv 0) pa_nil)) (pa_cons pe_int pa_nil))))
      (pss_cons (ps_for PassesOwn.never rfl (pi_range1 rfl B.range (pa_cons (pe_callB (call_max2 rfl) (by rfl) B.max (by decide +kernel) (pa_cons pe_int (pa_cons (pe_callB (call_min2 rfl) (by rfl) B.min (by decide +kernel) (pa_cons pe_int (pa_cons (pe_callB call_len_seq (by rfl) B.len PySem.boot_len (pa_cons (pv 0) pa_nil)) pa_nil))) pa_nil))) pa_nil)) (pg_name (i := 2) scLaw.nd rfl (Or.inl rfl))
        (pss_cons (ps_par (i := 3) (j := 4) rfl scLaw.nd rfl rfl (by decide) rfl rfl (pa_cons (pe_call GS (hr.mono (by decide)) rfl S.g S.F.kp S.b .nil pass0 (pa_cons (pv 1) (pa_cons pe_int pa_nil))) (pa_cons (pe_call GS (hr.mono (by decide)) rfl S.g S.F.kp S.b .nil pass0 (pa_cons (pv 1) (pa_cons pe_int pa_nil))) pa_nil)) (by rfl))
        (pss_cons (ps_set (i := 5) scLaw.nd rfl (Or.inl rfl) (pe_lst (pa_cons (pe_call GL (hr.mono (by decide)) rfl L.g L.F.kp L.b .nil pass0 (pa_cons (pv 3) pa_nil)) (pa_cons (pe_call GL (hr.mono (by decide)) rfl L.g L.F.kp L.b .nil pass0 (pa_cons (pv 4) pa_nil)) pa_nil))))
        (pss_one (ps_for PassesOwn.never rfl (pi_list (pe_lst (pa_cons (pe_tup (pa_cons (pv 3) (pa_cons (pe_ix ix_list (pv 5) pe_int (fun _ _ => rfl)) pa_nil))) (pa_cons (pe_tup (pa_cons (pv 4) (pa_cons (pe_ix ix_list (pv 5) pe_int (fun _ _ => rfl)) pa_nil)))
            (pa_cons (pe_tup (pa_cons (pe_op op_cat (pv 3) (pv 4)) (pa_cons (pe_op op_add_str (pe_ix ix_list (pv 5) pe_int (fun _ _ => rfl)) (pe_ix ix_list (pv 5) pe_int (fun _ _ => rfl))) pa_nil))) pa_nil))))) (pg_tup rfl (pgs_cons (pg_name (i := 6) scLaw.nd rfl (Or.inl rfl)) (pgs_cons (pg_name (i := 7) scLaw.nd rfl (Or.inl rfl)) pgs_nil)))
          (pss_one (ps_for PassesOwn.never rfl (pi_range1 rfl B.range (pa_cons pe_int pa_nil)) (pg_name (i := 8) scLaw.nd rfl (Or.inl rfl))
            (pss_cons (ps_set (i := 9) scLaw.nd rfl (Or.inl rfl) (pe_call GR hr rfl R.g R.F.kp R.b .nil pass0 (pa_cons (pv 7) pa_nil)))
            (pss_cons (ps_if (PW.pt (pw_or (pt_not (pt_val (pe_callB call_isi (by rfl) B.isinstance (by decide +kernel) (pa_cons (pv 9) (pa_cons (pe_bltn (v := .ty "list") (by rfl) B.list (by decide +kernel) rfl) pa_nil)))))
                (pw_or (pt_cmpR op_ne (pe_callB (call_reprD (deeper_guards hgu) (u100 hr)) (by rfl) B.repr (by decide +kernel) (pa_cons (pv 9) pa_nil)) (pe_callB (call_reprD (deeper_guards hgu) (u100 hr)) (by rfl) B.repr (by decide +kernel) (pa_cons (pv 6) pa_nil)) (nomark _))
                (pw_or1 (pt_cmpR op_ne (pe_call GL (hr.mono (by decide)) rfl L.g L.F.kp L.b .nil pass0 (pa_cons (pv 9) pa_nil)) (pv 7) (nomark _)))))) (pss_one (ps_ret pe_bl)) pss_nil)
            (pss_one (ps_expr (pe_bm PySem.F.plainAttrs_list PySem.F.slot_list_append PySem.F.type_list_append mt_append (pv 9) (pa_cons pe_non pa_nil)))))))))))))
      (pss_one (ps_ret pe_bl))), ?_⟩
    show tSeq _ _ _ [some (.ref sc), none, none, none, none, none, none, none, none, none] H
    walk_at "rd"
    refine ⟨sc, _, rfl, .inl hS, fun sc2 hsc => ?_⟩
    refine ⟨by show 2 ≤ sizeLine; decide, fun d hd => ?_⟩
    have D1 : DrA K sc2 ns (upd (upd H sc2 (.lst (ns.map V.int))) d (.lst [.ref sc2, .int 0])) d := ⟨0, upd_same, Same.seq (Same.new hd) (SqL.of upd_same), hn, Int.le_refl _⟩
    have hS1 : SqL K (upd (upd H sc2 (.lst (ns.map V.int))) d (.lst [.ref sc2, .int 0])) sc (ns.map V.int) := Same.seq (Same.trans (Same.new hsc) (Same.new hd)) hS
    generalize upd (upd H sc2 (.lst (ns.map V.int))) d (.lst [.ref sc2, .int 0]) = H1 at *
    have eZ : sizeLine = 16777216 := rfl
    refine ⟨_, rfl, sc, _, rfl, .inl hS1, _, _, rfl, _, _, rfl, _, rfl, ?_, ?_, ?_⟩
    · split <;> omega
    · have q5 : (if ((ns.map V.int).length : Int) < 8 then ((ns.map V.int).length : Int) else 8) ≤ 8 := by split <;> omega
      split <;> omega
    refine for_range (fun i σ H' => ∃ (l2 l3 l4 l5 l6 l7 l8 l9 : Option V), σ = [some (.ref sc), some (.ref d), l2, l3, l4, l5, l6, l7, l8, l9] ∧ DrA K sc2 ns H' d) ⟨_, _, _, _, _, _, _, _, rfl, D1⟩ ?_ ?_
    · rintro i σ H2 hi ⟨l2, l3, l4, l5, l6, l7, l8, l9, rfl, D2⟩
      show tSeq _ _ _ [some (.ref sc), some (.ref d), some (.int (0 + (i : Int))), l3, l4, l5, l6, l7, l8, l9] H2
      refine seq_gen (fun σ' H' => ∃ (b1 b2 : Addr) (c1 c2 : List Addr) (s1 s2 : List Sd), σ' = [some (.ref sc), some (.ref d), some (.int (0 + (i : Int))), some (.ref b1), some (.ref b2), l5, l6, l7, l8, l9] ∧ H' b1 = some (.lst (c1.map V.ref)) ∧ H' b2 = some (.lst (c2.map V.ref)) ∧ StepsAt H' c1 s1 ∧ StepsAt H' c2 s2 ∧ (∀ s ∈ s1, SdOk s ∧ SdLow s) ∧ (∀ s ∈ s2, SdOk s ∧ SdLow s) ∧ s1.length ≤ 40 ∧ s2.length ≤ 4 ∧ DrA K sc2 ns H' d) (fun nx hnx => ?_) ?_
      · unfold tPar
        walk_at "rd"
        refine ⟨d, 40, sc2, ns, rfl, by decide, by decide, D2, fun b1 c1 s1 H3 h1 o1 l1 E3 D3 hb1 nb1 => ?_⟩
        walk_at "rd"
        refine ⟨d, 4, sc2, ns, rfl, by decide, by decide, D3, fun b2 c2 s2 H4 h2 o2 l2' E4 D4 hb2 nb2 => ?_⟩
        obtain ⟨x3, hd3⟩ := D3.lst
        exact hnx _ _ ⟨b1, b2, c1, c2, s1, s2, rfl, E4 _ _ hb1 (D2.nd nb1), hb2, pr_imp (fun _ _ h => StepAt.ex E4 hd3 h) h1, h2, o1, o2, l1, l2', D4⟩
      rintro σ H3 ⟨b1, b2, c1, c2, s1, s2, rfl, hb1, hb2, h1, h2, o1, o2, n1, n2, D3⟩
      have ok1 : ∀ s ∈ s1, SdOk s := fun s hs => (o1 s hs).1
      have ok2 : ∀ s ∈ s2, SdOk s := fun s hs => (o2 s hs).1
      refine seq_gen (fun σ' H' => ∃ (tx : Addr), σ' = [some (.ref sc), some (.ref d), some (.int (0 + (i : Int))), some (.ref b1), some (.ref b2), some (.ref tx), l6, l7, l8, l9] ∧ Same H3 H' ∧ H' tx = some (.lst [.str (stS s1), .str (stS s2)])) (fun nx hnx => ?_) ?_
      · walk_at "rd"
        refine ⟨b1, c1, s1, rfl, .inl (SqL.of hb1), h1, ok1, by omega, fun H4 e4 => ?_⟩
        walk_at "rd"
        refine ⟨b2, c2, s2, rfl, .inl (SqL.of (e4 _ _ hb2)), pr_imp (fun _ _ h => StepAt.same e4 h) h2, ok2, by omega, fun H5 e5 => ?_⟩
        refine ⟨by show 2 ≤ sizeLine; decide, fun tx htx => ?_⟩
        exact hnx _ _ ⟨tx, rfl, Same.trans e4 (Same.trans e5 (Same.new htx)), upd_same⟩
      rintro σ H4 ⟨tx, rfl, e4, htx⟩
      have lz1 := st_len ok1 (by omega)
      have lz2 := st_len ok2 (by omega)
      refine p_forL ?_
      walk_at "rd"
      refine p_ix (SqL.of htx) (i := 0) (v := .str (stS s1)) rfl ?_
      refine ⟨by show 2 ≤ sizeLine; decide, fun t1 ht1 => ?_⟩
      have g1 : Same H4 (upd H4 t1 (.tup [.ref b1, .str (stS s1)])) := Same.new ht1
      have k1 : upd H4 t1 (.tup [.ref b1, .str (stS s1)]) t1 = some (.tup [.ref b1, .str (stS s1)]) := upd_same
      generalize upd H4 t1 (.tup [.ref b1, .str (stS s1)]) = H5 at *
      refine p_ix (SqL.of (g1 _ _ htx)) (i := 1) (v := .str (stS s2)) rfl ?_
      walk_at "rd"
      refine ⟨by show 2 ≤ sizeLine; decide, fun t2 ht2 => ?_⟩
      have g2 : Same H5 (upd H5 t2 (.tup [.ref b2, .str (stS s2)])) := Same.new ht2
      have k2 : upd H5 t2 (.tup [.ref b2, .str (stS s2)]) t2 = some (.tup [.ref b2, .str (stS s2)]) := upd_same
      generalize upd H5 t2 (.tup [.ref b2, .str (stS s2)]) = H6 at *
      have e46 := Same.trans g1 g2
      have e36 := Same.trans e4 e46
      refine ⟨b1, b2, _, _, rfl, rfl, e36 _ _ hb1, e36 _ _ hb2, Nat.le_of_lt (small1000 (by rw [List.length_map, List.length_map, pr_len h1, pr_len h2]; omega)), fun b3 hb3 => ?_⟩
      have g3 : Same H6 (upd H6 b3 (.lst (c1.map V.ref ++ c2.map V.ref))) := Same.new hb3
      have kb3 : upd H6 b3 (.lst (c1.map V.ref ++ c2.map V.ref)) b3 = some (.lst ((c1 ++ c2).map V.ref)) := by rw [upd_same, List.map_append]
      generalize upd H6 b3 (.lst (c1.map V.ref ++ c2.map V.ref)) = H7 at *
      have e47 := Same.trans e46 g3
      refine p_ix (SqL.of (e47 _ _ htx)) (i := 0) (v := .str (stS s1)) rfl ?_
      walk_at "rd"
      refine p_ix (SqL.of (e47 _ _ htx)) (i := 1) (v := .str (stS s2)) rfl ?_
      refine ⟨stS s1, stS s2, rfl, rfl, by omega, ?_⟩
      rw [← stS_app]
      refine ⟨by show 2 ≤ sizeLine; decide, fun t3 ht3 => ?_⟩
      have g4 : Same H7 (upd H7 t3 (.tup [.ref b3, .str (stS (s1 ++ s2))])) := Same.new ht3
      have k3 : upd H7 t3 (.tup [.ref b3, .str (stS (s1 ++ s2))]) t3 = some (.tup [.ref b3, .str (stS (s1 ++ s2))]) := upd_same
      generalize upd H7 t3 (.tup [.ref b3, .str (stS (s1 ++ s2))]) = H8 at *
      refine ⟨by show 3 ≤ sizeLine; decide, fun z hz => ?_⟩
      have g5 : Same H8 (upd H8 z (.lst [.ref t1, .ref t2, .ref t3])) := Same.new hz
      have kz : upd H8 z (.lst [.ref t1, .ref t2, .ref t3]) z = some (.lst [.ref t1, .ref t2, .ref t3]) := upd_same
      generalize upd H8 z (.lst [.ref t1, .ref t2, .ref t3]) = H9 at *
      have e79 := Same.trans g4 g5
      have e69 := Same.trans g3 e79
      have e39 := Same.trans e36 e69
      have pick : ∀ y ∈ [V.ref t1, V.ref t2, V.ref t3], ∃ (t b : Addr) (c : List Addr) (s : List Sd), y = .ref t ∧ H9 t = some (.tup [.ref b, .str (stS s)]) ∧ H9 b = some (.lst (c.map V.ref)) ∧ StepsAt H9 c s ∧ (∀ x ∈ s, SdOk x ∧ SdLow x) ∧ s.length ≤ 44 := by
        intro y hy
        simp only [List.mem_cons, List.not_mem_nil, or_false] at hy
        have q1 : StepsAt H9 c1 s1 := pr_imp (fun _ _ h => StepAt.same e39 h) h1
        have q2 : StepsAt H9 c2 s2 := pr_imp (fun _ _ h => StepAt.same e39 h) h2
        rcases hy with rfl | rfl | rfl
        · exact ⟨t1, b1, c1, s1, rfl, e69 _ _ (g2 _ _ k1), e39 _ _ hb1, q1, o1, by omega⟩
        · exact ⟨t2, b2, c2, s2, rfl, e69 _ _ k2, e39 _ _ hb2, q2, o2, by omega⟩
        · exact ⟨t3, b3, c1 ++ c2, s1 ++ s2, rfl, g5 _ _ k3, e79 _ _ kb3, pr_app q1 q2, fun s hs => (List.mem_append.mp hs).elim (o1 s) (o2 s), by rw [List.length_append]; omega⟩
      refine ⟨z, rfl, ⟨_, SqL.of kz⟩, for_list (K := K) (a := z) (xs := [V.ref t1, V.ref t2, V.ref t3]) (fun m σ H' => ∃ (l6 l7 l8 l9 : Option V), σ = [some (.ref sc), some (.ref d), some (.int (0 + (i : Int))), some (.ref b1), some (.ref b2), some (.ref tx), l6, l7, l8, l9] ∧ Same H9 H') ⟨_, _, _, _, rfl, Same.refl _⟩ (fun m σ H' _ ⟨_, _, _, _, _, e⟩ => SqL.of (e _ _ kz)) ?_ ?_⟩
      · rintro m y σ Hm hm ⟨l6, l7, l8, l9, rfl, em⟩
        obtain ⟨t, b, c, s, rfl, ht, hb, hs, os, ls⟩ := pick y (List.mem_of_getElem? hm)
        have oks : ∀ x ∈ s, SdOk x := fun x hx => (os x hx).1
        refine ⟨t, _, rfl, SqT.of (em _ _ ht), rfl, _, _, rfl, _, _, rfl, rfl, ?_⟩
        show tFor _ _ _ _ [some (.ref sc), some (.ref d), some (.int (0 + (i : Int))), some (.ref b1), some (.ref b2), some (.ref tx), some (.ref b), some (.str (stS s)), l8, l9] Hm
        refine ⟨2, rfl, by decide, by decide, ?_⟩
        refine for_range (n := 2) (fun k σ H' => ∃ (l8 l9 : Option V), σ = [some (.ref sc), some (.ref d), some (.int (0 + (i : Int))), some (.ref b1), some (.ref b2), some (.ref tx), some (.ref b), some (.str (stS s)), l8, l9] ∧ Same H9 H') ⟨_, _, rfl, em⟩ ?_ ?_
        · rintro k σ Hk hk ⟨l8, l9, rfl, ek⟩
          show tSeq _ _ _ [some (.ref sc), some (.ref d), some (.int (0 + (i : Int))), some (.ref b1), some (.ref b2), some (.ref tx), some (.ref b), some (.str (stS s)), some (.int (0 + (k : Int))), l9] Hk
          walk_at "rd"
          refine ⟨s, rfl, os, by omega, fun a bs Hn en na ha hss => ?_⟩
          walk_at "rd"
          have e9n := Same.trans ek en
          have hsn : StepsAt Hn c s := pr_imp (fun _ _ h => StepAt.same e9n h) hs
          obtain ⟨d1, d2, d3, d4⟩ := dL_shown oks (by omega)
          refine ⟨.ref a, .ty "list", .type "list", .type "list", true, rfl, .ty _, .base (.lst ha), if_pos (beq_self_eq_true _), true, rfl, iteF ?_⟩
          refine ⟨a, .list (s.map dSd), rfl, .lst (SqL.of ha) (dp_sds hss), d2, d3, d4, d1, ?_⟩
          refine ⟨b, .list (s.map dSd), rfl, .lst (SqL.of (e9n _ _ hb)) (dp_sds hsn), d2, d3, d4, d1, ?_⟩
          refine ⟨rfl, false, by rw [decide_eq_true rfl]; rfl, iteF ?_⟩
          refine ⟨a, bs, s, rfl, .inl (SqL.of ha), hss, oks, by omega, fun Ho eo => ?_⟩
          refine ⟨rfl, false, by rw [decide_eq_true rfl]; rfl, iteF ?_⟩
          walk_at "rd"
          have hao := eo _ _ ha
          refine ⟨Or.inl ⟨rfl, _, SqL.of hao⟩, p_app hao (by rw [List.length_map, pr_len hss]; exact small1000 (by omega)) ?_⟩
          exact ⟨_, _, rfl, Same.upn (Same.trans e9n eo) (none_same ek na)⟩
        · rintro σ Hk ⟨l8, l9, rfl, ek⟩
          exact ⟨_, _, _, _, rfl, ek⟩
      · rintro σ Hm ⟨l6, l7, l8, l9, rfl, em⟩
        exact ⟨_, _, _, _, _, _, _, _, rfl, DrA.same (Same.trans e39 em) D3⟩
    · rintro σ H2 ⟨l2, l3, l4, l5, l6, l7, l8, l9, rfl, _⟩
      walk_at "rd"
      exact q H2
end
end Toy

-- part: LN
namespace Toy
open PySem PySem.Spec PyProof.Rows L2
/-- what is tracked at the start of a law without a table: the script at a, if it isn't of the written part -/
def H1of (K : PySem.W.Frag) (a : Addr) (vs : List Value) (ns : List Int) : Hp := fun b =>
  if b = a ∧ K.lookup a = none then some (.frz { cls := .type "list", data := .seq vs.toArray } (.lst (ns.map V.int))) else none
theorem FnOk.g {P : Program} {w : World} {K : PySem.W.Frag} {mg : Str → Option Value} {base : Heap} {k : Nat} {f : Addr} {fd : FuncData} {ps : List Str} {sp : Sp} (F : FnOk P w K mg base CX0 k f fd ps sp) : FnG P w K mg base k f fd ps sp :=
  ⟨F.len, fun A outer s H args us vs Q E _ hr e0 hb r hsp => F.run A outer s H args us vs Q E hr e0 hb r hsp⟩
/-- a law that makes no lambda, called where no object's text is under way -/
theorem callN {P : Program} {w : World} {K : PySem.W.Frag} {mg mb : Str → Option Value} {k : Nat} {fa a : Addr} {fd : FuncData} {x : Str} {sp : Sp} {s : Shared} {vs : List Value} {ns : List Int}
    (KX : K.In s.heap) (hns : s.heap.Ns mainGlobals mg) (hb : s.heap.Ns builtinsNs mb) (hbb : ∀ x : Str, x ≠ "__name__" → mb x = bootBuiltins x) (hlim : s.heap.NoLimit) (hg : s.gens = #[])
    (ha : s.heap.get? a = some { cls := .type "list", data := .seq vs.toArray }) (hi : IntsAre vs ns) (hl : ns.length ≤ sizeLine) (hr : Room k callerA)
    (F : ∀ base : Heap, K.In base → base.Ns mainGlobals mg → FnG P w K mg base k fa fd [x] sp) (hbind : ∀ (s : Shared) (u : Value), BindsTo s fd ⟨[u], []⟩ [(x, u)])
    (hsp : ∀ H : Hp, SqL K H a (ns.map V.int) → sp [.ref a] H (fun v _ => v = .bl true) E0) :
    codeAny (model P w) callerA (.call (.ref fa) ⟨[.ref a], []⟩) (fun r s' => r = .ok (.ret (.bool true)) ∧ OldK s.heap s'.heap ∧ s'.os = s.os ∧ AllBare s'.gens) s := by
  have rv := vals_ints hi
  have two : ∀ b, (b = a ∧ K.lookup a = none ∧ H1of K a vs ns b = some (.frz { cls := .type "list", data := .seq vs.toArray } (.lst (ns.map V.int)))) ∨ H1of K a vs ns b = none := fun b => by
    by_cases e2 : b = a ∧ K.lookup a = none
    · exact .inl ⟨e2.1, e2.2, if_pos e2⟩
    · exact .inr (if_neg e2)
  have hS : SqL K (H1of K a vs ns) a (ns.map V.int) := by
    cases hk : K.lookup a with
    | none => exact .inl (.inr ⟨_, if_pos ⟨rfl, hk⟩⟩)
    | some o =>
      have e := KX a o hk
      rw [ha] at e
      cases e
      exact .inr ⟨_, vs.toArray, _, hk, rfl, rfl, rfl, by rw [List.size_toArray, hi.length]; exact hl, rv⟩
  have hok : HOk P w (H1of K a vs ns) s.heap := fun b o e => by
    rcases two b with ⟨rfl, _, z⟩ | z <;> rw [z] at e <;> cases e
    exact ⟨ha, by rw [List.length_map]; exact hl, vs, _, rv, ha⟩
  have base_of : ∀ {b : Addr} {o : Obj}, s.heap.get? b = some o → H1of K a vs ns b = none → (hidT s.heap (H1of K a vs ns)).get? b = some o := fun e n => hidT_get e n
  have outD : ∀ {b : Addr} {o : Obj} {es : Array DictEntry} {n : Nat}, s.heap.get? b = some o → o.data = .dict es n → H1of K a vs ns b = none := fun {b o es n} e d => by
    rcases two b with ⟨rfl, _, _⟩ | z
    · rw [ha] at e
      cases e
      cases d
    · exact z
  have nsK : ∀ {b : Addr} {m : Str → Option Value}, s.heap.Ns b m → (hidT s.heap (H1of K a vs ns)).Ns b m := fun {b m} ⟨o, es, ep, e, d, r⟩ => ⟨o, es, ep, base_of e (outD e d), d, r⟩
  have hKb : K.In (hidT s.heap (H1of K a vs ns)) := fun b o e => base_of (KX b o e) (by
    rcases two b with ⟨rfl, z, _⟩ | z
    · rw [z] at e; cases e
    · exact z)
  have hM : L2.Mod K mg (hidT s.heap (H1of K a vs ns)) := ⟨hKb, nsK hns, ⟨mb, nsK hb, hbb⟩, let ⟨mc, h1, h2⟩ := hlim; ⟨mc, nsK h1, h2⟩⟩
  have e0 : Env0 P w K mg (hidT s.heap (H1of K a vs ns)) callerA [] s (H1of K a vs ns) := ⟨rfl, hM, fun b o e => of_hidT e, Nat.le_of_eq (hidT_size _ _), trivial, fun b hb => absurd (show b ∈ ([] : List Addr) from hb) (by simp), hok, .of_eq hg⟩
  refine codeAny_mono ((F _ hKb (nsK hns)).run callerA [] s _ ⟨[.ref a], []⟩ [.ref a] [.ref a] _ _ rfl hr e0 (hbind s (.ref a)) (.cons rfl .nil) (hsp _ hS)) fun r s' h => ?_
  cases r with
  | error e => exact False.elim h
  | ok fl =>
    cases fl with
    | next => exact False.elim h
    | brk => exact False.elim h
    | cont => exact False.elim h
    | ret u =>
      obtain ⟨v, H', os, bare, un, hok', r', q⟩ := h
      obtain rfl : v = .bl true := q
      obtain rfl : u = Value.bool true := r'
      have key : ∀ b o, s.heap.get? b = some o → s'.heap.get? b = some o := fun b o e => by
        rcases two b with ⟨rfl, _, z⟩ | z
        · obtain ⟨e1, _⟩ := hok b _ z
          obtain ⟨e2, _⟩ := hok' b _ (un.frzs b _ _ z)
          rw [e] at e1
          cases e1
          exact e2
        · exact un.keep b o e z (by intro z; exact absurd (show b ∈ ([] : List Addr) from z) (by simp)) (by simp)
      exact ⟨rfl, ⟨fun b o e => .inl (key b o e), fun b o e => ⟨o, key b o e⟩⟩, os, bare⟩
theorem walkN {l : PySem.W.OpenLaw} {n k : Nat} {q : Program} {loose : List Str} {XP : (Str → Option Value) → Heap → Prop} {YP : World → Heap → Prop} {d : DefRec} {x : Str}
    (hn : l.most = some n) (hn2 : n ≤ sizeLine) (hdf : d.params.defaults = []) (hr : Room k callerA)
    (F : ∀ (w : World) (mg : Str → Option Value) (fa : Addr) (h : Heap), YP w h → h.Ns mainGlobals mg → mg d.name = some (.ref fa) →
      ∃ (K : PySem.W.Frag) (fd : FuncData) (sp : Sp), K.In h ∧ (∀ (s : Shared) (u : Value), BindsTo s fd ⟨[u], []⟩ [(x, u)]) ∧
        (∀ (H : Hp) (a : Addr) (ns : List Int), ns.length ≤ n → SqL K H a (ns.map V.int) → sp [.ref a] H (fun v _ => v = .bl true) E0) ∧
        ∀ base : Heap, K.In base → base.Ns mainGlobals mg → FnG l.prog w K mg base k fa fd [x] sp) :
    PySem.W.WalkO q loose XP YP l.row.toRowW d [] (fun f vs => PySem.call f vs) := by
  refine Att.attach_callB hn hdf fun w s₀ s₁ mg mb fa o pm cd doc a vs ns G Y ho hd hcd hmg hobj hints hlen hbits hg => ?_
  obtain ⟨K, fd, sp, KX, hb, hsp, hF⟩ := F w mg fa _ Y G.T.g hmg
  exact callN KX G.T.g G.T.b G.T.builtins G.T.nolimit hg hobj hints (Nat.le_trans hlen hn2) hr hF hb (fun H hS => hsp H a ns hlen hS)
end Toy

-- part: LE0
namespace Toy
open PySem PySem.Spec PyProof.Rows L2
def dT (x : Str) (st : Stmt) : He.DefD := ⟨(x, none), x, x, defArgs st, defBody st, defScope st, [], []⟩
def fnK : List He.DefD := [dT "is_figures" (topS 7), dT "is_letters_row" (topS 8), dT "letters_row" (topS 9), dT "letters_of" (topS 10), dT "is_clause_row" (topS 11), dT "clause_row" (topS 12), dT "letters_of_clause" (topS 13), dT "log_text" (topS 20), dT "read_log" (topS 21), dT "_row_of" (topS 22), dT "_step_of" (topS 23), dT "_rises" (topS 24), dT "_is_step_number" (topS 25), dT "_law_mixed" (topS 27), dT "_law_next" (topS 28), dT "_law_rising" (topS 29), dT "_law_steps" (topS 30), dT "law" (topS 31)]
def faK : List He.Fa := [.glo "is_figures", .glo "is_letters_row", .glo "letters_row", .glo "letters_of", .glo "is_clause_row", .glo "clause_row", .glo "letters_of_clause", .glo "log_text", .glo "read_log", .glo "_row_of", .glo "_step_of", .glo "_rises", .glo "_is_step_number", .glo "_law_mixed", .glo "_law_next", .glo "_law_rising", .glo "_law_steps", .glo "law", .glo "_LETTERS", .glo "_CLAUSES", .str "_EMPTY" "-", .str "_FIGURES" "0123456789", .int "MOST_FIGURES" 3, .str "_TURNED" "turned", .str "_BY" " by ", .int "_MOST_FIGURES_OF_STEP" 4]
def faB : List He.Fa := [.free "max", .free "min", .free "len", .free "range", .free "type", .free "int", .free "list", .free "tuple", .free "dict", .free "bool", .free "abs", .free "sorted", .free "enumerate", .free "isinstance", .free "repr", .free "str", .free "all", .free "any", .free "zip", .free "reversed", .free "sum"]
def vB : Value → V → Bool
  | .str x _, .str y => decide (x = y)
  | .int x _, .int y => decide (x = y)
  | _, _ => false
def vsB : List Value → List V → Bool
  | [], [] => true
  | x :: r, y :: t => vB x y && vsB r t
  | _, _ => false
def tupB (K : PySem.W.Frag) (a : Addr) (xs : List V) : Bool := match K.lookup a with
  | some ⟨.type c, _, .seq its _, _⟩ => decide (c = "tuple") && (decide (its.size ≤ 1000) && vsB its.toList xs)
  | _ => false
def exK (K : PySem.W.Frag) : Bool := tupB K (He.ga K "_LETTERS") [.str "order", .str "turn"] && (tupB K (He.ga K "_CLAUSES") [.str "learn", .str "pure", .str "drop"])
abbrev R : PySem.W.OpenRow := PySem.W.OpenLaw.row PySem.Challenge.rw_turnless_k77_whole_logs_read_back
abbrev tfK : List He.Defn := []
abbrev hk : PySem.W.Hook := He.hookX 6 (faK ++ faB) fnK [] tfK exK
def ob (s : PySem.W.SharedT) : He.AlX := He.obsX 6 (faK ++ faB) fnK [] tfK exK (HandSHeadRun.getT s)
theorem ob_eq (s : PySem.W.SharedT) : ob s = hk.obs s.abs := He.obsX_eq (HandSHeadRun.getT_eq s)
def loose0 : List Str := ["TurnError", "NoText", "_EMPTY", "_FIGURES", "MOST_FIGURES", "is_figures", "is_letters_row", "letters_row", "letters_of", "is_clause_row", "clause_row", "letters_of_clause", "_LETTERS", "_CLAUSES", "_TURNED", "_BY", "_MOST_FIGURES_OF_STEP", "log_text", "read_log", "_row_of"]
def loose1 : List Str := ["_step_of", "_rises", "_is_step_number", "_law_mixed", "_law_next", "_law_rising", "_law_steps"]
def loose : List Str := loose0 ++ loose1
theorem run (w : World) : HandSHeadRun.RunEq R (PySem.W.view R.prog [31]) hk ob 8000 loose w := by
  intro os
  kernel_rfl
end Toy

-- part: LF
namespace Toy
open PySem PySem.Spec PyProof.Rows L2
section
variable {P : Program} {w : World} {K : PySem.W.Frag} {mg : Str → Option Value} {h : Heap}
theorem fun_of {x q : Str} {st : Stmt} {f : Addr} {fd : FuncData} (F : FunD K x q (defArgs st) (defBody st) (defScope st) [] [] f fd) : Fun K x q st f fd := by
  obtain ⟨oc, od, dV, kV, doc, pm, an, cdv, ct, osl, e, lk, hcd, hD, _⟩ := F.ex
  rcases hD with ⟨_, rfl⟩ | ⟨n, _⟩
  · exact ⟨⟨oc, od, kV, doc, pm, an, cdv, ct, osl, e, lk, hcd⟩, F.kp⟩
  · exact absurd rfl n
theorem df {x : Str} {st : Stmt} {ps : List Str} {fd : FuncData} (X : K.In h) (G : h.Ns mainGlobals mg) (c : (He.Fa.glo x).ok K = true) (F : FunD K x x (defArgs st) (defBody st) (defScope st) [] [] (He.fAd K (x, none)) fd)
    (hb : ∀ (kV doc pm : Value) (an : Option Addr) (cdv ct : Value) (us : List Value), us.length = ps.length → bindArgs (PySem.W.fnOf x x (defArgs st) (defBody st) (defScope st) .none kV doc pm an cdv ct) ⟨us, []⟩ = pure (ps.zip us)) : Df K mg x st ps (He.fAd K (x, none)) fd :=
  ⟨fun_of F, He.glo_ok X G c, (fun_of F).binds hb⟩
theorem vsB_of : ∀ {us : List Value} {xs : List V}, vsB us xs = true → Vals xs us
  | [], [], _ => .nil
  | u :: r, y :: t, h => by
    unfold vsB at h
    obtain ⟨h1, h2⟩ := He.ba h
    refine .cons ?_ (vsB_of h2)
    unfold vB at h1
    split at h1
    · rw [of_decide_eq_true h1]; exact ⟨_, rfl⟩
    · rw [of_decide_eq_true h1]; exact ⟨_, rfl⟩
    · cases h1
  | [], _ :: _, h => by cases h
  | _ :: _, [], h => by cases h
theorem tup_of {a : Addr} {xs : List V} (e : tupB K a xs = true) : ∀ H, SqT K H a xs := fun H => by
  unfold tupB at e
  split at e
  · rename_i c d its n sl lk
    obtain ⟨e1, e2⟩ := He.ba e
    obtain ⟨e2, e3⟩ := He.ba e2
    have e1 : c = "tuple" := of_decide_eq_true e1
    have e2 : its.size ≤ 1000 := of_decide_eq_true e2
    subst e1
    exact .inr ⟨_, its, n, lk, rfl, rfl, Nat.le_trans e2 (by decide), vsB_of e3⟩
  · cases e
theorem facts {f : Addr} (X : K.In h) (G : h.Ns mainGlobals mg) (hfa : mg ("law" : Str) = some (.ref f)) (c : He.SaysX (faK ++ faB) fnK [] tfK exK w h K) :
    ∃ (fd : FuncData), (∀ (s : Shared) (u : Value), BindsTo s fd ⟨[u], []⟩ [("script", u)]) ∧ ∀ base : Heap, K.In base → base.Ns mainGlobals mg → FnG P w K mg base 6 f fd ["script"] (spLaw K) := by
  have d := c.t.d
  obtain ⟨_, F0⟩ := d.def_ 0 (d := dT "is_figures" (topS 7)) rfl
  obtain ⟨_, F1⟩ := d.def_ 1 (d := dT "is_letters_row" (topS 8)) rfl
  obtain ⟨_, F2⟩ := d.def_ 2 (d := dT "letters_row" (topS 9)) rfl
  obtain ⟨_, F3⟩ := d.def_ 3 (d := dT "letters_of" (topS 10)) rfl
  obtain ⟨_, F4⟩ := d.def_ 4 (d := dT "is_clause_row" (topS 11)) rfl
  obtain ⟨_, F5⟩ := d.def_ 5 (d := dT "clause_row" (topS 12)) rfl
  obtain ⟨_, F6⟩ := d.def_ 6 (d := dT "letters_of_clause" (topS 13)) rfl
  obtain ⟨_, F7⟩ := d.def_ 7 (d := dT "log_text" (topS 20)) rfl
  obtain ⟨_, F8⟩ := d.def_ 8 (d := dT "read_log" (topS 21)) rfl
  obtain ⟨_, F9⟩ := d.def_ 9 (d := dT "_row_of" (topS 22)) rfl
  obtain ⟨_, F10⟩ := d.def_ 10 (d := dT "_step_of" (topS 23)) rfl
  obtain ⟨_, F11⟩ := d.def_ 11 (d := dT "_rises" (topS 24)) rfl
  obtain ⟨_, F12⟩ := d.def_ 12 (d := dT "_is_step_number" (topS 25)) rfl
  obtain ⟨_, F13⟩ := d.def_ 13 (d := dT "_law_mixed" (topS 27)) rfl
  obtain ⟨_, F14⟩ := d.def_ 14 (d := dT "_law_next" (topS 28)) rfl
  obtain ⟨_, F15⟩ := d.def_ 15 (d := dT "_law_rising" (topS 29)) rfl
  obtain ⟨_, F16⟩ := d.def_ 16 (d := dT "_law_steps" (topS 30)) rfl
  obtain ⟨fd, F17⟩ := d.def_ 17 (d := dT "law" (topS 31)) rfl
  have D_is_figures := df (x := "is_figures") (st := topS 7) (ps := ["word", "most"]) X G (d.fact 0 (f := .glo "is_figures") rfl) F0 fun _ _ _ _ _ _ us hl => match us, hl with | [_, _], _ => rfl
  have D_is_letters_row := df (x := "is_letters_row") (st := topS 8) (ps := ["row"]) X G (d.fact 1 (f := .glo "is_letters_row") rfl) F1 fun _ _ _ _ _ _ us hl => match us, hl with | [_], _ => rfl
  have D_letters_row := df (x := "letters_row") (st := topS 9) (ps := ["letters"]) X G (d.fact 2 (f := .glo "letters_row") rfl) F2 fun _ _ _ _ _ _ us hl => match us, hl with | [_], _ => rfl
  have D_letters_of := df (x := "letters_of") (st := topS 10) (ps := ["row"]) X G (d.fact 3 (f := .glo "letters_of") rfl) F3 fun _ _ _ _ _ _ us hl => match us, hl with | [_], _ => rfl
  have D_is_clause_row := df (x := "is_clause_row") (st := topS 11) (ps := ["row"]) X G (d.fact 4 (f := .glo "is_clause_row") rfl) F4 fun _ _ _ _ _ _ us hl => match us, hl with | [_], _ => rfl
  have D_clause_row := df (x := "clause_row") (st := topS 12) (ps := ["clause"]) X G (d.fact 5 (f := .glo "clause_row") rfl) F5 fun _ _ _ _ _ _ us hl => match us, hl with | [_], _ => rfl
  have D_letters_of_clause := df (x := "letters_of_clause") (st := topS 13) (ps := ["row"]) X G (d.fact 6 (f := .glo "letters_of_clause") rfl) F6 fun _ _ _ _ _ _ us hl => match us, hl with | [_], _ => rfl
  have D_log_text := df (x := "log_text") (st := topS 20) (ps := ["log"]) X G (d.fact 7 (f := .glo "log_text") rfl) F7 fun _ _ _ _ _ _ us hl => match us, hl with | [_], _ => rfl
  have D_read_log := df (x := "read_log") (st := topS 21) (ps := ["text"]) X G (d.fact 8 (f := .glo "read_log") rfl) F8 fun _ _ _ _ _ _ us hl => match us, hl with | [_], _ => rfl
  have D__row_of := df (x := "_row_of") (st := topS 22) (ps := ["step"]) X G (d.fact 9 (f := .glo "_row_of") rfl) F9 fun _ _ _ _ _ _ us hl => match us, hl with | [_], _ => rfl
  have D__step_of := df (x := "_step_of") (st := topS 23) (ps := ["row"]) X G (d.fact 10 (f := .glo "_step_of") rfl) F10 fun _ _ _ _ _ _ us hl => match us, hl with | [_], _ => rfl
  have D__rises := df (x := "_rises") (st := topS 24) (ps := ["clause"]) X G (d.fact 11 (f := .glo "_rises") rfl) F11 fun _ _ _ _ _ _ us hl => match us, hl with | [_], _ => rfl
  have D__is_step_number := df (x := "_is_step_number") (st := topS 25) (ps := ["word"]) X G (d.fact 12 (f := .glo "_is_step_number") rfl) F12 fun _ _ _ _ _ _ us hl => match us, hl with | [_], _ => rfl
  have D__law_mixed := df (x := "_law_mixed") (st := topS 27) (ps := ["cell", "k"]) X G (d.fact 13 (f := .glo "_law_mixed") rfl) F13 fun _ _ _ _ _ _ us hl => match us, hl with | [_, _], _ => rfl
  have D__law_next := df (x := "_law_next") (st := topS 28) (ps := ["draw", "size"]) X G (d.fact 14 (f := .glo "_law_next") rfl) F14 fun _ _ _ _ _ _ us hl => match us, hl with | [_, _], _ => rfl
  have D__law_rising := df (x := "_law_rising") (st := topS 29) (ps := ["draw", "many"]) X G (d.fact 15 (f := .glo "_law_rising") rfl) F15 fun _ _ _ _ _ _ us hl => match us, hl with | [_, _], _ => rfl
  have D__law_steps := df (x := "_law_steps") (st := topS 30) (ps := ["draw", "most"]) X G (d.fact 16 (f := .glo "_law_steps") rfl) F16 fun _ _ _ _ _ _ us hl => match us, hl with | [_, _], _ => rfl
  have x := c.more
  obtain ⟨x0, x⟩ := He.ba x
  have t__LETTERS : ∀ H, SqT K H (He.ga K "_LETTERS") [.str "order", .str "turn"] := tup_of x0
  have g__LETTERS := He.glo_ok X G (d.fact 18 (f := .glo "_LETTERS") rfl)
  have x1 := x
  have t__CLAUSES : ∀ H, SqT K H (He.ga K "_CLAUSES") [.str "learn", .str "pure", .str "drop"] := tup_of x1
  have g__CLAUSES := He.glo_ok X G (d.fact 19 (f := .glo "_CLAUSES") rfl)
  have e := hfa.symm.trans (He.glo_ok X G (d.fact 17 (f := .glo "law") rfl))
  cases e
  have La : Fun K "law" "law" (topS 31) _ fd := fun_of F17
  have bl : Bl mg := ⟨He.free_ok X G (d.fact 26 (f := .free "max") rfl), He.free_ok X G (d.fact 27 (f := .free "min") rfl), He.free_ok X G (d.fact 28 (f := .free "len") rfl), He.free_ok X G (d.fact 29 (f := .free "range") rfl), He.free_ok X G (d.fact 30 (f := .free "type") rfl), He.free_ok X G (d.fact 31 (f := .free "int") rfl), He.free_ok X G (d.fact 32 (f := .free "list") rfl), He.free_ok X G (d.fact 33 (f := .free "tuple") rfl), He.free_ok X G (d.fact 34 (f := .free "dict") rfl), He.free_ok X G (d.fact 35 (f := .free "bool") rfl), He.free_ok X G (d.fact 36 (f := .free "abs") rfl), He.free_ok X G (d.fact 37 (f := .free "sorted") rfl), He.free_ok X G (d.fact 38 (f := .free "enumerate") rfl), He.free_ok X G (d.fact 39 (f := .free "isinstance") rfl), He.free_ok X G (d.fact 40 (f := .free "repr") rfl), He.free_ok X G (d.fact 41 (f := .free "str") rfl), He.free_ok X G (d.fact 42 (f := .free "all") rfl), He.free_ok X G (d.fact 43 (f := .free "any") rfl), He.free_ok X G (d.fact 44 (f := .free "zip") rfl), He.free_ok X G (d.fact 45 (f := .free "reversed") rfl), He.free_ok X G (d.fact 46 (f := .free "sum") rfl)⟩
  have g__EMPTY := He.str_ok X G (d.fact 20 (f := .str "_EMPTY" "-") rfl)
  have g__FIGURES := He.str_ok X G (d.fact 21 (f := .str "_FIGURES" "0123456789") rfl)
  have g_MOST_FIGURES := He.int_ok X G (d.fact 22 (f := .int "MOST_FIGURES" 3) rfl)
  have g__TURNED := He.str_ok X G (d.fact 23 (f := .str "_TURNED" "turned") rfl)
  have g__BY := He.str_ok X G (d.fact 24 (f := .str "_BY" " by ") rfl)
  have g__MOST_FIGURES_OF_STEP := He.int_ok X G (d.fact 25 (f := .int "_MOST_FIGURES_OF_STEP" 4) rfl)
  refine ⟨fd, fun s v => FunD.bindsA (x := "law") (qual := "law") (params := defArgs (topS 31)) (body := defBody (topS 31)) (scope := defScope (topS 31)) (ps := ["script"]) F17 (fun _ _ _ _ _ _ us hl => match us, hl with | [_], _ => rfl) s [v] rfl, fun base _ _ => ?_⟩
  have GX := ok_next (P := P) (w := w) (base := base) D__law_next.F bl D__law_mixed
  have WD : Wds K mg _ _ := ⟨g__LETTERS, g__CLAUSES, t__LETTERS, t__CLAUSES, g__BY⟩
  have GL := ok_lr (P := P) (w := w) (base := base) D_letters_row.F bl
  have GC := ok_cr (P := P) (w := w) (base := base) D_clause_row.F bl g__EMPTY D_letters_row
  have GR := ok_ro (P := P) (w := w) (base := base) D__row_of.F WD D_letters_row GL D_clause_row GC
  have GT := ok_lt (P := P) (w := w) (base := base) D_log_text.F D__row_of GR
  have GI := ok_ri (P := P) (w := w) (base := base) D__law_rising.F bl D__law_next GX
  have GS := ok_st (P := P) (w := w) (base := base) D__law_steps.F bl D__law_next GX D__law_rising GI
  have GF := ok_fig (P := P) (w := w) (base := base) D_is_figures.F bl g__FIGURES
  have GIL := ok_ilr (P := P) (w := w) (base := base) D_is_letters_row.F bl g_MOST_FIGURES D_is_figures GF
  have GLO := ok_lo (P := P) (w := w) (base := base) D_letters_of.F bl
  have GIC := ok_icr (P := P) (w := w) (base := base) D_is_clause_row.F g__EMPTY D_is_letters_row GIL
  have GLC := ok_lcl (P := P) (w := w) (base := base) D_letters_of_clause.F g__EMPTY D_letters_of GLO
  have GRi := ok_rs (P := P) (w := w) (base := base) D__rises.F bl
  have GSN := ok_sn (P := P) (w := w) (base := base) D__is_step_number.F g__MOST_FIGURES_OF_STEP D_is_figures GF
  have GSO := ok_so (P := P) (w := w) (base := base) D__step_of.F bl WD g__TURNED D_is_letters_row GIL D_letters_of GLO D_is_clause_row GIC D_letters_of_clause GLC D__rises GRi D__is_step_number GSN
  have GRL := ok_rl (P := P) (w := w) (base := base) D_read_log.F bl D__step_of GSO
  exact ok_law La bl D__law_next D__law_steps GS D_log_text GT D_read_log GRL
end
end Toy

-- part: LZ
open PySem PySem.W PySem.Calls PyProof.Rows
theorem PySem.Challenge.cw_turnless_k77_whole_logs_read_back_holds : PySem.Challenge.rw_turnless_k77_whole_logs_read_back.Holds := by
  w_on; o_law
  refine HandSHeadRun.head_any (r := Toy.R) (q := view Toy.R.prog [31]) (H := Toy.hk) (ob := Toy.ob) (M := 8000) (loose := Toy.loose) (d := HandSHeadRun.topDef Toy.R.prog 31) (kwd := []) Toy.ob_eq
    (by kernel_rfl) (fun s => by kernel_rfl) Toy.run (by kernel_rfl) (by kernel_rfl) (by kernel_rfl) (by rfl) (by first | assumption | decide +kernel) (by decide +kernel) ⟨rfl, rfl, rfl, rfl, rfl, by decide +kernel⟩ ?hw ?hc
  case hw => w_witness2
  case hc =>
    refine Toy.walkN (l := PySem.Challenge.rw_turnless_k77_whole_logs_read_back) (n := 63) (k := 6) (x := "script") rfl (by decide) (by kernel_rfl) ⟨rfl, by decide, by decide⟩ ?F
    intro w mg fa h Y G hmg0
    obtain ⟨K, KX, c⟩ := Y
    have hmg : mg ("law" : PySem.Str) = some (.ref fa) := by
      have e : (HandSHeadRun.topDef Toy.R.prog 31).name = ("law" : PySem.Str) := by kernel_rfl
      rw [← e]
      exact hmg0
    obtain ⟨fd, hb, hF⟩ := Toy.facts (P := (PySem.Challenge.rw_turnless_k77_whole_logs_read_back).prog) (w := w) KX G hmg c
    exact ⟨K, fd, _, KX, hb, fun H a ns hl hS => ⟨a, ns, rfl, hS, hl, fun _ => rfl⟩, hF⟩

