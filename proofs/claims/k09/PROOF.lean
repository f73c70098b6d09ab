import PyProof.Rows.All
import Wide.All
import OpenK.AllK
import Wide.FinOn
import Lean
import PyProof.EqAt
import PyProof.EqKinds
import PyProof.TupleCall
import PyProof.ListStr
import KE.KRevSl
import PyProof.Rows.Range3
import PyProof.Rows.SetFrom
import PyProof.DictFindH
import PyProof.NeKinds
import KE.KIntText
import PyProof.StrLawsTight
import PyProof.StrLawsChain
import PyProof.Rows.StrItems
import KE.KSortTup
import KE.KDictList
import KE.LcSums
import KE.KDictOf
import PyProof.AttrMissSeq
import KE.KRevIter
import PyProof.StrCalls6
import PyProof.StrReplace2
import KE.KDictLaws
import KE.KUnpack
import KE.KLam
import PySem.Challenge.RW_spreadwords_k09_arches_and_absent_words
set_option Elab.async false
set_option linter.all false
set_option maxRecDepth 100000
set_option maxHeartbeats 4000000
namespace L2
open PySem PySem.Spec PyProof.Rows
abbrev Key:=Sum Int Str
def keyIs:Key→Value→Bool
 | .inl k,v=>Value.isInt k v
 | .inr x,v=>Value.isStrOf x v
def keyH (w:World):Key→Int
 | .inl k=>hashInt k
 | .inr x=>hashStr w x
theorem keyIs_shape:∀ {k:Key} {v:Value},keyIs k v=true→(∃ i t,k=Sum.inl i∧v=Value.int i t)∨(∃ x t,k=Sum.inr x∧v=Value.str x t)
 | .inl i,v,h=>by
  obtain ⟨t,e⟩:=Value.isInt_shape (k:=i) (v:=v) h
  exact .inl ⟨i,t,rfl,e⟩
 | .inr x,v,h=>by
  obtain ⟨t,e⟩:=Value.isStrOf_shape (x:=x) (v:=v) h
  exact .inr ⟨x,t,rfl,e⟩
theorem keyIs_int (i:Int) (t:Tok):keyIs (.inl i) (.int i t)=true:=by simp [keyIs,Value.isInt]
theorem keyIs_str (x:Str) (t:Tok):keyIs (.inr x) (.str x t)=true:=by simp [keyIs,Value.isStrOf]
theorem key_ll (a b:Int):decide ((Sum.inl a:Key)=Sum.inl b)=(a==b):=by
 by_cases e:a=b
 ·subst e; simp
 ·have h:¬ (Sum.inl a:Key)=Sum.inl b:=fun q=>e (Sum.inl.inj q)
  rw [decide_eq_false h]
  exact (beq_eq_false_iff_ne.mpr e).symm
theorem key_rr (a b:Str):decide ((Sum.inr a:Key)=Sum.inr b)=decide (a=b):=by
 by_cases e:a=b
 ·subst e; simp
 ·have h:¬ (Sum.inr a:Key)=Sum.inr b:=fun q=>e (Sum.inr.inj q)
  rw [decide_eq_false h,decide_eq_false e]
theorem key_lr (a:Int) (b:Str):decide ((Sum.inl a:Key)=Sum.inr b)=false:=decide_eq_false (fun q=>nomatch q)
theorem key_rl (a:Str) (b:Int):decide ((Sum.inr a:Key)=Sum.inl b)=false:=decide_eq_false (fun q=>nomatch q)
def mixKind (prog:Program) (w:World):PySem.KeyKind prog w Key where
 is:=keyIs
 hash:=keyH w
 inj:=fun v a b ha hb=>by
  rcases keyIs_shape ha with ⟨i,t,rfl,rfl⟩ | ⟨x,t,rfl,rfl⟩
  ·rcases keyIs_shape hb with ⟨j,u,rfl,e⟩ | ⟨y,u,rfl,e⟩
   ·injection e with e1 _; rw [e1]
   ·exact nomatch e
  ·rcases keyIs_shape hb with ⟨j,u,rfl,e⟩ | ⟨y,u,rfl,e⟩
   ·exact nomatch e
   ·injection e with e1 _; rw [e1]
 byValue:=fun k v h=>by
  rcases keyIs_shape h with ⟨i,t,rfl,rfl⟩ | ⟨x,t,rfl,rfl⟩ <;> rfl
 pyHash:=fun hv h=>by
  rcases keyIs_shape hv with ⟨i,t,rfl,rfl⟩ | ⟨x,t,rfl,rfl⟩
  ·exact wpAny_pyHash_int h
  ·exact wpAny_pyHash_str h
 eqBool:=fun hu hv h=>by
  rcases keyIs_shape hu with ⟨i,t,rfl,rfl⟩ | ⟨x,t,rfl,rfl⟩
  ·rcases keyIs_shape hv with ⟨j,u,rfl,rfl⟩ | ⟨y,u,rfl,rfl⟩
   ·rw [key_ll] at h; exact wpAny_eqBool_int h
   ·rw [key_lr] at h; exact SeqAt.EqAt.int_str i t y u _ _ _ _ h
  ·rcases keyIs_shape hv with ⟨j,u,rfl,rfl⟩ | ⟨y,u,rfl,rfl⟩
   ·rw [key_rl] at h; exact SeqAt.EqAt.str_int x t j u _ _ _ _ h
   ·rw [key_rr] at h; exact wpAny_eqBool_str h
 «strs»:=fun k x t v h=>by
  rcases keyIs_shape h with ⟨i,u,rfl,e⟩ | ⟨y,u,rfl,e⟩
  ·exact nomatch e
  ·injection e with e1 _
   subst e1
   cases v <;> rfl
theorem mixKind_int (prog:Program) (w:World) (i:Int) (t:Tok):(mixKind prog w).is (.inl i) (.int i t)=true:=keyIs_int i t
theorem mixKind_str (prog:Program) (w:World) (x:Str) (t:Tok):(mixKind prog w).is (.inr x) (.str x t)=true:=keyIs_str x t
end L2
namespace L2
open PySem PySem.Spec PyProof.Rows
inductive V where
 | non | bl (b:Bool) | int (i:Int) | str (x:Str) | byt (b:Array UInt8) | flt (b:UInt64) | ref (a:Addr) | ty (n:String)
 deriving DecidableEq
def RelV:V→Value→Prop
 | .non,u=>u=Value.none
 | .bl b,u=>u=Value.bool b
 | .int i,u=>∃ t,u=Value.int i t
 | .str x,u=>∃ t,u=Value.str x t
 | .byt b,u=>∃ t,u=Value.bytes b t
 | .flt b,u=>∃ t,u=Value.float b t
 | .ref a,u=>u=Value.ref a
 | .ty n,u=>u=Value.type n
abbrev Vals:List V→List Value→Prop:=Paired RelV
theorem Vals.length {xs:List V} {us:List Value} (r:Vals xs us):xs.length=us.length:=Paired.length r
theorem Vals.get:∀ {xs:List V} {us:List Value} {i:Nat} {x:V},Vals xs us→xs[i]? = some x→∃ u,us[i]? = some u∧RelV x u
 | _,_,_,_,.nil,e=>by simp at e
 | _,_,0,_,.cons r _,e=>by simp at e; subst e; exact ⟨_,rfl,r⟩
 | _,_,i+1,x,.cons _ t,e=>by
  obtain ⟨u,h1,h2⟩:=Vals.get (i:=i) (x:=x) t (by simpa using e)
  exact ⟨u,by simpa using h1,h2⟩
theorem Vals.set {x:V} {u:Value} (r:RelV x u):∀ {xs:List V} {us:List Value} (i:Nat),Vals xs us→Vals (xs.set i x) (us.set i u)
 | _,_,_,.nil=>.nil
 | _,_,0,.cons _ t=>.cons r t
 | _,_,i+1,.cons q t=>.cons q (Vals.set r i t)
theorem Vals.append:∀ {xs ys:List V} {us ws:List Value},Vals xs us→Vals ys ws→Vals (xs ++ ys) (us ++ ws)
 | _,_,_,_,.nil,s=>s
 | _,_,_,_,.cons r t,s=>.cons r (Vals.append t s)
theorem Vals.take:∀ {xs:List V} {us:List Value} (n:Nat),Vals xs us→Vals (xs.take n) (us.take n)
 | _,_,0,_=>.nil
 | _,_,_+1,.nil=>.nil
 | _,_,n+1,.cons r t=>.cons r (Vals.take n t)
theorem Vals.drop:∀ {xs:List V} {us:List Value} (n:Nat),Vals xs us→Vals (xs.drop n) (us.drop n)
 | _,_,0,r=>r
 | _,_,_+1,.nil=>.nil
 | _,_,n+1,.cons _ t=>Vals.drop n t
theorem Vals.none_of:∀ {xs:List V} {us:List Value} {i:Nat},Vals xs us→xs[i]? = none→us[i]? = none:=fun {xs us i} r e=>by
 have h1:=r.length
 have h2:xs.length≤i:=List.getElem?_eq_none_iff.mp e
 exact List.getElem?_eq_none_iff.mpr (by omega)
def RelO:Option V→Option Value→Prop
 | some v,some u=>RelV v u
 | none,none=>True
 | _,_=>False
def KV {κ:Type}:List (κ × V)→List (κ × Value)→Prop:=Paired fun (p:κ × V) (q:κ × Value)=>p.1=q.1∧RelV p.2 q.2
def kV:Key→V
 | .inl i=>.int i
 | .inr x=>.str x
inductive HO where
  | lst (xs:List V)
  | tup (xs:List V)
  | dK (kvs:List (Key × V)) | dT (kvs:List (List Key × V))
  | set (S:Int→Bool) (n:Nat)
  | ins (C dx:Addr) (fs:List (Str × V))
  | own (x:Addr)
  | xd (fs:List (Str × V))
  | met (f x:Addr)
  | rng (lo hi:Int)
  | frz (o:Obj) (u:HO)
  | tbl (ps:Array Value)
  | ext (φ:Heap→Prop)
abbrev Hp:=Addr→Option HO
def upd (H:Hp) (a:Addr) (o:HO):Hp:=fun b=>if b=a then some o else H b
theorem upd_same {H:Hp} {a:Addr} {o:HO}:upd H a o a=some o:=by unfold upd; rw [if_pos rfl]
theorem upd_ne {H:Hp} {a b:Addr} {o:HO} (h:b≠a):upd H a o b=H b:=by unfold upd; rw [if_neg h]
theorem upd_upd {H:Hp} {a:Addr} {o u:HO}:upd (upd H a o) a u=upd H a u:=by
 funext b; unfold upd; split <;> rfl
theorem ne_of {H:Hp} {a b:Addr} {o u:HO} (h:H a=some o) (h':H b=some u) (d:o≠u):a≠b:=by
 intro e; subst e; rw [h] at h'; exact d (Option.some.inj h')
theorem ne_of_none {H:Hp} {a b:Addr} {o:HO} (h:H a=some o) (h':H b=none):a≠b:=by
 intro e; subst e; rw [h] at h'; cases h'
section
variable (P:Program) (w:World)
def ObjOk (H:Hp) (h:Heap) (a:Addr):HO→Prop
 | .lst xs=>xs.length≤sizeLine∧∃ (its:List Value) (n:Nat),Vals xs its∧h.get? a=some { cls:=.type "list",data:=.seq its.toArray n }
 | .tup xs=>xs.length≤sizeLine∧∃ its:List Value,Vals xs its∧IsTup h a its.toArray
 | .dK kvs=>kvs.length≤sizeLine∧(a==sysModules)=false∧∃ vs,KV kvs vs∧h.DictOf (mixKind P w) a vs
 | .dT kvs=>kvs.length≤sizeLine∧(a==sysModules)=false∧∃ xs:List (List Key × Addr × Value),
   Paired (fun (p:List Key × V) (q:List Key × Addr × Value)=>p.1=q.1∧H q.2.1=some (.tup (p.1.map kV))∧RelV p.2 q.2.2) kvs xs∧
   ∃ o es ep,h.get? a=some o∧o.ExactDict∧o.data=.dict es ep∧es.toList=xs.map (entryOfKey (tupleKind (mixKind P w)))∧(xs.map (·.1)).Nodup
 | .set S n=>h.SetOf (intKind P w) a S n
 | .ins C dx fs=>H dx=some (.own a)∧fs.length≤1000∧dx≠a∧h.get? a=some (PySem.W.instObj C dx)∧
   ∃ mA,h.Ns1 dx mA∧(∀ f,RelO (fs.lookup f) (mA f))∧PySem.Within mA (fs.map (·.1))
 | .own _=>∃ o,h.get? a=some o
 | .xd fs=>∃ mA,h.Ns1 a mA∧∀ f,RelO (fs.lookup f) (mA f)
 | .rng lo hi=>∃ t u v,h.get? a=some { cls:=.type "range",data:=.fields #[.int lo t,.int hi u,.int 1 v] }
 | .frz o u=>h.get? a=some o∧ObjOk H h a u
 | .tbl ps=>h.get? a=some { cls:=.none,data:=.fields ps }
 | .met f x=>h.get? a=some (PySem.W.methodObj (.ref f) (.ref x))
 | .ext φ=>φ h∧(∃ o,h.get? a=some o)∧∀ h1 h2:Heap,φ h1→(∀ o,h1.get? a=some o→h2.get? a=some o)→φ h2
def HOk (H:Hp) (h:Heap):Prop:=∀ a o,H a=some o→ObjOk P w H h a o
end
section
variable {P:Program} {w:World} {H H':Hp} {h h':Heap} {a:Addr} {o:HO}
theorem ObjOk.lt (x:ObjOk P w H h a o):a < h.objs.size:=by
 cases o with
 | lst xs=>obtain ⟨_,_,_,_,e⟩:=x; exact Heap.lt_size e
 | tup xs=>obtain ⟨_,_,_,p⟩:=x; exact p.lt
 | dK kvs=>obtain ⟨_,_,_,_,o,_,_,e,_⟩:=x; exact Heap.lt_size e
 | dT kvs=>obtain ⟨_,_,_,_,o,_,_,e,_⟩:=x; exact Heap.lt_size e
 | set S n=>obtain ⟨o,_,_,_,e,_⟩:=x; exact Heap.lt_size e
 | ins C dx fs=>obtain ⟨_,_,_,e,_⟩:=x; exact Heap.lt_size e
 | own y=>obtain ⟨_,e⟩:=x; exact Heap.lt_size e
 | xd fs=>obtain ⟨_,⟨_,_,_,e,_⟩,_⟩:=x; exact Heap.lt_size e
 | rng lo hi=>obtain ⟨_,_,_,e⟩:=x; exact Heap.lt_size e
 | frz ob u=>obtain ⟨e,_⟩:=x; exact Heap.lt_size e
 | tbl ps=>exact Heap.lt_size (show h.get? a=some _ from x)
 | met f y=>exact Heap.lt_size (show h.get? a=some _ from x)
 | ext φ=>obtain ⟨_,⟨_,e⟩,_⟩:=x; exact Heap.lt_size e
theorem Paired.mapP {α β:Type} {F G:α→β→Prop}:∀ {l₁:List α} {l₂:List β},Paired F l₁ l₂→(∀ a b,F a b→G a b)→Paired G l₁ l₂
 | _,_,.nil,_=>.nil
 | _,_,.cons r t,f=>.cons (f _ _ r) (Paired.mapP t f)
theorem ObjOk.stay (x:ObjOk P w H h a o) (k:∀ b u,(b=a∨H b=some (.own a))→h.get? b=some u→h'.get? b=some u)
  (ho:∀ b,H b=some (.own a)→H' b=some (.own a)) (ht:∀ b xs,H b=some (.tup xs)→H' b=some (.tup xs)):ObjOk P w H' h' a o:=by
 induction o with
 | lst xs=>obtain ⟨z,its,n,r,e⟩:=x; exact ⟨z,its,n,r,k _ _ (.inl rfl) e⟩
 | tup xs=>obtain ⟨z,its,r,ob,e,c⟩:=x; exact ⟨z,its,r,ob,k _ _ (.inl rfl) e,c⟩
 | dK kvs=>obtain ⟨z,y,vs,r,ob,es,ep,e,c⟩:=x; exact ⟨z,y,vs,r,ob,es,ep,k _ _ (.inl rfl) e,c⟩
 | dT kvs=>
  obtain ⟨z,y,xs,r,ob,es,ep,e,c⟩:=x
  exact ⟨z,y,xs,Paired.mapP r fun p q z=>⟨z.1,ht _ _ z.2.1,z.2.2⟩,ob,es,ep,k _ _ (.inl rfl) e,c⟩
 | set S n=>obtain ⟨ob,es,ep,t,e,c⟩:=x; exact ⟨ob,es,ep,t,k _ _ (.inl rfl) e,c⟩
 | ins C dx fs=>
  obtain ⟨d,z,ne,e,mA,⟨od,es,ep,e2,c⟩,r⟩:=x
  exact ⟨ho _ d,z,ne,k _ _ (.inl rfl) e,mA,⟨od,es,ep,k _ _ (.inr d) e2,c⟩,r⟩
 | own y=>obtain ⟨ob,e⟩:=x; exact ⟨ob,k _ _ (.inl rfl) e⟩
 | xd fs=>obtain ⟨mA,⟨od,es,ep,e,c⟩,r⟩:=x; exact ⟨mA,⟨od,es,ep,k _ _ (.inl rfl) e,c⟩,r⟩
 | rng lo hi=>obtain ⟨t,u,v,e⟩:=x; exact ⟨t,u,v,k _ _ (.inl rfl) e⟩
 | frz ob u ih=>obtain ⟨e,q⟩:=x; exact ⟨k _ _ (.inl rfl) e,ih q⟩
 | tbl ps=>
  have e:h.get? a=some { cls:=.none,data:=.fields ps }:=x
  show h'.get? a=some { cls:=.none,data:=.fields ps }
  exact k a _ (.inl rfl) e
 | met f y=>
  have e:h.get? a=some (PySem.W.methodObj (.ref f) (.ref y)):=x
  show h'.get? a=some (PySem.W.methodObj (.ref f) (.ref y))
  exact k a _ (.inl rfl) e
 | ext φ=>obtain ⟨p,⟨o,e⟩,st⟩:=x; exact ⟨st _ _ p fun o q=>k _ _ (.inl rfl) q,⟨o,k _ _ (.inl rfl) e⟩,st⟩
theorem HOk.lt (x:HOk P w H h) (e:H a=some o):a < h.objs.size:=(x a o e).lt
theorem HOk.fresh (x:HOk P w H h) (e:h.objs.size≤a):H a=none:=by
 cases q:H a with
 | none=>rfl
 | some u=>exact absurd (Nat.lt_of_lt_of_le (x.lt q) e) (Nat.lt_irrefl _)
theorem HOk.kept (x:HOk P w H h) (k:∀ b u,h.get? b=some u→h'.get? b=some u):HOk P w H h':=fun a o e=>
 (x a o e).stay (fun b u _ q=>k b u q) (fun _ q=>q) fun _ _ q=>q
theorem HOk.laid (x:HOk P w H h) (k:∀ b u,h.get? b=some u→h'.get? b=some u) (hp:h.objs.size≤a) (new:ObjOk P w (upd H a o) h' a o):HOk P w (upd H a o) h':=fun b u e=>by
 have hn:=x.fresh hp
 by_cases hb:b=a
 ·subst hb; rw [upd_same] at e; cases e; exact new
 ·rw [upd_ne hb] at e
  exact (x b u e).stay (fun c v _ q=>k c v q) (fun c q=>by rw [upd_ne (ne_of_none q hn)]; exact q) fun c xs q=>by rw [upd_ne (ne_of_none q hn)]; exact q
end
def Rd (H:Hp) (a:Addr) (u:HO):Prop:=H a=some u∨∃ o,H a=some (.frz o u)
theorem Rd.ok {P:Program} {w:World} {H:Hp} {h:Heap} {a:Addr} {u:HO} (r:Rd H a u) (x:HOk P w H h):ObjOk P w H h a u:=by
 rcases r with r | ⟨o,r⟩
 ·exact x a u r
 ·obtain ⟨_,q⟩:=x a _ r
  exact q
def Mut:Option HO→Prop
 | some (.lst _)=>True
 | some (.dK _)=>True
 | some (.dT _)=>True
 | some (.set _ _)=>True
 | some (.ins _ _ _)=>True
 | some (.ext _)=>True
 | _=>False
section
variable {P:Program} {w:World} {H:Hp} {h h':Heap} {x e:Addr} {o':HO}
theorem HOk.write (ok:HOk P w H h) (mu:Mut (H x)) (he:e=x∨H e=some (.own x)) (k:∀ b u,b≠e→h.get? b=some u→h'.get? b=some u) (heo:∃ u,h'.get? e=some u)
  (new:ObjOk P w (upd H x o') h' x o'):HOk P w (upd H x o') h':=fun b u q=>by
 have nown:∀ c y,H c=some (.own y)→c≠x:=fun c y r z=>by subst z; rw [r] at mu; exact mu
 have ntup:∀ c xs,H c=some (.tup xs)→c≠x:=fun c xs r z=>by subst z; rw [r] at mu; exact mu
 by_cases hb:b=x
 ·subst hb; rw [upd_same] at q; cases q; exact new
 ·rw [upd_ne hb] at q
  by_cases hbe:b=e
  ·have q':H b=some (.own x):=by
    rcases he with z | z
    ·exact absurd (hbe.trans z) hb
    ·rw [hbe]; exact z
   rw [q] at q'; cases q'
   obtain ⟨v,hv⟩:=heo
   exact ⟨v,by rw [hbe]; exact hv⟩
  ·refine (ok b u q).stay (fun c v hc r=>k c v ?_ r) (fun c r=>by rw [upd_ne (nown c b r)]; exact r) fun c xs r=>by rw [upd_ne (ntup c xs r)]; exact r
   rcases hc with rfl | hc
   ·exact hbe
   ·rintro rfl
    rcases he with z | z
    ·exact nown c b hc z
    ·rw [hc] at z; cases z; exact hb rfl
end
structure Un (fs ex:List Addr) (H H':Hp) (h h':Heap):Prop where
 keep:∀ b o,h.get? b=some o→H b=none→b∉fs→b∉ex→h'.get? b=some o
 slot:∀ b o,h.get? b=some o→H b=none→b∈fs→b∉ex→∃ sl,h'.get? b=some { o with slots:=sl }
 free:∀ b o,h.get? b=some o→H b=none→b∉ex→H' b=none
 there:∀ b o,h.get? b=some o→b∉ex→∃ o',h'.get? b=some o'
 tups:∀ b xs,H b=some (.tup xs)→H' b=some (.tup xs)
 frzs:∀ b o u,H b=some (.frz o u)→H' b=some (.frz o u)
 tbls:∀ b ps,H b=some (.tbl ps)→∃ more,H' b=some (.tbl (ps ++ more))
section
variable {fs fs' ex ex':List Addr} {H H1 H2:Hp} {h h1 h2 h':Heap} {a x e:Addr} {o:HO}
theorem Un.any (u:Un fs ex H H1 h h1) {b:Addr} {ob:Obj} (q:h.get? b=some ob) (n:H b=none) (hx:b∉ex):∃ sl,h1.get? b=some { ob with slots:=sl }:=by
 by_cases hb:b∈fs
 ·exact u.slot b ob q n hb hx
 ·exact ⟨ob.slots,u.keep b ob q n hb hx⟩
theorem Un.kept (k:∀ b u,h.get? b=some u→h'.get? b=some u):Un fs ex H H h h':=
 ⟨fun b ob q _ _ _=>k b ob q,fun b ob q _ _ _=>⟨ob.slots,k b ob q⟩,fun _ _ _ n _=>n,fun b ob q _=>⟨ob,k b ob q⟩,fun _ _ q=>q,fun _ _ _ q=>q,fun _ ps q=>⟨#[],by rw [q]; simp⟩⟩
theorem Un.refl:Un fs ex H H h h:=Un.kept fun _ _ q=>q
theorem Un.laid (k:∀ b u,h.get? b=some u→h'.get? b=some u) (hp:h.objs.size≤a) (hn:H a=none):Un fs ex H (upd H a o) h h' where
 keep:=fun b u q _ _ _=>k b u q
 slot:=fun b u q _ _ _=>⟨u.slots,k b u q⟩
 free:=fun b u q n _=>by rw [upd_ne (Nat.ne_of_lt (Nat.lt_of_lt_of_le (Heap.lt_size q) hp))]; exact n
 there:=fun b u q _=>⟨u,k b u q⟩
 tups:=fun b xs q=>by rw [upd_ne (ne_of_none q hn)]; exact q
 frzs:=fun b u xs q=>by rw [upd_ne (ne_of_none q hn)]; exact q
 tbls:=fun b ps q=>⟨#[],by rw [upd_ne (ne_of_none q hn),q]; simp⟩
theorem Un.write (mu:Mut (H x)) (he:e=x∨H e=some (.own x)) (k:∀ b u,b≠e→h.get? b=some u→h'.get? b=some u) (heo:∃ u,h'.get? e=some u):Un fs ex H (upd H x o) h h':=by
 have hx:∀ b,H b=none→b≠x:=fun b n z=>by subst z; rw [n] at mu; exact mu
 have hb:∀ b,H b=none→b≠e:=fun b n z=>by
  subst z
  rcases he with r | r
  ·exact hx b n r
  ·rw [n] at r; cases r
 have hm:∀ b u,H b=some u→¬ Mut (some u)→b≠x:=fun b u q nm z=>by subst z; rw [q] at mu; exact nm mu
 refine ⟨fun b u q n _ _=>k b u (hb b n) q,fun b u q n _ _=>⟨u.slots,k b u (hb b n) q⟩,fun b u q n _=>by rw [upd_ne (hx b n)]; exact n,fun b u q _=>?_,
  fun b xs q=>by rw [upd_ne (hm b _ q fun z=>z)]; exact q,fun b u xs q=>by rw [upd_ne (hm b _ q fun z=>z)]; exact q,fun b ps q=>⟨#[],by rw [upd_ne (hm b _ q fun z=>z),q]; simp⟩⟩
 by_cases hbe:b=e
 ·subst hbe; exact heo
 ·exact ⟨u,k b u hbe q⟩
end
def trk (h:Heap) (H:Hp):List Addr:=(List.range h.objs.size).filter fun a=>(H a).isSome
def hidT (h:Heap) (H:Hp):Heap:=PySem.W.hideAll h (trk h H)
theorem hidT_size (h:Heap) (H:Hp):(hidT h H).objs.size=h.objs.size:=PySem.W.hideAll_size _ _
theorem hidT_get {h:Heap} {H:Hp} {b:Addr} {o:Obj} (e:h.get? b=some o) (n:H b=none):(hidT h H).get? b=some o:=
 PySem.W.hideAll_get _ e fun hm=>by
  have q:(H b).isSome=true:=(List.mem_filter.mp hm).2
  rw [n] at q; simp at q
theorem of_hidT {h:Heap} {H:Hp} {b:Addr} {o:Obj} (e:(hidT h H).get? b=some o):h.get? b=some o∧H b=none:=by
 have e':h.get? b=some o:=PySem.W.of_hideAll (trk h H) e
 refine ⟨e',?_⟩
 cases q:H b with
 | none=>rfl
 | some x=>
  have hm:b∈trk h H:=List.mem_filter.mpr ⟨List.mem_range.mpr (Heap.lt_size e'),by simp [q]⟩
  have z:(hidT h H).get? b=none:=PySem.W.hideAll_none (trk h H) hm
  rw [z] at e; cases e
def allNews (g h:Heap) (L:Addr):List (Addr × Obj):=(List.range h.objs.size).filterMap fun a=>if a=L∨(g.get? a).isSome=true then none else (h.get? a).map fun o=>(a,o)
def rest (g h:Heap) (L d:Addr):List (Addr × Obj):=(allNews g h L).filter fun p=>decide (p.1≠d)
end L2
namespace L2
open PySem PySem.Spec PyProof.Rows
structure Mod (K:PySem.W.Frag) (mg:Str→Option Value) (base:Heap):Prop where
 kin:K.In base
 glob:base.Ns mainGlobals mg
 blt:∃ mb,base.Ns builtinsNs mb∧∀ x:Str,x≠"__name__"→mb x=bootBuiltins x
 nolimit:base.NoLimit
structure Cx where
 prog:Program
 w:World
 K:PySem.W.Frag
 mg:Str→Option Value
 base:Heap
 A:Around
 N:List Str
 s₀:Shared
 H₀:Hp
 env:Env
 outer:List Env
 stack:List Env
 ex:List Addr
 fn:Str→Bool
 calm:Bool
 pn:List (Addr × Obj)
 xe:Value→Shared→Prop
def frs (l:List Env):List Addr:=l.filterMap (·.frame)
abbrev Cx.fs (X:Cx):List Addr:=frs X.outer
def Vis (sc:Scope) (x:Str):Prop:=sc.names.lookup x=some .local∨sc.names.lookup x=some .cell∨sc.names.lookup x=some .free
def Loc (sc:Scope) (x:Str):Prop:=sc.names.lookup x=some .local∨sc.names.lookup x=some .cell
def Look (env:Env) (h:Heap) (m:Str→Option Value) (x:Str) (u:Value):Prop:=
 (env.kindOf x=some .local∧m x=some u)∨((env.kindOf x=some .cell∨env.kindOf x=some .free)∧∃ c,env.cells.lookup x=some c∧h.IsCell c (some u))
def TkN (x:Str) (u:Value):Prop:=x = "_law_lacking"→∀ z t,u=Value.str z t→t≠0
theorem TkN.no {x:Str} {u:Value} (h:decide (x = "_law_lacking")=false):TkN x u:=fun e=>absurd e (of_decide_eq_false h)
structure Cx.Ok (X:Cx):Prop where
 mod:Mod X.K X.mg X.base
 kind:X.env.scope.kind=.function
 glob:X.env.globals=mainGlobals
 blt:X.env.builtins=builtinsNs
 above:X.s₀.heap.objs.size≤X.env.locals
 inj:∀ x y c,X.env.cells.lookup x=some c→X.env.cells.lookup y=some c→x=y
 has:∀ x,(X.env.kindOf x=some .cell∨X.env.kindOf x=some .free)→∃ c,X.env.cells.lookup x=some c
 cab:∀ x c,X.fn x=true→X.env.cells.lookup x=some c→X.s₀.heap.objs.size≤c
 hd:X.calm=true→X.A.handled=none
 frames:X.A.frames=some X.stack
 stk:X.stack=X.outer∨(X.stack=X.env :: X.outer∧X.env.frame=some X.env.locals)
 exf:∀ b∈X.ex,b≠X.env.locals∧∀ x c,X.env.cells.lookup x=some c→c≠b
 bs:∀ b o,X.base.get? b=some o→X.s₀.heap.get? b=some o∧X.H₀ b=none
 bsz:X.base.objs.size≤X.s₀.heap.objs.size
 noex:∀ b o,X.base.get? b=some o→b∉X.ex
 exfs:∀ b∈X.ex,b∉X.fs
 funs:X.s₀.heap.FunFrames X.base X.outer
 frf:∀ b∈X.fs,X.H₀ b=none
structure Inv (X:Cx) (pins:List (Addr × Obj)) (σ:List (Option V)) (H:Hp) (s:Shared):Prop where
 ok:X.Ok
 os:s.os=X.s₀.os
 bare:AllBare s.gens
 base:Un X.fs X.ex X.H₀ H X.s₀.heap s.heap
 loc:∃ m,s.heap.Ns X.env.locals m∧∀ (i:Nat) (x:Str) (v:V),X.N[i]? = some x→σ[i]? = some (some v)→Vis X.env.scope x→∃ u,RelV v u∧Look X.env s.heap m x u∧TkN x u
 cell:∀ x c,X.env.cells.lookup x=some c→∃ v,s.heap.IsCell c v
 free:H X.env.locals=none
 freeC:∀ x c,X.env.cells.lookup x=some c→H c=none
 pin:∀ p∈X.pn ++ pins,s.heap.get? p.1=some p.2∧H p.1=none∧p.1≠X.env.locals∧p.1∉X.fs∧∀ v,p.2.data≠.cell v
 hok:HOk X.prog X.w H s.heap
 len:σ.length=X.N.length
section
variable {X:Cx} {pins:List (Addr × Obj)} {σ:List (Option V)} {H H':Hp} {s:Shared} {h':Heap}
theorem Cx.Ok.nofr (ok:X.Ok) {b:Addr} {o:Obj} (e:X.base.get? b=some o):b∉X.fs:=fun hb=>by
 have:=(ok.funs.mem hb).1
 rw [e] at this; cases this
theorem Inv.bs (I:Inv X pins σ H s):∀ b o,X.base.get? b=some o→s.heap.get? b=some o∧H b=none:=fun b o e=>
 ⟨I.base.keep b o (I.ok.bs b o e).1 (I.ok.bs b o e).2 (I.ok.nofr e) (I.ok.noex b o e),I.base.free b o (I.ok.bs b o e).1 (I.ok.bs b o e).2 (I.ok.noex b o e)⟩
theorem Inv.bk (I:Inv X pins σ H s):∀ b o,X.base.get? b=some o→s.heap.get? b=some o:=fun b o e=>(I.bs b o e).1
theorem Inv.mod (I:Inv X pins σ H s):Mod X.K X.mg X.base:=I.ok.mod
theorem Inv.kIn (I:Inv X pins σ H s):X.K.In s.heap:=I.ok.mod.kin.keeps I.bk
theorem Inv.lt (I:Inv X pins σ H s):X.env.locals < s.heap.objs.size:=let ⟨_,hn,_⟩:=I.loc; hn.lt
theorem Inv.sz (I:Inv X pins σ H s):X.s₀.heap.objs.size≤s.heap.objs.size:=Nat.le_trans I.ok.above (Nat.le_of_lt I.lt)
theorem Inv.nofs (I:Inv X pins σ H s) {a:Addr} (h:s.heap.objs.size≤a):a∉X.fs:=fun hb=>by
 obtain ⟨_,o,ho,_⟩:=I.ok.funs.mem hb
 exact absurd (Nat.lt_of_lt_of_le (Heap.lt_size ho) (Nat.le_trans I.sz h)) (Nat.lt_irrefl _)
theorem Inv.cne (I:Inv X pins σ H s):∀ x c,X.env.cells.lookup x=some c→c≠X.env.locals:=fun x c e z=>by
 obtain ⟨v,o,ho,hd⟩:=I.cell x c e
 obtain ⟨m,⟨o',es,ep,ho',hd',_⟩,_⟩:=I.loc
 rw [z,ho'] at ho; cases ho; rw [hd'] at hd; cases hd
theorem Inv.funs (I:Inv X pins σ H s):s.heap.FunFrames X.base X.outer:=by
 have all:∀ (l:List Env),(∀ b∈frs l,b∈X.fs)→X.s₀.heap.FunFrames X.base l→s.heap.FunFrames X.base l:=by
  intro l
  induction l with
  | nil=>intro _ _; trivial
  | cons env r ih=>
   intro hs hl
   obtain ⟨hk,⟨L,o,hf,hn,ho,hd⟩,hr⟩:=hl
   have hL:L∈X.fs:=hs L (by unfold frs; rw [List.filterMap_cons,hf]; exact List.mem_cons_self)
   obtain ⟨sl,e⟩:=I.base.slot L o ho (I.ok.frf L hL) hL fun z=>I.ok.exfs L z hL
   exact ⟨hk,⟨L,_,hf,hn,e,hd⟩,ih (fun b hb=>hs b (by unfold frs; rw [List.filterMap_cons,hf]; exact List.mem_cons_of_mem _ hb)) hr⟩
 exact all X.outer (fun _ hb=>hb) I.ok.funs
theorem Inv.stack (I:Inv X pins σ H s):s.heap.FunFrames X.base X.stack:=by
 rcases I.ok.stk with e | ⟨e,hf⟩
 ·rw [e]; exact I.funs
 ·rw [e]
  obtain ⟨m,hn,_⟩:=I.loc
  refine .cons (by rw [I.ok.kind]; decide) hf hn ?_ I.funs
  exact Heap.get?_none_of_le (Nat.le_trans I.ok.bsz I.ok.above)
theorem Inv.stkSub (I:Inv X pins σ H s):∀ b∈frs X.stack,b∈X.env.locals :: X.fs:=fun b hb=>by
 rcases I.ok.stk with e | ⟨e,hf⟩
 ·rw [e] at hb; exact List.mem_cons_of_mem _ hb
 ·rw [e] at hb
  unfold frs at hb
  rw [List.filterMap_cons,hf] at hb
  exact hb
theorem Inv.stkFree (I:Inv X pins σ H s):∀ b∈frs X.stack,H b=none:=fun b hb=>by
 rcases List.mem_cons.mp (I.stkSub b hb) with e | hb
 ·rw [e]; exact I.free
 ·obtain ⟨_,o,ho,_⟩:=I.ok.funs.mem hb
  exact I.base.free b o ho (I.ok.frf b hb) fun z=>I.ok.exfs b z hb
theorem Inv.step {g':Array GenState} {t':Nat} {d':Drawn} {ch:List Addr} (I:Inv X pins σ H s)
  (hch:∀ b∈ch,(b∈X.ex∨X.s₀.heap.objs.size≤b)∧b≠X.env.locals∧(∀ x c,X.env.cells.lookup x=some c→c≠b)∧∀ p∈X.pn ++ pins,p.1≠b)
  (keep:∀ b o,b≠X.env.locals→b∉X.fs→b∉ch→s.heap.get? b=some o→H b=none→h'.get? b=some o)
  (slot:∀ b o,b≠X.env.locals→b∈X.fs→b∉ch→s.heap.get? b=some o→H b=none→∃ sl,h'.get? b=some { o with slots:=sl }) (free:∀ b o,b∉ch→s.heap.get? b=some o→H b=none→H' b=none)
  (there:∀ b o,b∉ch→s.heap.get? b=some o→∃ o',h'.get? b=some o')
  (tups:∀ b xs,H b=some (.tup xs)→H' b=some (.tup xs)) (frzs:∀ b o u,H b=some (.frz o u)→H' b=some (.frz o u)) (tbls:∀ b ps,H b=some (.tbl ps)→∃ more,H' b=some (.tbl (ps ++ more)))
  (ns:∀ m,s.heap.Ns X.env.locals m→h'.Ns X.env.locals m) (hok:HOk X.prog X.w H' h') (hg:AllBare g') :
  Inv X pins σ H' { s with heap:=h',gens:=g',drawn:=d',toks:=t' }:=by
 have neL:∀ b o,X.s₀.heap.get? b=some o→b≠X.env.locals:=fun b o e=>Nat.ne_of_lt (Nat.lt_of_lt_of_le (Heap.lt_size e) I.ok.above)
 have neC:∀ b o,X.s₀.heap.get? b=some o→b∉X.ex→b∉ch:=fun b o e hx hb=>by
  rcases (hch b hb).1 with z | z
  ·exact hx z
  ·exact absurd (Nat.lt_of_lt_of_le (Heap.lt_size e) z) (Nat.lt_irrefl _)
 have cellK:∀ x c,X.env.cells.lookup x=some c→∀ v,s.heap.IsCell c v→h'.IsCell c v:=fun x c e v ⟨o,ho,hd⟩=>by
  have nch:c∉ch:=fun z=>(hch c z).2.2.1 x c e rfl
  by_cases hc:c∈X.fs
  ·obtain ⟨sl,q⟩:=slot c o (I.cne x c e) hc nch ho (I.freeC x c e)
   exact ⟨_,q,hd⟩
  ·exact ⟨o,keep c o (I.cne x c e) hc nch ho (I.freeC x c e),hd⟩
 refine ⟨I.ok,I.os,hg,⟨fun b o e n hb hx=>?_,fun b o e n hb hx=>?_,fun b o e n hx=>?_,fun b o e hx=>?_,fun b xs e=>tups b xs (I.base.tups b xs e),fun b o xs e=>frzs b o xs (I.base.frzs b o xs e),fun b ps e=>?_⟩,?_,fun x c e=>?_,?_,fun x c e=>?_,fun p hp=>?_,hok,I.len⟩
 ·exact keep b o (neL b o e) hb (neC b o e hx) (I.base.keep b o e n hb hx) (I.base.free b o e n hx)
 ·obtain ⟨sl,e1⟩:=I.base.slot b o e n hb hx
  obtain ⟨sl',e2⟩:=slot b _ (neL b o e) hb (neC b o e hx) e1 (I.base.free b o e n hx)
  exact ⟨sl',e2⟩
 ·obtain ⟨o',e1⟩:=I.base.there b o e hx
  exact free b o' (neC b o e hx) e1 (I.base.free b o e n hx)
 ·obtain ⟨o',e1⟩:=I.base.there b o e hx
  exact there b o' (neC b o e hx) e1
 ·obtain ⟨m1,e1⟩:=I.base.tbls b ps e
  obtain ⟨m2,e2⟩:=tbls b _ e1
  exact ⟨m1 ++ m2,by rw [e2,Array.append_assoc]⟩
 ·obtain ⟨m,hn,hl⟩:=I.loc
  refine ⟨m,ns m hn,fun i x v e1 e2 e3=>?_⟩
  obtain ⟨u,r,l,tk⟩:=hl i x v e1 e2 e3
  refine ⟨u,r,?_,tk⟩
  rcases l with l | ⟨k,c,e,z⟩
  ·exact .inl l
  ·exact .inr ⟨k,c,e,cellK x c e _ z⟩
 ·obtain ⟨v,z⟩:=I.cell x c e
  exact ⟨v,cellK x c e v z⟩
 ·obtain ⟨m,⟨o,_,_,ho,_⟩,_⟩:=I.loc
  exact free _ o (fun z=>(hch _ z).2.1 rfl) ho I.free
 ·obtain ⟨v,o,ho,hd⟩:=I.cell x c e
  exact free c o (fun z=>(hch c z).2.2.1 x c e rfl) ho (I.freeC x c e)
 ·obtain ⟨e,n,ne,nf,d⟩:=I.pin p hp
  have nch:p.1∉ch:=fun z=>(hch p.1 z).2.2.2 p hp rfl
  exact ⟨keep p.1 p.2 ne nf nch e n,free p.1 p.2 nch e n,ne,nf,d⟩
theorem Inv.un {t':Nat} (I:Inv X pins σ H s) (u:Un X.fs [] H H' s.heap h') (hok:HOk X.prog X.w H' h'):Inv X pins σ H' { s with heap:=h',toks:=t' }:=by
 obtain ⟨m,⟨o,es,ep,ho,r⟩,_⟩:=id I.loc
 obtain ⟨sl,hL⟩:=u.any ho I.free (by simp)
 exact I.step (g':=s.gens) (d':=s.drawn) (ch:=[]) (fun _ z=>nomatch z) (fun b o _ hb _ e n=>u.keep b o e n hb (by simp)) (fun b o _ hb _ e n=>u.slot b o e n hb (by simp)) (fun b o _ e n=>u.free b o e n (by simp)) (fun b o _ e=>u.there b o e (by simp)) u.tups u.frzs u.tbls (fun m' hm=>by
  obtain ⟨o',es',ep',ho',r'⟩:=hm
  rw [ho] at ho'; cases ho'
  exact ⟨_,es',ep',hL,r'⟩) hok I.bare
theorem Inv.call {g':Array GenState} {t':Nat} {d':Drawn} {ch:List Addr} (I:Inv X pins σ H s) (u:Un (frs X.stack) ch H H' s.heap h') (hok:HOk X.prog X.w H' h') (hg:AllBare g')
  (hch:∀ b∈ch,(b∈X.ex∨X.s₀.heap.objs.size≤b)∧b≠X.env.locals∧(∀ x c,X.env.cells.lookup x=some c→c≠b)∧∀ p∈X.pn ++ pins,p.1≠b) :
  Inv X pins σ H' { s with heap:=h',gens:=g',drawn:=d',toks:=t' }:=by
 obtain ⟨m,⟨o,es,ep,ho,r⟩,_⟩:=id I.loc
 obtain ⟨sl,hL⟩:=u.any ho I.free fun z=>(hch _ z).2.1 rfl
 exact I.step (ch:=ch) hch (fun b o hL hb hc e n=>u.keep b o e n (fun z=>(List.mem_cons.mp (I.stkSub b z)).elim hL hb) hc) (fun b o _ _ hc e n=>u.any e n hc) (fun b o hc e n=>u.free b o e n hc) (fun b o hc e=>u.there b o e hc) u.tups u.frzs u.tbls (fun m' hm=>by
  obtain ⟨o',es',ep',ho',r'⟩:=hm
  rw [ho] at ho'; cases ho'
  exact ⟨_,es',ep',hL,r'⟩) hok hg
theorem Inv.turned {t':Nat} {it:Addr} (I:Inv X pins σ H s) (k:∀ b o,b≠it→s.heap.get? b=some o→h'.get? b=some o) (hn:H it=none) (hL:it≠X.env.locals)
  (h1:it∈X.ex∨X.s₀.heap.objs.size≤it) (h2:∀ x c,X.env.cells.lookup x=some c→c≠it) (h3:∀ p∈X.pn ++ pins,p.1≠it):Inv X pins σ H { s with heap:=h',toks:=t' }:=by
 have nit:∀ b u,H b=some u→b≠it:=fun b u e z=>by rw [z,hn] at e; cases e
 refine I.step (g':=s.gens) (d':=s.drawn) (ch:=[it]) (fun b hb=>?_) (fun b o _ _ hc e _=>k b o (fun z=>hc (by simp [z])) e) (fun b o _ _ hc e _=>⟨o.slots,k b o (fun z=>hc (by simp [z])) e⟩) (fun _ _ _ _ n=>n)
  (fun b o hc e=>⟨o,k b o (fun z=>hc (by simp [z])) e⟩) (fun _ _ e=>e) (fun _ _ _ e=>e) (fun b ps e=>⟨#[],by rw [e]; simp⟩) (fun m hm=>?_) (fun b u e=>?_) I.bare
 ·have e:b=it:=by simpa using hb
  subst e
  exact ⟨h1,hL,h2,h3⟩
 ·obtain ⟨o,es,ep,ho,r⟩:=hm
  exact ⟨o,es,ep,k _ o (Ne.symm hL) ho,r⟩
 ·refine (I.hok b u e).stay (fun c v hc q=>k c v ?_ q) (fun _ q=>q) fun _ _ q=>q
  rcases hc with z | z
  ·rw [z]; exact nit b u e
  ·exact nit c _ z
theorem Inv.tok (I:Inv X pins σ H s) (t:Nat):Inv X pins σ H { s with toks:=t }:=I.un (h':=s.heap) (t':=t) Un.refl I.hok
theorem Inv.kept {t':Nat} (I:Inv X pins σ H s) (k:∀ b u,s.heap.get? b=some u→h'.get? b=some u):Inv X pins σ H { s with heap:=h',toks:=t' }:=I.un (Un.kept k) (I.hok.kept k)
theorem Inv.laid {a:Addr} {o:HO} {t':Nat} (I:Inv X pins σ H s) (k:∀ b u,s.heap.get? b=some u→h'.get? b=some u) (hp:s.heap.objs.size≤a) (new:ObjOk X.prog X.w (upd H a o) h' a o) :
  Inv X pins σ (upd H a o) { s with heap:=h',toks:=t' }:=I.un (Un.laid k hp (I.hok.fresh hp)) (I.hok.laid k hp new)
theorem Inv.write {x e:Addr} {o:HO} {t':Nat} (I:Inv X pins σ H s) (mu:Mut (H x)) (he:e=x∨H e=some (.own x)) (k:∀ b u,b≠e→s.heap.get? b=some u→h'.get? b=some u) (heo:∃ u,h'.get? e=some u)
  (new:ObjOk X.prog X.w (upd H x o) h' x o):Inv X pins σ (upd H x o) { s with heap:=h',toks:=t' }:=I.un (Un.write mu he k heo) (I.hok.write mu he k heo new)
theorem Inv.weak {σ':List (Option V)} (I:Inv X pins σ H s) (hl:σ'.length=σ.length) (w:∀ (i:Nat) v,σ'[i]? = some (some v)→σ[i]? = some (some v)):Inv X pins σ' H s:=
 ⟨I.ok,I.os,I.bare,I.base,let ⟨m,hn,hl'⟩:=I.loc; ⟨m,hn,fun i x v e1 e2 e3=>hl' i x v e1 (w i v e2) e3⟩,I.cell,I.free,I.freeC,I.pin,I.hok,hl.trans I.len⟩
theorem Inv.pins_of {pins':List (Addr × Obj)} (I:Inv X pins σ H s) (h:∀ p∈pins',s.heap.get? p.1=some p.2∧H p.1=none∧p.1≠X.env.locals∧p.1∉X.fs∧∀ v,p.2.data≠.cell v):Inv X pins' σ H s:=
 ⟨I.ok,I.os,I.bare,I.base,I.loc,I.cell,I.free,I.freeC,fun p hp=>(List.mem_append.mp hp).elim (fun z=>I.pin p (List.mem_append_left _ z)) (h p),I.hok,I.len⟩
theorem nodup_ix {N:List Str} (hN:N.Nodup) {i j:Nat} {x:Str} (a:N[i]? = some x) (b:N[j]? = some x):i=j:=by
 obtain ⟨h1,e1⟩:=List.getElem?_eq_some_iff.mp a
 obtain ⟨h2,e2⟩:=List.getElem?_eq_some_iff.mp b
 exact (List.getElem_inj hN).mp (e1.trans e2.symm)
theorem store_ok2 {M:Model} {A:Around} {E:Value→Shared→Prop} {i:Nat} {x:Str} {v:V} {u:Value} {Q:Unit→Shared→Prop} (I:Inv X pins σ H s) (hN:X.N.Nodup) (hi:X.N[i]? = some x) (hx:Loc X.env.scope x) (r:RelV v u) (tk:TkN x u)
  (h:∀ s',Inv X pins (σ.set i (some v)) H s'→(∃ a,Heap.SameBut a s.heap s'.heap∧(a=X.env.locals∨X.env.cells.lookup x=some a))→Q () s') (hf:X.fn x=true∨X.env.scope.names.lookup x=some .local:=by first | exact .inl rfl | exact .inr rfl | assumption):wpAny M A (storeName X.env x u) Q E s:=by
 obtain ⟨m,hn,hl⟩:=id I.loc
 have hcls:(X.env.scope.kind==.class || (X.env.scope.kind==.module && X.env.locals != X.env.globals))=false:=by rw [I.ok.kind]; rfl
 have hiσ:i < σ.length:=by rw [I.len]; exact (List.getElem?_eq_some_iff.mp hi).1
 have cne:=I.cne
 have tracked:∀ {a:Addr} {h':Heap},(∃ o,s.heap.get? a=some o∧H a=none)→Heap.SameBut a s.heap h'→HOk X.prog X.w H h':=fun {a h'} ha hs b ob e=>by
  obtain ⟨_,_,hfree⟩:=ha
  refine (I.hok b ob e).stay (fun c w' hc q=>(hs.2 c ?_).trans q) (fun _ q=>q) fun _ _ q=>q
  rintro rfl
  rcases hc with rfl | hc
  ·rw [hfree] at e; cases e
  ·rw [hfree] at hc; cases hc
 rcases hx with hk | hk
 ·refine wpAny_storeName_local hk hn (fun h' hn' hs=>?_) hcls
  obtain ⟨oL,_,_,hoL,_⟩:=id hn
  refine h _ ⟨I.ok,I.os,I.bare,⟨fun b o e n hb hx=>?_,fun b o e n hb hx=>?_,I.base.free,fun b o e hx=>?_,I.base.tups,I.base.frzs,I.base.tbls⟩,⟨_,hn',fun j y v' e1 e2 e3=>?_⟩,fun y c e=>?_,I.free,I.freeC,fun p hp=>?_,tracked ⟨oL,hoL,I.free⟩ hs,by simpa using I.len⟩ ⟨_,hs,.inl rfl⟩
  ·exact (hs.2 b (Nat.ne_of_lt (Nat.lt_of_lt_of_le (Heap.lt_size e) I.ok.above))).trans (I.base.keep b o e n hb hx)
  ·obtain ⟨sl,e1⟩:=I.base.slot b o e n hb hx
   exact ⟨sl,(hs.2 b (Nat.ne_of_lt (Nat.lt_of_lt_of_le (Heap.lt_size e) I.ok.above))).trans e1⟩
  ·obtain ⟨o',e1⟩:=I.base.there b o e hx
   exact ⟨o',(hs.2 b (Nat.ne_of_lt (Nat.lt_of_lt_of_le (Heap.lt_size e) I.ok.above))).trans e1⟩
  ·by_cases hj:j=i
   ·subst hj
    rw [hi] at e1; cases e1
    rw [List.getElem?_set_self hiσ] at e2
    cases e2
    exact ⟨u,r,.inl ⟨hk,by simp⟩,tk⟩
   ·rw [List.getElem?_set_ne (Ne.symm hj)] at e2
    obtain ⟨u',r',q,tk'⟩:=hl j y v' e1 e2 e3
    refine ⟨u',r',?_,tk'⟩
    rcases q with ⟨k,e⟩ | ⟨k,c,e,z⟩
    ·refine .inl ⟨k,?_⟩
     have:y≠x:=fun e=>hj (nodup_ix hN e1 (e▸hi))
     simp [this,e]
    ·exact .inr ⟨k,c,e,z.sameBut hs (cne y c e)⟩
  ·obtain ⟨w',z⟩:=I.cell y c e
   exact ⟨w',z.sameBut hs (cne y c e)⟩
  ·obtain ⟨e,n,ne,nf,d⟩:=I.pin p hp
   exact ⟨(hs.2 p.1 ne).trans e,n,ne,nf,d⟩
 ·have hfn:X.fn x=true:=by
   rcases hf with z | z
   ·exact z
   ·rw [z] at hk; cases hk
  obtain ⟨c,hc⟩:=I.ok.has x (.inl hk)
  obtain ⟨w',z⟩:=I.cell x c hc
  refine wpAny_storeName_cell I.ok.kind hk hc z (fun h' hc' hs=>?_)
  obtain ⟨oc,hoc,hocd⟩:=id z
  refine h { s with heap:=h' } ⟨I.ok,I.os,I.bare,⟨fun b o e n hb hx=>?_,fun b o e n hb hx=>?_,I.base.free,fun b o e hx=>?_,I.base.tups,I.base.frzs,I.base.tbls⟩,⟨m,hn.sameBut hs (Ne.symm (cne x c hc)),fun j y v' e1 e2 e3=>?_⟩,fun y c' e=>?_,I.free,I.freeC,fun p hp=>?_,tracked ⟨oc,hoc,I.freeC x c hc⟩ hs,by simpa using I.len⟩ ⟨c,hs,.inr hc⟩
  ·exact (hs.2 b (Nat.ne_of_lt (Nat.lt_of_lt_of_le (Heap.lt_size e) (I.ok.cab x c hfn hc)))).trans (I.base.keep b o e n hb hx)
  ·obtain ⟨sl,e1⟩:=I.base.slot b o e n hb hx
   exact ⟨sl,(hs.2 b (Nat.ne_of_lt (Nat.lt_of_lt_of_le (Heap.lt_size e) (I.ok.cab x c hfn hc)))).trans e1⟩
  ·obtain ⟨o',e1⟩:=I.base.there b o e hx
   exact ⟨o',(hs.2 b (Nat.ne_of_lt (Nat.lt_of_lt_of_le (Heap.lt_size e) (I.ok.cab x c hfn hc)))).trans e1⟩
  ·by_cases hj:j=i
   ·subst hj
    rw [hi] at e1; cases e1
    rw [List.getElem?_set_self hiσ] at e2
    cases e2
    exact ⟨u,r,.inr ⟨.inl hk,c,hc,hc'⟩,tk⟩
   ·rw [List.getElem?_set_ne (Ne.symm hj)] at e2
    obtain ⟨u',r',q,tk'⟩:=hl j y v' e1 e2 e3
    refine ⟨u',r',?_,tk'⟩
    rcases q with q | ⟨k,c',e,z'⟩
    ·exact .inl q
    ·refine .inr ⟨k,c',e,z'.sameBut hs ?_⟩
     rintro rfl
     exact hj (nodup_ix hN e1 (I.ok.inj _ _ _ e hc▸hi))
  ·by_cases hcc:c'=c
   ·subst hcc; exact ⟨_,hc'⟩
   ·obtain ⟨w2,z2⟩:=I.cell y c' e
    exact ⟨w2,z2.sameBut hs hcc⟩
  ·obtain ⟨e,n,ne,nf,d⟩:=I.pin p hp
   refine ⟨(hs.2 p.1 ?_).trans e,n,ne,nf,d⟩
   intro q
   rw [q,hoc] at e
   have q':oc=p.2:=Option.some.inj e
   exact d w' (by rw [← q']; exact hocd)
theorem store_ok {M:Model} {A:Around} {E:Value→Shared→Prop} {i:Nat} {x:Str} {v:V} {u:Value} {Q:Unit→Shared→Prop} (I:Inv X pins σ H s) (hN:X.N.Nodup) (hi:X.N[i]? = some x) (hx:Loc X.env.scope x) (r:RelV v u) (tk:TkN x u)
  (h:∀ s',Inv X pins (σ.set i (some v)) H s'→Q () s') (hf:X.fn x=true∨X.env.scope.names.lookup x=some .local:=by first | exact .inl rfl | exact .inr rfl | assumption):wpAny M A (storeName X.env x u) Q E s:=
 store_ok2 I hN hi hx r tk (fun s' I' _=>h s' I') hf
theorem Inv.call' {s':Shared} {ch:List Addr} (I:Inv X pins σ H s) (ho:s'.os=s.os) (u:Un (frs X.stack) ch H H' s.heap s'.heap) (hok:HOk X.prog X.w H' s'.heap) (hg:AllBare s'.gens)
  (hch:∀ b∈ch,(b∈X.ex∨X.s₀.heap.objs.size≤b)∧b≠X.env.locals∧(∀ x c,X.env.cells.lookup x=some c→c≠b)∧∀ p∈X.pn ++ pins,p.1≠b):Inv X pins σ H' s':=by
 obtain ⟨h',g',d',t',o'⟩:=s'
 have e:o'=s.os:=ho
 subst e
 exact I.call (g':=g') (t':=t') (d':=d') u hok hg hch
end
abbrev XK:=Value→Option Addr→Hp→Prop
abbrev St:=List (Option V)
abbrev VK:=V→Hp→Prop
abbrev TE:=St→Hp→VK→Prop
abbrev TT:=St→Hp→(Bool→Hp→Prop)→Prop
abbrev TA:=St→Hp→(List V→Hp→Prop)→Prop
structure Ends where
 nx:St→Hp→Prop
 rt:VK
 bk:St→Hp→Prop:=fun _ _=>False
 ct:St→Hp→Prop:=fun _ _=>False
abbrev TS:=Ends→St→Hp→Prop
def EP (X:Cx) (pins:List (Addr × Obj)) (σ:St) (Q:VK) (u:Value) (s':Shared):Prop:=∃ v H',Inv X pins σ H' s'∧RelV v u∧Q v H'
def TP (X:Cx) (pins:List (Addr × Obj)) (σ:St) (Q:Bool→Hp→Prop) (b:Bool) (s':Shared):Prop:=∃ H',Inv X pins σ H' s'∧Q b H'
def AP (X:Cx) (pins:List (Addr × Obj)) (σ:St) (Q:List V→Hp→Prop) (us:List Value) (s':Shared):Prop:=∃ vs H',Inv X pins σ H' s'∧Vals vs us∧Q vs H'
def SP (X:Cx) (pins:List (Addr × Obj)) (D:Ends) (f:Flow) (s':Shared):Prop:=
 match f with
 | .next=>∃ σ' H',Inv X pins σ' H' s'∧D.nx σ' H'
 | .brk=>∃ σ' H',Inv X pins σ' H' s'∧D.bk σ' H'
 | .cont=>∃ σ' H',Inv X pins σ' H' s'∧D.ct σ' H'
 | .ret u=>∃ v σ' H',Inv X pins σ' H' s'∧RelV v u∧D.rt v H'
def PE (X:Cx) (e:Expr) (t:TE):Prop:=
 ∀ (pins:List (Addr × Obj)) (s:Shared) (σ:St) (H:Hp) (Q:VK),Inv X pins σ H s→t σ H Q→wpAny (model X.prog X.w) X.A (eval e X.env) (EP X pins σ Q) X.xe s
def PT (X:Cx) (e:Expr) (t:TT):Prop:=
 ∀ (pins:List (Addr × Obj)) (s:Shared) (σ:St) (H:Hp) (Q:Bool→Hp→Prop),Inv X pins σ H s→t σ H Q→wpAny (model X.prog X.w) X.A (isTrue e X.env (eval e X.env)) (TP X pins σ Q) X.xe s
def PW (X:Cx) (e:Expr) (t:TT):Prop:=
 ∀ (whole:Sem Value) (pins:List (Addr × Obj)) (s:Shared) (σ:St) (H:Hp) (Q:Bool→Hp→Prop),Inv X pins σ H s→t σ H Q→wpAny (model X.prog X.w) X.A (isTrue e X.env whole) (TP X pins σ Q) X.xe s
theorem PW.pt {X:Cx} {e:Expr} {t:TT} (h:PW X e t):PT X e t:=h _
def PA (X:Cx) (es:List Expr) (t:TA):Prop:=
 ∀ (pos:Pos) (pins:List (Addr × Obj)) (s:Shared) (σ:St) (H:Hp) (Q:List V→Hp→Prop),Inv X pins σ H s→t σ H Q→wpAny (model X.prog X.w) X.A (spliced (backTo pos (starEach es X.env))) (AP X pins σ Q) X.xe s
def PS (X:Cx) (st:Stmt) (t:TS):Prop:=
 ∀ (pins:List (Addr × Obj)) (s:Shared) (σ:St) (H:Hp) (D:Ends),Inv X pins σ H s→t D σ H→wpAny (model X.prog X.w) X.A (exec st X.env) (SP X pins D) X.xe s
def PSs (X:Cx) (st:List Stmt) (t:TS):Prop:=
 ∀ (pins:List (Addr × Obj)) (s:Shared) (σ:St) (H:Hp) (D:Ends),Inv X pins σ H s→t D σ H→wpAny (model X.prog X.w) X.A (execs st X.env) (SP X pins D) X.xe s
theorem thn {α:Type} {t:Sem α} {Q Q':α→Shared→Prop} {M:Model} {A:Around} {E:Value→Shared→Prop} {s:Shared} (h:wpAny M A t Q E s) (hQ:∀ a s,Q a s→Q' a s):wpAny M A t Q' E s:=wpAny_mono h hQ fun _ _ x=>x
end L2
namespace L2
open PySem PySem.Spec PyProof.Rows
section
variable {X:Cx}
inductive tVarI (i:Nat) (σ:St) (H:Hp) (Q:VK):Prop
 | mk (v:_) (h1:σ[i]? = some (some v)) (h2:Q v H):tVarI i σ H Q
def tVar (i:Nat):TE:=fun σ H Q=>tVarI i σ H Q
def tC (v:V):TE:=fun _ H Q=>Q v H
theorem pe_var {i:Nat} {x:Str} {pos:Pos} (hN:X.N[i]? = some x) (hv:Vis X.env.scope x) (hd:(x==("__debug__" : Str))=false:=by decide) (hcd:(x==("__classdict__" : Str))=false:=by decide):PE X (.Name x pos) (tVar i):=by
 intro pins s σ H Q I h
 obtain ⟨v,e,h⟩:=h
 obtain ⟨m,hn,hl⟩:=I.loc
 obtain ⟨u,r,l⟩:=hl i x v hN e hv
 have fin:EP X pins σ Q u s:=⟨v,H,I,r,h⟩
 rcases l with ⟨hk,hm⟩ | ⟨hk,c,hc,hcell⟩
 ·exact wpAny_Name (wpAny_loadName_local I.ok.kind hk hn hm fin) hd
 ·rcases hk with hk | hk
  ·exact wpAny_Name (wpAny_loadName_cell I.ok.kind hk hc hcell fin) hd
  ·exact wpAny_Name (wpAny_loadName_free I.ok.kind hk hc hcell fin hcd) hd
theorem pe_int {i j pos}:PE X (.Constant (.int i) j pos) (tC (.int i)):=fun _ _ _ H _ I h=>wpAny_Constant_int ⟨.int i,H,I.tok _,⟨_,rfl⟩,h⟩
theorem pe_bl {b j pos}:PE X (.Constant (.bool b) j pos) (tC (.bl b)):=fun _ _ _ H _ I h=>Constant_bool ⟨.bl b,H,I,rfl,h⟩
theorem pe_non {j pos}:PE X (.Constant .none j pos) (tC .non):=fun _ _ _ H _ I h=>Constant_none ⟨.non,H,I,rfl,h⟩
theorem pe_str {x j pos}:PE X (.Constant (.str x) j pos) (tC (.str x)):=fun _ _ _ H _ I h=>Calls.Constant_str ⟨.str x,H,I.tok _,⟨_,rfl⟩,h⟩
def Gl (X:Cx) (x:Str):Prop:=X.env.kindOf x=some .globalImplicit
theorem ld_glob {E:Value→Shared→Prop} {pins:List (Addr × Obj)} {s:Shared} {σ:St} {H:Hp} {x:Str} {u:Value} {pos:Pos} {Q:Value→Shared→Prop} (I:Inv X pins σ H s) (hg:Gl X x) (hm:X.mg x=some u) (h:Q u s)
  (hd:(x==("__debug__" : Str))=false:=by decide):wpAny (model X.prog X.w) X.A (eval (.Name x pos) X.env) Q E s:=
 Calls.Name_function_global I.ok.kind hg (Calls.loadGlobal_global (by rw [I.ok.glob]; exact I.mod.glob.keeps I.bk) hm h) hd
theorem ld_blt {E:Value→Shared→Prop} {pins:List (Addr × Obj)} {s:Shared} {σ:St} {H:Hp} {x:Str} {u:Value} {pos:Pos} {Q:Value→Shared→Prop} (I:Inv X pins σ H s) (hg:Gl X x) (hm:X.mg x=none) (hv:bootBuiltins x=some u) (h:Q u s)
  (hn:x≠"__name__":=by decide) (hd:(x==("__debug__" : Str))=false:=by decide):wpAny (model X.prog X.w) X.A (eval (.Name x pos) X.env) Q E s:=by
 obtain ⟨mb,h1,h2⟩:=I.mod.blt
 exact Calls.Name_function_global I.ok.kind hg (Calls.loadGlobal_builtin (by rw [I.ok.glob]; exact I.mod.glob.keeps I.bk) hm (by rw [I.ok.blt]; exact h1.keeps I.bk) ((h2 x hn).trans hv) h) hd
theorem pe_bltn {x:Str} {v:V} {u:Value} {pos:Pos} (hg:Gl X x) (hm:X.mg x=none) (hv:bootBuiltins x=some u) (r:RelV v u) (hn:x≠"__name__":=by decide) (hd:(x==("__debug__" : Str))=false:=by decide):PE X (.Name x pos) (tC v):=
 fun _ _ _ H _ I h=>ld_blt I hg hm hv ⟨v,H,I,r,h⟩ hn hd
variable {a b:Expr} {ta tb:TE} {pos:Pos}
variable {tA tB':TT} {rest:List Expr}
def tAnd (t u:TT):TT:=fun σ H Q=>t σ H fun c H1=>if c=true then u σ H1 Q else Q false H1
def tOr (t u:TT):TT:=fun σ H Q=>t σ H fun c H1=>if c=true then Q true H1 else u σ H1 Q
def tNot (t:TT):TT:=fun σ H Q=>t σ H fun c H1=>Q (!c) H1
theorem pw_and1 (ha:PT X a tA):PW X (.BoolOp .And [a] pos) tA:=by
 intro wh pins s σ H Q I h
 refine isTrue_and (thn (ha pins s σ H Q I h) fun c s1 e=>?_)
 cases c with
 | true=>exact isTrue_and_nil e
 | false=>exact e
theorem pw_or1 (ha:PT X a tA):PW X (.BoolOp .Or [a] pos) tA:=by
 intro wh pins s σ H Q I h
 refine isTrue_or (thn (ha pins s σ H Q I h) fun c s1 e=>?_)
 cases c with
 | false=>exact isTrue_or_nil e
 | true=>exact e
theorem pw_and (ha:PT X a tA) (hb:PW X (.BoolOp .And (b :: rest) pos) tB'):PW X (.BoolOp .And (a :: b :: rest) pos) (tAnd tA tB'):=by
 intro wh pins s σ H Q I h
 refine isTrue_and (thn (ha pins s σ H _ I h) fun c s1 ⟨H1,I1,q1⟩=>?_)
 cases c with
 | true=>exact hb wh pins s1 σ H1 Q I1 q1
 | false=>exact ⟨H1,I1,q1⟩
theorem pw_or (ha:PT X a tA) (hb:PW X (.BoolOp .Or (b :: rest) pos) tB'):PW X (.BoolOp .Or (a :: b :: rest) pos) (tOr tA tB'):=by
 intro wh pins s σ H Q I h
 refine isTrue_or (thn (ha pins s σ H _ I h) fun c s1 ⟨H1,I1,q1⟩=>?_)
 cases c with
 | true=>exact ⟨H1,I1,q1⟩
 | false=>exact hb wh pins s1 σ H1 Q I1 q1
theorem pt_not (ha:PT X a tA):PT X (.UnaryOp .Not a pos) (tNot tA):=by
 intro pins s σ H Q I h
 exact isTrue_not (ha pins s σ H (fun c H1=>Q (!c) H1) I h)
inductive tAndVI (tb:TE) (σ:St) (Q:VK) (x:V) (H1:Hp):Prop
 | mk (c:_) (h1:x=.bl c) (h2:if c=true then tb σ H1 Q else Q (.bl false) H1):tAndVI tb σ Q x H1
def tAndV (ta tb:TE):TE:=fun σ H Q=>ta σ H fun x H1=>tAndVI tb σ Q x H1
theorem pe_one {op} {t:TE} (h:PE X a t):PE X (.BoolOp op [a] pos) t:=fun pins s σ H Q I hw=>BoolOp_one (h pins s σ H Q I hw)
theorem pe_and (ha:PE X a ta) (hb:PE X (.BoolOp .And (b :: rest) pos) tb):PE X (.BoolOp .And (a :: b :: rest) pos) (tAndV ta tb):=by
 intro pins s σ H Q I h
 refine BoolOp_and (thn (ha pins s σ H _ I h) fun v s1 ⟨x,H1,I1,r1,q1⟩=>?_)
 obtain ⟨c,rfl,q1⟩:=q1
 cases r1
 refine wpAny_truthy_bool ?_
 cases c with
 | true=>exact hb pins s1 σ H1 Q I1 q1
 | false=>exact ⟨.bl false,H1,I1,rfl,q1⟩
end
end L2
namespace L2
open PySem PySem.Spec PyProof.Rows
def SqL (K:PySem.W.Frag) (H:Hp) (a:Addr) (xs:List V):Prop:=
 Rd H a (.lst xs)∨
  ∃ (o:Obj) (its:Array Value) (n:Nat),K.lookup a=some o∧o.cls=.type "list"∧o.dict=none∧o.data=.seq its n∧its.size≤sizeLine∧Vals xs its.toList
def SqT (K:PySem.W.Frag) (H:Hp) (a:Addr) (xs:List V):Prop:=
 Rd H a (.tup xs)∨
  ∃ (o:Obj) (its:Array Value) (n:Nat),K.lookup a=some o∧o.cls=.type "tuple"∧o.data=.seq its n∧its.size≤sizeLine∧Vals xs its.toList
def absV:Value→Option V
 | .none=>some .non
 | .bool b=>some (.bl b)
 | .int i _=>some (.int i)
 | .str x _=>some (.str x)
 | .bytes b _=>some (.byt b)
 | .float b _=>some (.flt b)
 | .ref a=>some (.ref a)
 | .type n=>some (.ty n)
 | _=>none
theorem RelV.abs {x:V} {u:Value} (r:RelV x u):absV u=some x:=by
 cases x with
 | non=>cases r; rfl
 | bl _=>cases r; rfl
 | int _=>obtain ⟨t,rfl⟩:=r; rfl
 | str _=>obtain ⟨t,rfl⟩:=r; rfl
 | byt _=>obtain ⟨t,rfl⟩:=r; rfl
 | flt _=>obtain ⟨t,rfl⟩:=r; rfl
 | ref _=>cases r; rfl
 | ty _=>cases r; rfl
theorem RelV.inj {x y:V} {u:Value} (r:RelV x u) (q:RelV y u):x=y:=Option.some.inj (r.abs.symm.trans q.abs)
theorem Vals.inj:∀ {xs ys:List V} {us:List Value},Vals xs us→Vals ys us→xs=ys
 | _,_,_,.nil,.nil=>rfl
 | _,_,_,.cons r t,.cons r' t'=>by rw [r.inj r',Vals.inj t t']
section
variable {X:Cx} {pins:List (Addr × Obj)} {σ:St} {H:Hp} {s:Shared} {a:Addr} {xs ys:List V}
theorem SqL.of {K:PySem.W.Frag} (h:H a=some (.lst xs)):SqL K H a xs:=.inl (.inl h)
theorem SqT.of {K:PySem.W.Frag} (h:H a=some (.tup xs)):SqT K H a xs:=.inl (.inl h)
theorem Inv.list (I:Inv X pins σ H s) (h:SqL X.K H a xs):∃ its:List Value,Vals xs its∧PlainL s.heap a its.toArray∧xs.length≤sizeLine:=by
 rcases h with h | ⟨o,its,n,hk,hc,hd,hs,hz,r⟩
 ·obtain ⟨z,its,n,r,e⟩:=h.ok I.hok
  exact ⟨its,r,⟨_,n,e,rfl,rfl,rfl⟩,z⟩
 ·refine ⟨its.toList,r,⟨o,n,I.kIn a o hk,hc,hd,by simpa using hs⟩,?_⟩
  have e:=r.length
  simp only [Array.length_toList] at e
  omega
theorem Inv.tuple (I:Inv X pins σ H s) (h:SqT X.K H a xs):∃ its:List Value,Vals xs its∧IsTup s.heap a its.toArray∧xs.length≤sizeLine:=by
 rcases h with h | ⟨o,its,n,hk,hc,hs,hz,r⟩
 ·obtain ⟨z,its,r,p⟩:=h.ok I.hok
  exact ⟨its,r,p,z⟩
 ·refine ⟨its.toList,r,⟨o,I.kIn a o hk,hc,n,by simpa using hs⟩,?_⟩
  have e:=r.length
  simp only [Array.length_toList] at e
  omega
theorem Inv.list_inj (I:Inv X pins σ H s) (h:SqL X.K H a xs) (h':SqL X.K H a ys):xs=ys:=by
 obtain ⟨its,r,⟨o,n,e,_,_,d⟩,_⟩:=I.list h
 obtain ⟨its',r',⟨o',n',e',_,_,d'⟩,_⟩:=I.list h'
 rw [e] at e'; cases e'
 rw [d] at d'
 injection d' with d1 _
 have:its=its':=by simpa using congrArg Array.toList d1
 subst this
 exact r.inj r'
theorem Inv.tuple_inj (I:Inv X pins σ H s) (h:SqT X.K H a xs) (h':SqT X.K H a ys):xs=ys:=by
 obtain ⟨its,r,⟨o,e,_,n,d⟩,_⟩:=I.tuple h
 obtain ⟨its',r',⟨o',e',_,n',d'⟩,_⟩:=I.tuple h'
 rw [e] at e'; cases e'
 rw [d] at d'
 injection d' with d1 _
 have:its=its':=by simpa using congrArg Array.toList d1
 subst this
 exact r.inj r'
end
abbrev Cx.wish (X:Cx) (E:Value→Shared→Prop):Cx:={ X with xe:=E }
abbrev Cx.nox (X:Cx):Cx:=X.wish fun _ _=>False
theorem Cx.Ok.wish {X:Cx} (ok:X.Ok) (E:Value→Shared→Prop):(X.wish E).Ok:=
 ⟨ok.mod,ok.kind,ok.glob,ok.blt,ok.above,ok.inj,ok.has,ok.cab,ok.hd,ok.frames,ok.stk,ok.exf,ok.bs,ok.bsz,ok.noex,ok.exfs,ok.funs,ok.frf⟩
theorem Cx.Ok.unwish {X:Cx} {E:Value→Shared→Prop} (ok:(X.wish E).Ok):X.Ok:=
 ⟨ok.mod,ok.kind,ok.glob,ok.blt,ok.above,ok.inj,ok.has,ok.cab,ok.hd,ok.frames,ok.stk,ok.exf,ok.bs,ok.bsz,ok.noex,ok.exfs,ok.funs,ok.frf⟩
section
variable {X:Cx} {pins:List (Addr × Obj)} {σ:St} {H:Hp} {s:Shared} {E:Value→Shared→Prop}
theorem Inv.wish (I:Inv X pins σ H s) (E:Value→Shared→Prop):Inv (X.wish E) pins σ H s:=⟨I.ok.wish E,I.os,I.bare,I.base,I.loc,I.cell,I.free,I.freeC,I.pin,I.hok,I.len⟩
theorem Inv.unwish (I:Inv (X.wish E) pins σ H s):Inv X pins σ H s:=⟨I.ok.unwish,I.os,I.bare,I.base,I.loc,I.cell,I.free,I.freeC,I.pin,I.hok,I.len⟩
theorem SP.unwish {D:Ends} {f:Flow} {s':Shared} (h:SP (X.wish E) pins D f s'):SP X pins D f s':=by
 cases f with
 | next=>obtain ⟨σ',H',I,q⟩:=h; exact ⟨σ',H',I.unwish,q⟩
 | brk=>obtain ⟨σ',H',I,q⟩:=h; exact ⟨σ',H',I.unwish,q⟩
 | cont=>obtain ⟨σ',H',I,q⟩:=h; exact ⟨σ',H',I.unwish,q⟩
 | ret u=>obtain ⟨v,σ',H',I,r,q⟩:=h; exact ⟨v,σ',H',I.unwish,r,q⟩
theorem PSs.nox {st:List Stmt} {t:TS} (h:PSs X.nox st t):PSs X st t:=fun pins s σ H D I hw=>
 wpAny_mono (h pins s σ H D (I.wish _) hw) (fun _ _ q=>q.unwish) fun _ _ z=>False.elim z
end
section
variable {X:Cx} {st:Stmt} {rest:List Stmt} {t u:TS} {e:Expr} {te:TE} {pos:Pos}
def tNext:TS:=fun D σ H=>D.nx σ H
def tSeq (t u:TS):TS:=fun D σ H=>t { D with nx:=u D } σ H
theorem pss_nil:PSs X [] tNext:=fun _ _ σ H _ I h=>wpAny_execs_nil ⟨σ,H,I,h⟩
theorem pss_cons (h1:PS X st t) (h2:PSs X rest u):PSs X (st :: rest) (tSeq t u):=by
 intro pins s σ H D I h
 refine wpAny_execs_cons (thn (h1 pins s σ H { D with nx:=u D } I h) fun f s1 q=>?_)
 cases f with
 | next=>
  obtain ⟨σ',H',I',q⟩:=q
  exact h2 pins s1 σ' H' D I' q
 | ret v=>exact q
 | brk=>exact q
 | cont=>exact q
theorem pss_one (h1:PS X st t):PSs X [st] t:=by
 intro pins s σ H D I h
 refine wpAny_execs_cons (thn (h1 pins s σ H D I h) fun f s1 q=>?_)
 cases f with
 | next=>exact wpAny_execs_nil q
 | ret v=>exact q
 | brk=>exact q
 | cont=>exact q
theorem Inv.quiet {pins:List (Addr × Obj)} {σ:St} {H:Hp} {s:Shared} (I:Inv X pins σ H s):interactive X.env=false:=by simp [interactive,I.ok.kind]
def tDrop (te:TE):TS:=fun D σ H=>te σ H fun _ H1=>D.nx σ H1
theorem ps_expr (he:PE X e te) (hs:swapsWith e none pos.line X.env=pure false:=by rfl):PS X (.Expr e pos) (tDrop te):=by
 intro pins s σ H D I h
 exact wpAny_Expr_any (thn (he pins s σ H _ I h) fun v s1 ⟨x,H1,I1,r1,q1⟩=>⟨σ,H1,I1,q1⟩) I.quiet hs
def tRet (te:TE):TS:=fun D σ H=>te σ H D.rt
theorem ps_ret (he:PE X e te):PS X (.Return (some e) pos) (tRet te):=by
 intro pins s σ H D I h
 exact wpAny_Return_some (thn (he pins s σ H _ I h) fun v s1 ⟨x,H1,I1,r1,q1⟩=>⟨x,σ,H1,I1,r1,q1⟩)
def tIfS (c:TT) (t u:TS):TS:=fun D σ H=>c σ H fun b H1=>if b=true then t D σ H1 else u D σ H1
theorem ps_if {c:Expr} {a b:List Stmt} {tc:TT} (hc:PT X c tc) (ha:PSs X a t) (hb:PSs X b u):PS X (.If c a b pos) (tIfS tc t u):=by
 intro pins s σ H D I h
 refine wpAny_If (thn (hc pins s σ H _ I h) fun d s1 ⟨H1,I1,q1⟩=>?_)
 cases d with
 | true=>exact ha pins s1 σ H1 D I1 q1
 | false=>exact hb pins s1 σ H1 D I1 q1
end
abbrev TG:=V→St→Hp→(St→Hp→Prop)→Prop
abbrev TGs:=List V→St→Hp→(St→Hp→Prop)→Prop
def PG (X:Cx) (target:Expr) (t:TG):Prop:=
 ∀ (pins:List (Addr × Obj)) (s:Shared) (σ:St) (H:Hp) (v:V) (u:Value) (Q:St→Hp→Prop),Inv X pins σ H s→RelV v u→t v σ H Q→
  wpAny (model X.prog X.w) X.A (assign target X.env u) (fun _ s'=>∃ σ' H',Inv X pins σ' H' s'∧Q σ' H') X.xe s
def PGs (X:Cx) (ts:List Expr) (t:TGs):Prop:=
 ∀ (pins:List (Addr × Obj)) (s:Shared) (σ:St) (H:Hp) (vs:List V) (us:List Value) (Q:St→Hp→Prop),Inv X pins σ H s→Vals vs us→t vs σ H Q→
  wpAny (model X.prog X.w) X.A (assignInOrder ((assignEach ts X.env).map (·.2)) us) (fun _ s'=>∃ σ' H',Inv X pins σ' H' s'∧Q σ' H') X.xe s
abbrev TSet:=V→V→V→Hp→(Hp→Prop)→Prop
def PSet (X:Cx) (t:TSet):Prop:=
 ∀ (pins:List (Addr × Obj)) (s:Shared) (σ:St) (H:Hp) (o i v:V) (ov iv u:Value) (Q:Hp→Prop),Inv X pins σ H s→RelV o ov→RelV i iv→RelV v u→t o i v H Q→
  wpAny (model X.prog X.w) X.A (setItem ov iv u) (fun _ s'=>∃ H',Inv X pins σ H' s'∧Q H') X.xe s
section
variable {X:Cx} {pos:Pos}
def gName (i:Nat):TG:=fun v σ H Q=>Q (σ.set i (some v)) H
theorem pg_name {i:Nat} {x:Str} (hN:X.N.Nodup) (hi:X.N[i]? = some x) (hx:Loc X.env.scope x) (hf:X.fn x=true∨X.env.scope.names.lookup x=some .local:=by first | exact .inl rfl | exact .inr rfl | assumption) (ht:decide (x = "_law_lacking")=false:=by rfl):PG X (.Name x pos) (gName i):=by
 intro pins s σ H v u Q I r h
 exact wpAny_assign_Name (store_ok I hN hi hx r (.no ht) (fun s' I'=>⟨_,H,I',h⟩) hf)
def gNil:TGs:=fun vs σ H Q=>vs=[]∧Q σ H
inductive gConsI (t:TG) (u:TGs) (vs:List V) (σ:St) (H:Hp) (Q:St→Hp→Prop):Prop
 | mk (v r:_) (h1:vs=v :: r) (h2:t v σ H fun σ' H'=>u r σ' H' Q):gConsI t u vs σ H Q
def gCons (t:TG) (u:TGs):TGs:=fun vs σ H Q=>gConsI t u vs σ H Q
theorem pgs_nil:PGs X [] gNil:=by
 intro pins s σ H vs us Q I r h
 obtain ⟨e,h⟩:=h
 subst e
 cases r
 exact assignInOrder_nil ⟨σ,H,I,h⟩
theorem pgs_cons {e:Expr} {es:List Expr} {t:TG} {u:TGs} (h1:PG X e t) (h2:PGs X es u)
  (hs:(assignEach (e :: es) X.env).map (·.2)=assign e X.env :: (assignEach es X.env).map (·.2):=by rfl):PGs X (e :: es) (gCons t u):=by
 intro pins s σ H vs us Q I r h
 obtain ⟨v,vr,e1,h⟩:=h
 subst e1
 cases r with
 | cons r rr=>
  rw [hs]
  refine assignInOrder_cons (thn (h1 pins s σ H _ _ _ I r h) fun _ s1 ⟨σ1,H1,I1,q1⟩=>?_)
  exact h2 pins s1 σ1 H1 _ _ Q I1 rr q1
inductive gTupI (K:PySem.W.Frag) (n:Nat) (t:TGs) (v:V) (σ:St) (H:Hp) (Q:St→Hp→Prop):Prop
 | mk (a xs:_) (h1:v=.ref a) (h2:SqT K H a xs) (h3:xs.length=n) (h4:t xs σ H Q):gTupI K n t v σ H Q
def gTup (K:PySem.W.Frag) (n:Nat) (t:TGs):TG:=fun v σ H Q=>gTupI K n t v σ H Q
theorem pg_tup {es:List Expr} {k:Nat} {t:TGs} {n:Nat} (hc:X.calm=true) (h:PGs X es t)
  (hn:(assignEach es X.env).length=n:=by rfl) (hst:(assignEach es X.env).findIdx? (·.1)=none:=by rfl):PG X (.Tuple es k pos) (gTup X.K n t):=by
 intro pins s σ H v u Q I r hw
 obtain ⟨a,xs,e1,hq,hl,hw⟩:=hw
 subst e1
 cases r
 obtain ⟨its,rv,ht,hz⟩:=I.tuple hq
 refine assign_Tuple_tuple (I.ok.hd hc) ht (by simp [hn,← hl,rv.length]) hst fun h' hx=>?_
 have I1:Inv X pins σ H { s with heap:=h' }:=I.kept (t':=s.toks) fun b o e=>hx b o (Nat.ne_of_lt (Heap.lt_size e)) e
 exact h pins _ σ H xs _ Q I1 (by simpa using rv) hw
def gSub (to ti:TE) (t:TSet):TG:=fun v σ H Q=>to σ H fun o H1=>ti σ H1 fun i H2=>t o i v H2 fun H3=>Q σ H3
theorem pg_sub {o i:Expr} {to ti:TE} {t:TSet} (ho:PE X o to) (hi:PE X i ti) (hs:PSet X t)
  (ha:∀ v,assign (.Subscript o i pos) X.env v=(do
   let ov ← holding [v] (eval o X.env)
   let iv ← holding [v,ov] (eval i X.env)
   standAt pos
   holding [v,ov,iv] (setItem ov iv v)
   release [v,ov,iv] []):=by intro _; rfl):PG X (.Subscript o i pos) (gSub to ti t):=by
 intro pins s σ H v u Q I r h
 rw [ha]
 refine wpAny_bind (wpAny_holding (thn (ho pins s σ H _ I h) fun ov s1 ⟨x,H1,I1,r1,q1⟩=>?_))
 refine wpAny_bind (wpAny_holding (thn (hi pins s1 σ H1 _ I1 q1) fun iv s2 ⟨y,H2,I2,r2,q2⟩=>?_))
 refine wpAny_bind (wpAny_standAt (wpAny_bind (wpAny_holding (thn (hs pins s2 σ H2 x y v ov iv u _ I2 r1 r2 r q2) fun _ s3 ⟨H3,I3,q3⟩=>?_))))
 exact wpAny_release ⟨σ,H3,I3,q3⟩
def tAsg (te:TE) (g:TG):TS:=fun D σ H=>te σ H fun x H1=>g x σ H1 D.nx
theorem ps_asg {tg e:Expr} {te:TE} {g:TG} (he:PE X e te) (hg:PG X tg g) (hs:swapsWithSole [tg] e pos.line X.env=pure false:=by rfl) (hw:swappedStores [tg] e X.env=pure none:=by rfl)
  (h1:(assignEach [tg] X.env).map (·.2)=[assign tg X.env]:=by rfl):PS X (.Assign [tg] e pos) (tAsg te g):=by
 intro pins s σ H D I h
 refine wpAny_Assign_stores (thn (he pins s σ H _ I h) fun v s1 ⟨x,H1,I1,r1,q1⟩=>?_) hs hw
 rw [h1]
 exact thn (hg pins s1 σ H1 x v _ I1 r1 q1) fun _ s2 q=>q
theorem ps_set {i:Nat} {x:Str} {e:Expr} {te:TE} {pos':Pos} (hN:X.N.Nodup) (hi:X.N[i]? = some x) (hx:Loc X.env.scope x) (he:PE X e te) (hs:swapsWith e (some (.Name x pos')) pos.line X.env=pure false:=by rfl) (hf:X.fn x=true∨X.env.scope.names.lookup x=some .local:=by first | exact .inl rfl | exact .inr rfl | assumption) (ht:decide (x = "_law_lacking")=false:=by rfl) :
  PS X (.Assign [.Name x pos'] e pos) (tAsg te (gName i)):=by
 intro pins s σ H D I h
 refine wpAny_Assign_Name (thn (he pins s σ H _ I h) fun v s1 ⟨y,H1,I1,r1,q1⟩=>?_) hs
 exact store_ok I1 hN hi hx r1 (.no ht) (fun s2 I2=>⟨_,H1,I2,q1⟩) hf
end
section
variable {X:Cx} {pos:Pos}
inductive tWhileI (c:TT) (tb:TS) (D:Ends) (σ:St) (H:Hp):Prop
 | mk (W:Nat→St→Hp→Prop) (h1:(∃ m,W m σ H)) (h2:∀ m σ H,W m σ H→c σ H fun b H1=>if b=true then ∃ N:St→Hp→Prop,(∀ σ' H',N σ' H'→∃ m',m' < m∧W m' σ' H')∧tb { D with nx:=N,ct:=N,bk:=D.nx } σ H1 else D.nx σ H1):tWhileI c tb D σ H
def tWhile (c:TT) (tb:TS):TS:=fun D σ H=>tWhileI c tb D σ H
theorem ps_while {c:Expr} {body:List Stmt} {tc:TT} {tb:TS} (hp:PassesOwn (model X.prog X.w) X.A X.env X.xe) (hc:PT X c tc) (hb:PSs X body tb):PS X (.While c body [] pos) (tWhile tc tb):=by
 intro pins s σ H D I h
 obtain ⟨W,⟨m0,w0⟩,turn⟩:=h
 refine wpAny_While (codeAny_whileLoop (fun n s'=>∃ σ' H',Inv X pins σ' H' s'∧W n σ' H') ?_ m0 ⟨σ,H,I,w0⟩)
 rintro n s1 ⟨σ1,H1,I1,w1⟩
 refine wpAny_passesOwn hp (thn (hc pins s1 σ1 H1 _ I1 (turn n σ1 H1 w1)) fun b s2 ⟨H2,I2,q2⟩=>?_)
 cases b with
 | true=>
  obtain ⟨N,hN,q2⟩:=q2
  rw [if_pos rfl]
  refine wpAny_passesOwn hp (thn (hb pins s2 σ1 H2 _ I2 q2) fun f s3 q3=>?_)
  cases f with
  | next=>
   obtain ⟨σ3,H3,I3,n3⟩:=q3
   obtain ⟨m',hm,w3⟩:=hN σ3 H3 n3
   exact ⟨m',hm,σ3,H3,I3,w3⟩
  | cont=>
   obtain ⟨σ3,H3,I3,n3⟩:=q3
   obtain ⟨m',hm,w3⟩:=hN σ3 H3 n3
   exact ⟨m',hm,σ3,H3,I3,w3⟩
  | brk=>exact q3
  | ret v=>exact q3
 | false=>
  rw [if_neg Bool.false_ne_true]
  exact wpAny_execs_nil ⟨σ1,H2,I2,q2⟩
end
structure It where
 go:Nat→Hp→Prop
 yld:Nat→Hp→V→Hp→Prop
 stop:Nat→Hp→Prop
def FpOk (X:Cx) (pins:List (Addr × Obj)) (H:Hp) (b:Addr):Prop:=
 H b=none∧b≠X.env.locals∧b∉X.fs∧(b∈X.ex∨X.s₀.heap.objs.size≤b)∧(∀ x c,X.env.cells.lookup x=some c→c≠b)∧∀ p∈X.pn ++ pins,p.1≠b
theorem Inv.fpOk {X:Cx} {pins:List (Addr × Obj)} {σ:St} {H H':Hp} {s:Shared} {b:Addr} (I:Inv X pins σ H s) (hb:s.heap.objs.size≤b) (hn:H' b=none):FpOk X pins H' b:=by
 refine ⟨hn,Nat.ne_of_gt (Nat.lt_of_lt_of_le I.lt hb),I.nofs hb,.inr (Nat.le_trans I.sz hb),fun x c e z=>?_,fun p hp z=>?_⟩
 ·obtain ⟨v,q⟩:=I.cell x c e
  exact absurd (Nat.lt_of_lt_of_le q.lt (by rw [z]; exact hb)) (Nat.lt_irrefl _)
 ·exact absurd (Nat.lt_of_lt_of_le (Heap.lt_size (I.pin p hp).1) (by rw [z]; exact hb)) (Nat.lt_irrefl _)
structure Turn (P:Program) (w:World) (K:PySem.W.Frag) (tg:Expr) (J:It) (fp:List Addr) (it:Addr) (tn:Nat→Heap→Prop):Prop where
 mem:it∈fp
 obj:∀ i h,tn i h→∀ b∈fp,∃ o,h.get? b=some o∧∀ v,o.data≠.cell v
 keep:∀ i h h',tn i h→(∀ b∈fp,∀ o,h.get? b=some o→h'.get? b=some o)→tn i h'
 item:∀ (X:Cx),X.prog=P→X.w=w→X.K=K→X.calm=true→∀ (i:Nat) (pins:List (Addr × Obj)) (s:Shared) (σ:St) (H:Hp) (E:Value→Shared→Prop),Inv X pins σ H s→(∀ b∈fp,FpOk X pins H b)→tn i s.heap→J.go i H→
  wpAny (model P w) X.A (pyNext (.ref it)) (fun r s1=>∃ u,r=some u∧
   wpAny (model P w) X.A (letOwnedTupleGo tg (.ref it) u) (fun _ s2=>∃ x H',Inv X pins σ H' s2∧RelV x u∧J.yld i H x H'∧tn (i+1) s2.heap∧∀ b∈fp,H' b=none) E s1) E s
 done:∀ (X:Cx),X.prog=P→X.w=w→X.K=K→X.calm=true→∀ (i:Nat) (pins:List (Addr × Obj)) (s:Shared) (σ:St) (H:Hp) (E:Value→Shared→Prop),Inv X pins σ H s→(∀ b∈fp,FpOk X pins H b)→tn i s.heap→J.stop i H→
  wpAny (model P w) X.A (pyNext (.ref it)) (fun r s1=>r=none∧Inv X pins σ H s1) E s
 self:∀ (A:Around) (i:Nat) (s:Shared) (Q:Value→Shared→Prop) (E:Value→Shared→Prop),tn i s.heap→Q (.ref it) s→wpAny (model P w) A (pyIter (.ref it)) Q E s
abbrev TI:=St→Hp→(It→Hp→Prop)→Prop
def PIE (X:Cx) (pins:List (Addr × Obj)) (σ:St) (tg:Expr) (R:It→Hp→Prop) (itv:Value) (s2:Shared):Prop:=
 ∃ (it:Addr) (fp:List Addr) (tn:Nat→Heap→Prop) (J:It) (H':Hp),itv=.ref it∧Inv X pins σ H' s2∧Turn X.prog X.w X.K tg J fp it tn∧tn 0 s2.heap∧(∀ b∈fp,FpOk X pins H' b)∧R J H'
def PI (X:Cx) (tg iter:Expr) (wi:TI):Prop:=
 ∀ (pins:List (Addr × Obj)) (s:Shared) (σ:St) (H:Hp) (R:It→Hp→Prop),Inv X pins σ H s→wi σ H R→
  wpAny (model X.prog X.w) X.A (eval iter X.env) (fun v s1=>wpAny (model X.prog X.w) X.A (pyIter v) (PIE X pins σ tg R) X.xe s1) X.xe s
theorem go_of {M:Model} {A:Around} {E:Value→Shared→Prop} {s:Shared} {tg:Expr} {it:Addr} {u:Value} {o:Obj} {n:String} {vs:Array Value} {Q:Unit→Shared→Prop} (ho:s.heap.get? it=some o) (hc:o.cls=.type n) (hd:o.data=.fields vs)
  (hn:["enumerate","zip","dict_itemiterator","dict_reverseitemiterator","odict_iterator","itertools.zip_longest","itertools.pairwise"].contains n=false) (hQ:Q () s):wpAny M A (letOwnedTupleGo tg (.ref it) u) Q E s:=by
 unfold letOwnedTupleGo
 cases tg <;> first
  | exact wpAny_pure hQ
  | (cases u <;> first
    | exact wpAny_pure hQ
    | (refine wpAny_bind (wpAny_load ho ?_)
       rw [hc,hd]
       show wpAny M A (if (["enumerate","zip","dict_itemiterator","dict_reverseitemiterator","odict_iterator","itertools.zip_longest","itertools.pairwise"].contains n && vs[0]? == some (rawInt _))=true then _ else _) Q E s
       rw [if_neg (by intro h; rw [hn,Bool.false_and] at h; cases h)]
       exact wpAny_pure hQ))
def Itl (K:PySem.W.Frag) (a:Addr):It:=
 ⟨fun i H=>∃ xs x,SqL K H a xs∧xs[i]? = some x,fun i H x H'=>H'=H∧∀ xs,SqL K H a xs→xs[i]? = some x,fun i H=>∃ xs,SqL K H a xs∧xs.length≤i⟩
def Itt (K:PySem.W.Frag) (a:Addr):It:=
 ⟨fun i H=>∃ xs x,SqT K H a xs∧xs[i]? = some x,fun i H x H'=>H'=H∧∀ xs,SqT K H a xs→xs[i]? = some x,fun i H=>∃ xs,SqT K H a xs∧xs.length≤i⟩
def Itr (lo:Int) (n:Nat):It:=⟨fun i _=>i < n,fun i H x H'=>H'=H∧x=.int (lo+i),fun i _=>n≤i⟩
theorem turn_list {P:Program} {w:World} {K:PySem.W.Frag} {tg:Expr} (a it:Addr):Turn P w K tg (Itl K a) [it] it (fun i h=>h.IsListIter it a i) where
 mem:=by simp
 obj:=fun i h st b hb=>by
  have e:b=it:=by simpa using hb
  subst e
  obtain ⟨o,e,c,d⟩:=st
  exact ⟨o,e,fun v z=>by rw [d] at z; cases z⟩
 keep:=fun i h h' st k=>st.at fun o e=>k it (by simp) o e
 item:=by
  intro X hP hw hK hc i pins s σ H E I hf st hg
  subst hP hw hK
  obtain ⟨xs,x,hq,hx⟩:=hg
  obtain ⟨its,rv,p,hz⟩:=I.list hq
  obtain ⟨u,hu,ru⟩:=rv.get hx
  obtain ⟨f0,f1,f2,f3,f4,f5⟩:=hf it (by simp)
  refine wpAny_pyNext_list_item st p.isList (x:=u) (by simpa using hu) fun h' st' sb=>?_
  have I1:Inv X pins σ H { s with heap:=h' }:=I.turned (t':=s.toks) (fun b o hb e=>(sb.2 b hb).trans e) f0 f1 f3 f4 f5
  obtain ⟨o,e,c,d⟩:=id st'
  exact ⟨u,rfl,go_of (s:={ s with heap:=h' }) e c d (by decide) ⟨x,H,I1,ru,⟨rfl,fun ys hy=>by rw [I.list_inj hy hq]; exact hx⟩,st',fun b hb=>(hf b hb).1⟩⟩
 done:=by
  intro X hP hw hK hc i pins s σ H E I hf st hg
  subst hP hw hK
  obtain ⟨xs,hq,hx⟩:=hg
  obtain ⟨its,rv,p,hz⟩:=I.list hq
  obtain ⟨f0,f1,f2,f3,f4,f5⟩:=hf it (by simp)
  have hl:=rv.length
  exact wpAny_pyNext_list_end (I.ok.hd hc) st p.isList (by simp; omega) fun h' eb=>⟨rfl,I.turned (t':=s.toks) (fun b o hb e=>eb b o hb e) f0 f1 f3 f4 f5⟩
 self:=fun _ _ _ _ _ st h=>wpAny_pyIter_listiter st h
theorem turn_tuple {P:Program} {w:World} {K:PySem.W.Frag} {tg:Expr} (a it:Addr):Turn P w K tg (Itt K a) [it] it (fun i h=>h.IsTupleIter it a i) where
 mem:=by simp
 obj:=fun i h st b hb=>by
  have e:b=it:=by simpa using hb
  subst e
  obtain ⟨o,e,c,d⟩:=st
  exact ⟨o,e,fun v z=>by rw [d] at z; cases z⟩
 keep:=fun i h h' st k=>st.at fun o e=>k it (by simp) o e
 item:=by
  intro X hP hw hK hc i pins s σ H E I hf st hg
  subst hP hw hK
  obtain ⟨xs,x,hq,hx⟩:=hg
  obtain ⟨its,rv,p,hz⟩:=I.tuple hq
  obtain ⟨u,hu,ru⟩:=rv.get hx
  obtain ⟨f0,f1,f2,f3,f4,f5⟩:=hf it (by simp)
  refine wpAny_pyNext_tuple_item st (show s.heap.IsTuple a its.toArray from p) (x:=u) (by simpa using hu) fun h' st' sb=>?_
  have I1:Inv X pins σ H { s with heap:=h' }:=I.turned (t':=s.toks) (fun b o hb e=>(sb.2 b hb).trans e) f0 f1 f3 f4 f5
  obtain ⟨o,e,c,d⟩:=id st'
  exact ⟨u,rfl,go_of (s:={ s with heap:=h' }) e c d (by decide) ⟨x,H,I1,ru,⟨rfl,fun ys hy=>by rw [I.tuple_inj hy hq]; exact hx⟩,st',fun b hb=>(hf b hb).1⟩⟩
 done:=by
  intro X hP hw hK hc i pins s σ H E I hf st hg
  subst hP hw hK
  obtain ⟨xs,hq,hx⟩:=hg
  obtain ⟨its,rv,p,hz⟩:=I.tuple hq
  obtain ⟨f0,f1,f2,f3,f4,f5⟩:=hf it (by simp)
  have hl:=rv.length
  exact wpAny_pyNext_tuple_end (I.ok.hd hc) st (show s.heap.IsTuple a its.toArray from p) (by simp; omega) fun h' eb=>⟨rfl,I.turned (t':=s.toks) (fun b o hb e=>eb b o hb e) f0 f1 f3 f4 f5⟩
 self:=fun _ _ _ _ _ st h=>wpAny_pyIter_tupleiter st h
theorem turn_range {P:Program} {w:World} {K:PySem.W.Frag} {tg:Expr} (it:Addr) (lo:Int) (n:Nat):Turn P w K tg (Itr lo n) [it] it (fun i h=>IsRangeIter h it (lo+(i:Nat) * 1) ((n:Int) - (i:Nat)) 1) where
 mem:=by simp
 obj:=fun i h st b hb=>by
  have e:b=it:=by simpa using hb
  subst e
  exact ⟨_,st,fun v z=>by
   have z':Data.fields _=Data.cell v:=z
   cases z'⟩
 keep:=fun i h h' st k=>k it (by simp) _ st
 item:=by
  intro X hP hw hK hc i pins s σ H E I hf st hg
  subst hP hw hK
  obtain ⟨f0,f1,f2,f3,f4,f5⟩:=hf it (by simp)
  have W:=Walks.range (prog:=X.prog) (w:=X.w) (I.ok.hd hc) it lo 1 n
  refine W.item i s _ _ hg st fun v h' tk hv st' kk=>?_
  obtain ⟨t,rfl⟩:=hv
  have I1:Inv X pins σ H { s with heap:=h',toks:=tk }:=I.turned (fun b o hb e=>kk b o (by simpa using hb) e) f0 f1 f3 f4 f5
  refine ⟨_,rfl,go_of (s:={ s with heap:=h',toks:=tk }) (n:="range_iterator") st' rfl rfl (by decide) ⟨.int (lo+i),H,I1,⟨t,?_⟩,⟨rfl,rfl⟩,st',fun b hb=>(hf b hb).1⟩⟩
  rw [Int.mul_one]
 done:=by
  intro X hP hw hK hc i pins s σ H E I hf st hg
  subst hP hw hK
  obtain ⟨f0,f1,f2,f3,f4,f5⟩:=hf it (by simp)
  exact wpAny_pyNext_range_end (I.ok.hd hc) st (by have:n≤i:=hg; omega) fun h' eb=>⟨rfl,I.turned (t':=s.toks) (fun b o hb e=>eb b o hb e) f0 f1 f3 f4 f5⟩
 self:=fun _ _ _ _ _ st h=>wpAny_pyIter_rangeiter st h
end L2
namespace L2
open PySem PySem.Spec PyProof.Rows
section
variable {X:Cx} {tg:Expr}
inductive iListI (K:PySem.W.Frag) (R:It→Hp→Prop) (x:V) (H1:Hp):Prop
 | mk (a:_) (h1:x=.ref a) (h2:(∃ xs,SqL K H1 a xs)) (h3:R (Itl K a) H1):iListI K R x H1
def iList (K:PySem.W.Frag) (tl:TE):TI:=fun σ H R=>tl σ H fun x H1=>iListI K R x H1
inductive iTupI (K:PySem.W.Frag) (R:It→Hp→Prop) (x:V) (H1:Hp):Prop
 | mk (a:_) (h1:x=.ref a) (h2:(∃ xs,SqT K H1 a xs)) (h3:R (Itt K a) H1):iTupI K R x H1
def iTup (K:PySem.W.Frag) (tl:TE):TI:=fun σ H R=>tl σ H fun x H1=>iTupI K R x H1
theorem pi_list {l:Expr} {tl:TE} (hl:PE X l tl):PI X tg l (iList X.K tl):=by
 intro pins s σ H R I h
 refine thn (hl pins s σ H _ I h) fun v s1 ⟨x,H1,I1,r1,q1⟩=>?_
 obtain ⟨a,e,⟨xs,hq⟩,q⟩:=q1
 subst e
 cases r1
 obtain ⟨its,rv,p,hz⟩:=I1.list hq
 refine wpAny_pyIter_list p.isList ?_
 refine ⟨s1.heap.objs.size,[s1.heap.objs.size],_,_,H1,rfl,I1.kept (t':=s1.toks) fun b o e=>Heap.get?_push_of_some _ e,turn_list a _,⟨_,Heap.get?_push_size _ rfl,rfl,rfl⟩,fun b hb=>?_,q⟩
 have e:b=s1.heap.objs.size:=by simpa using hb
 subst e
 exact I1.fpOk (Nat.le_refl _) (I1.hok.fresh (Nat.le_refl _))
theorem pi_tup {l:Expr} {tl:TE} (hl:PE X l tl):PI X tg l (iTup X.K tl):=by
 intro pins s σ H R I h
 refine thn (hl pins s σ H _ I h) fun v s1 ⟨x,H1,I1,r1,q1⟩=>?_
 obtain ⟨a,e,⟨xs,hq⟩,q⟩:=q1
 subst e
 cases r1
 obtain ⟨its,rv,p,hz⟩:=I1.tuple hq
 refine wpAny_pyIter_tuple (show s1.heap.IsTuple a its.toArray from p) ?_
 refine ⟨s1.heap.objs.size,[s1.heap.objs.size],_,_,H1,rfl,I1.kept (t':=s1.toks) fun b o e=>Heap.get?_push_of_some _ e,turn_tuple a _,⟨_,Heap.get?_push_size _ rfl,rfl,rfl⟩,fun b hb=>?_,q⟩
 have e:b=s1.heap.objs.size:=by simpa using hb
 subst e
 exact I1.fpOk (Nat.le_refl _) (I1.hok.fresh (Nat.le_refl _))
theorem range_it {pins:List (Addr × Obj)} {σ:St} {H:Hp} {s:Shared} {R:It→Hp→Prop} {E:Value→Shared→Prop} {lo hi:Int} {t u v:Tok} {tk:Nat} (I:Inv X pins σ H s) (h1 : -(2 ^ 62)≤lo) (h2:lo < 2 ^ 62) (h3 : -(2 ^ 62)≤hi) (h4:hi < 2 ^ 62)
  (q:R (Itr lo (hi - lo).toNat) H):wpAny (model X.prog X.w) X.A (pyIter (.ref s.heap.objs.size)) (PIE X pins σ tg R) E { s with heap:=s.heap.push { cls:=.type "range",data:=.fields #[.int lo t,.int hi u,.int 1 v] },toks:=tk }:=by
 refine wpAny_pyIter_range (IsRange.new ..) (small_one h1 h2 h3 h4) ?_
 have I1:Inv X pins σ H { s with heap:=s.heap.push { cls:=.type "range",data:=.fields #[.int lo t,.int hi u,.int 1 v] },toks:=tk }:=I.kept fun b o e=>Heap.get?_push_of_some _ e
 refine ⟨(s.heap.push { cls:=.type "range",data:=.fields #[.int lo t,.int hi u,.int 1 v] }).objs.size,[(s.heap.push { cls:=.type "range",data:=.fields #[.int lo t,.int hi u,.int 1 v] }).objs.size],_,_,H,rfl,
  I1.kept (t':=tk) fun b o e=>Heap.get?_push_of_some _ e,turn_range _ lo (hi - lo).toNat,?_,fun b hb=>?_,q⟩
 ·have e1:lo+((0:Nat):Int) * 1=lo:=by simp
  have e2:(((hi - lo).toNat:Nat):Int) - ((0:Nat):Int)=Builtin.Range.rangeSize lo hi 1:=by rw [rangeSize_one]; split <;> omega
  show IsRangeIter _ _ (lo+((0:Nat):Int) * 1) ((((hi - lo).toNat:Nat):Int) - ((0:Nat):Int)) 1
  rw [e1,e2]
  exact Heap.get?_push_size _ rfl
 ·have e:b=(s.heap.push { cls:=.type "range",data:=.fields #[.int lo t,.int hi u,.int 1 v] }).objs.size:=by simpa using hb
  subst e
  exact I1.fpOk (Nat.le_refl _) (I1.hok.fresh (Nat.le_refl _))
inductive iRng1I (R:It→Hp→Prop) (vs:List V) (H1:Hp):Prop
 | mk (j:Int) (h1:vs=[.int j]) (h2 : -(2 ^ 62)≤j) (h3:j < 2 ^ 62) (h4:R (Itr 0 j.toNat) H1):iRng1I R vs H1
def iRng1 (ta:TA):TI:=fun σ H R=>ta σ H fun vs H1=>iRng1I R vs H1
inductive iRng2I (R:It→Hp→Prop) (vs:List V) (H1:Hp):Prop
 | mk (i j:Int) (h1:vs=[.int i,.int j]) (h2:(-(2 ^ 62)≤i∧i < 2 ^ 62∧-(2 ^ 62)≤j∧j < 2 ^ 62)) (h3:R (Itr i (j - i).toNat) H1):iRng2I R vs H1
def iRng2 (ta:TA):TI:=fun σ H R=>ta σ H fun vs H1=>iRng2I R vs H1
theorem pi_range1 {a:Expr} {ta:TA} {p pos:Pos} (hg:Gl X "range") (hm:X.mg "range" = none) (ha:PA X [a] ta) (hs:starEach [a] X.env=[(false,eval a X.env)]:=by rfl):PI X tg (.Call (.Name "range" p) [a] [] pos) (iRng1 ta):=by
 intro pins s σ H R I h
 refine Call_ (ld_blt I hg hm boot_range (PyProof.Rows.callWith_type1 (thn (ha pos pins s σ H _ I h) fun us s1 ⟨vs,H1,I1,r1,q1⟩=>?_) hs rfl))
 obtain ⟨j,e,q1,q2,q⟩:=q1
 subst e
 cases r1 with
 | cons r rr=>
  cases rr
  obtain ⟨t,rfl⟩:=r
  exact call_range_1 (range_it I1 (by omega) (by omega) q1 q2 (by simpa using q))
theorem pi_range2 {a b:Expr} {ta:TA} {p pos:Pos} (hg:Gl X "range") (hm:X.mg "range" = none) (ha:PA X [a,b] ta) (hs:starEach [a,b] X.env=[(false,eval a X.env),(false,eval b X.env)]:=by rfl) (hs2:starEach [b] X.env=[(false,eval b X.env)]:=by rfl) :
  PI X tg (.Call (.Name "range" p) [a,b] [] pos) (iRng2 ta):=by
 intro pins s σ H R I h
 refine Call_ (ld_blt I hg hm boot_range (PyProof.Rows.callWith_type1 (thn (ha pos pins s σ H _ I h) fun us s1 ⟨vs,H1,I1,r1,q1⟩=>?_) (by rw [hs,hs2]) (by rw [hs2]; rfl)))
 obtain ⟨i,j,e,⟨q1,q2,q3,q4⟩,q⟩:=q1
 subst e
 cases r1 with
 | cons r rr=>
  cases rr with
  | cons r' rr=>
   cases rr
   obtain ⟨t,rfl⟩:=r
   obtain ⟨t',rfl⟩:=r'
   exact call_range_2 (range_it I1 q1 q2 q3 q4 q)
def tFor (wi:TI) (g:TG) (tb:TS):TS:=fun D σ H=>wi σ H fun J H1=>∃ W:Nat→Nat→St→Hp→Prop,(∃ m,W 0 m σ H1)∧∀ i m σ H,W i m σ H→
 (J.stop i H∧D.nx σ H)∨(J.go i H∧∃ N:St→Hp→Prop,(∀ σ' H',N σ' H'→∃ m',m' < m∧W (i+1) m' σ' H')∧∀ x H',J.yld i H x H'→g x σ H' fun σ2 H2=>tb { D with nx:=N,ct:=N,bk:=D.nx } σ2 H2)
def pinsAt (fp:List Addr) (h:Heap):List (Addr × Obj):=fp.filterMap fun b=>(h.get? b).map fun o=>(b,o)
theorem mem_pinsAt {fp:List Addr} {h:Heap} {b:Addr} {o:Obj} (hb:b∈fp) (e:h.get? b=some o):(b,o)∈pinsAt fp h:=List.mem_filterMap.mpr ⟨b,hb,by rw [e]; rfl⟩
theorem of_pinsAt {fp:List Addr} {h:Heap} {p:Addr × Obj} (hp:p∈pinsAt fp h):p.1∈fp∧h.get? p.1=some p.2:=by
 obtain ⟨b,hb,e⟩:=List.mem_filterMap.mp hp
 cases q:h.get? b with
 | none=>rw [q] at e; cases e
 | some o=>
  rw [q] at e
  have e':(b,o)=p:=Option.some.inj e
  subst e'
  exact ⟨hb,q⟩
theorem Inv.pinned {pins:List (Addr × Obj)} {σ:St} {H:Hp} {s:Shared} {fp:List Addr} (I:Inv X pins σ H s) (hf:∀ b∈fp,FpOk X pins H b) (ho:∀ b∈fp,∃ o,s.heap.get? b=some o∧∀ v,o.data≠.cell v):Inv X (pins ++ pinsAt fp s.heap) σ H s:=
 I.pins_of fun p hp=>(List.mem_append.mp hp).elim (fun z=>I.pin p (List.mem_append_right _ z)) fun z=>by
  obtain ⟨hb,e⟩:=of_pinsAt z
  obtain ⟨f0,f1,f2,_⟩:=hf p.1 hb
  obtain ⟨o,e',d⟩:=ho p.1 hb
  rw [e] at e'; cases e'
  exact ⟨e,f0,f1,f2,d⟩
theorem Inv.unpinned {pins pl:List (Addr × Obj)} {σ:St} {H:Hp} {s:Shared} (I:Inv X (pins ++ pl) σ H s):Inv X pins σ H s:=I.pins_of fun p hp=>I.pin p (List.mem_append_right _ (List.mem_append_left _ hp))
theorem ps_for {iter:Expr} {body:List Stmt} {wi:TI} {g:TG} {tb:TS} {pos:Pos} (hp:PassesOwn (model X.prog X.w) X.A X.env X.xe) (hc:X.calm=true) (hi:PI X tg iter wi) (hg:PG X tg g) (hb:PSs X body tb)
  (hs:∀ x,foldedSetIterable iter X.env x=pure x:=by intro _; rfl):PS X (.For tg iter body [] pos) (tFor wi g tb):=by
 intro pins s σ H D I h
 refine wpAny_For (thn (hi pins s σ H _ I h) fun v s1 h1=>thn h1 fun itv s2 h2=>?_) hs
 obtain ⟨it,fp,tn,J,H2,e,I2,T,st2,f2,W,⟨m0,w0⟩,turn⟩:=h2
 subst e
 have stat:∀ {H':Hp},(∀ b∈fp,H' b=none)→∀ b∈fp,FpOk X pins H' b:=fun hn b hb=>⟨hn b hb,(f2 b hb).2⟩
 refine codeAny_forLoop_any (fun n s'=>∃ i σ' H',Inv X pins σ' H' s'∧tn i s'.heap∧(∀ b∈fp,H' b=none)∧W i n σ' H') ?_ m0 ⟨0,σ,H2,I2,st2,fun b hb=>(f2 b hb).1,w0⟩
 rintro n s3 ⟨i,σ3,H3,I3,st3,fr3,w3⟩
 rcases turn i n σ3 H3 w3 with ⟨stop,qn⟩ | ⟨go,N,hN,step⟩
 ·refine wpAny_passesOwn hp (thn (T.done X rfl rfl rfl hc i pins s3 σ3 H3 X.xe I3 (stat fr3) st3 stop) fun r s4 ⟨hr,I4⟩=>?_)
  subst hr
  exact wpAny_execs_nil ⟨σ3,H3,I4,qn⟩
 ·refine wpAny_passesOwn hp (thn (T.item X rfl rfl rfl hc i pins s3 σ3 H3 X.xe I3 (stat fr3) st3 go) fun r s4 ⟨u,hr,h4⟩=>?_)
  subst hr
  refine wpAny_passesOwn hp (thn h4 fun _ s5 ⟨x,H5,I5,r5,y5,st5,fr5⟩=>?_)
  have I5':=I5.pinned (stat fr5) (T.obj _ _ st5)
  refine wpAny_passesOwn hp (thn (hg _ s5 σ3 H5 x u _ I5' r5 (step x H5 y5)) fun _ s6 ⟨σ6,H6,I6,q6⟩=>?_)
  refine wpAny_passesOwn hp (thn (hb _ s6 σ6 H6 _ I6 q6) fun f s7 q7=>?_)
  have again:∀ {σ7:St} {H7:Hp},Inv X (pins ++ pinsAt fp s5.heap) σ7 H7 s7→N σ7 H7→∃ m,m < n∧∃ i σ' H',Inv X pins σ' H' s7∧tn i s7.heap∧(∀ b∈fp,H' b=none)∧W i m σ' H':=fun {σ7 H7} I7 n7=>by
   obtain ⟨m',hm,w7⟩:=hN σ7 H7 n7
   refine ⟨m',hm,i+1,σ7,H7,I7.unpinned,T.keep _ _ _ st5 fun b hb o e=>(I7.pin (b,o) (List.mem_append_right _ (List.mem_append_right _ (mem_pinsAt hb e)))).1,fun b hb=>?_,w7⟩
   obtain ⟨o,e,d⟩:=T.obj _ _ st5 b hb
   exact (I7.pin (b,o) (List.mem_append_right _ (List.mem_append_right _ (mem_pinsAt hb e)))).2.1
  cases f with
  | next=>obtain ⟨σ7,H7,I7,n7⟩:=q7; exact again I7 n7
  | cont=>obtain ⟨σ7,H7,I7,n7⟩:=q7; exact again I7 n7
  | brk=>obtain ⟨σ7,H7,I7,q7⟩:=q7; exact ⟨σ7,H7,I7.unpinned,q7⟩
  | ret v=>obtain ⟨x7,σ7,H7,I7,r7,q7⟩:=q7; exact ⟨x7,σ7,H7,I7.unpinned,r7,q7⟩
end
theorem for_list {K:PySem.W.Frag} {a:Addr} {xs:List V} {g:TG} {tb:TS} {D:Ends} {σ:St} {H:Hp} (Pv:Nat→St→Hp→Prop) (h0:Pv 0 σ H) (hl:∀ i σ H,i≤xs.length→Pv i σ H→SqL K H a xs)
  (hs:∀ i x σ H,xs[i]? = some x→Pv i σ H→g x σ H fun σ2 H2=>tb { D with nx:=Pv (i+1),ct:=Pv (i+1),bk:=D.nx } σ2 H2) (hd:∀ σ H,Pv xs.length σ H→D.nx σ H) :
  ∃ W:Nat→Nat→St→Hp→Prop,(∃ m,W 0 m σ H)∧∀ i m σ H,W i m σ H→
   ((Itl K a).stop i H∧D.nx σ H)∨((Itl K a).go i H∧∃ N:St→Hp→Prop,(∀ σ' H',N σ' H'→∃ m',m' < m∧W (i+1) m' σ' H')∧∀ x H',(Itl K a).yld i H x H'→g x σ H' fun σ2 H2=>tb { D with nx:=N,ct:=N,bk:=D.nx } σ2 H2):=by
 refine ⟨fun i m σ H=>m=xs.length - i∧i≤xs.length∧Pv i σ H,⟨xs.length,by simp,Nat.zero_le _,h0⟩,?_⟩
 rintro i m σ H ⟨rfl,hi,p⟩
 have q:=hl i σ H hi p
 by_cases hlt:i < xs.length
 ·refine .inr ⟨⟨xs,xs[i],q,by simp [hlt]⟩,Pv (i+1),fun σ' H' p'=>⟨xs.length - (i+1),by omega,rfl,hlt,p'⟩,fun x H' y=>?_⟩
  obtain ⟨e,y⟩:=y
  subst e
  exact hs i x σ _ (y xs q) p
 ·have e:i=xs.length:=by omega
  subst e
  exact .inl ⟨⟨xs,q,Nat.le_refl _⟩,hd σ H p⟩
theorem for_tup {K:PySem.W.Frag} {a:Addr} {xs:List V} {g:TG} {tb:TS} {D:Ends} {σ:St} {H:Hp} (Pv:Nat→St→Hp→Prop) (h0:Pv 0 σ H) (hl:∀ i σ H,i≤xs.length→Pv i σ H→SqT K H a xs)
  (hs:∀ i x σ H,xs[i]? = some x→Pv i σ H→g x σ H fun σ2 H2=>tb { D with nx:=Pv (i+1),ct:=Pv (i+1),bk:=D.nx } σ2 H2) (hd:∀ σ H,Pv xs.length σ H→D.nx σ H) :
  ∃ W:Nat→Nat→St→Hp→Prop,(∃ m,W 0 m σ H)∧∀ i m σ H,W i m σ H→
   ((Itt K a).stop i H∧D.nx σ H)∨((Itt K a).go i H∧∃ N:St→Hp→Prop,(∀ σ' H',N σ' H'→∃ m',m' < m∧W (i+1) m' σ' H')∧∀ x H',(Itt K a).yld i H x H'→g x σ H' fun σ2 H2=>tb { D with nx:=N,ct:=N,bk:=D.nx } σ2 H2):=by
 refine ⟨fun i m σ H=>m=xs.length - i∧i≤xs.length∧Pv i σ H,⟨xs.length,by simp,Nat.zero_le _,h0⟩,?_⟩
 rintro i m σ H ⟨rfl,hi,p⟩
 have q:=hl i σ H hi p
 by_cases hlt:i < xs.length
 ·refine .inr ⟨⟨xs,xs[i],q,by simp [hlt]⟩,Pv (i+1),fun σ' H' p'=>⟨xs.length - (i+1),by omega,rfl,hlt,p'⟩,fun x H' y=>?_⟩
  obtain ⟨e,y⟩:=y
  subst e
  exact hs i x σ _ (y xs q) p
 ·have e:i=xs.length:=by omega
  subst e
  exact .inl ⟨⟨xs,q,Nat.le_refl _⟩,hd σ H p⟩
theorem for_range {lo:Int} {n:Nat} {g:TG} {tb:TS} {D:Ends} {σ:St} {H:Hp} (Pv:Nat→St→Hp→Prop) (h0:Pv 0 σ H)
  (hs:∀ i σ H,i < n→Pv i σ H→g (.int (lo+i)) σ H fun σ2 H2=>tb { D with nx:=Pv (i+1),ct:=Pv (i+1),bk:=D.nx } σ2 H2) (hd:∀ σ H,Pv n σ H→D.nx σ H) :
  ∃ W:Nat→Nat→St→Hp→Prop,(∃ m,W 0 m σ H)∧∀ i m σ H,W i m σ H→
   ((Itr lo n).stop i H∧D.nx σ H)∨((Itr lo n).go i H∧∃ N:St→Hp→Prop,(∀ σ' H',N σ' H'→∃ m',m' < m∧W (i+1) m' σ' H')∧∀ x H',(Itr lo n).yld i H x H'→g x σ H' fun σ2 H2=>tb { D with nx:=N,ct:=N,bk:=D.nx } σ2 H2):=by
 refine ⟨fun i m σ H=>m=n - i∧i≤n∧Pv i σ H,⟨n,by simp,Nat.zero_le _,h0⟩,?_⟩
 rintro i m σ H ⟨rfl,hi,p⟩
 by_cases hlt:i < n
 ·refine .inr ⟨hlt,Pv (i+1),fun σ' H' p'=>⟨n - (i+1),by omega,rfl,hlt,p'⟩,fun x H' y=>?_⟩
  obtain ⟨e,y⟩:=y
  subst e y
  exact hs i σ _ hlt p
 ·have e:i=n:=by omega
  subst e
  exact .inl ⟨Nat.le_refl _,hd σ H p⟩
end L2
namespace L2
open PySem PySem.Spec PyProof.Rows
abbrev R2:=V→V→Hp→VK→Prop
def OpR (X:Cx) (f:Value→Value→Sem Value) (r:R2):Prop:=
 ∀ (pins:List (Addr × Obj)) (s:Shared) (σ:St) (H:Hp) (x y:V) (v u:Value) (Q:VK),Inv X pins σ H s→RelV x v→RelV y u→r x y H Q→
  wpAny (model X.prog X.w) X.A (f v u) (EP X pins σ Q) X.xe s
def UnR (X:Cx) (f:Value→Sem Value) (r:V→Hp→VK→Prop):Prop:=
 ∀ (pins:List (Addr × Obj)) (s:Shared) (σ:St) (H:Hp) (x:V) (v:Value) (Q:VK),Inv X pins σ H s→RelV x v→r x H Q→
  wpAny (model X.prog X.w) X.A (f v) (EP X pins σ Q) X.xe s
def CallR (X:Cx) (f:Value) (r:List V→Hp→VK→Prop):Prop:=
 ∀ (pins:List (Addr × Obj)) (s:Shared) (σ:St) (H:Hp) (xs:List V) (us:List Value) (Q:VK),Inv X pins σ H s→Vals xs us→r xs H Q→
  wpAny (model X.prog X.w) X.A (call f us) (EP X pins σ Q) X.xe s
def TruR (X:Cx) (r:V→Hp→(Bool→Hp→Prop)→Prop):Prop:=
 ∀ (pins:List (Addr × Obj)) (s:Shared) (σ:St) (H:Hp) (x:V) (v:Value) (Q:Bool→Hp→Prop),Inv X pins σ H s→RelV x v→r x H Q→
  wpAny (model X.prog X.w) X.A (truthy v) (TP X pins σ Q) X.xe s
def tOp (r:R2) (ta tb:TE):TE:=fun σ H Q=>ta σ H fun x H1=>tb σ H1 fun y H2=>r x y H2 Q
def tUn (r:V→Hp→VK→Prop) (ta:TE):TE:=fun σ H Q=>ta σ H fun x H1=>r x H1 Q
inductive rII (C:Int→Int→Prop) (g:Int→Int→V) (x:V) (y:V) (H:Hp) (Q:VK):Prop
 | mk (i j:_) (h1:x=.int i) (h2:y=.int j) (h3:C i j) (h4:Q (g i j) H):rII C g x y H Q
def rI (C:Int→Int→Prop) (g:Int→Int→V):R2:=fun x y H Q=>rII C g x y H Q
inductive rI0I (g:Int→Int→V) (x:V) (y:V) (H:Hp) (Q:VK):Prop
 | mk (i j:_) (h1:x=.int i) (h2:y=.int j) (h3:Q (g i j) H):rI0I g x y H Q
def rI0 (g:Int→Int→V):R2:=fun x y H Q=>rI0I g x y H Q
inductive rUI (g:Int→V) (x:V) (H:Hp) (Q:VK):Prop
 | mk (i:_) (h1:x=.int i) (h2:Q (g i) H):rUI g x H Q
def rU (g:Int→V):V→Hp→VK→Prop:=fun x H Q=>rUI g x H Q
section
variable {X:Cx} {a b c:Expr} {ta tb tc:TE} {pos:Pos}
theorem binT (ha:PE X a ta) (hb:PE X b tb) {pins:List (Addr × Obj)} {s:Shared} {σ:St} {H:Hp} {R:V→V→Hp→Prop} (I:Inv X pins σ H s)
  (h:ta σ H fun x H1=>tb σ H1 fun y H2=>R x y H2) {Q:Value→Shared→Prop} {f:Value→Value→Sem Value}
  (hf:∀ v u s2 x y H2,Inv X pins σ H2 s2→RelV x v→RelV y u→R x y H2→wpAny (model X.prog X.w) X.A (f v u) Q X.xe s2) :
  wpAny (model X.prog X.w) X.A (eval a X.env) (fun v s₁=>wpAny (model X.prog X.w) X.A (eval b X.env) (fun u s₂=>wpAny (model X.prog X.w) X.A (f v u) Q X.xe s₂) X.xe s₁) X.xe s:=by
 refine thn (ha pins s σ H _ I h) fun v s1 ⟨x,H1,I1,r1,q1⟩=>?_
 refine thn (hb pins s1 σ H1 _ I1 q1) fun u s2 ⟨y,H2,I2,r2,q2⟩=>?_
 exact hf v u s2 x y H2 I2 r1 r2 q2
theorem pe_op {op:Operator} {r:R2} (ho:OpR X (binaryOp op) r) (ha:PE X a ta) (hb:PE X b tb):PE X (.BinOp a op b pos) (tOp r ta tb):=by
 intro pins s σ H Q I h
 exact wpAny_BinOp (binT ha hb I h fun v u s2 x y H2 I2 rx ry q=>ho pins s2 σ H2 x y v u Q I2 rx ry q)
theorem pe_un {op:UnaryOp} {r:V→Hp→VK→Prop} (ho:UnR X (unaryOp op) r) (ha:PE X a ta):PE X (.UnaryOp op a pos) (tUn r ta):=by
 intro pins s σ H Q I h
 exact UnaryOp_ (thn (ha pins s σ H _ I h) fun v s1 ⟨x,H1,I1,r1,q1⟩=>ho pins s1 σ H1 x v Q I1 r1 q1)
theorem opI {f:Value→Value→Sem Value} {C:Int→Int→Prop} {g:Int→Int→Int}
  (rule:∀ (i j:Int) (t u:Tok) (s:Shared) (Q:Value→Shared→Prop) (E:Value→Shared→Prop),C i j→Q (.int (g i j) s.toks) { s with toks:=s.toks+1 }→wpAny (model X.prog X.w) X.A (f (.int i t) (.int j u)) Q E s) :
  OpR X f (rI C fun i j=>.int (g i j)):=by
 intro pins s σ H x y v u Q I rx ry h
 obtain ⟨i,j,rfl,rfl,hc,q⟩:=h
 obtain ⟨t,rfl⟩:=rx
 obtain ⟨t',rfl⟩:=ry
 exact rule i j t t' s _ _ hc ⟨.int (g i j),H,I.tok _,⟨_,rfl⟩,q⟩
theorem opI0 {f:Value→Value→Sem Value} {g:Int→Int→Int}
  (rule:∀ (i j:Int) (t u:Tok) (s:Shared) (Q:Value→Shared→Prop) (E:Value→Shared→Prop),Q (.int (g i j) s.toks) { s with toks:=s.toks+1 }→wpAny (model X.prog X.w) X.A (f (.int i t) (.int j u)) Q E s) :
  OpR X f (rI0 fun i j=>.int (g i j)):=by
 intro pins s σ H x y v u Q I rx ry h
 obtain ⟨i,j,rfl,rfl,q⟩:=h
 obtain ⟨t,rfl⟩:=rx
 obtain ⟨t',rfl⟩:=ry
 exact rule i j t t' s _ _ ⟨.int (g i j),H,I.tok _,⟨_,rfl⟩,q⟩
theorem opB0 {f:Value→Value→Sem Value} {g:Int→Int→Bool}
  (rule:∀ (i j:Int) (t u:Tok) (s:Shared) (Q:Value→Shared→Prop) (E:Value→Shared→Prop),Q (.bool (g i j)) s→wpAny (model X.prog X.w) X.A (f (.int i t) (.int j u)) Q E s) :
  OpR X f (rI0 fun i j=>.bl (g i j)):=by
 intro pins s σ H x y v u Q I rx ry h
 obtain ⟨i,j,rfl,rfl,q⟩:=h
 obtain ⟨t,rfl⟩:=rx
 obtain ⟨t',rfl⟩:=ry
 exact rule i j t t' s _ _ ⟨.bl (g i j),H,I,rfl,q⟩
def CDiv (i j:Int):Prop:=0 < j∧j < 1073741824
def CPow (i j:Int):Prop:=0≤j∧j≤1000000∧i.natAbs < 2 ^ 64
def CMul (i j:Int):Prop:=(-(2 ^ 64) < i∧i < 2 ^ 64)∨(-(2 ^ 64) < j∧j < 2 ^ 64)
theorem CMul.ok {i j:Int} (h:CMul i j):IntMulOk i j:=by
 rcases h with ⟨h1,h2⟩ | ⟨h1,h2⟩
 ·exact .of_left (intBits_le_64 h1 h2)
 ·exact .of_right (intBits_le_64 h1 h2)
theorem op_add:OpR X (binaryOp .Add) (rI0 fun i j=>.int (i+j)):=opI0 fun _ _ _ _ _ _ _ q=>add_int q
theorem op_sub:OpR X (binaryOp .Sub) (rI0 fun i j=>.int (i - j)):=opI0 fun _ _ _ _ _ _ _ q=>sub_int q
theorem op_mul:OpR X (binaryOp .Mult) (rI CMul fun i j=>.int (i * j)):=opI fun _ _ _ _ _ _ _ hc q=>mul_int q hc.ok
theorem op_fdiv:OpR X (binaryOp .FloorDiv) (rI CDiv fun i j=>.int (i / j)):=opI fun i j _ _ _ _ _ hc q=>by
 have h1:(0:Int) < j:=hc.1
 have h2:j < 1073741824:=hc.2
 exact floordiv_int (by omega) (by rw [Int.fdiv_eq_ediv_of_nonneg i (by omega)]; exact q) (.inl (PyProof.noPylong_small (by omega)))
theorem op_mod:OpR X (binaryOp .Mod) (rI (fun _ j=>0 < j) fun i j=>.int (i % j)):=opI fun i j _ _ _ _ _ hc q=>by
 have h1:(0:Int) < j:=hc
 exact mod_int' (by omega) (by rw [Int.fmod_eq_emod_of_nonneg i (by omega)]; exact q)
theorem op_pow:OpR X (binaryOp .Pow) (rI CPow fun i j=>.int (i ^ j.toNat)):=opI fun _ _ _ _ _ _ _ hc q=>pow_int_small hc.1 hc.2.1 hc.2.2 q
theorem unI {f:Value→Sem Value} {g:Int→Int}
  (rule:∀ (i:Int) (t:Tok) (s:Shared) (Q:Value→Shared→Prop) (E:Value→Shared→Prop),Q (.int (g i) s.toks) { s with toks:=s.toks+1 }→wpAny (model X.prog X.w) X.A (f (.int i t)) Q E s) :
  UnR X f (rU fun i=>.int (g i)):=by
 intro pins s σ H x v Q I rx h
 obtain ⟨i,rfl,q⟩:=h
 obtain ⟨t,rfl⟩:=rx
 exact rule i t s _ _ ⟨.int (g i),H,I.tok _,⟨_,rfl⟩,q⟩
theorem un_neg:UnR X (unaryOp .USub) (rU fun i=>.int (-i)):=unI fun _ _ _ _ _ q=>neg_int q
end
def scal:V→V→Bool
 | .non,.non=>true | .non,.int _=>true | .int _,.non=>true | .non,.bl _=>true | .bl _,.non=>true | .non,.str _=>true | .str _,.non=>true
 | .int _,.int _=>true | .bl _,.bl _=>true | .str _,.str _=>true | .byt _,.byt _=>true
 | .int _,.str _=>true | .str _,.int _=>true | .bl _,.str _=>true | .str _,.bl _=>true
 | _,_=>false
def rEq:R2:=fun x y H Q=>scal x y=true∧Q (.bl (decide (x=y))) H
def rNe:R2:=fun x y H Q=>scal x y=true∧Q (.bl (!decide (x=y))) H
theorem dec_int {i j:Int}:decide (V.int i=V.int j)=(i==j):=by
 rw [Bool.eq_iff_iff]
 simp
theorem dec_bl {i j:Bool}:decide (V.bl i=V.bl j)=(i==j):=by
 rw [Bool.eq_iff_iff]
 simp
theorem dec_str {i j:Str}:decide (V.str i=V.str j)=(i==j):=by
 rw [Bool.eq_iff_iff]
 simp
theorem dec_byt {i j:Array UInt8}:decide (V.byt i=V.byt j)=(i.toList==j.toList):=by
 rw [Bool.eq_iff_iff]
 cases i
 cases j
 simp
section
variable {X:Cx} {a b c:Expr} {ta tb tc:TE} {pos:Pos}
theorem fin_bl {pins:List (Addr × Obj)} {σ:St} {H:Hp} {s:Shared} {Q:VK} {k k':Bool} (I:Inv X pins σ H s) (q:Q (.bl k) H) (e:k=k'):EP X pins σ Q (.bool k') s:=by
 subst e
 exact ⟨.bl k,H,I,rfl,q⟩
theorem op_eq:OpR X (compareOp .Eq) rEq:=by
 intro pins s σ H x y v u Q I rx ry h
 obtain ⟨hs,q⟩:=h
 cases x with
 | non=>
  cases rx
  cases y with
  | non=>cases ry; exact PySem.EqNone.eq_none_none (fin_bl I q (by simp))
  | bl j=>cases ry; exact PySem.EqNone.eq_none_bool (fin_bl I q (by simp))
  | int j=>obtain ⟨t',rfl⟩:=ry; exact PySem.EqNone.eq_none_int (fin_bl I q (by simp))
  | str j=>obtain ⟨t',rfl⟩:=ry; exact PySem.EqNone.eq_none_str (fin_bl I q (by simp))
  | _=>exact absurd (show false=true from hs) Bool.false_ne_true
 | bl i=>
  cases rx
  cases y with
  | non=>cases ry; exact PySem.EqNone.eq_bool_none (fin_bl I q (by simp))
  | bl j=>cases ry; exact eq_bool (fin_bl I q dec_bl)
  | str j=>obtain ⟨t',rfl⟩:=ry; exact PySem.EqMixed.eq_bool_str (fin_bl I q (by simp))
  | _=>exact absurd (show false=true from hs) Bool.false_ne_true
 | int i=>
  obtain ⟨t,rfl⟩:=rx
  cases y with
  | non=>cases ry; exact PySem.EqNone.eq_int_none (fin_bl I q (by simp))
  | int j=>obtain ⟨t',rfl⟩:=ry; exact eq_int (fin_bl I q dec_int)
  | str j=>obtain ⟨t',rfl⟩:=ry; exact PySem.EqMixed.eq_int_str (fin_bl I q (by simp))
  | _=>exact absurd (show false=true from hs) Bool.false_ne_true
 | str i=>
  obtain ⟨t,rfl⟩:=rx
  cases y with
  | non=>cases ry; exact PySem.EqNone.eq_str_none (fin_bl I q (by simp))
  | bl j=>cases ry; exact PySem.EqMixed.eq_str_bool (fin_bl I q (by simp))
  | int j=>obtain ⟨t',rfl⟩:=ry; exact PySem.EqMixed.eq_str_int (fin_bl I q (by simp))
  | str j=>obtain ⟨t',rfl⟩:=ry; exact eq_str (fin_bl I q dec_str)
  | _=>exact absurd (show false=true from hs) Bool.false_ne_true
 | byt i=>
  obtain ⟨t,rfl⟩:=rx
  cases y with
  | byt j=>obtain ⟨t',rfl⟩:=ry; exact PySem.W.eq_bytes (fin_bl I q dec_byt)
  | _=>exact absurd (show false=true from hs) Bool.false_ne_true
 | _=>cases y <;> exact absurd (show false=true from hs) Bool.false_ne_true
theorem op_ne:OpR X (compareOp .NotEq) rNe:=by
 intro pins s σ H x y v u Q I rx ry h
 obtain ⟨hs,q⟩:=h
 cases x with
 | non=>
  cases rx
  cases y with
  | non=>cases ry; exact PySem.EqNone.ne_none_none (fin_bl I q (by simp))
  | bl j=>cases ry; exact PySem.EqNone.ne_none_bool (fin_bl I q (by simp))
  | int j=>obtain ⟨t',rfl⟩:=ry; exact PySem.EqNone.ne_none_int (fin_bl I q (by simp))
  | str j=>obtain ⟨t',rfl⟩:=ry; exact PySem.EqNone.ne_none_str (fin_bl I q (by simp))
  | _=>exact absurd (show false=true from hs) Bool.false_ne_true
 | bl i=>
  cases rx
  cases y with
  | non=>cases ry; exact PySem.EqNone.ne_bool_none (fin_bl I q (by simp))
  | bl j=>cases ry; exact ne_bool (fin_bl I q (congrArg not dec_bl))
  | str j=>obtain ⟨t',rfl⟩:=ry; exact PySem.EqMixed.ne_bool_str (fin_bl I q (by simp))
  | _=>exact absurd (show false=true from hs) Bool.false_ne_true
 | int i=>
  obtain ⟨t,rfl⟩:=rx
  cases y with
  | non=>cases ry; exact PySem.EqNone.ne_int_none (fin_bl I q (by simp))
  | int j=>obtain ⟨t',rfl⟩:=ry; exact ne_int (fin_bl I q (congrArg not dec_int))
  | str j=>obtain ⟨t',rfl⟩:=ry; exact PySem.EqMixed.ne_int_str (fin_bl I q (by simp))
  | _=>exact absurd (show false=true from hs) Bool.false_ne_true
 | str i=>
  obtain ⟨t,rfl⟩:=rx
  cases y with
  | non=>cases ry; exact PySem.EqNone.ne_str_none (fin_bl I q (by simp))
  | bl j=>cases ry; exact PySem.EqMixed.ne_str_bool (fin_bl I q (by simp))
  | int j=>obtain ⟨t',rfl⟩:=ry; exact PySem.EqMixed.ne_str_int (fin_bl I q (by simp))
  | str j=>obtain ⟨t',rfl⟩:=ry; exact ne_str (fin_bl I q (congrArg not dec_str))
  | _=>exact absurd (show false=true from hs) Bool.false_ne_true
 | byt i=>
  obtain ⟨t,rfl⟩:=rx
  cases y with
  | byt j=>obtain ⟨t',rfl⟩:=ry; exact PySem.W.ne_bytes (fin_bl I q (congrArg not dec_byt))
  | _=>exact absurd (show false=true from hs) Bool.false_ne_true
 | _=>cases y <;> exact absurd (show false=true from hs) Bool.false_ne_true
theorem op_lt:OpR X (compareOp .Lt) (rI0 fun i j=>.bl (decide (i < j))):=opB0 fun _ _ _ _ _ _ _ q=>lt_int q
theorem op_gt:OpR X (compareOp .Gt) (rI0 fun i j=>.bl (decide (j < i))):=opB0 fun _ _ _ _ _ _ _ q=>gt_int q
theorem op_ge:OpR X (compareOp .GtE) (rI0 fun i j=>.bl (decide (j≤i))):=opB0 fun _ _ _ _ _ _ _ q=>ge_int q
theorem op_lt_str:OpR X (compareOp .Lt) (fun x y H Q=>∃ i j,x=.str i∧y=.str j∧Q (.bl (decide (i.cps.toList < j.cps.toList))) H):=by
 intro pins s σ H x y v u Q I rx ry h
 obtain ⟨i,j,rfl,rfl,q⟩:=h
 obtain ⟨t,rfl⟩:=rx
 obtain ⟨t',rfl⟩:=ry
 exact lt_str (fin_bl I q rfl)
theorem op_in_str:OpR X (compareOp .In) (fun x y H Q=>∃ i j,x=.str i∧y=.str j∧Q (.bl (!(Builtin.Str.occurrences j i 0 j.length 1).isEmpty)) H):=by
 intro pins s σ H x y v u Q I rx ry h
 obtain ⟨i,j,rfl,rfl,q⟩:=h
 obtain ⟨t,rfl⟩:=rx
 obtain ⟨t',rfl⟩:=ry
 exact in_str (fin_bl I q rfl)
theorem op_isN:OpR X (compareOp .Is) (fun x y H Q=>y=.non∧Q (.bl (decide (x=.non))) H):=by
 intro pins s σ H x y v u Q I rx ry h
 obtain ⟨rfl,q⟩:=h
 cases ry
 refine is_none_gen (fin_bl I q ?_)
 cases x <;> first
  | (cases rx; rfl)
  | (obtain ⟨t,rfl⟩:=rx; rfl)
theorem nomark (b:Expr) {op:CmpOp} (h:op≠.In:=by decide) (h2:op≠.NotIn:=by decide):behindInMarks op b=false:=by
 have e1:(op==CmpOp.In)=false:=by cases op <;> first | rfl | exact absurd rfl h
 have e2:(op==CmpOp.NotIn)=false:=by cases op <;> first | rfl | exact absurd rfl h2
 cases b <;> simp [behindInMarks,e1,e2]
theorem pe_cmpR {op:CmpOp} {r:R2} (ho:OpR X (compareOp op) r) (ha:PE X a ta) (hb:PE X b tb) (hm:behindInMarks op b=false):PE X (.Compare a [op] [b] pos) (tOp r ta tb):=by
 intro pins s σ H Q I h
 exact wpAny_Compare1 (binT ha hb I h fun v u s2 x y H2 I2 rx ry q=>ho pins s2 σ H2 x y v u Q I2 rx ry q) hm
inductive tTestI (Q:Bool→Hp→Prop) (x:V) (H':Hp):Prop
 | mk (k:_) (h1:x=.bl k) (h2:Q k H'):tTestI Q x H'
def tTest (t:TE):TT:=fun σ H Q=>t σ H fun x H'=>tTestI Q x H'
theorem pt_cmpR {op:CmpOp} {r:R2} (ho:OpR X (compareOp op) r) (ha:PE X a ta) (hb:PE X b tb) (hm:behindInMarks op b=false):PT X (.Compare a [op] [b] pos) (tTest (tOp r ta tb)):=by
 intro pins s σ H Q I h
 refine wpAny_isTrue_Compare1 (thn (ha pins s σ H _ I h) fun v s1 ⟨x,H1,I1,r1,q1⟩=>thn (hb pins s1 σ H1 _ I1 q1) fun u s2 ⟨y,H2,I2,r2,q2⟩=>
  thn (ho pins s2 σ H2 x y v u _ I2 r1 r2 q2) fun c s3 ⟨z,H3,I3,r3,k,e,q3⟩=>?_) hm
 subst e
 cases r3
 exact wpAny_truthy_bool ⟨H3,I3,q3⟩
def TruV (K:PySem.W.Frag) (x:V) (H:Hp) (k:Bool):Prop:=
 match x with
 | .non=>k=false
 | .bl b=>k=b
 | .int i=>k=(i != 0)
 | .str y=>y.length≤sizeLine∧k=((y.length:Int) != 0)
 | .byt y=>y.size≤sizeLine∧k=((y.size:Int) != 0)
 | .ref p=>(∃ xs,SqL K H p xs∧k = !xs.isEmpty)∨(∃ xs,SqT K H p xs∧k = !xs.isEmpty)∨∃ kvs,H p=some (.dK kvs)∧k = !kvs.isEmpty
 | _=>False
theorem isEmpty_kv {κ:Type} {kvs:List (κ × V)} {vs:List (κ × Value)} (r:KV kvs vs):(!vs.isEmpty) = !kvs.isEmpty:=by
 cases r <;> rfl
theorem isEmpty_of {xs:List V} {its:List Value} (r:Vals xs its):(!its.toArray.isEmpty) = !xs.isEmpty:=by
 cases r <;> simp
theorem line63:(sizeLine:Nat) < 2 ^ 63:=by rw [sizeLine_eq]; decide
theorem tru_ok:TruR X (fun x H Q=>∃ k,TruV X.K x H k∧Q k H):=by
 intro pins s σ H x v Q I rx h
 obtain ⟨k,e,q⟩:=h
 have hl:=line63
 have hs:sizeLine=16777216:=sizeLine_eq
 cases x with
 | non=>
  cases rx
  have e':k=false:=e
  subst e'
  exact truthy_none ⟨H,I,q⟩
 | bl b=>
  cases rx
  have e':k=b:=e
  subst e'
  exact wpAny_truthy_bool ⟨H,I,q⟩
 | int i=>
  obtain ⟨t,rfl⟩:=rx
  have e':k=(i != 0):=e
  subst e'
  exact PySem.P.truthy_int ⟨H,I,q⟩
 | str y=>
  obtain ⟨t,rfl⟩:=rx
  obtain ⟨hy,e'⟩:y.length≤sizeLine∧k=((y.length:Int) != 0):=e
  subst e'
  exact PySem.P.truthy_str (by omega) ⟨H,I.tok _,q⟩
 | byt y=>
  obtain ⟨t,rfl⟩:=rx
  obtain ⟨hy,e'⟩:y.size≤sizeLine∧k=((y.size:Int) != 0):=e
  subst e'
  exact PySem.W.truthy_bytes (by omega) ⟨H,I.tok _,q⟩
 | ref p=>
  cases rx
  have e':(∃ xs,SqL X.K H p xs∧k = !xs.isEmpty)∨(∃ xs,SqT X.K H p xs∧k = !xs.isEmpty)∨∃ kvs,H p=some (.dK kvs)∧k = !kvs.isEmpty:=e
  rcases e' with ⟨xs,hx,e'⟩ | ⟨xs,hx,e'⟩ | ⟨kvs,hx,e'⟩
  ·subst e'
   obtain ⟨its,r,pl,hz⟩:=I.list hx
   have hlen:=r.length
   exact wpAny_truthy_list pl.isList (by simp only [List.size_toArray]; omega) ⟨H,I.tok _,by rw [isEmpty_of r]; exact q⟩
  ·subst e'
   obtain ⟨its,r,pl,hz⟩:=I.tuple hx
   have hlen:=r.length
   exact truthy_tuple pl (by simp only [List.size_toArray]; omega) ⟨H,I.tok _,by rw [isEmpty_of r]; exact q⟩
  ·subst e'
   obtain ⟨hz,hS,vs,r,m⟩:kvs.length≤sizeLine∧(p==sysModules)=false∧∃ vs,KV kvs vs∧s.heap.DictOf (mixKind X.prog X.w) p vs:=I.hok p _ hx
   have hlen:kvs.length=vs.length:=Paired.length r
   exact wpAny_truthy_dict hS m (by omega) ⟨H,I.tok _,by rw [isEmpty_kv r]; exact q⟩
 | _=>exact (show False from e).elim
theorem pt_truth (ha:PE X a ta) (he:∀ whole,isTrue a X.env whole=(do let v ← whole; standAt a.pos; holding [v] (truthy v))) :
  PT X a (fun σ H Q=>ta σ H fun x H'=>∃ k,TruV X.K x H' k∧Q k H'):=by
 intro pins s σ H Q I h
 exact isTrue_plain (thn (ha pins s σ H _ I h) fun v s1 ⟨x,H1,I1,r1,q1⟩=>tru_ok pins s1 σ H1 x v Q I1 r1 q1) (he _)
theorem op_add_str:OpR X (binaryOp .Add) (fun x y H Q=>∃ i j,x=.str i∧y=.str j∧i.length+j.length≤sizeLine∧Q (.str (i ++ j)) H):=by
 intro pins s σ H x y v u Q I rx ry h
 obtain ⟨i,j,rfl,rfl,hz,q⟩:=h
 obtain ⟨t,rfl⟩:=rx
 obtain ⟨t',rfl⟩:=ry
 exact add_str (fun t' tk=>⟨.str (i ++ j),H,I.tok _,⟨_,rfl⟩,q⟩) hz
theorem vals1 {x:V} {us:List Value} (r:Vals [x] us):∃ u,us=[u]∧RelV x u:=by
 cases r with
 | cons r1 r2=>cases r2; exact ⟨_,rfl,r1⟩
theorem vals2 {x y:V} {us:List Value} (r:Vals [x,y] us):∃ u w',us=[u,w']∧RelV x u∧RelV y w':=by
 cases r with
 | cons r1 r2=>
  cases r2 with
  | cons r3 r4=>cases r4; exact ⟨_,_,rfl,r1,r3⟩
theorem call_int1:CallR X (.type "int") (fun xs H Q=>(∃ i,xs=[.int i]∧Q (.int i) H)∨∃ k,xs=[.bl k]∧Q (.int (if k then 1 else 0)) H):=by
 intro pins s σ H xs us Q I r h
 rcases h with ⟨i,rfl,q⟩ | ⟨k,rfl,q⟩
 ·obtain ⟨u,rfl,t,rfl⟩:=vals1 r
  exact call_int_int ⟨.int i,H,I,⟨_,rfl⟩,q⟩
 ·obtain ⟨u,rfl,r1⟩:=vals1 r
  cases r1
  exact call_int_bool ⟨.int (if k then 1 else 0),H,I.tok _,⟨_,rfl⟩,q⟩
end
end L2
namespace L2
open PySem PySem.Spec PyProof.Rows
structure ObjM (h:Heap) (x dx C:Addr) (mA:Str→Option Value):Prop where
 obj:h.get? x=some (PySem.W.instObj C dx)
 ns:h.Ns1 dx mA
 ne:dx≠x
theorem lookIn_ns {h:Heap} {dx:Addr} {mA:Str→Option Value} (n:h.Ns1 dx mA):∃ od,h.get? dx=some od∧∀ name,PySem.W.lookIn name od=some (mA name):=by
 obtain ⟨o,es,ep,ho,hd,hk,_,hm⟩:=n
 refine ⟨o,ho,fun name=>?_⟩
 have e:=hm name
 unfold nsFind findBy at e
 rw [← Array.find?_toList] at e
 unfold PySem.W.lookIn
 rw [hd]
 dsimp only
 split
 ·rename_i y q
  rw [q] at e
  exact congrArg some e
 ·rename_i q
  rw [q] at e
  have a:es.toList.any (·.refKey)=false:=by
   rw [List.any_eq_false]
   intro y hy
   obtain ⟨z,t,hkey⟩:=hk y (Array.mem_toList_iff.mp hy)
   simp [DictEntry.refKey,hkey]
  have a':¬ es.toList.any (·.refKey)=true:=by rw [a]; exact Bool.false_ne_true
  rw [if_neg a']
  exact congrArg some e
theorem ObjM.look {h:Heap} {x dx C:Addr} {mA:Str→Option Value} (I:ObjM h x dx C mA):∃ od,PySem.W.InstAt h x (PySem.W.instObj C dx) C (some od)∧∀ name,PySem.W.lookIn name od=some (mA name):=
 let ⟨od,ho,hl⟩:=lookIn_ns I.ns
 ⟨od,⟨I.obj,rfl,rfl,ho⟩,hl⟩
section
variable {prog:Program} {w:World} {A:Around} {E:Value→Shared→Prop} {s:Shared} {K:PySem.W.Frag} {x dx C f:Addr} {mA:Str→Option Value} {name:Str} {v:Value}
end
theorem RelO.some_of {v:V} {o:Option Value} (r:RelO (some v) o):∃ u,o=some u∧RelV v u:=by
 cases o with
 | none=>exact (show False from r).elim
 | some u=>exact ⟨u,rfl,r⟩
section
variable {P:Program} {w:World} {H H':Hp} {h h':Heap} {a C dx:Addr} {fs fs':List (Str × V)}
theorem ins_get (hok:HOk P w H h) (e:H a=some (.ins C dx fs)):∃ mA,ObjM h a dx C mA∧(∀ f,RelO (fs.lookup f) (mA f))∧PySem.Within mA (fs.map (·.1))∧fs.length≤1000∧H dx=some (.own a):=by
 obtain ⟨d,z,ne,ob,mA,n,r,q⟩:=(show ObjOk P w H h a (.ins C dx fs) from hok a _ e)
 exact ⟨mA,⟨ob,n,ne⟩,r,q,z,d⟩
end
structure Cls (K:PySem.W.Frag) (C:Addr):Prop where
 pg:PySem.W.plainGet K C Str.empty=true
 hd:PySem.W.hasDictIn K C=true
 po:PySem.W.plainOver K C=true
 sa:PySem.W.findIn K (.ref C) "__setattr__" = some (some (.builtin "object.__setattr__"))
theorem Cls.get {K:PySem.W.Frag} {C:Addr} (c:Cls K C) (f:Str):PySem.W.plainGet K C f=true:=c.pg
section
variable {X:Cx} {pins:List (Addr × Obj)} {σ:St} {H:Hp} {s:Shared} {a C dx:Addr} {fs:List (Str × V)} {f:Str} {v:V} {A:Around} {E:Value→Shared→Prop}
end
section
variable {X:Cx} {o e value:Expr} {f:Str} {pos pos' tpos:Pos} {ta tv:TE}
end
section
variable {X:Cx} {pins:List (Addr × Obj)} {σ:St} {H:Hp} {s:Shared} {A:Around} {E:Value→Shared→Prop} {Q:Value→Shared→Prop} {c:Value} {b:Bool}
inductive TyOf (K:PySem.W.Frag) (H:Hp):V→Value→Prop where
 | non:TyOf K H .non (.type "NoneType")
 | bl (x:Bool):TyOf K H (.bl x) (.type "bool")
 | int (i:Int):TyOf K H (.int i) (.type "int")
 | str (x:Str):TyOf K H (.str x) (.type "str")
 | flt (x:UInt64):TyOf K H (.flt x) (.type "float")
 | lst {a:Addr} {xs:List V} (e:H a=some (.lst xs)):TyOf K H (.ref a) (.type "list")
 | frz {a:Addr} {o:Obj} {xs:List V} (e:H a=some (.frz o (.lst xs))):TyOf K H (.ref a) (.type "list")
 | tup {a:Addr} {xs:List V} (e:H a=some (.tup xs)):TyOf K H (.ref a) (.type "tuple")
 | dK {a:Addr} {kvs:List (Key × V)} (e:H a=some (.dK kvs)):TyOf K H (.ref a) (.type "dict")
 | dT {a:Addr} {kvs:List (List Key × V)} (e:H a=some (.dT kvs)):TyOf K H (.ref a) (.type "dict")
 | ins {a C dx:Addr} {fs:List (Str × V)} (e:H a=some (.ins C dx fs)) (cl:Cls K C) (ha:PySem.W.findIn K (.ref C) "__class__" = some (some (.builtin "object.__class__")))
   (hn:PySem.W.specialIn K (.builtin "object.__class__") "__get__" = some (some (.builtin "getset_descriptor.__get__"))) (htk:PySem.W.takesIn K (.builtin "object.__class__")=some true)
   (hm:PySem.W.mroIn K C (.type "object")=some true):TyOf K H (.ref a) (.ref C)
theorem isinst_ok {x:V} {u t:Value} (I:Inv X pins σ H s) (rx:RelV x u) (ty:TyOf X.K H x t) (e:PySem.W.kitOne X.K t c=some b) (h:∀ tk,Q (.bool b) { s with toks:=tk }) :
  wpAny (model X.prog X.w) A (call (.builtin "isinstance") [u,c]) Q E s:=by
 cases ty with
 | non=>cases (show u=Value.none from rx); exact PySem.W.kia_one PySem.W.kitx_none I.kIn True.intro e (fun z=>nomatch z) h
 | bl y=>cases (show u=Value.bool y from rx); exact PySem.W.kia_one PySem.W.kitx_bool I.kIn True.intro e (fun z=>nomatch z) h
 | int i=>obtain ⟨t,q⟩:=(show ∃ t,u=Value.int i t from rx); cases q; exact PySem.W.kia_one PySem.W.kitx_int I.kIn True.intro e (fun z=>nomatch z) h
 | str y=>obtain ⟨t,q⟩:=(show ∃ t,u=Value.str y t from rx); cases q; exact PySem.W.kia_one PySem.W.kitx_str I.kIn True.intro e (fun z=>nomatch z) h
 | flt y=>obtain ⟨t,q⟩:=(show ∃ t,u=Value.float y t from rx); cases q; exact PySem.W.kia_one PySem.W.kitx_float I.kIn True.intro e (fun z=>nomatch z) h
 | @lst a xs ea=>
  cases (show u=Value.ref a from rx)
  obtain ⟨_,_,n,_,h1⟩:=(show ObjOk X.prog X.w H s.heap a (.lst xs) from I.hok a _ ea)
  exact PySem.W.kia_one PySem.W.kitx_list I.kIn ⟨_,h1,rfl⟩ e (fun z=>nomatch z) h
 | @frz a ob xs ea=>
  cases (show u=Value.ref a from rx)
  obtain ⟨_,_,_,n,_,h1⟩:=(show ObjOk X.prog X.w H s.heap a (.frz ob (.lst xs)) from I.hok a _ ea)
  exact PySem.W.kia_one PySem.W.kitx_list I.kIn ⟨_,h1,rfl⟩ e (fun z=>nomatch z) h
 | @tup a xs ea=>
  cases (show u=Value.ref a from rx)
  obtain ⟨_,_,_,p⟩:=(show ObjOk X.prog X.w H s.heap a (.tup xs) from I.hok a _ ea)
  obtain ⟨o,h1,h2,_⟩:=p
  exact PySem.W.kia_one PySem.W.kitx_tuple I.kIn ⟨o,h1,h2⟩ e (fun z=>nomatch z) h
 | @dK a kvs ea=>
  cases (show u=Value.ref a from rx)
  obtain ⟨_,_,vs,_,p⟩:=(show ObjOk X.prog X.w H s.heap a (.dK kvs) from I.hok a _ ea)
  obtain ⟨o,es,ep,h1,h2,_⟩:=p
  exact PySem.W.kia_one PySem.W.kitx_dict I.kIn ⟨o,h1,h2.1⟩ e (fun z=>nomatch z) h
 | @dT a kvs ea=>
  cases (show u=Value.ref a from rx)
  obtain ⟨_,_,xs,_,o,es,ep,h1,h2,_⟩:=(show ObjOk X.prog X.w H s.heap a (.dT kvs) from I.hok a _ ea)
  exact PySem.W.kia_one PySem.W.kitx_dict I.kIn ⟨o,h1,h2.1⟩ e (fun z=>nomatch z) h
 | @ins a C dx fs ea cl ha hn htk hm=>
  cases (show u=Value.ref a from rx)
  obtain ⟨mA,O,_⟩:=ins_get I.hok ea
  obtain ⟨od,J,_⟩:=O.look
  exact PySem.W.kia_one (PySem.W.kitx_own (cl.get _) cl.hd ha hn htk hm) I.kIn J e (fun z=>nomatch z) h
end
end L2
namespace L2
open PySem PySem.Spec PyProof.Rows
structure Room (k:Nat) (A:Around):Prop where
 hd:A.handled=none
 dp:A.depth+3 * k+5 < recursionLimit
 un:A.units+16 * k+200 < cLine
theorem Room.mono {j k:Nat} {A:Around} (r:Room k A) (h:j≤k):Room j A:=⟨r.hd,by have:=r.dp; omega,by have:=r.un; omega⟩
theorem Room.deeper {k:Nat} {A:Around} (r:Room (k+1) A) (env:Env):Room k (A.deeper env):=
 ⟨r.hd,by have:=r.dp; show A.depth+1+3 * k+5 < _; omega,by have:=r.un; show A.units+3+16 * k+200 < _; omega⟩
theorem Room.depth {k:Nat} {A:Around} (r:Room k A):A.depth < recursionLimit:=by have:=r.dp; omega
theorem Room.units {k:Nat} {A:Around} (r:Room k A):A.units+64 < cLine:=by have:=r.un; omega
def tNil:TA:=fun _ H Q=>Q [] H
def tCons (ta:TE) (tr:TA):TA:=fun σ H Q=>ta σ H fun x H1=>tr σ H1 fun xs H2=>Q (x :: xs) H2
section
variable {X:Cx} {e:Expr} {es:List Expr} {te:TE} {t:TA} {pos:Pos}
theorem pa_nil:PA X [] tNil:=fun _ _ _ _ H Q I h=>Calls.spliced_nil ⟨[],H,I,.nil,h⟩
theorem pa_cons (ha:PE X e te) (hr:PA X es t) (hs:starEach (e :: es) X.env=(false,eval e X.env) :: starEach es X.env:=by rfl):PA X (e :: es) (tCons te t):=by
 intro pos pins s σ H Q I h
 rw [hs]
 show wpAny _ _ (spliced ((false,eval e X.env) :: backTo pos (starEach es X.env))) _ _ s
 refine Calls.spliced_cons (thn (ha pins s σ H _ I h) fun u s1 ⟨x,H1,I1,r1,q1⟩=>?_)
 exact thn (hr pos pins s1 σ H1 _ I1 q1) fun us s2 ⟨xs,H2,I2,r2,q2⟩=>⟨x :: xs,H2,I2,.cons r1 r2,q2⟩
def tTup (t:TA):TE:=fun σ H Q=>t σ H fun xs H1=>xs.length≤sizeLine∧∀ p,H1 p=none→Q (.ref p) (upd H1 p (.tup xs))
def tLst (t:TA):TE:=fun σ H Q=>t σ H fun xs H1=>xs.length≤sizeLine∧∀ p,H1 p=none→Q (.ref p) (upd H1 p (.lst xs))
theorem pe_tup {x1} (h:PA X es t):PE X (.Tuple es x1 pos) (tTup t):=by
 intro pins s σ H Q I hq
 refine wpAny_Tuple_spliced (thn (h pos pins s σ H _ I hq) fun us s1 ⟨xs,H1,I1,r,z,q⟩=>⟨by rw [← r.length]; exact z,?_⟩)
 have hf:H1 s1.heap.objs.size=none:=I1.hok.fresh (Nat.le_refl _)
 refine ⟨.ref s1.heap.objs.size,upd H1 s1.heap.objs.size (.tup xs),I1.laid (t':=s1.toks) (fun b u e=>Heap.get?_push_of_some _ e) (Nat.le_refl _) ?_,rfl,q _ hf⟩
 exact ⟨z,us,r,⟨_,Heap.get?_push_size _ rfl,rfl,_,rfl⟩⟩
theorem pe_lst (h:PA X es t):PE X (.List es pos) (tLst t):=by
 intro pins s σ H Q I hq
 refine wpAny_List_spliced (thn (h pos pins s σ H _ I hq) fun us s1 ⟨xs,H1,I1,r,z,q⟩=>⟨by rw [← r.length]; exact z,?_⟩)
 have hf:H1 s1.heap.objs.size=none:=I1.hok.fresh (Nat.le_refl _)
 refine ⟨.ref s1.heap.objs.size,upd H1 s1.heap.objs.size (.lst xs),I1.laid (t':=s1.toks) (fun b u e=>Heap.get?_push_of_some _ e) (Nat.le_refl _) ?_,rfl,q _ hf⟩
 exact ⟨z,us,0,r,Heap.get?_push_size _ rfl⟩
end
abbrev Sp:=List V→Hp→VK→XK→Prop
abbrev CXT:=List Env→Hp→Shared→XK→Value→Shared→Prop
structure Env0 (P:Program) (w:World) (K:PySem.W.Frag) (mg:Str→Option Value) (base:Heap) (A:Around) (outer:List Env) (s:Shared) (H:Hp):Prop where
 frames:A.frames=some outer
 mod:Mod K mg base
 bs:∀ b o,base.get? b=some o→s.heap.get? b=some o∧H b=none
 bsz:base.objs.size≤s.heap.objs.size
 funs:s.heap.FunFrames base outer
 frf:∀ b∈frs outer,H b=none
 hok:HOk P w H s.heap
 bare:AllBare s.gens
def CE (outer:List Env) (P:Program) (w:World) (H:Hp) (s:Shared) (Q:VK) (u:Value) (s':Shared):Prop:=
 ∃ v H',s'.os=s.os∧AllBare s'.gens∧Un (frs outer) [] H H' s.heap s'.heap∧HOk P w H' s'.heap∧RelV v u∧Q v H'
def CR (CX:CXT) (outer:List Env) (P:Program) (w:World) (H:Hp) (s:Shared) (Q:VK) (E:XK) (r:Result) (s':Shared):Prop:=
 match r with
 | .ok (.ret u)=>CE outer P w H s Q u s'
 | .ok _=>False
 | .error e=>CX outer H s E e s'
structure FnOk (P:Program) (w:World) (K:PySem.W.Frag) (mg:Str→Option Value) (base:Heap) (CX:CXT) (k:Nat) (f:Addr) (fd:FuncData) (ps:List Str) (sp:Sp):Prop where
 len:∀ vs H Q E,sp vs H Q E→vs.length=ps.length
 run:∀ (A:Around) (outer:List Env) (s:Shared) (H:Hp) (args:Args) (us:List Value) (vs:List V) (Q:VK) (E:XK),Room k A→Env0 P w K mg base A outer s H→BindsTo s fd args (ps.zip us)→Vals vs us→sp vs H Q E→
  codeAny (model P w) A (.call (.ref f) args) (CR CX outer P w H s Q E) s
section
variable {X:Cx} {pins:List (Addr × Obj)} {σ:St} {H:Hp} {s s':Shared}
theorem Inv.env0 (I:Inv X pins σ H s):Env0 X.prog X.w X.K X.mg X.base X.A X.stack s H:=
 ⟨I.ok.frames,I.ok.mod,I.bs,Nat.le_trans I.ok.bsz I.sz,I.stack,I.stkFree,I.hok,I.bare⟩
theorem Inv.after {Q:VK} {u:Value} (I:Inv X pins σ H s) (h:CE X.stack X.prog X.w H s Q u s'):EP X pins σ Q u s':=by
 obtain ⟨v,H',os,bare,un,hok,r,q⟩:=h
 obtain ⟨hh,g,d,t,os'⟩:=s'
 obtain rfl:os'=s.os:=os
 exact ⟨v,H',I.call (h':=hh) (g':=g) (d':=d) (t':=t) (ch:=[]) un hok bare (fun b z=>absurd z (by simp)),r,q⟩
end
def tCall (sp:Sp) (dvs:List V) (E:XK) (t:TA):TE:=fun σ H Q=>t σ H fun vs H1=>sp (vs ++ dvs) H1 Q E
def Binds (K:PySem.W.Frag) (fd:FuncData) (ps:List Str) (ds:List Value):Prop:=
 ∀ (s:Shared) (us:List Value),K.In s.heap→(us ++ ds).length=ps.length→BindsTo s fd ⟨us,[]⟩ (ps.zip (us ++ ds))
theorem Binds.all {K:PySem.W.Frag} {fd:FuncData} {ps:List Str} (h:∀ us:List Value,us.length=ps.length→bindArgs fd ⟨us,[]⟩=pure (ps.zip us)):Binds K fd ps []:=fun s us _ hl=>by
 rw [List.append_nil] at hl ⊢
 exact .of_eq (h us hl)
def Passes (CX:CXT) (X:Cx) (E:XK):Prop:=∀ (pins:List (Addr × Obj)) (σ:St) (H:Hp) (s:Shared) (e:Value) (s':Shared),Inv X pins σ H s→CX X.stack H s E e s'→X.xe e s'
section
variable {X:Cx} {CX:CXT} {k:Nat} {f C:Addr} {fd:FuncData} {ps:List Str} {sp:Sp} {dvs:List V} {ds:List Value} {E:XK} {x m:Str} {p pos apos:Pos} {e o:Expr} {es:List Expr} {ta:TE} {t:TA}
theorem run_fn {pins:List (Addr × Obj)} {σ:St} {H:Hp} {s:Shared} {Q:VK} {us:List Value} {vs:List V} (F:FnOk X.prog X.w X.K X.mg X.base CX k f fd ps sp) (hr:Room k X.A) (hb:Binds X.K fd ps ds) (hd:Vals dvs ds) (hx:Passes CX X E)
  (I:Inv X pins σ H s) (r:Vals vs us) (h:sp (vs ++ dvs) H Q E):wpAny (model X.prog X.w) X.A (call (.ref f) us) (EP X pins σ Q) X.xe s:=by
 have r2:Vals (vs ++ dvs) (us ++ ds):=r.append hd
 have hl:(us ++ ds).length=ps.length:=by rw [← r2.length]; exact F.len _ _ _ _ h
 refine wpAny_call (codeAny_mono (F.run X.A X.stack s H ⟨us,[]⟩ (us ++ ds) (vs ++ dvs) Q E hr I.env0 (hb s us I.kIn hl) r2 h) fun r s' hq=>?_)
 cases r with
 | error e=>exact hx pins σ H s e s' I hq
 | ok fl=>
  cases fl with
  | ret u=>exact I.after hq
  | next=>exact False.elim hq
  | brk=>exact False.elim hq
  | cont=>exact False.elim hq
theorem pe_call (F:FnOk X.prog X.w X.K X.mg X.base CX k f fd ps sp) (hr:Room k X.A) (hg:Gl X x) (hm:X.mg x=some (.ref f)) (hk:PySem.W.keepIn X.K (.ref f)=true) (hb:Binds X.K fd ps ds) (hd:Vals dvs ds) (hx:Passes CX X E)
  (ha:PA X (e :: es) t) (hdb:(x==("__debug__" : Str))=false:=by decide) (he:starEach (e :: es) X.env=(false,eval e X.env) :: starEach es X.env:=by rfl) (hpl:(backTo pos (starEach es X.env)).any (·.1)=false:=by rfl) :
  PE X (.Call (.Name x p) (e :: es) [] pos) (tCall sp dvs E t):=by
 intro pins s σ H Q I h
 refine wpAny_Call_Name_kw (ld_glob I hg hm ?_ hdb)
 refine PySem.W.callWith_K (h₀:=X.base) I.ok.mod.kin hk (thn (ha pos pins s σ H _ I h) fun us s1 ⟨vs,H1,I1,r,q⟩=>⟨I1.kIn,?_⟩) he hpl
 exact run_fn F hr hb hd hx I1 r q
end
section
variable {X:Cx} {CX:CXT} {k:Nat} {f C:Addr} {fd:FuncData} {ps ks:List Str} {sp:Sp} {E:XK} {x m:Str} {p pos apos kpos:Pos} {e o:Expr} {es:List Expr} {kws:List Keyword} {te ta:TE} {t tk:TA} {nm:Option Str}
variable {g:List Value→List Value→List Value} {gV:List V→List V→List V}
end
structure FnScope (N P:List Str) (sc:Scope):Prop where
 kind:sc.kind=.function
 co:sc.isCoroutine=false
 gen:sc.isGenerator=false
 nd:N.Nodup
 pre:N.take P.length=P
 nl:("_law_lacking" : Str)∉P
 par:∀ x∈P,sc.names.lookup x=some .local∨sc.names.lookup x=some .cell
 nofree:∀ y∈sc.names,y.2≠.free
theorem bindL_out {kindOf:Str→Option NameKind} {x:Str}:∀ {binds:List (Str × Value)} {m:Str→Option Value},(∀ v,(x,v)∉binds)→bindL kindOf binds m x=m x
 | [],_,_=>rfl
 | (n,v) :: r,m,h=>by
  unfold bindL
  rw [bindL_out fun w hw=>h w (List.mem_cons_of_mem _ hw)]
  split
  ·have:x≠n:=by rintro rfl; exact h v List.mem_cons_self
   simp [this]
  ·rfl
theorem bindC_out {kindOf:Str→Option NameKind} {x:Str}:∀ {binds:List (Str × Value)} {m:Str→Option Value},(∀ v,(x,v)∉binds)→bindC kindOf binds m x=m x
 | [],_,_=>rfl
 | (n,v) :: r,m,h=>by
  unfold bindC
  rw [bindC_out fun w hw=>h w (List.mem_cons_of_mem _ hw)]
  split
  ·rfl
  ·have:x≠n:=by rintro rfl; exact h v List.mem_cons_self
   simp [this]
theorem bindL_get {kindOf:Str→Option NameKind} {x:Str} {v:Value}:∀ {P:List Str} {vs:List Value} {i:Nat} {m:Str→Option Value},P.Nodup→P[i]? = some x→vs[i]? = some v→kindOf x=some .local→
  bindL kindOf (P.zip vs) m x=some v
 | [],_,_,_,_,h,_,_=>by simp at h
 | _ :: _,[],_,_,_,_,h,_=>by simp at h
 | p :: P,w :: vs,0,m,nd,h1,h2,hk=>by
  simp at h1 h2; subst h1; subst h2
  show bindL kindOf ((p,w) :: P.zip vs) m p=_
  unfold bindL
  rw [bindL_out fun v hv=>(List.nodup_cons.mp nd).1 (List.of_mem_zip hv).1,if_pos hk]
  simp
 | p :: P,w :: vs,i+1,m,nd,h1,h2,hk=>by
  show bindL kindOf ((p,w) :: P.zip vs) m x=_
  unfold bindL
  exact bindL_get (i:=i) (List.nodup_cons.mp nd).2 (by simpa using h1) (by simpa using h2) hk
theorem bindC_get {kindOf:Str→Option NameKind} {x:Str} {v:Value}:∀ {P:List Str} {vs:List Value} {i:Nat} {m:Str→Option Value},P.Nodup→P[i]? = some x→vs[i]? = some v→kindOf x≠some .local→
  bindC kindOf (P.zip vs) m x=some v
 | [],_,_,_,_,h,_,_=>by simp at h
 | _ :: _,[],_,_,_,_,h,_=>by simp at h
 | p :: P,w :: vs,0,m,nd,h1,h2,hk=>by
  simp at h1 h2; subst h1; subst h2
  show bindC kindOf ((p,w) :: P.zip vs) m p=_
  unfold bindC
  rw [bindC_out fun v hv=>(List.nodup_cons.mp nd).1 (List.of_mem_zip hv).1,if_neg hk]
  simp
 | p :: P,w :: vs,i+1,m,nd,h1,h2,hk=>by
  show bindC kindOf ((p,w) :: P.zip vs) m x=_
  unfold bindC
  exact bindC_get (i:=i) (List.nodup_cons.mp nd).2 (by simpa using h1) (by simpa using h2) hk
def start (N:List Str) (vs:List V):St:=vs.map some ++ List.replicate (N.length - vs.length) none
def cxOf (CX:CXT) (P:Program) (w:World) (K:PySem.W.Frag) (mg:Str→Option Value) (base:Heap) (N:List Str) (qual:Str) (scope:Scope) (f:Addr) (cd:Value) (A:Around) (outer:List Env) (s:Shared) (H:Hp) (E:XK):Cx where
 prog:=P
 w:=w
 K:=K
 mg:=mg
 base:=base
 A:=A.deeper (envOfC qual scope s.heap.objs.size f cd)
 N:=N
 s₀:=s
 H₀:=H
 env:=envOfC qual scope s.heap.objs.size f cd
 outer:=outer
 stack:=envOfC qual scope s.heap.objs.size f cd :: outer
 ex:=[]
 calm:=true
 fn:=fun _=>true
 pn:=[]
 xe:=fun e s'=>wpAny (model P w) (A.deeper (envOfC qual scope s.heap.objs.size f cd)) (leaving (envOfC qual scope s.heap.objs.size f cd) e) (fun _ s''=>CX outer H s E e s'') (fun e' s''=>CX outer H s E e' s'') s'
theorem cell_has {sc:Scope} {n:Nat} {x:Str} (h:sc.names.lookup x=some .cell):∃ c,(cellsFrom n sc.names []).lookup x=some c:=by
 have q:=PySem.W.cellsFrom_some sc.names n [] (.inl h)
 exact Option.isSome_iff_exists.mp q
theorem inv_start {CX:CXT} {P:Program} {w:World} {K:PySem.W.Frag} {mg:Str→Option Value} {base:Heap} {N ps:List Str} {qual:Str} {scope:Scope} {f:Addr} {cd:Value} {A:Around} {outer:List Env} {s s1:Shared} {H:Hp} {E:XK} {us:List Value} {vs:List V}
  (S:FnScope N ps scope) (hd:A.handled=none) (e0:Env0 P w K mg base A outer s H) (hl:vs.length=ps.length) (r:Vals vs us)
  (x:InCallC s s.heap.objs.size (bindL (envOfC qual scope s.heap.objs.size f cd).kindOf (ps.zip us) fun _=>none) (cellsFrom (s.heap.objs.size+1) scope.names []) (bindC (envOfC qual scope s.heap.objs.size f cd).kindOf (ps.zip us) fun _=>none) s1) :
  Inv (cxOf CX P w K mg base N qual scope f cd A outer s H E) [] (start N vs) H s1:=by
 have hpl:ps.length≤N.length:=by have:=congrArg List.length S.pre; rw [List.length_take] at this; omega
 obtain ⟨h1,tk,rfl,hk⟩:=x.done
 have noA:∀ b:Addr,b∉(cxOf CX P w K mg base N qual scope f cd A outer s H E).ex:=fun b z=>absurd (show b∈([]:List Addr) from z) (by simp)
 refine ⟨⟨e0.mod,S.kind,rfl,rfl,Nat.le_refl _,fun y z c h1 h2=>?_,fun y hy=>?_,fun y c _ h=>?_,fun _=>hd,Around.frames_deeper e0.frames,.inr ⟨rfl,rfl⟩,fun b z=>absurd z (noA b),e0.bs,e0.bsz,fun b _ _=>noA b,fun b z=>absurd z (noA b),e0.funs,e0.frf⟩,
  rfl,e0.bare,Un.kept hk,⟨_,x.toInCall.ns,fun i y v h1 h2 h3=>?_⟩,fun y c h=>⟨_,x.cell y c h⟩,e0.hok.fresh (Nat.le_refl _),fun y c h=>?_,fun p hp=>absurd (show p∈([]:List (Addr × Obj)) from hp) (by simp),e0.hok.kept hk,?_⟩
 ·exact name_of_addr x.apart (PySem.mem_of_lookup h1) (PySem.mem_of_lookup h2)
 ·have hy:scope.names.lookup y=some .cell∨scope.names.lookup y=some .free:=hy
  rcases hy with hy | hy
  ·exact cell_has hy
  ·exact absurd rfl (S.nofree _ (PySem.mem_of_lookup hy))
 ·exact Nat.le_of_lt (x.above y c (PySem.mem_of_lookup h))
 ·have hi:i < vs.length:=by
   unfold start at h2
   by_cases hi:i < vs.length
   ·exact hi
   ·rw [List.getElem?_append_right (by simpa using hi)] at h2
    rw [List.getElem?_replicate] at h2
    split at h2 <;> cases h2
  have ha:vs[i]? = some v:=by
   unfold start at h2
   rw [List.getElem?_append_left (by simpa using hi),List.getElem?_map] at h2
   cases e:vs[i]? with
   | none=>rw [e] at h2; cases h2
   | some a=>rw [e] at h2; cases h2; rfl
  obtain ⟨u,hu,rv⟩:=r.get ha
  have hp:ps[i]? = some y:=by
   rw [← S.pre,List.getElem?_take_of_lt (by omega)]; exact h1
  have ndP:ps.Nodup:=by rw [← S.pre]; exact S.nd.sublist (List.take_sublist _ _)
  refine ⟨u,rv,?_,fun e=>absurd (e▸List.mem_of_getElem? hp) S.nl⟩
  rcases S.par y (List.mem_of_getElem? hp) with k | k
  ·exact .inl ⟨k,bindL_get ndP hp hu k⟩
  ·obtain ⟨c,e⟩:=cell_has (n:=s.heap.objs.size+1) k
   refine .inr ⟨.inl k,c,e,?_⟩
   have q:=x.cell y c e
   rw [bindC_get ndP hp hu (by show scope.names.lookup y≠_; rw [k]; decide)] at q
   exact q
 ·exact e0.hok.fresh (Nat.le_of_lt (x.above y c (PySem.mem_of_lookup h)))
 ·unfold start
  show _=N.length
  rw [List.length_append,List.length_map,List.length_replicate]
  omega
theorem fn_of {CX:CXT} {P:Program} {w:World} {K:PySem.W.Frag} {mg:Str→Option Value} {base:Heap} {k:Nat} {f:Addr} {name qual:Str} {params:Arguments} {body:List Stmt} {scope:Scope} {dV kV doc pm cdv ct oc:Value} {an od:Option Addr}
  {osl:Array (Option Value)} {N ps:List Str} {sp:Sp} (lk:K.lookup f=some ⟨oc,od,.func (PySem.W.fnOf name qual params body scope dV kV doc pm an cdv ct),osl⟩) (hcd:PySem.W.codeIn K cdv qual=true) (S:FnScope N ps scope)
  (len:∀ vs H Q E,sp vs H Q E→vs.length=ps.length)
  (hbody:∀ (A:Around) (outer:List Env) (s:Shared) (H:Hp) (vs:List V) (Q:VK) (E:XK),Room k (A.deeper (envOfC qual scope s.heap.objs.size f cdv))→sp vs H Q E→
   ∃ t,PSs (cxOf CX P w K mg base N qual scope f cdv A outer s H E) body t∧t { nx:=fun _ H'=>Q .non H',rt:=Q } (start N vs) H) :
  FnOk P w K mg base CX (k+1) f (PySem.W.fnOf name qual params body scope dV kV doc pm an cdv ct) ps sp:=by
 refine ⟨len,fun A outer s H args us vs Q E hr e0 hb r hsp=>?_⟩
 have hl:=len _ _ _ _ hsp
 have KX:K.In s.heap:=e0.mod.kin.keeps fun b o e=>(e0.bs b o e).1
 have lim:s.heap.NoLimit:=e0.mod.nolimit.keeps fun b o e=>(e0.bs b o e).1
 have hkind:∀ y∈ps.zip us,scope.names.lookup y.1=some .local∨(scope.names.lookup y.1=some .cell∧((cellsFrom (s.heap.objs.size+1) scope.names []).lookup y.1).isSome=true):=fun ⟨n,v⟩ hy=>by
  rcases S.par n (List.of_mem_zip hy).1 with q | q
  ·exact .inl q
  ·exact .inr ⟨q,PySem.W.cellsFrom_some _ _ _ (.inl q)⟩
 refine codeAny_call_function hr.depth (KX _ _ lk) rfl S.co S.gen rfl (PySem.W.codeRec_of KX hcd) (hb _ _ _ _ ?_)
 refine wpAny_newFunctionEnv_cells S.kind hkind fun env he s1 x=>?_
 subst he
 refine ⟨lim.keeps x.toInCall.keep,codeAny_func ?_⟩
 obtain ⟨t,ht,hq⟩:=hbody A outer s H vs Q E (hr.deeper _) hsp
 have I:Inv (cxOf CX P w K mg base N qual scope f cdv A outer s H E) [] (start N vs) H s1:=inv_start S hr.hd e0 hl r x
 refine wpAny_mono (ht [] s1 (start N vs) H _ I hq) (fun fl s' hs=>?_) fun e s' hs=>hs
 have fin:∀ {σ':St} {H':Hp} {v:V} {u:Value},Inv (cxOf CX P w K mg base N qual scope f cdv A outer s H E) [] σ' H' s'→RelV v u→Q v H'→CE outer P w H s Q u s':=
  fun {σ' H' v u} J rv q=>⟨v,H',J.os,J.bare,J.base,J.hok,rv,q⟩
 cases fl with
 | ret u=>
  obtain ⟨v,σ',H',J,rv,q⟩:=hs
  exact fin J rv q
 | next=>
  obtain ⟨σ',H',J,q⟩:=hs
  exact fin (v:=V.non) (u:=Value.none) J rfl q
 | brk=>
  obtain ⟨_,_,_,q⟩:=hs
  exact False.elim q
 | cont=>
  obtain ⟨_,_,_,q⟩:=hs
  exact False.elim q
end L2
namespace L2
open PySem PySem.Spec PyProof.Rows
section
variable {X:Cx} {x:Str} {p pos:Pos} {e:Expr} {es:List Expr} {t:TA} {id T:String} {r:List V→Hp→VK→Prop}
def tCB (r:List V→Hp→VK→Prop) (t:TA):TE:=fun σ H Q=>t σ H fun vs H1=>r vs H1 Q
theorem pe_callB (hc:CallR X (.builtin id) r) (hg:Gl X x) (hm:X.mg x=none) (hv:bootBuiltins x=some (.builtin id)) (ha:PA X (e :: es) t) (hn:x≠"__name__":=by decide) (hdb:(x==("__debug__" : Str))=false:=by decide)
  (he:starEach (e :: es) X.env=(false,eval e X.env) :: starEach es X.env:=by rfl) (hpl:(backTo pos (starEach es X.env)).any (·.1)=false:=by rfl):PE X (.Call (.Name x p) (e :: es) [] pos) (tCB r t):=by
 intro pins s σ H Q I h
 refine wpAny_Call_Name_kw (ld_blt I hg hm hv ?_ hn hdb)
 exact PyProof.Rows.callWith_builtin1 (thn (ha pos pins s σ H _ I h) fun us s1 ⟨vs,H1,I1,r1,q1⟩=>hc pins s1 σ H1 vs us Q I1 r1 q1) he hpl
theorem pe_callTy (hc:CallR X (.type T) r) (hg:Gl X x) (hm:X.mg x=none) (hv:bootBuiltins x=some (.type T)) (ha:PA X (e :: es) t) (hn:x≠"__name__":=by decide) (hdb:(x==("__debug__" : Str))=false:=by decide)
  (he:starEach (e :: es) X.env=(false,eval e X.env) :: starEach es X.env:=by rfl) (hpl:(backTo pos (starEach es X.env)).any (·.1)=false:=by rfl):PE X (.Call (.Name x p) (e :: es) [] pos) (tCB r t):=by
 intro pins s σ H Q I h
 refine wpAny_Call_Name_kw (ld_blt I hg hm hv ?_ hn hdb)
 exact PyProof.Rows.callWith_type1 (thn (ha pos pins s σ H _ I h) fun us s1 ⟨vs,H1,I1,r1,q1⟩=>hc pins s1 σ H1 vs us Q I1 r1 q1) he hpl
end
end L2
namespace HT
open PySem PyProof.Rows
section
open PySem.SeqAt
open PySem.AutoSeq1 (wpAny_loadPart')
open PySem.MeetsSeq PySem.MeetsSeq2 PySem.MeetsSeq3
end
section
variable {prog:Program} {w:World} {A:Around} {E:Value→Shared→Prop} {s:Shared}
def sIx (n d:Nat):Option Int→Nat
 | none=>d
 | some v=>if v < 0 then (v+(n:Int)).toNat else min v.toNat n
theorem sIx_none (n d:Nat):sIx n d none=d:=rfl
theorem sIx_nat (n d k:Nat):sIx n d (some (k:Int))=min k n:=by
 show (if (k:Int) < 0 then ((k:Int)+(n:Int)).toNat else min (k:Int).toNat n)=min k n
 rw [if_neg (by omega),Int.toNat_natCast]
theorem sIx_le (n d:Nat) (hd:d≤n) (o:Option Int):sIx n d o≤n:=by
 cases o with
 | none=>exact hd
 | some v=>
  show (if v < 0 then (v+(n:Int)).toNat else min v.toNat n)≤n
  by_cases hv:v < 0
  ·rw [if_pos hv]; omega
  ·rw [if_neg hv]; exact Nat.min_le_right _ _
theorem clip_eq (v:Int) (n d:Nat):(if v < 0 then max (v+(n:Int)) 0 else min v (n:Int))=((sIx n d (some v):Nat):Int):=by
 show (if v < 0 then max (v+(n:Int)) 0 else min v (n:Int))=(((if v < 0 then (v+(n:Int)).toNat else min v.toNat n):Nat):Int)
 by_cases hv:v < 0
 ·simp only [if_pos hv]; omega
 ·simp only [if_neg hv]; omega
theorem adjust_gen (lo hi:Option Int) (n:Nat):Builtin.Slice.sliceAdjust lo hi 1 (n:Int)=(((sIx n 0 lo:Nat):Int),((sIx n n hi:Nat):Int)):=by
 have h1:¬ ((1:Int) < 0):=by omega
 unfold Builtin.Slice.sliceAdjust
 simp only [h1,if_false]
 refine Prod.ext ?_ ?_
 ·cases lo with
  | none=>rfl
  | some v=>exact clip_eq v n 0
 ·cases hi with
  | none=>rfl
  | some v=>exact clip_eq v n n
theorem places_gen (i j:Nat):Builtin.Slice.slicePlaces (i:Int) (j:Int) 1=j - i:=by
 unfold Builtin.Slice.slicePlaces
 have h1:(1:Int) > 0:=by omega
 simp only [h1,if_true,Int.ediv_one]
 split <;> omega
theorem slicePart_ {v:Value} {o:Option Int} {Q:Option Int→Shared→Prop} (p:IsPart v o) (h:Q o s):wpAny (model prog w) A (Builtin.Slice.slicePartIndex v) Q E s:=by
 cases p with
 | none=>exact slicePart_none h
 | int i t=>exact slicePart_int h
theorem sliceApplied_gen {sl:Addr} {vl vu:Value} {lo hi:Option Int} {n:Nat} {Q:Int × Int × Nat→Shared→Prop} (hs:s.heap.IsSliceOf sl vl vu .none) (pl:IsPart vl lo) (pu:IsPart vu hi)
  (h:Q (((sIx n 0 lo:Nat):Int),1,sIx n n hi - sIx n 0 lo) s):wpAny (model prog w) A (Builtin.Slice.sliceApplied (.ref sl) (pure (n:Int))) Q E s:=by
 obtain ⟨os,hos,hcs,hds⟩:=id hs
 unfold Builtin.Slice.sliceApplied Builtin.Slice.sliceFields
 refine wpAny_bind (wpAny_bind (wpAny_field hos hds (x:=vl) rfl (wpAny_bind (wpAny_field hos hds (x:=vu) rfl (wpAny_bind (wpAny_field hos hds (x:=.none) rfl (wpAny_pure ?_)))))))
 refine wpAny_bind (slicePart_none ?_)
 show wpAny _ _ (if ((1:Int)==0)=true then _ else _) _ _ s
 rw [if_neg (by decide)]
 refine wpAny_bind (slicePart_ pl (wpAny_bind (slicePart_ pu (wpAny_bind (wpAny_pure ?_)))))
 show wpAny _ _ (match Builtin.Slice.sliceAdjust lo hi 1 (n:Int) with | (lo,hi)=>pure (lo,(1:Int),Builtin.Slice.slicePlaces lo hi 1)) _ _ s
 rw [adjust_gen lo hi n]
 show wpAny _ _ (pure (((sIx n 0 lo:Nat):Int),(1:Int),Builtin.Slice.slicePlaces ((sIx n 0 lo:Nat):Int) ((sIx n n hi:Nat):Int) 1)) _ _ s
 rw [places_gen]
 exact wpAny_pure h
theorem pick_gen (xs:Array Value) (i k:Nat):((List.range k).filterMap fun (m:Nat)=>xs[((i:Int)+(m:Int) * 1).toNat]?).toArray=((xs.toList.drop i).take k).toArray:=by
 have e:(fun (m:Nat)=>xs[((i:Int)+(m:Int) * 1).toNat]?)=fun m=>xs[i+m]?:=by
  funext m
  have:((i:Int)+(m:Int) * 1).toNat=i+m:=by omega
  rw [this]
 rw [e]
 have:=pick_run xs i k
 rw [List.filterMap_map] at this
 have e2:((fun x=>xs[x]?) ∘ fun x=>i+x)=fun m=>xs[i+m]?:=rfl
 rw [e2] at this
 rw [this]
theorem getItem_tuple_cut {t sl:Addr} {items:Array Value} {vl vu:Value} {lo hi:Option Int} {Q:Value→Shared→Prop} (ht:IsTup s.heap t items) (hs:s.heap.IsSliceOf sl vl vu .none) (pl:IsPart vl lo) (pu:IsPart vu hi)
  (hw:¬ (sIx items.size 0 lo=0∧sIx items.size items.size hi=items.size))
  (h:Q (.ref s.heap.objs.size) { s with heap:=s.heap.push { cls:=.type "tuple",data:=.seq ((items.toList.drop (sIx items.size 0 lo)).take (sIx items.size items.size hi - sIx items.size 0 lo)).toArray } })
  (hsz:items.size≤sizeLine):wpAny (model prog w) A (getItem (.ref t) (.ref sl)) Q E s:=by
 have htake:sizeOk (.seq ((items.toList.drop (sIx items.size 0 lo)).take (sIx items.size items.size hi - sIx items.size 0 lo)).toArray):=by
  show ((items.toList.drop (sIx items.size 0 lo)).take (sIx items.size items.size hi - sIx items.size 0 lo)).toArray.size≤sizeLine
  rw [List.size_toArray,List.length_take,List.length_drop,Array.length_toList]
  omega
 have hj:sIx items.size items.size hi≤items.size:=sIx_le _ _ (Nat.le_refl _) hi
 obtain ⟨os,hos,hcs,hds⟩:=id hs
 have hTs:s.TypeIs (.ref sl) "slice":=⟨os,hos,hcs⟩
 unfold getItem
 try with_reducible refine wpAny_holding ?_
 first | refine wpAny_bind (wpAny_pure ?_) | skip
 refine wpAny_bind (wpAny_sequenceKey ht.typeIs (by decide) ?_)
 refine wpAny_bind (wpAny_callSpecial?_slot (name:=Str.ofString "__getitem__") ht.typeIs PyProof.Rows.slot_tuple_getitem
  (wpAny_call_entry PyProof.Rows.slot_tuple_getitem ht.typeIs entry_tuple_getitem ?_ (args_tuple_getitem _ _)))
 show wpAny _ _ (Builtin.Tuple.tupleItemsOf (.ref t) >>= _) _ _ s
 refine wpAny_bind (tupleItemsOf_ ht ?_)
 refine wpAny_bind (wpAny_typeOf hTs ?_)
 rw [if_pos (by decide)]
 refine wpAny_bind (sliceApplied_gen hs pl pu ?_)
 have hno:¬ ((((sIx items.size 0 lo:Nat):Int)==0 && (1:Int)==1 && (sIx items.size items.size hi - sIx items.size 0 lo)==items.size)=true):=by
  intro q
  rw [Bool.and_eq_true,Bool.and_eq_true] at q
  have q1:((sIx items.size 0 lo:Nat):Int)=0:=eq_of_beq q.1.1
  have q2:sIx items.size items.size hi - sIx items.size 0 lo=items.size:=eq_of_beq q.2
  exact hw ⟨by omega,by omega⟩
 show wpAny _ _ (if (((sIx items.size 0 lo:Nat):Int)==0 && (1:Int)==1 && (sIx items.size items.size hi - sIx items.size 0 lo)==items.size)=true then _ else _) _ _ s
 rw [if_neg hno,pick_gen]
 first
  | exact wpAny_bind (m:=Builtin.Tuple.tupleExact _) (wpAny_newObj_type (wpAny_pure ⟨_,rfl,wpAny_pure h⟩) htake)
  | exact wpAny_bind (m:=Builtin.Tuple.tupleExact _) (wpAny_newObj_type (wpAny_bind (wpAny_pure (wpAny_pure ⟨_,rfl,wpAny_pure h⟩))) htake)
  | exact wpAny_bind (wpAny_bind (m:=Builtin.Tuple.tupleExact _) (wpAny_newObj_type (wpAny_pure (wpAny_pure ⟨_,rfl,wpAny_pure h⟩)) htake))
  | exact wpAny_bind (wpAny_bind (m:=Builtin.Tuple.tupleExact _) (wpAny_newObj_type (wpAny_pure ⟨_,rfl,wpAny_pure h⟩) htake))
end
end HT
namespace L2
open PySem PySem.Spec PyProof.Rows
abbrev TO:=St→Hp→(Option Int→Hp→Prop)→Prop
def PO (X:Cx) (e:Option Expr) (t:TO):Prop:=
 ∀ (pins:List (Addr × Obj)) (s:Shared) (σ:St) (H:Hp) (Q:Option Int→Hp→Prop),Inv X pins σ H s→t σ H Q→
  wpAny (model X.prog X.w) X.A (evalPart e X.env) (fun u s'=>∃ o H',Inv X pins σ H' s'∧IsPart u o∧Q o H') X.xe s
def tNoPart:TO:=fun _ H Q=>Q none H
inductive tPartI (Q:Option Int→Hp→Prop) (x:V) (H1:Hp):Prop
 | mk (i:_) (h1:x=.int i) (h2:Q (some i) H1):tPartI Q x H1
def tPart (t:TE):TO:=fun σ H Q=>t σ H fun x H1=>tPartI Q x H1
theorem intsAre_of {ns:List Int}:∀ {us:List Value},Vals (ns.map V.int) us→IntsAre us ns:=by
 induction ns with
 | nil=>intro us r; rw [List.map_nil] at r; cases r; exact .nil
 | cons n ns ih=>
  intro us r
  rw [List.map_cons] at r
  cases r with
  | cons r1 r2=>
   obtain ⟨t,e⟩:=r1
   subst e
   exact .cons n t (ih r2)
section
variable {X:Cx} {e:Expr} {te:TE} {lo hi:Option Expr} {tl th:TO} {pos p2:Pos}
theorem po_none:PO X none tNoPart:=by
 intro pins s σ H Q I h
 rw [evalPart_none]
 exact wpAny_pure ⟨none,H,I,.none,h⟩
theorem po_some (h:PE X e te):PO X (some e) (tPart te):=by
 intro pins s σ H Q I hw
 rw [evalPart_some]
 refine thn (h pins s σ H _ I hw) fun u s1 ⟨x,H1,I1,r1,q1⟩=>?_
 obtain ⟨i,rfl,q⟩:=q1
 obtain ⟨t,rfl⟩:=r1
 exact ⟨some i,H1,I1,.int i t,q⟩
def SlR (X:Cx) (r:V→Option Int→Option Int→Hp→VK→Prop):Prop:=
 ∀ (pins:List (Addr × Obj)) (s:Shared) (σ:St) (H:Hp) (x:V) (v vl vu:Value) (lo hi:Option Int) (sl:Addr) (Q:VK),Inv X pins σ H s→RelV x v→s.heap.IsSliceOf sl vl vu .none→IsPart vl lo→IsPart vu hi→r x lo hi H Q→
  ∃ T id,typeLookup (.type T) "__getitem__" = pure (some (.builtin id))∧s.TypeIs v T∧wpAny (model X.prog X.w) X.A (getItem v (.ref sl)) (EP X pins σ Q) X.xe s
def tSl (r:V→Option Int→Option Int→Hp→VK→Prop) (te:TE) (tl th:TO):TE:=fun σ H Q=>te σ H fun x H1=>tl σ H1 fun l H2=>th σ H2 fun u H3=>r x l u H3 Q
theorem pe_slice {r:V→Option Int→Option Int→Hp→VK→Prop} (hr:SlR X r) (he:PE X e te) (hl:PO X lo tl) (hu:PO X hi th):PE X (.Subscript e (.Slice lo hi none p2) pos) (tSl r te tl th):=by
 intro pins s σ H Q I h
 refine Subscript_ (thn (he pins s σ H _ I h) fun v s1 ⟨x,H1,I1,r1,q1⟩=>?_)
 refine wpAny_Slice (thn (hl pins s1 σ H1 _ I1 q1) fun vl s2 ⟨l,H2,I2,pl,q2⟩=>thn (hu pins s2 σ H2 _ I2 q2) fun vu s3 ⟨u,H3,I3,pu,q3⟩=>?_)
 rw [evalPart_none]
 refine wpAny_pure ?_
 have I4:Inv X pins σ H3 { s3 with heap:=s3.heap.push { cls:=.type "slice",data:=.fields #[vl,vu,.none] } }:=I3.kept (t':=s3.toks) fun b ob q=>Heap.get?_push_of_some _ q
 obtain ⟨T,id,hT,ht,hg⟩:=hr pins { s3 with heap:=s3.heap.push { cls:=.type "slice",data:=.fields #[vl,vu,.none] } } σ H3 x v vl vu l u s3.heap.objs.size Q I4 r1 (Heap.IsSliceOf.new ..) pl pu q3
 show wpAny (model X.prog X.w) X.A (subscriptTail e (.Slice lo hi none p2) v (.ref s3.heap.objs.size)) (EP X pins σ Q) X.xe { s3 with heap:=s3.heap.push { cls:=.type "slice",data:=.fields #[vl,vu,.none] } }
 exact tail_any (ops:=[.ref s3.heap.objs.size,v]) ht hT hg (by with_unfolding_all rfl)
def cutV (xs:List V) (lo hi:Option Int):List V:=(xs.drop (HT.sIx xs.length 0 lo)).take (HT.sIx xs.length xs.length hi - HT.sIx xs.length 0 lo)
theorem cutV_length (xs:List V) (lo hi:Option Int):(cutV xs lo hi).length≤xs.length:=by
 unfold cutV
 rw [List.length_take,List.length_drop]
 omega
inductive rSlTI (K:PySem.W.Frag) (x:V) (lo:Option Int) (hi:Option Int) (H:Hp) (Q:VK):Prop
 | mk (a xs:_) (h1:x=.ref a) (h2:SqT K H a xs) (h3:¬ (HT.sIx xs.length 0 lo=0∧HT.sIx xs.length xs.length hi=xs.length)) (h4:∀ p,H p=none→Q (.ref p) (upd H p (.tup (cutV xs lo hi)))):rSlTI K x lo hi H Q
def rSlT (K:PySem.W.Frag):V→Option Int→Option Int→Hp→VK→Prop:=fun x lo hi H Q=>rSlTI K x lo hi H Q
theorem sl_tup:SlR X (rSlT X.K):=by
 intro pins s σ H x v vl vu lo hi sl Q I rx hs pl pu h
 obtain ⟨a,xs,rfl,hx,hw,q⟩:=h
 cases rx
 obtain ⟨its,r,ht,hz⟩:=I.tuple hx
 have hlen:its.toArray.size=xs.length:=by rw [List.size_toArray]; exact r.length.symm
 refine ⟨"tuple",_,PyProof.Rows.slot_tuple_getitem.lookup,ht.typeIs,?_⟩
 refine HT.getItem_tuple_cut ht hs pl pu (by rw [hlen]; exact hw) ?_ (by rw [hlen]; exact hz)
 rw [hlen]
 refine ⟨.ref s.heap.objs.size,_,I.laid (t':=s.toks) (o:=.tup (cutV xs lo hi)) (fun b ob q=>Heap.get?_push_of_some _ q) (Nat.le_refl _) ?_,rfl,q _ (I.hok.fresh (Nat.le_refl _))⟩
 exact ⟨Nat.le_trans (cutV_length xs lo hi) hz,_,(r.drop (HT.sIx xs.length 0 lo)).take (HT.sIx xs.length xs.length hi - HT.sIx xs.length 0 lo),IsTup.new _ _⟩
end
end L2
namespace L2
open PySem PySem.Spec PyProof.Rows
def ixN (n:Nat) (i:Int):Option Nat:=if 0≤i then (if i < n then some i.toNat else none) else if -(n:Int)≤i then some (i+n).toNat else none
def atI {α:Type} (xs:List α) (i:Int):Option α:=(ixN xs.length i).bind fun j=>xs[j]?
theorem ixN_seq {n:Nat} {i:Int} {j:Nat} (h:ixN n i=some j):seqIndex? i n=some j∧j < n∧-(n:Int)≤i∧i < n:=by
 unfold ixN at h
 by_cases h0:0≤i
 ·rw [if_pos h0] at h
  by_cases h1:i < n
  ·rw [if_pos h1] at h
   have e:i.toNat=j:=Option.some.inj h
   exact ⟨by rw [seqIndex_of h0 h1,e],by omega,by omega,h1⟩
  ·rw [if_neg h1] at h; cases h
 ·rw [if_neg h0] at h
  by_cases h1 : -(n:Int)≤i
  ·rw [if_pos h1] at h
   have e:(i+n).toNat=j:=Option.some.inj h
   exact ⟨by rw [seqIndex_neg (by omega) h1,e],by omega,h1,by omega⟩
  ·rw [if_neg h1] at h; cases h
theorem atI_get {α:Type} {xs:List α} {i:Int} {v:α} (h:atI xs i=some v):∃ j,seqIndex? i xs.length=some j∧xs[j]? = some v∧j < xs.length∧-(xs.length:Int)≤i∧i < xs.length:=by
 unfold atI at h
 cases e:ixN xs.length i with
 | none=>rw [e] at h; cases h
 | some j=>
  rw [e] at h
  obtain ⟨h1,h2,h3,h4⟩:=ixN_seq e
  exact ⟨j,h1,h,h2,h3,h4⟩
theorem atI_nat {α:Type} {xs:List α} {j:Nat} {v:α} (h:xs[j]? = some v):atI xs (j:Int)=some v:=by
 have hj:j < xs.length:=(List.getElem?_eq_some_iff.mp h).1
 have e:ixN xs.length (j:Int)=some j:=by
  unfold ixN
  rw [if_pos (by omega),if_pos (by omega)]; simp
 unfold atI; rw [e]; exact h
theorem atI_last {α:Type} (xs:List α) (v:α):atI (xs ++ [v]) (-1)=some v:=by
 have hl:(xs ++ [v]).length=xs.length+1:=by simp
 have e:ixN (xs ++ [v]).length (-1)=some xs.length:=by
  unfold ixN
  rw [hl,if_neg (by decide),if_pos (by omega)]
  congr 1
  omega
 unfold atI
 rw [e]
 show (xs ++ [v])[xs.length]? = some v
 simp
def PlainIx (b:Expr):Prop:=∀ o i,subscripted b false o i=operate [o,i] (getItem o i)
def IxR (X:Cx) (r:R2):Prop:=
 ∀ (value slice:Expr) (pins:List (Addr × Obj)) (s:Shared) (σ:St) (H:Hp) (x y:V) (v u:Value) (Q:VK),Inv X pins σ H s→RelV x v→RelV y u→r x y H Q→
  subscripted slice false v u=operate [v,u] (getItem v u)→wpAny (model X.prog X.w) X.A (subscriptTail value slice v u) (EP X pins σ Q) X.xe s
def MtR (X:Cx) (id:String) (r:V→List V→Hp→VK→Prop):Prop:=
 ∀ (pins:List (Addr × Obj)) (s:Shared) (σ:St) (H:Hp) (x:V) (xs:List V) (v:Value) (us:List Value) (Q:VK),Inv X pins σ H s→RelV x v→Vals xs us→r x xs H Q→
  wpAny (model X.prog X.w) X.A (call (.builtin id) (v :: us)) (EP X pins σ Q) X.xe s
section
variable {X:Cx} {a b:Expr} {ta tb:TE} {pos:Pos}
theorem pe_ix {r:R2} (hr:IxR X r) (ha:PE X a ta) (hb:PE X b tb) (hs:PlainIx b):PE X (.Subscript a b pos) (tOp r ta tb):=by
 intro pins s σ H Q I h
 exact Subscript_ (binT ha hb I h fun v u s2 x y H2 I2 rx ry q=>hr a b pins s2 σ H2 x y v u Q I2 rx ry q (hs _ _))
inductive rIxLI (K:PySem.W.Frag) (x:V) (y:V) (H:Hp) (Q:VK):Prop
 | mk (p xs i v:_) (h1:x=.ref p) (h2:y=.int i) (h3:SqL K H p xs) (h4:atI xs i=some v) (h5:Q v H):rIxLI K x y H Q
def rIxL (K:PySem.W.Frag):R2:=fun x y H Q=>rIxLI K x y H Q
inductive rIxTI (K:PySem.W.Frag) (x:V) (y:V) (H:Hp) (Q:VK):Prop
 | mk (p xs i v:_) (h1:x=.ref p) (h2:y=.int i) (h3:SqT K H p xs) (h4:atI xs i=some v) (h5:Q v H):rIxTI K x y H Q
def rIxT (K:PySem.W.Frag):R2:=fun x y H Q=>rIxTI K x y H Q
inductive rIxSI (x:V) (y:V) (H:Hp) (Q:VK):Prop
 | mk (z i c:_) (h1:x=.str z) (h2:y=.int i) (h3:z.length≤sizeLine) (h4:atI z.cps.toList i=some c) (h5:Q (.str ⟨#[c]⟩) H):rIxSI x y H Q
def rIxS:R2:=fun x y H Q=>rIxSI x y H Q
theorem ix_list:IxR X (rIxL X.K):=by
 intro value slice pins s σ H x y v u Q I rx ry h hs
 obtain ⟨p,xs,i,z,rfl,rfl,hq,he,q⟩:=h
 cases rx
 obtain ⟨t,rfl⟩:=ry
 obtain ⟨its,r,pl,hz⟩:=I.list hq
 obtain ⟨j,h1,h2,h3,h4,h5⟩:=atI_get he
 obtain ⟨w,ew,rw'⟩:=r.get h2
 have hl:=r.length
 have hn:=line63
 have fin:EP X pins σ Q w s:=⟨z,H,I,rw',q⟩
 by_cases h0:0≤i
 ·have hj:i.toNat=j:=by
   rw [seqIndex_of h0 h5] at h1
   exact Option.some.inj h1
  exact item_listR pl.isList h0 (by omega) (by rw [hj]; simpa using ew) fin hs
 ·have hj:(i+(its.toArray.size:Int)).toNat=j:=by
   rw [seqIndex_neg (by omega) h4] at h1
   rw [List.size_toArray,← hl]
   exact Option.some.inj h1
  exact subscriptTail_builtinR (x:=w) pl.isList.typeIs slot_list_getitem.lookup
   (wpAny_getItem_list_neg (Q:=fun r s'=>r=w∧EP X pins σ Q r s') pl.isList (by omega) (by rw [List.size_toArray] <;> omega) (by omega) (by rw [hj]; simpa using ew) ⟨rfl,fin⟩) hs
theorem ix_tup:IxR X (rIxT X.K):=by
 intro value slice pins s σ H x y v u Q I rx ry h hs
 obtain ⟨p,xs,i,z,rfl,rfl,hq,he,q⟩:=h
 cases rx
 obtain ⟨t,rfl⟩:=ry
 obtain ⟨its,r,pl,hz⟩:=I.tuple hq
 obtain ⟨j,h1,h2,h3,h4,h5⟩:=atI_get he
 obtain ⟨w,ew,rw'⟩:=r.get h2
 have hl:=r.length
 have hn:=line63
 have fin:EP X pins σ Q w s:=⟨z,H,I,rw',q⟩
 exact subscriptTail_builtinR (x:=w) pl.typeIs slot_tuple_getitem.lookup
  (getItem_tuple (j:=j) (Q:=fun r s'=>r=w∧EP X pins σ Q r s') pl (by omega) (by omega) (by rw [List.size_toArray,← hl]; exact h1) (by simpa using ew) ⟨rfl,fin⟩) hs
theorem ix_str:IxR X rIxS:=by
 intro value slice pins s σ H x y v u Q I rx ry h hs
 obtain ⟨z,i,c,rfl,rfl,hz,he,q⟩:=h
 obtain ⟨t,rfl⟩:=rx
 obtain ⟨t',rfl⟩:=ry
 obtain ⟨j,h1,h2,h3,h4,h5⟩:=atI_get he
 have hl:z.cps.toList.length=z.length:=by simp [Str.length]
 rw [hl] at h1 h4 h5
 have hn:=line63
 exact tail_any (typeIs_str s z t) slot_str_getitem.lookup (getItem_str (c:=c) (by
  have e1:decide (i < -(2 ^ 63:Int))=false:=decide_eq_false (by omega)
  have e2:decide (i ≥ 2 ^ 63)=false:=decide_eq_false (by omega)
  rw [e1,e2,Bool.or_false]) (by rw [h1]; simpa using h2) ⟨.str ⟨#[c]⟩,H,I.tok _,⟨_,rfl⟩,q⟩) hs
theorem mapSeq_set (its:List Value) (n j:Nat) (u:Value):Obj.mapSeq (·.setIfInBounds j u) { cls:=.type "list",data:=.seq its.toArray n } = { cls:=.type "list",data:=.seq (its.set j u).toArray n }:=by
 simp [Obj.mapSeq]
theorem Inv.lst {pins:List (Addr × Obj)} {σ:St} {H:Hp} {s:Shared} {p:Addr} {xs:List V} (I:Inv X pins σ H s) (h:H p=some (.lst xs)) :
  ∃ (its:List Value) (n:Nat),Vals xs its∧s.heap.get? p=some { cls:=.type "list",data:=.seq its.toArray n }∧xs.length≤sizeLine:=by
 obtain ⟨z,its,n,r,e⟩:=I.hok p _ h
 exact ⟨its,n,r,e,z⟩
theorem Inv.lstUpd {pins:List (Addr × Obj)} {σ:St} {H:Hp} {s:Shared} {p:Addr} {xs ys:List V} {its its':List Value} {n n':Nat} {f:Obj→Obj} (I:Inv X pins σ H s) (h:H p=some (.lst xs))
  (ho:s.heap.get? p=some { cls:=.type "list",data:=.seq its.toArray n }) (hf:f { cls:=.type "list",data:=.seq its.toArray n } = { cls:=.type "list",data:=.seq its'.toArray n' }) (r:Vals ys its') (hz:ys.length≤sizeLine) (t:Nat) :
  Inv X pins σ (upd H p (.lst ys)) { s with heap:=s.heap.update p f,toks:=t }:=by
 have e:(s.heap.update p f).get? p=some { cls:=.type "list",data:=.seq its'.toArray n' }:=by
  rw [Heap.get?_update_self f ho (by rw [hf] <;> rfl),hf]
 refine I.write (x:=p) (e:=p) (by rw [h]; trivial) (.inl rfl) (fun b u hb q=>(Heap.get?_update_other _ _ (Ne.symm hb)).trans q) ⟨_,e⟩ ?_
 exact ⟨hz,its',n',r,e⟩
inductive rSetLI (o:V) (i:V) (v:V) (H:Hp) (Q:(Hp→Prop)):Prop
 | mk (p xs k j:_) (h1:o=.ref p) (h2:i=.int k) (h3:H p=some (.lst xs)) (h4:ixN xs.length k=some j) (h5:Q (upd H p (.lst (xs.set j v)))):rSetLI o i v H Q
def rSetL:V→V→V→Hp→(Hp→Prop)→Prop:=fun o i v H Q=>rSetLI o i v H Q
theorem set_list:PSet X rSetL:=by
 intro pins s σ H o i v ov iv u Q I ro ri rv h
 obtain ⟨p,xs,k,j,rfl,rfl,hp,hj,q⟩:=h
 cases ro
 obtain ⟨t,rfl⟩:=ri
 obtain ⟨its,n,r,ho,hz⟩:=I.lst hp
 obtain ⟨h1,h2,h3,h4⟩:=ixN_seq hj
 have hl:=r.length
 have hn:=line63
 have I':Inv X pins σ (upd H p (.lst (xs.set j v))) { s with heap:=s.heap.update p (Obj.mapSeq (·.setIfInBounds j u)) }:=
  I.lstUpd hp ho (mapSeq_set its n j u) (r.set rv j) (by rw [List.length_set]; exact hz) s.toks
 by_cases h0:0≤k
 ·have hk:k.toNat=j:=by
   rw [seqIndex_of h0 h4] at h1
   exact Option.some.inj h1
  exact PySem.W.ki_setAt ho h0 (by omega) (by rw [List.size_toArray,← hl]; exact h4) (by rw [hk]; exact ⟨_,I',q⟩)
 ·have hk:(k+(its.toArray.size:Int)).toNat=j:=by
   rw [seqIndex_neg (by omega) h3] at h1
   rw [List.size_toArray,← hl]
   exact Option.some.inj h1
  exact PySem.W.ki_setBack ho (by omega) (by rw [List.size_toArray,← hl]; exact h3) (by omega) (by rw [hk]; exact ⟨_,I',q⟩)
theorem slice_bounds (lo hi:Option Int) (n:Nat):(sliceBounds lo hi none n).1=((HT.sIx n 0 lo:Nat):Int)∧(sliceBounds lo hi none n).2.1=((HT.sIx n n hi:Nat):Int)∧(sliceBounds lo hi none n).2.2=1:=by
 refine ⟨?_,?_,rfl⟩
 ·cases lo with
  | none=>simp [sliceBounds,HT.sIx]
  | some i=>
   simp only [sliceBounds,HT.sIx,Option.getD_none,show (1:Int) > 0 by decide,if_true]
   by_cases h:i < 0
   ·simp only [h,if_true] <;> omega
   ·simp only [h,if_false] <;> omega
 ·cases hi with
  | none=>simp [sliceBounds,HT.sIx]
  | some i=>
   simp only [sliceBounds,HT.sIx,Option.getD_none,show (1:Int) > 0 by decide,if_true]
   by_cases h:i < 0
   ·simp only [h,if_true] <;> omega
   ·simp only [h,if_false] <;> omega
def flatV:V→Bool
 | .non=>true
 | .bl _=>true
 | .int _=>true
 | .str _=>true
 | _=>false
def eqV:V→V→Bool
 | .non,.non=>true
 | .bl a,.bl b=>a==b
 | .bl a,.int b=>(if a then 1 else 0)==b
 | .int a,.bl b=>a==(if b then 1 else 0)
 | .int a,.int b=>a==b
 | .str a,.str b=>a==b
 | _,_=>false
theorem eqAt_V {A:Around} {s:Shared} {y x:V} {u v:Value} (ry:RelV y u) (rx:RelV x v) (fy:flatV y=true) (fx:flatV x=true):SeqAt.EqAt A s u v (eqV y x):=by
 cases y with
 | non=>
  cases ry
  cases x with
  | non=>cases rx; exact SeqAt.EqAt.same _
  | bl b=>cases rx; exact SeqAt.EqAt.none_bool b
  | int b=>obtain ⟨t,rfl⟩:=rx; exact SeqAt.EqAt.none_int b t
  | str b=>obtain ⟨t,rfl⟩:=rx; exact SeqAt.EqAt.none_str b t
  | _=>exact absurd (show false=true from fx) Bool.false_ne_true
 | bl a=>
  cases ry
  cases x with
  | non=>cases rx; exact SeqAt.EqAt.bool_none a
  | bl b=>cases rx; exact SeqAt.EqAt.bool_bool a b
  | int b=>obtain ⟨t,rfl⟩:=rx; exact SeqAt.EqAt.bool_int a b t
  | str b=>obtain ⟨t,rfl⟩:=rx; exact SeqAt.EqAt.bool_str a b t
  | _=>exact absurd (show false=true from fx) Bool.false_ne_true
 | int a=>
  obtain ⟨t',rfl⟩:=ry
  cases x with
  | non=>cases rx; exact SeqAt.EqAt.int_none a t'
  | bl b=>cases rx; exact SeqAt.EqAt.int_bool a t' b
  | int b=>obtain ⟨t,rfl⟩:=rx; exact SeqAt.EqAt.int_int a t' b t
  | str b=>obtain ⟨t,rfl⟩:=rx; exact SeqAt.EqAt.int_str a t' b t
  | _=>exact absurd (show false=true from fx) Bool.false_ne_true
 | str a=>
  obtain ⟨t',rfl⟩:=ry
  cases x with
  | non=>cases rx; exact SeqAt.EqAt.str_none a t'
  | bl b=>cases rx; exact SeqAt.EqAt.str_bool a t' b
  | int b=>obtain ⟨t,rfl⟩:=rx; exact SeqAt.EqAt.str_int a t' b t
  | str b=>obtain ⟨t,rfl⟩:=rx; exact SeqAt.EqAt.str_str a t' b t
  | _=>exact absurd (show false=true from fx) Bool.false_ne_true
 | _=>exact absurd (show false=true from fy) Bool.false_ne_true
def eqU (x:V) (u:Value):Bool:=match u with
 | .none=>eqV .non x
 | .bool b=>eqV (.bl b) x
 | .int i _=>eqV (.int i) x
 | .str z _=>eqV (.str z) x
 | _=>false
theorem eqU_of {x y:V} {u:Value} (r:RelV y u) (f:flatV y=true):eqU x u=eqV y x:=by
 cases y with
 | non=>cases r; rfl
 | bl b=>cases r; rfl
 | int i=>obtain ⟨t,rfl⟩:=r; rfl
 | str z=>obtain ⟨t,rfl⟩:=r; rfl
 | _=>exact absurd (show false=true from f) Bool.false_ne_true
theorem any_eqU {x:V}:∀ {xs:List V} {us:List Value},Vals xs us→xs.all flatV=true→us.any (eqU x)=xs.any fun y=>eqV y x
 | _,_,.nil,_=>rfl
 | y :: xs,u :: us,.cons r t,f=>by
  rw [List.all_cons,Bool.and_eq_true] at f
  rw [List.any_cons,List.any_cons,eqU_of r f.1,any_eqU t f.2]
theorem mem_eqAt {A:Around} {s:Shared} {x:V} {v:Value} (rx:RelV x v) (fx:flatV x=true):∀ {xs:List V} {us:List Value},Vals xs us→xs.all flatV=true→∀ u∈us,SeqAt.EqAt A s u v (eqU x u)
 | _,_,.nil,_=>fun u hu=>by cases hu
 | y :: xs,u :: us,.cons r t,f=>fun u' hu=>by
  rw [List.all_cons,Bool.and_eq_true] at f
  rcases List.mem_cons.mp hu with rfl | hu
  ·rw [eqU_of r f.1]; exact eqAt_V r rx f.1 fx
  ·exact mem_eqAt rx fx t f.2 u' hu
def inV (x:V) (xs:List V):Bool:=xs.any fun y=>eqV y x
inductive rInI (K:PySem.W.Frag) (neg:Bool) (x:V) (y:V) (H:Hp) (Q:VK):Prop
 | mk (p xs:_) (h1:y=.ref p) (h2:(SqL K H p xs∨SqT K H p xs)) (h3:flatV x=true) (h4:xs.all flatV=true) (h5:Q (.bl (if neg then !inV x xs else inV x xs)) H):rInI K neg x y H Q
def rIn (K:PySem.W.Frag) (neg:Bool):R2:=fun x y H Q=>rInI K neg x y H Q
theorem op_in_seq:OpR X (compareOp .In) (rIn X.K false):=by
 intro pins s σ H x y v u Q I rx ry h
 obtain ⟨p,xs,rfl,hq,fx,fs,q⟩:=h
 cases ry
 rcases hq with hq | hq
 ·obtain ⟨its,r,pl,hz⟩:=I.list hq
  refine SeqAt.in_listAt (eqU x) pl.isList (fun w hw=>mem_eqAt rx fx r fs w (by simpa using hw)) ⟨.bl _,H,I,rfl,?_⟩
  rw [show its.toArray.any (eqU x)=its.any (eqU x) by simp,any_eqU r fs]
  exact q
 ·obtain ⟨its,r,pl,hz⟩:=I.tuple hq
  refine SeqAt.in_tupleAt (eqU x) pl (fun w hw=>mem_eqAt rx fx r fs w (by simpa using hw)) ⟨.bl _,H,I,rfl,?_⟩
  rw [show its.toArray.any (eqU x)=its.any (eqU x) by simp,any_eqU r fs]
  exact q
theorem call_len_seq:CallR X (.builtin "len") (fun xs H Q=>∃ p ys,xs=[.ref p]∧(SqL X.K H p ys∨SqT X.K H p ys)∧Q (.int ys.length) H):=by
 intro pins s σ H xs us Q I r h
 obtain ⟨p,ys,rfl,hq,q⟩:=h
 obtain ⟨u,rfl,rx⟩:=vals1 r
 cases rx
 have hn:=line63
 rcases hq with hq | hq
 ·obtain ⟨its,r',pl,hz⟩:=I.list hq
  have hlen:=r'.length
  exact Calls.call_len_list pl.isList (by simp only [List.size_toArray] <;> omega) ⟨.int ys.length,H,I.tok _,⟨s.toks+1,by rw [List.size_toArray,hlen]⟩,q⟩
 ·obtain ⟨its,r',pl,hz⟩:=I.tuple hq
  have hlen:=r'.length
  exact len_tuple pl (by simp only [List.size_toArray] <;> omega) ⟨.int ys.length,H,I.tok _,⟨s.toks+1,by rw [List.size_toArray,hlen]⟩,q⟩
theorem call_len_str:CallR X (.builtin "len") (fun xs H Q=>∃ z,xs=[.str z]∧z.length≤sizeLine∧Q (.int z.length) H):=by
 intro pins s σ H xs us Q I r h
 obtain ⟨z,rfl,hz,q⟩:=h
 obtain ⟨u,rfl,t,rfl⟩:=vals1 r
 have hn:=line63
 exact len_str (by omega) ⟨.int z.length,H,I.tok _,⟨_,rfl⟩,q⟩
theorem call_list_of:CallR X (.type "list") (fun xs H Q=>∃ p ys,xs=[.ref p]∧(SqL X.K H p ys∨SqT X.K H p ys)∧∀ l,H l=none→Q (.ref l) (upd H l (.lst ys))):=by
 intro pins s σ H xs us Q I r h
 obtain ⟨p,ys,rfl,hq,q⟩:=h
 obtain ⟨u,rfl,rx⟩:=vals1 r
 cases rx
 have fin:∀ (its:List Value),Vals ys its→ys.length≤sizeLine→∀ (h':Heap) (c':Nat),(∀ b o',s.heap.get? b=some o'→h'.get? b=some o')→
   h'.get? s.heap.objs.size=some { cls:=.type "list",dict:=none,data:=.seq its.toArray c',slots:=#[] }→EP X pins σ Q (.ref s.heap.objs.size) { s with heap:=h' }:=fun its r' hz h' c' kp e=>
  ⟨.ref s.heap.objs.size,_,I.laid (t':=s.toks) kp (Nat.le_refl _) (show ObjOk X.prog X.w _ h' _ (.lst ys) from ⟨hz,its,c',r',e⟩),rfl,q _ (I.hok.fresh (Nat.le_refl _))⟩
 rcases hq with hq | hq
 ·obtain ⟨its,r',pl,hz⟩:=I.list hq
  have hlen:=r'.length
  obtain ⟨o,ho,hc,n,hd⟩:=pl.isList
  exact call_list_seq p (.inl rfl) ho hc hd (fun h' c' kp e=>fin its r' hz h' c' kp e) (by simp only [List.size_toArray] <;> omega)
 ·obtain ⟨its,r',pl,hz⟩:=I.tuple hq
  have hlen:=r'.length
  obtain ⟨o,ho,hc,n,hd⟩:=pl
  exact call_list_seq p (.inr rfl) ho hc hd (fun h' c' kp e=>fin its r' hz h' c' kp e) (by simp only [List.size_toArray] <;> omega)
theorem call_tuple_of:CallR X (.type "tuple") (fun xs H Q=>∃ p ys,xs=[.ref p]∧((SqL X.K H p ys∧∀ l,H l=none→Q (.ref l) (upd H l (.tup ys)))∨(SqT X.K H p ys∧Q (.ref p) H))):=by
 intro pins s σ H xs us Q I r h
 obtain ⟨p,ys,rfl,h⟩:=h
 obtain ⟨u,rfl,rx⟩:=vals1 r
 cases rx
 rcases h with ⟨hq,q⟩ | ⟨hq,q⟩
 ·obtain ⟨its,r',pl,hz⟩:=I.list hq
  have hlen:=r'.length
  refine call_tuple_list pl.isList (fun h' kp=>?_) (by simp only [List.size_toArray] <;> omega)
  have I1:Inv X pins σ H { s with heap:=h' }:=I.kept (t':=s.toks) kp
  have I2:Inv X pins σ (upd H h'.objs.size (.tup ys)) { s with heap:=h'.push { cls:=.type "tuple",data:=.seq its.toArray } }:=
   I1.laid (t':=s.toks) (fun b o e=>Heap.get?_push_of_some _ e) (Nat.le_refl _) (show ObjOk X.prog X.w _ _ _ (.tup ys) from ⟨hz,its,r',IsTup.new _ _⟩)
  exact ⟨.ref h'.objs.size,_,I2,rfl,q _ (I1.hok.fresh (Nat.le_refl _))⟩
 ·obtain ⟨its,r',pl,hz⟩:=I.tuple hq
  exact call_tuple_same pl ⟨.ref p,H,I,rfl,q⟩
def tyV (K:PySem.W.Frag) (T:String) (x:V) (H:Hp):Prop:=match x with
 | .str _=>T = "str"
 | .int _=>T = "int"
 | .ref p=>(T = "list"∧∃ xs,SqL K H p xs)∨(T = "tuple"∧∃ o,K.lookup p=some o∧o.cls=.type "tuple"∧o.dict=none)∨
   (T = "dict"∧((∃ kvs,H p=some (.dK kvs))∨∃ kvs,H p=some (.dT kvs)))∨(T = "set"∧∃ S n,H p=some (.set S n))
 | _=>False
theorem tyV_is {pins:List (Addr × Obj)} {σ:St} {H:Hp} {s:Shared} {T:String} {x:V} {v:Value} (I:Inv X pins σ H s) (r:RelV x v) (ty:tyV X.K T x H) :
  s.TypeIs v T∧∀ a,v=.ref a→∃ ob,s.heap.get? a=some ob∧ob.dict=none:=by
 cases x with
 | str z=>
  obtain ⟨t,rfl⟩:=r
  cases (show T = "str" from ty)
  exact ⟨typeIs_str s z t,fun _ e=>nomatch e⟩
 | int i=>
  obtain ⟨t,rfl⟩:=r
  cases (show T = "int" from ty)
  exact ⟨typeIs_int s i t,fun _ e=>nomatch e⟩
 | ref p=>
  cases r
  rcases ty with ⟨rfl,xs,hq⟩ | ⟨rfl,o,hk,hc,hd⟩ | ⟨rfl,hk⟩ | ⟨rfl,S,n,hk⟩
  ·obtain ⟨its,_,pl,_⟩:=I.list hq
   refine ⟨pl.isList.typeIs,fun a e=>?_⟩
   cases e
   obtain ⟨o,n,e,c,hd,_⟩:=pl
   exact ⟨o,e,hd⟩
  ·refine ⟨⟨o,I.kIn p o hk,hc⟩,fun a e=>?_⟩
   cases e
   exact ⟨o,I.kIn _ o hk,hd⟩
  ·have z:∃ o,s.heap.get? p=some o∧o.ExactDict:=by
    rcases hk with ⟨kvs,hk⟩ | ⟨kvs,hk⟩
    ·obtain ⟨_,_,_,_,o,_,_,e,ex,_⟩:=I.hok p _ hk
     exact ⟨o,e,ex⟩
    ·obtain ⟨_,_,_,_,o,_,_,e,ex,_⟩:=I.hok p _ hk
     exact ⟨o,e,ex⟩
   obtain ⟨o,e,ex⟩:=z
   refine ⟨⟨o,e,ex.1⟩,fun a e2=>?_⟩
   cases e2
   exact ⟨o,e,ex.2.1⟩
  ·obtain ⟨o,_,_,_,e,ex,_⟩:=I.hok p _ hk
   refine ⟨⟨o,e,ex.1⟩,fun a e2=>?_⟩
   cases e2
   exact ⟨o,e,ex.2.1⟩
 | _=>exact False.elim ty
def tBM (K:PySem.W.Frag) (T:String) (r:V→List V→Hp→VK→Prop) (to:TE) (t:TA):TE:=fun σ H Q=>to σ H fun x H1=>tyV K T x H1∧t σ H1 fun xs H2=>r x xs H2 Q
variable {o e:Expr} {es:List Expr} {to:TE} {t:TA} {name:Str} {apos cpos:Pos} {T id:String} {r:V→List V→Hp→VK→Prop}
theorem pe_bm (pa:PlainAttrs T) (slot:Slot T name id) (hty:typeOf (.builtin id)=pure (.type "method_descriptor")) (hm:MtR X id r) (ho:PE X o to) (ha:PA X (e :: es) t)
  (hbase:attributeBase o name X.env (eval o X.env)=eval o X.env:=by rfl)
  (hfew:((backTo cpos (starEach (e :: es) X.env)).all (fun x=>!x.1) && (backToKw cpos (keywordEach [] X.env)).all (fun x=>x.1.isSome)
   && decide ((e :: es).length+([]:List Keyword).length+(if ([]:List Keyword).isEmpty then 0 else 1) < 30))=true:=by rfl)
  (hline:(apos.endLine==cpos.line)=true:=by rfl) (hs:starEach (e :: es) X.env=(false,eval e X.env) :: starEach es X.env:=by rfl) (hplain:(backTo cpos (starEach es X.env)).any (·.1)=false:=by rfl) :
  PE X (.Call (.Attribute o name apos) (e :: es) [] cpos) (tBM X.K T r to t):=by
 intro pins s σ H Q I h
 refine wpAny_Call_method_late hbase hfew hline rfl (thn (ho pins s σ H _ I h) fun v s1 ⟨x,H1,I1,r1,ty,q1⟩=>?_)
 obtain ⟨h1,h2⟩:=tyV_is I1 r1 ty
 refine ⟨T,id,pa,slot,hty,h1,h2,?_⟩
 have hA:=ha cpos pins s1 σ H1 _ I1 q1
 rw [hs] at hA ⊢
 refine Calls.callWith_builtin (by show (false || (backTo cpos (starEach es X.env)).any (·.1))=false; rw [hplain] <;> rfl) (Calls.evalArgs_plain ?_)
 exact thn hA fun us s2 ⟨vs,H2,I2,r2,q2⟩=>hm pins s2 σ H2 x vs v us Q I2 r1 r2 q2
end
end L2
namespace L2
open PySem PySem.Spec PyProof.Rows
def MtM (X:Cx) (id:String) (r:V→List V→Hp→VK→Prop):Prop:=
 ∀ (pins:List (Addr × Obj)) (s:Shared) (σ:St) (H:Hp) (x:V) (xs:List V) (v:Value) (us:List Value) (Q:VK),Inv X pins σ H s→RelV x v→Vals xs us→r x xs H Q→
  wpAny (model X.prog X.w) X.A (call (.builtin id) (v :: us)) (EP X pins σ Q) X.xe s
theorem Vals.one:∀ {x:V} {us:List Value},Vals [x] us→∃ u,us=[u]∧RelV x u
 | _,_,.cons r .nil=>⟨_,rfl,r⟩
theorem Vals.two:∀ {x y:V} {us:List Value},Vals [x,y] us→∃ u v,us=[u,v]∧RelV x u∧RelV y v
 | _,_,_,.cons r (.cons q .nil)=>⟨_,_,rfl,r,q⟩
theorem Vals.eraseIdx:∀ {xs:List V} {us:List Value} (i:Nat),Vals xs us→Vals (xs.eraseIdx i) (us.eraseIdx i)
 | _,_,_,.nil=>.nil
 | _,_,0,.cons _ t=>t
 | _,_,i+1,.cons r t=>.cons r (Vals.eraseIdx i t)
theorem len_erase {α:Type}:∀ (l:List α) (i:Nat),(l.eraseIdx i).length≤l.length
 | [],_=>Nat.le_refl _
 | _ :: _,0=>Nat.le_succ _
 | _ :: r,i+1=>Nat.succ_le_succ (len_erase r i)
section
variable {X:Cx} {pins:List (Addr × Obj)} {σ:St} {H:Hp} {s:Shared} {l b:Addr} {xs ys zs:List V}
theorem Inv.lset {its its':List Value} {n:Nat} {f:Array Value→Array Value} {t':Nat} (I:Inv X pins σ H s) (hH:H l=some (.lst xs))
  (e:s.heap.get? l=some { cls:=.type "list",data:=.seq its.toArray n }) (hf:f its.toArray=its'.toArray) (hv:Vals ys its') (hz:ys.length≤sizeLine) :
  Inv X pins σ (upd H l (.lst ys)) { s with heap:=s.heap.update l (Obj.mapSeq f),toks:=t' }:=by
 have q:=PySem.IsL.update e f
 rw [hf] at q
 refine I.write (x:=l) (e:=l) (by rw [hH]; exact trivial) (.inl rfl) (fun b' u hb hu=>(Heap.get?_update_other s.heap (Obj.mapSeq f) (Ne.symm hb)).trans hu) ⟨_,q⟩ ?_
 exact ⟨hz,its',_,hv,q⟩
theorem Inv.lstM (I:Inv X pins σ H s) (hH:H l=some (.lst xs)):xs.length≤sizeLine∧∃ (its:List Value) (n:Nat),Vals xs its∧xs.length=its.length∧s.heap.get? l=some { cls:=.type "list",data:=.seq its.toArray n }:=by
 obtain ⟨z,its,n,r,e⟩:=I.hok l _ hH
 exact ⟨z,its,n,r,r.length,e⟩
theorem notLongL {n:Nat} (h:n≤sizeLine):Builtin.List.listTooLong n=false:=by
 unfold Builtin.List.listTooLong
 exact decide_eq_false (by omega)
end
section
variable {X:Cx}
inductive rAppendI (x:V) (vs:List V) (H:Hp) (Q:VK):Prop
 | mk (l xs y:_) (h1:x=.ref l) (h2:vs=[y]) (h3:H l=some (.lst xs)) (h4:xs.length < sizeLine) (h5:Q .non (upd H l (.lst (xs ++ [y])))):rAppendI x vs H Q
def rAppend:V→List V→Hp→VK→Prop:=fun x vs H Q=>rAppendI x vs H Q
theorem mt_append:MtM X "list.append" rAppend:=by
 intro pins s σ H x vs v us Q I rx rv h
 obtain ⟨l,xs,y,rfl,rfl,hH,hz,q⟩:=h
 cases rx
 obtain ⟨u,rfl,ru⟩:=rv.one
 obtain ⟨z,its,n,r,hl,e⟩:=I.lstM hH
 refine call_meets F.slot_list_append ⟨_,e,rfl⟩ F.entry_list_append (F.args_list_append_2 _ _) (PySem.list_append l its.toArray n u (by rw [List.size_toArray]; omega)) ⟨e,?_⟩
 refine ⟨.non,_,I.lset (its':=its ++ [u]) hH e (by simp) (r.append (.cons ru .nil)) ?_,rfl,q⟩
 rw [List.length_append,List.length_singleton]
 omega
inductive rExtendI (x:V) (vs:List V) (H:Hp) (Q:VK):Prop
 | mk (l b xs zs:_) (h1:x=.ref l) (h2:vs=[.ref b]) (h3:H l=some (.lst xs)) (h4:H b=some (.lst zs)) (h5:xs.length+zs.length≤sizeLine) (h6:Q .non (upd H l (.lst (xs ++ zs)))):rExtendI x vs H Q
def rExtend:V→List V→Hp→VK→Prop:=fun x vs H Q=>rExtendI x vs H Q
theorem mt_extend:MtM X "list.extend" rExtend:=by
 intro pins s σ H x vs v us Q I rx rv h
 obtain ⟨l,b,xs,zs,rfl,rfl,hH,hB,hz,q⟩:=h
 cases rx
 obtain ⟨u,rfl,ru⟩:=rv.one
 cases ru
 obtain ⟨z,its,n,r,hl,e⟩:=I.lstM hH
 obtain ⟨z2,its2,n2,r2,hl2,e2⟩:=I.lstM hB
 have hsz:its.toArray.size+its2.toArray.size≤sizeLine:=by rw [List.size_toArray,List.size_toArray]; omega
 have hlong:¬ (!its.toArray.isEmpty && Builtin.List.listTooLong (its.toArray.size+its2.toArray.size))=true:=by
  rw [notLongL hsz,Bool.and_false]
  exact Bool.false_ne_true
 refine call_meets F.slot_list_extend ⟨_,e,rfl⟩ F.entry_list_extend (F.args_list_extend_2 _ _)
  (AutoSeq1.list_extend_list_list_0 l its.toArray n b its2.toArray n2 hlong (by rw [List.size_toArray]; omega) (by omega)) ⟨e,e2,?_⟩
 refine ⟨.non,_,I.lset (its':=its ++ its2) hH e (by simp) (r.append r2) ?_,rfl,q⟩
 rw [List.length_append]
 omega
inductive rPopAtI (x:V) (vs:List V) (H:Hp) (Q:VK):Prop
 | mk (l xs i k y:_) (h1:x=.ref l) (h2:vs=[.int i]) (h3:H l=some (.lst xs)) (h4 : -(2 ^ 63)≤i) (h5:i < 2 ^ 63) (h6:seqIndex? i xs.length=some k) (h7:xs[k]? = some y) (h8:Q y (upd H l (.lst (xs.eraseIdx k)))):rPopAtI x vs H Q
def rPopAt:V→List V→Hp→VK→Prop:=fun x vs H Q=>rPopAtI x vs H Q
theorem mt_popAt:MtM X "list.pop" rPopAt:=by
 intro pins s σ H x vs v us Q I rx rv h
 obtain ⟨l,xs,i,k,y,rfl,rfl,hH,h1,h2,hk,hy,q⟩:=h
 cases rx
 obtain ⟨u,rfl,ru⟩:=rv.one
 obtain ⟨t,rfl⟩:=ru
 obtain ⟨z,its,n,r,hl,e⟩:=I.lstM hH
 obtain ⟨w,hw,rw'⟩:=r.get hy
 refine call_meets F.slot_list_pop ⟨_,e,rfl⟩ F.entry_list_pop (F.args_list_pop_2 _ _)
  (MeetsSeq.list_pop_at l its.toArray n i t k w (fitsIndex_both h1 h2) (by rw [List.size_toArray,← hl]; exact hk) (by rw [← Array.getElem?_toList]; exact hw) (by rw [List.size_toArray]; omega)) ⟨e,?_⟩
 refine ⟨y,_,I.lset (its':=its.eraseIdx k) hH e ?_ (r.eraseIdx k) ?_,rw',q⟩
 ·show its.toArray.eraseIdxIfInBounds k=(its.eraseIdx k).toArray
  rw [List.eraseIdxIfInBounds_toArray]
 ·have:=len_erase xs k
  omega
theorem len_rep {α:Type} (xs:List α) (k:Nat):(List.replicate k xs).flatten.length=k * xs.length:=by
 induction k with
 | zero=>simp
 | succ k ih=>rw [List.replicate_succ,List.flatten_cons,List.length_append,ih,Nat.succ_mul,Nat.add_comm]
end
section
variable {prog:Program} {w:World} {A:Around} {E:Value→Shared→Prop} {s:Shared}
set_option maxRecDepth 100000 in
end
section
variable {X:Cx}
end
end L2
namespace Att
open PySem PySem.W PySem.Calls PyProof.Rows
theorem ints_of_wellAll {P:Params} {h:Heap}:∀ (ns:List Int) (vs:List Value),WellAll P h vs (ns.map WData.int)→IntsAre vs ns:=by
 intro ns
 induction ns with
 | nil=>
  intro vs w
  rw [List.map_nil] at w
  cases w
  exact .nil
 | cons n ns ih=>
  intro vs w
  rw [List.map_cons] at w
  cases w with
  | cons a b=>
   cases a
   exact .cons _ _ (ih _ b)
theorem script_of {l:OpenLaw} {n:Nat} (hn:l.most=some n) {P:Params} {h:Heap} {args:List WData} {vals:List Value}
  (hpre:l.row.toRowW.claim.pre args=true) (hwl:WellAll P h vals args) :
  ∃ a vs ns,vals=[Value.ref a]∧args=[WData.list (ns.map WData.int)]∧h.get? a=some { cls:=.type "list",data:=.seq vs.toArray }∧IntsAre vs ns∧ns.length≤n:=by
 have hsh:WShape.hasAll [] args [.list .int]=true:=(pre_splitW hpre).1
 have hc:l.pre.holds [] { args:=args } = true:=(pre_splitW hpre).2
 obtain ⟨d,r,rfl,h1,h2⟩:=hasAllW_cons hsh
 obtain rfl:=hasAllW_nil h2
 obtain ⟨xs,rfl,h3⟩:=hasW_list h1
 obtain ⟨ns,rfl⟩:=items_int h3
 have hlen:ns.length≤n:=by
  unfold OpenLaw.pre at hc
  have h4:(WTm.not (.lt (.lit (.int (n:Int))) (.len (.arg 0)))).holds [] { args:=[.list (ns.map .int)] } = true:=by
   have h4:=(holds_andW hc).1
   rw [hn] at h4
   exact h4
  have h5:=condW_of h4 (w_not (w_lt w_lit (w_len_list (w_arg rfl))))
  rw [List.length_map] at h5
  refine Nat.le_of_not_lt fun q=>?_
  have q':(n:Int) < ((ns.length:Nat):Int):=by omega
  first
   | (rw [decide_eq_true q'] at h5; exact absurd h5 (by decide))
   | (simp at h5; omega)
 cases hwl with
 | cons w1 w2=>
  cases w2
  cases w1 with
  | list ho hall=>exact ⟨_,_,ns,rfl,rfl,ho,ints_of_wellAll ns _ hall,hlen⟩
theorem post_true (l:OpenLaw) (args:List WData):l.row.toRowW.claim.post args (.bool true) args=true:=
 postW_of (r:=l.row.toRowW) (X:=(true==true))
  (show WShape.has [] (.bool true) .bool=true by first | rfl | decide | simp [WShape.has,WShape.arms,WShape.armsAll])
  (show (WTm.eq .res (.lit (.bool true))).value [] { args:=args,res:=some (.bool true),after:=args } = some (.bool (true==true)) from w_eq_bool (w_res rfl) w_lit) rfl
theorem attach_call {l:OpenLaw} {n:Nat} {q:Program} {loose:List Str} {XP:(Str→Option Value)→Heap→Prop} {YP:World→Heap→Prop} {d:DefRec}
  (hn:l.most=some n) (hdf:d.params.defaults=[])
  (call:∀ (w:World) (s₀ s₁:Shared) (mg mb:Str→Option Value) (fa:Addr) (o:Obj) (pm cd doc:Value) (a:Addr) (vs:List Value) (ns:List Int),
   Ground q loose [] XP w s₀ mg mb s₁.heap→YP w s₁.heap→
   s₁.heap.get? fa=some o→o.data=.func (docDef d.name d.params d.body d.scope pm cd doc)→s₁.heap.CodeRec cd d.name→mg d.name=some (.ref fa)→
   s₁.heap.get? a=some { cls:=.type "list",data:=.seq vs.toArray }→IntsAre vs ns→ns.length≤n→s₁.gens = #[]→
   codeAny (model l.prog w) callerA (.call (.ref fa) ⟨[.ref a],[]⟩) (fun r s'=>r=.ok (.ret (.bool true))∧OldK s₁.heap s'.heap∧s'.os=s₁.os∧AllBare s'.gens) s₁) :
  WalkO q loose XP YP l.row.toRowW d [] (fun f vs=>PySem.call f vs):=by
 intro w s₀ s₁ mg mb G Y fa o pm cd doc dV kV ho hd hcd hD hmg hg args vals as hpre hlay hrd hwl hlo
 obtain rfl:dV=.none:=Dflts.none hD hdf
 obtain rfl:kV=.none:=Dflts.noKw hD
 obtain ⟨a,vs,ns,rfl,rfl,hobj,hints,hlen⟩:=script_of hn hpre hwl
 refine enter_call (codeAny_mono (call w s₀ s₁ mg mb fa o pm cd doc a vs ns G Y ho (fd_plain hd) hcd hmg hobj hints hlen hg) fun r s' hq=>?_)
 obtain ⟨rfl,h2,h3,h4⟩:=hq
 exact ⟨.inl ⟨.bool true,.bool true,[],rfl,fun _=>rfl,.bool true,post_true l _,fun _=>⟨List.Pairwise.nil,fun _ hm=>(nomatch hm)⟩⟩,h2,h3,h4⟩
section
variable {prog:Program} {w:World} {A:Around} {E:Value→Shared→Prop} {s:Shared} {K:Frag}
def ledger (h:Heap) (L d:Addr):List (Addr × Obj):=(List.range h.objs.size).filterMap fun a=>if a=L∨a=d then none else (h.get? a).map fun o=>(a,o)
end
end Att
namespace L2
open PySem PySem.Spec PyProof.Rows
theorem vals_ints:∀ {vs:List Value} {ns:List Int},IntsAre vs ns→Vals (ns.map V.int) vs
 | _,_,.nil=>.nil
 | _,_,.cons n t h=>.cons ⟨t,rfl⟩ (vals_ints h)
def Only (H:Hp):Prop:=∀ b,H b=none∨∃ o xs,H b=some (.frz o (.lst xs))
theorem law_call {P:Program} {w:World} {K:PySem.W.Frag} {mg mb:Str→Option Value} {CX:CXT} {k:Nat} {fa a:Addr} {fd:FuncData} {x:Str} {sp:Sp} {s₁:Shared} {vs:List Value} {ns:List Int}
  (KX:K.In s₁.heap) (hns:s₁.heap.Ns mainGlobals mg) (hb:s₁.heap.Ns builtinsNs mb) (hbb:∀ x:Str,x≠"__name__"→mb x=bootBuiltins x) (hlim:s₁.heap.NoLimit) (hg:s₁.gens = #[])
  (ha:s₁.heap.get? a=some { cls:=.type "list",data:=.seq vs.toArray }) (hi:IntsAre vs ns) (hl:ns.length≤sizeLine) (hr:Room k callerA)
  (F:∀ base:Heap,K.In base→base.Ns mainGlobals mg→FnOk P w K mg base CX k fa fd [x] sp) (hbind:∀ (s:Shared) (u:Value),BindsTo s fd ⟨[u],[]⟩ [(x,u)])
  (hsp:∀ H:Hp,Only H→SqL K H a (ns.map V.int)→sp [.ref a] H (fun v _=>v=.bl true) fun _ _ _=>False)
  (hCX:∀ H e s',CX [] H s₁ (fun _ _ _=>False) e s'→False) :
  codeAny (model P w) callerA (.call (.ref fa) ⟨[.ref a],[]⟩) (fun r s'=>r=.ok (.ret (.bool true))∧OldK s₁.heap s'.heap∧s'.os=s₁.os∧AllBare s'.gens) s₁:=by
 have rv:=vals_ints hi
 have lenV:=hi.length
 have core:∀ H:Hp,Only H→SqL K H a (ns.map V.int)→HOk P w H s₁.heap→(∀ b,H b≠none→b=a)→(H a≠none→K.lookup a=none)→
   codeAny (model P w) callerA (.call (.ref fa) ⟨[.ref a],[]⟩) (fun r s'=>r=.ok (.ret (.bool true))∧OldK s₁.heap s'.heap∧s'.os=s₁.os∧AllBare s'.gens) s₁:=by
  intro H hO hS hok hA hK
  have base_of:∀ {b:Addr} {o:Obj},s₁.heap.get? b=some o→H b=none→(hidT s₁.heap H).get? b=some o:=fun e n=>hidT_get e n
  have noA:∀ {b:Addr} {o:Obj} {es:Array DictEntry} {ep:Nat},s₁.heap.get? b=some o→o.data=.dict es ep→H b=none:=fun {b o es ep} e d=>by
   cases q:H b with
   | none=>rfl
   | some u=>
    have e':b=a:=hA b (by rw [q]; simp)
    subst e'
    rw [ha] at e; cases e
    have d':Data.seq vs.toArray _=Data.dict es ep:=d
    cases d'
  have nsK:∀ {b:Addr} {m:Str→Option Value},s₁.heap.Ns b m→(hidT s₁.heap H).Ns b m:=fun {b m} ⟨o,es,ep,e,d,r⟩=>⟨o,es,ep,base_of e (noA e d),d,r⟩
  have hKb:K.In (hidT s₁.heap H):=fun b o e=>base_of (KX b o e) (by
   cases q:H b with
   | none=>rfl
   | some u=>
    have e':b=a:=hA b (by rw [q]; simp)
    subst e'
    rw [hK (by rw [q]; simp)] at e; cases e)
  have hM:Mod K mg (hidT s₁.heap H):=⟨hKb,nsK hns,⟨mb,nsK hb,hbb⟩,let ⟨mc,h1,h2⟩:=hlim; ⟨mc,nsK h1,h2⟩⟩
  have e0:Env0 P w K mg (hidT s₁.heap H) callerA [] s₁ H:=⟨rfl,hM,fun b o e=>of_hidT e,Nat.le_of_eq (hidT_size _ _),trivial,fun b hb=>absurd (show b∈([]:List Addr) from hb) (by simp),hok,.of_eq hg⟩
  refine codeAny_mono ((F _ hKb (nsK hns)).run callerA [] s₁ H ⟨[.ref a],[]⟩ [.ref a] [.ref a] _ _ hr e0 (hbind s₁ (.ref a)) (.cons rfl .nil) (hsp H hO hS)) fun r s' h=>?_
  cases r with
  | error e=>exact (hCX H e s' h).elim
  | ok fl=>
   cases fl with
   | next=>exact False.elim h
   | brk=>exact False.elim h
   | cont=>exact False.elim h
   | ret u=>
    obtain ⟨v,H',os,bare,un,hok',r',q⟩:=h
    have q':v=.bl true:=q
    subst q'
    obtain rfl:u=Value.bool true:=r'
    refine ⟨rfl,OldK.of_keep fun b o e=>?_,os,bare⟩
    cases q:H b with
    | none=>exact un.keep b o e q (by intro z; exact absurd (show b∈([]:List Addr) from z) (by simp)) (by simp)
    | some u=>
     rcases hO b with z | ⟨ob,xs,z⟩
     ·rw [q] at z; cases z
     ·have z2:=un.frzs b ob _ z
      obtain ⟨e1,_⟩:=hok b _ z
      obtain ⟨e2,_⟩:=hok' b _ z2
      rw [e] at e1; cases e1
      exact e2
 cases hk:K.lookup a with
 | some o=>
  have e:=KX a o hk
  rw [ha] at e
  cases e
  refine core (fun _=>none) (fun _=>.inl rfl) (.inr ⟨_,vs.toArray,_,hk,rfl,rfl,rfl,by rw [List.size_toArray,lenV]; exact hl,by simpa using rv⟩) (fun b u z=>by have z':(none:Option HO)=some u:=z; cases z') (fun b z=>absurd rfl z) fun z=>absurd rfl z
 | none=>
  refine core (fun b=>if b=a then some (.frz { cls:=.type "list",data:=.seq vs.toArray } (.lst (ns.map V.int))) else none) (fun b=>?_) (.inl (.inr ⟨{ cls:=.type "list",data:=.seq vs.toArray },if_pos rfl⟩)) (fun b u z=>?_) (fun b z=>?_) fun _=>hk
  ·by_cases hb:b=a
   ·exact .inr ⟨_,_,if_pos hb⟩
   ·exact .inl (if_neg hb)
  ·by_cases hb:b=a
   ·have z':=(if_pos hb).symm.trans z
    cases z'
    subst hb
    exact ⟨ha,by rw [List.length_map]; exact hl,vs,_,rv,ha⟩
   ·have z':=(if_neg hb).symm.trans z
    cases z'
  ·by_cases hb:b=a
   ·exact hb
   ·exact absurd (if_neg hb) z
end L2
namespace L2
open PySem PySem.Spec PyProof.Rows
abbrev KOf {K:PySem.W.Frag} {h:Heap} (_:K.In h):PySem.W.Frag:=K
theorem walk_of {l:PySem.W.OpenLaw} {n k:Nat} {q:Program} {loose:List Str} {XP:(Str→Option Value)→Heap→Prop} {YP:World→Heap→Prop} {d:DefRec} {K:Params→PySem.W.Frag} {CX:World→CXT} {sp:World→Sp} {x:Str}
  (hn:l.most=some n) (hn2:n≤sizeLine) (hdf:d.params.defaults=[]) (hr:Room k callerA)
  (hY:∀ (w:World) (h:Heap),YP w h→(K w.params).In h)
  (F:∀ (w:World) (mg:Str→Option Value) (fa:Addr) (h:Heap),(K w.params).In h→h.Ns mainGlobals mg→mg d.name=some (.ref fa)→
   ∃ fd:FuncData,(∀ (s:Shared) (u:Value),BindsTo s fd ⟨[u],[]⟩ [(x,u)])∧
    ∀ base:Heap,(K w.params).In base→base.Ns mainGlobals mg→FnOk l.prog w (K w.params) mg base (CX w) k fa fd [x] (sp w))
  (hsp:∀ (w:World) (H:Hp) (a:Addr) (ns:List Int),ns.length≤n→Only H→SqL (K w.params) H a (ns.map V.int)→sp w [.ref a] H (fun v _=>v=.bl true) fun _ _ _=>False)
  (hCX:∀ (w:World) (H:Hp) (s:Shared) (e:Value) (s':Shared),CX w [] H s (fun _ _ _=>False) e s'→False) :
  PySem.W.WalkO q loose XP YP l.row.toRowW d [] (fun f vs=>PySem.call f vs):=by
 refine Att.attach_call hn hdf fun w s₀ s₁ mg mb fa o pm cd doc a vs ns G Y ho hd hcd hmg hobj hints hlen hg=>?_
 have KX:=hY w _ Y
 obtain ⟨fd,hb,hF⟩:=F w mg fa _ KX G.T.g hmg
 exact law_call KX G.T.g G.T.b G.T.builtins G.T.nolimit hg hobj hints (Nat.le_trans hlen hn2) hr hF hb (fun H hO hS=>hsp w H a ns hlen hO hS) fun H e s'=>hCX w H s₁ e s'
end L2
/- THE LAST THEOREM (shape; LID,My.* are yours):
   My.Adr: a structure of the addresses that your layer names (classes,functions); My.Txt K t: a structure (Prop) of the equations over K;
   My.txt_mk:{K} {implicit addresses ..} (e1:nsIn K mainGlobals "law" = some (some (.ref f))) (e2:K.lookup f=some ⟨oc,od,.func (fnOf "law" "law" params body scope dV kV doc pm an cdv ct),sl⟩) (e3:codeIn K cdv "law" = true) .. : ∃ t,My.Txt K t
set_option maxRecDepth 100000 in
set_option maxHeartbeats 0 in
theorem PySem.Challenge.cw_LID_holds : PySem.Challenge.rw_LID.Holds := by
 w_on; o_law; k_head; (case hw=>w_witness2)
 k_fill
 refine L2.walk_of (l:=PySem.Challenge.rw_LID) (n:=63) (k:=40) (x:="script") (CX:=fun w=>..) (sp:=fun _=>My.sp_law) rfl (by decide) rfl ⟨rfl,by decide,by decide⟩ (fun w h Y=>PySem.W.kIn_of Y) ?F ?S ?C
 case F=>
  intro w mg fa h KX G hmg
  have T:∃ t,My.Txt (L2.KOf KX) t:=by
   dsimp only [L2.KOf]                          -- K must stand as «<heap const> w.params» for k_is
   refine' My.txt_mk ?e1 ?e2 ?e3 ..
   (case e1=>PySem.W.k_is)                    -- in the order: a name -> its address -> its object -> its parts
   (case e2=>PySem.W.k_is)
   ..
  obtain ⟨t,T⟩:=T
  have e0:=hmg.symm.trans (PySem.W.mg_of KX G T.law)
  cases e0                                       -- fa is the law's own address
  exact ⟨_,fun s u=>.of_eq rfl,fun base kb nb=>My.law_fn T kb nb⟩     -- if «.of_eq rfl» comes too early: refine' ⟨_,?b,fun base kb nb=>My.law_fn T kb nb⟩; exact fun s u=>.of_eq rfl
 case S=>exact fun w H a ns hl hO hS=>..
 case C=>exact ..
(the tactic k_is has no namespace: write k_is) -/
namespace L2
open PySem PySem.Spec PyProof.Rows
def defArgs (s:Stmt):Arguments:=match s with
 | .FunctionDef _ a _ _ _ _ _ _ _ _=>a
 | _=>{ posonlyargs:=[],args:=[],vararg:=none,kwonlyargs:=[],kw_defaults:=[],kwarg:=none,defaults:=[] }
def defBody (s:Stmt):List Stmt:=match s with
 | .FunctionDef _ _ b _ _ _ _ _ _ _=>b
 | _=>[]
def defScope (s:Stmt):Scope:=match s with
 | .FunctionDef _ _ _ _ _ _ sc _ _ _=>sc
 | _=>{ kind:=.function,names:=[],isGenerator:=false,isCoroutine:=false }
abbrev CX0:CXT:=fun _ _ _ _ _ _=>False
abbrev E0:XK:=fun _ _ _=>False
theorem pass0 {X:Cx}:Passes CX0 X E0:=fun _ _ _ _ _ _ _ h=>h.elim
structure Fun (K:PySem.W.Frag) (x qual:Str) (st:Stmt) (f:Addr) (fd:FuncData):Prop where
 ex:∃ (oc:Value) (od:Option Addr) (kV doc pm:Value) (an:Option Addr) (cdv ct:Value) (osl:Array (Option Value)),
  fd=PySem.W.fnOf x qual (defArgs st) (defBody st) (defScope st) .none kV doc pm an cdv ct∧K.lookup f=some ⟨oc,od,.func fd,osl⟩∧PySem.W.codeIn K cdv qual=true
 kp:PySem.W.keepIn K (.ref f)=true
section
variable {P:Program} {w:World} {K:PySem.W.Frag} {mg:Str→Option Value} {base:Heap}
theorem Fun.ok {x qual:Str} {st:Stmt} {f:Addr} {fd:FuncData} {N ps:List Str} {k:Nat} {sp:Sp} (F:Fun K x qual st f fd) (S:FnScope N ps (defScope st)) (len:∀ vs H Q E,sp vs H Q E→vs.length=ps.length)
  (hbody:∀ (cdv:Value) (A:Around) (outer:List Env) (s:Shared) (H:Hp) (vs:List V) (Q:VK) (E:XK),Room k (A.deeper (envOfC qual (defScope st) s.heap.objs.size f cdv))→sp vs H Q E→
   ∃ t,PSs (cxOf CX0 P w K mg base N qual (defScope st) f cdv A outer s H E).nox (defBody st) t∧t { nx:=fun _ H'=>Q .non H',rt:=Q } (start N vs) H):FnOk P w K mg base CX0 (k+1) f fd ps sp:=by
 obtain ⟨oc,od,kV,doc,pm,an,cdv,ct,osl,rfl,lk,hcd⟩:=F.ex
 refine fn_of lk hcd S len fun A outer s H vs Q E hr hsp=>?_
 obtain ⟨t,h,q⟩:=hbody cdv A outer s H vs Q E hr hsp
 exact ⟨t,h.nox,q⟩
theorem Fun.binds {x qual:Str} {st:Stmt} {f:Addr} {fd:FuncData} {ps:List Str} (F:Fun K x qual st f fd)
  (h:∀ (kV doc pm:Value) (an:Option Addr) (cdv ct:Value) (us:List Value),us.length=ps.length→bindArgs (PySem.W.fnOf x qual (defArgs st) (defBody st) (defScope st) .none kV doc pm an cdv ct) ⟨us,[]⟩=pure (ps.zip us)):Binds K fd ps []:=by
 obtain ⟨oc,od,kV,doc,pm,an,cdv,ct,osl,rfl,lk,hcd⟩:=F.ex
 exact .all (h kV doc pm an cdv ct)
theorem fun_mk {x qual:Str} {st:Stmt} {f:Addr} {oc:Value} {od an:Option Addr} {osl:Array (Option Value)} {kV doc pm cdv ct:Value} (l:K.lookup f=some ⟨oc,od,.func (PySem.W.fnOf x qual (defArgs st) (defBody st) (defScope st) .none kV doc pm an cdv ct),osl⟩)
  (c:PySem.W.codeIn K cdv qual=true) (k:PySem.W.keepIn K (.ref f)=true):Fun K x qual st f (PySem.W.fnOf x qual (defArgs st) (defBody st) (defScope st) .none kV doc pm an cdv ct):=⟨⟨oc,od,kV,doc,pm,an,cdv,ct,osl,rfl,l,c⟩,k⟩
end
theorem hu_of {A:Around} {k:Nat} (hr:Room k A):A.units+1 < cLine:=Nat.lt_of_le_of_lt (Nat.add_le_add_left (by decide:1≤64) _) hr.units
theorem small1000 {n:Nat} (h:n≤1000):n < sizeLine:=Nat.lt_of_le_of_lt h (by decide)
section
variable {X:Cx}
theorem pv (i:Nat) {x:Str} {pos:Pos} (hN:X.N[i]? = some x:=by rfl) (hv:Vis X.env.scope x:=by first | exact Or.inl rfl | exact Or.inr (Or.inl rfl) | exact Or.inr (Or.inr rfl)) (hd:(x==("__debug__" : Str))=false:=by decide)
  (hcd:(x==("__classdict__" : Str))=false:=by decide):PE X (.Name x pos) (tVar i):=pe_var hN hv hd hcd
end
theorem iteF {A B:Prop} (h:B):if false=true then A else B:=by
 rw [if_neg Bool.false_ne_true]
 exact h
theorem iteT {A B:Prop} (h:A):if true=true then A else B:=by
 rw [if_pos rfl]
 exact h
theorem ite2 {c A B:Prop} [Decidable c] (h1:c→A) (h2:¬ c→B):if c then A else B:=by
 by_cases h:c
 ·rw [if_pos h]
  exact h1 h
 ·rw [if_neg h]
  exact h2 h
def Same (H H':Hp):Prop:=∀ b o,H b=some o→H' b=some o
theorem Same.refl (H:Hp):Same H H:=fun _ _ h=>h
theorem Same.trans {H H1 H2:Hp} (a:Same H H1) (b:Same H1 H2):Same H H2:=fun c o h=>b c o (a c o h)
theorem Same.free {H H':Hp} (e:Same H H') {l:Addr} (h:H' l=Option.none):H l=Option.none:=by
 cases q:H l with
 | none=>rfl
 | some o=>
  rw [e l o q] at h
  cases h
end L2
namespace L2
open PySem PySem.Spec PyProof.Rows
section
variable {κ:Type} [DecidableEq κ]
def valV (kvs:List (κ × V)) (k:κ):Option V:=(kvs.find? fun kv=>decide (kv.1=k)).map (·.2)
def putK (kvs:List (κ × V)) (k:κ) (v:V):List (κ × V):=
 if (kvs.any fun kv=>decide (kv.1=k))=true then kvs.map (fun kv=>if kv.1=k then (kv.1,v) else kv) else kvs ++ [(k,v)]
theorem valV_pos {p:κ × V} {r:List (κ × V)} {k:κ} (e:p.1=k):valV (p :: r) k=some p.2:=by simp [valV,List.find?_cons,e]
theorem valV_neg {p:κ × V} {r:List (κ × V)} {k:κ} (e:¬ p.1=k):valV (p :: r) k=valV r k:=by simp [valV,List.find?_cons,e]
theorem length_putK (kvs:List (κ × V)) (k:κ) (v:V):(putK kvs k v).length≤kvs.length+1:=by
 unfold putK
 split
 ·rw [List.length_map]; omega
 ·rw [List.length_append,List.length_cons,List.length_nil]; omega
theorem KV.val {kvs:List (κ × V)} {vs:List (κ × Value)} (r:KV kvs vs) (k:κ):RelO (valV kvs k) (valueAt vs k):=by
 unfold KV at r
 induction r with
 | nil=>exact True.intro
 | @cons p q ps qs h t ih=>
  obtain ⟨h1,h2⟩:=h
  by_cases e:p.1=k
  ·have e':q.1=k:=h1.symm.trans e
   have b:valueAt (q :: qs) k=some q.2:=by simp [valueAt,List.find?_cons,e']
   rw [valV_pos e,b]; exact h2
  ·have e':¬ q.1=k:=fun z=>e (h1.trans z)
   have b:valueAt (q :: qs) k=valueAt qs k:=by simp [valueAt,List.find?_cons,e']
   rw [valV_neg e,b]; exact ih
theorem KV.any {kvs:List (κ × V)} {vs:List (κ × Value)} (r:KV kvs vs) (k:κ):(kvs.any fun kv=>decide (kv.1=k))=vs.any fun kv=>decide (kv.1=k):=by
 unfold KV at r
 induction r with
 | nil=>rfl
 | cons h t ih=>rw [List.any_cons,List.any_cons,ih,h.1]
theorem KV.repl {kvs:List (κ × V)} {vs:List (κ × Value)} (r:KV kvs vs) (k:κ) {y:V} {u:Value} (ry:RelV y u) :
  KV (kvs.map fun kv=>if kv.1=k then (kv.1,y) else kv) (vs.map fun kv=>if kv.1=k then (kv.1,u) else kv):=by
 unfold KV at r ⊢
 induction r with
 | nil=>exact .nil
 | @cons p q ps qs h t ih=>
  rw [List.map_cons,List.map_cons]
  refine .cons ?_ ih
  obtain ⟨h1,h2⟩:=h
  by_cases e:p.1=k
  ·rw [if_pos e,if_pos (h1.symm.trans e)]; exact ⟨h1,ry⟩
  ·rw [if_neg e,if_neg (fun z=>e (h1.trans z))]; exact ⟨h1,h2⟩
theorem KV.put {kvs:List (κ × V)} {vs:List (κ × Value)} (r:KV kvs vs) (k:κ) {y:V} {u:Value} (ry:RelV y u):KV (putK kvs k y) (stored vs k u):=by
 unfold putK stored
 rw [r.any k]
 by_cases e:(vs.any fun kv=>decide (kv.1=k))=true
 ·rw [if_pos e,if_pos e]; exact r.repl k ry
 ·rw [if_neg e,if_neg e]; exact Paired.snoc r ⟨rfl,ry⟩
end
theorem kV_is {P:Program} {w:World} {k:Key} {u:Value} (r:RelV (kV k) u):(mixKind P w).is k u=true:=by
 cases k with
 | inl i=>obtain ⟨t,e⟩:=(show ∃ t,u=Value.int i t from r); subst e; exact mixKind_int P w i t
 | inr x=>obtain ⟨t,e⟩:=(show ∃ t,u=Value.str x t from r); subst e; exact mixKind_str P w x t
theorem items_are {P:Program} {w:World}:∀ {ks:List Key} {us:List Value},Vals (ks.map kV) us→ItemsAre (mixKind P w) ks us
 | [],_,r=>by rw [List.map_nil] at r; cases r; exact .nil
 | k :: ks,_,r=>by
  rw [List.map_cons] at r
  cases r with
  | cons h t=>exact .cons (kV_is h) (items_are t)
abbrev KT (H:Hp):List (List Key × V)→List (List Key × Addr × Value)→Prop:=Paired fun p q=>p.1=q.1∧H q.2.1=some (.tup (p.1.map kV))∧RelV p.2 q.2.2
theorem KT.val {H:Hp} {kvs:List (List Key × V)} {xs:List (List Key × Addr × Value)} (r:KT H kvs xs) (k:List Key):RelO (valV kvs k) ((atKey xs k).map (·.2)):=by
 induction r with
 | nil=>exact True.intro
 | @cons p q ps qs h t ih=>
  obtain ⟨h1,_,h2⟩:=h
  by_cases e:p.1=k
  ·have e':q.1=k:=h1.symm.trans e
   have b:atKey (q :: qs) k=some q.2:=by simp [atKey,List.find?_cons,e']
   rw [valV_pos e,b]; exact h2
  ·have e':¬ q.1=k:=fun z=>e (h1.trans z)
   have b:atKey (q :: qs) k=atKey qs k:=by simp [atKey,List.find?_cons,e']
   rw [valV_neg e,b]; exact ih
section
variable {P:Program} {w:World} {H:Hp} {h:Heap} {a:Addr}
theorem rd_of {u:HO} (ok:HOk P w H h) (e:Rd H a u):ObjOk P w H h a u:=e.ok ok
theorem dk_rd {kvs:List (Key × V)} (ok:HOk P w H h) (e:Rd H a (.dK kvs)):kvs.length≤sizeLine∧(a==sysModules)=false∧∃ vs,KV kvs vs∧h.DictOf (mixKind P w) a vs:=
 show ObjOk P w H h a (.dK kvs) from rd_of ok e
theorem dk_of {kvs:List (Key × V)} (ok:HOk P w H h) (e:H a=some (.dK kvs)):kvs.length≤sizeLine∧(a==sysModules)=false∧∃ vs,KV kvs vs∧h.DictOf (mixKind P w) a vs:=dk_rd ok (.inl e)
theorem key_of {ks:List Key} (ok:HOk P w H h) (e:H a=some (.tup (ks.map kV))):(tupleKind (mixKind P w)).is h ks a:=by
 obtain ⟨_,its,r,o,h1,h2,n,h3⟩:=(show ObjOk P w H h a (.tup (ks.map kV)) from ok a _ e)
 exact ⟨o,its.toArray,n,h1,h2,h3,by simpa using items_are r⟩
theorem dt_rd {kvs:List (List Key × V)} (ok:HOk P w H h) (e:Rd H a (.dT kvs)):kvs.length≤sizeLine∧(a==sysModules)=false∧
  ∃ xs,KT H kvs xs∧h.DictOfH (tupleKind (mixKind P w)) a xs:=by
 obtain ⟨z,y,xs,r,o,es,ep,h1,h2,h3,h4,h5⟩:=(show ObjOk P w H h a (.dT kvs) from rd_of ok e)
 refine ⟨z,y,xs,r,o,es,ep,h1,h2,h3,h4,fun x hx=>?_,h5⟩
 have all:∀ {l:List (List Key × V)} {m:List (List Key × Addr × Value)},KT H l m→∀ x∈m,(tupleKind (mixKind P w)).is h x.1 x.2.1:=by
  intro l m q
  induction q with
  | nil=>intro x hx; exact nomatch hx
  | @cons p q ps qs hq t ih=>
   intro x hx
   rcases List.mem_cons.mp hx with e | hx
   ·subst e
    exact key_of ok (by rw [← hq.1]; exact hq.2.1)
   ·exact ih x hx
 exact all r x hx
end
def DGet (H:Hp) (a:Addr) (y:V) (r:Option V):Prop:=
 (∃ kvs k,Rd H a (.dK kvs)∧y=kV k∧r=valV kvs k)∨∃ kvs k b,Rd H a (.dT kvs)∧y=.ref b∧H b=some (.tup (k.map kV))∧r=valV kvs k
section
variable {X:Cx} {pins:List (Addr × Obj)} {σ:St} {H:Hp} {s:Shared} {a:Addr} {y v:V} {u r:Value} {o:Option V} {A:Around} {E:Value→Shared→Prop}
theorem Inv.big (I:Inv X pins σ H s):sysModules < s.heap.objs.size:=by
 have h:mainGlobals < s.heap.objs.size:=(I.mod.glob.keeps I.bk).lt
 exact Nat.lt_trans (by decide) h
theorem d_getItem {Q:Value→Shared→Prop} (hu:A.units+1 < cLine) (I:Inv X pins σ H s) (g:DGet H a y (some v)) (ry:RelV y u) (h:∀ w' s',Inv X pins σ H s'→RelV v w'→Q w' s') :
  wpAny (model X.prog X.w) A (getItem (.ref a) u) Q E s:=by
 rcases g with ⟨kvs,k,e,ey,l⟩ | ⟨kvs,k,b,e,ey,eb,l⟩
 ·subst ey
  obtain ⟨z,hd,vs,rel,dd⟩:=dk_rd I.hok e
  obtain ⟨w',hw,rw'⟩:=RelO.some_of (v:=v) (o:=valueAt vs k) (by rw [l]; exact rel.val k)
  exact wpAny_getItem_of (kV_is ry) dd.mapOf hw (h w' _ (I.tok _) rw')
 ·subst ey
  cases (show u=Value.ref b from ry)
  obtain ⟨z,hd,xs,rel,dd⟩:=dt_rd I.hok e
  obtain ⟨w',hw,rw'⟩:=RelO.some_of (v:=v) (o:=(atKey xs k).map (·.2)) (by rw [l]; exact rel.val k)
  obtain ⟨p,hp,hp2⟩:=Option.map_eq_some_iff.mp hw
  refine wpAny_getItem_heap (tupleKind_room_in1 hu) (key_of I.hok eb) dd hp ?_
  rw [hp2]
  exact h w' _ (I.tok _) rw'
theorem d_write {h':Heap} {t':Nat} {ob:HO} (I:Inv X pins σ H s) (mu:Mut (H a)) (hs:Heap.SameBut a s.heap h') (he:∃ q,h'.get? a=some q) (new:ObjOk X.prog X.w (upd H a ob) h' a ob) :
  Inv X pins σ (upd H a ob) { s with heap:=h',toks:=t' }:=
 I.write (x:=a) (e:=a) mu (.inl rfl) (fun b q hb z=>(hs.2 b hb).trans z) he new
theorem dk_new {P:Program} {w:World} {H':Hp} {h':Heap} {kvs:List (Key × V)} {vs:List (Key × Value)} (z:kvs.length≤sizeLine) (hd:(a==sysModules)=false) (rel:KV kvs vs) (dd:h'.DictOf (mixKind P w) a vs) :
  ObjOk P w H' h' a (.dK kvs):=⟨z,hd,vs,rel,dd⟩
end
section
variable {X:Cx} {pins:List (Addr × Obj)} {σ:St} {H:Hp} {s:Shared} {a:Addr} {kvs:List (Key × V)} {k:Key} {u:Value} {A:Around} {E:Value→Shared→Prop}
end
def NoSl (i:Expr):Prop:=∀ ov iv,subscripted i false ov iv=operate [ov,iv] (getItem ov iv)
theorem subD_of {prog:Program} {w:World} {A:Around} {E:Value→Shared→Prop} {s:Shared} {env:Env} {value slice:Expr} {pos:Pos} {T id:String} {Q:Value→Shared→Prop}
  (hl:typeLookup (.type T) "__getitem__" = pure (some (.builtin id))) (hs:NoSl slice)
  (h:wpAny (model prog w) A (eval value env) (fun o s₁=>wpAny (model prog w) A (eval slice env) (fun i s₂=>s₂.TypeIs o T∧wpAny (model prog w) A (getItem o i) Q E s₂) E s₁) E s) :
  wpAny (model prog w) A (eval (.Subscript value slice pos) env) Q E s:=by
 refine Subscript_ (wpAny_mono h (fun o s₁ h₁=>wpAny_mono h₁ (fun i s₂ h₂=>?_) fun _ _ x=>x) fun _ _ x=>x)
 obtain ⟨hT,h₂⟩:=h₂
 unfold subscriptTail
 refine wpAny_bind ?_
 rw [getitemInPython_of_ne hT.not_modules]
 refine wpAny_bind (wpAny_specialOf hT hl ?_)
 have fin:wpAny (model prog w) A (subscripted slice false o i) (fun r s₃=>wpAny (model prog w) A (letTemporaryGo value o r >>= fun _=>pure r) Q E s₃) E s₂:=by
  rw [hs o i]
  exact wpAny_operating (wpAny_mono h₂ (fun r s₃ h₃=>wpAny_bind (wpAny_letTemporaryGo (wpAny_pure h₃))) fun _ _ x=>x)
 first
  | exact wpAny_pure (wpAny_bind fin)
  | exact wpAny_bind (wpAny_pure (wpAny_bind fin))
  | exact wpAny_bind fin
theorem dict_typeIs {X:Cx} {pins:List (Addr × Obj)} {σ:St} {H:Hp} {s:Shared} {a:Addr} {y:V} {o:Option V} (I:Inv X pins σ H s) (g:DGet H a y o):s.TypeIs (.ref a) "dict":=by
 rcases g with ⟨kvs,k,e,_,_⟩ | ⟨kvs,k,b,e,_,_,_⟩
 ·obtain ⟨_,_,vs,_,dd⟩:=dk_rd I.hok e
  exact dd.typeIs
 ·obtain ⟨_,_,xs,_,dd⟩:=dt_rd I.hok e
  exact dd.typeIs
def tDGet (td ty:TE):TE:=fun σ H Q=>td σ H fun x H1=>ty σ H1 fun y H2=>∃ a v,x=.ref a∧DGet H2 a y (some v)∧Q v H2
section
variable {X:Cx} {o i e value:Expr} {pos pos' tpos:Pos} {td ty tv:TE}
theorem pe_dget (hu:X.A.units+1 < cLine) (ho:PE X o td) (hi:PE X i ty) (hs:NoSl i):PE X (.Subscript o i pos) (tDGet td ty):=by
 intro pins s σ H Q I h
 refine subD_of PySem.F.slot_dict_getitem.lookup hs (thn (ho pins s σ H _ I h) fun u s1 ⟨x,H1,I1,rx,q1⟩=>thn (hi pins s1 σ H1 _ I1 q1) fun iv s2 ⟨y,H2,I2,ry,a,v,ex,g,q2⟩=>?_)
 subst ex
 obtain rfl:u=Value.ref a:=rx
 exact ⟨dict_typeIs I2 g,d_getItem hu I2 g ry fun w' s3 I3 rw'=>⟨v,H2,I3,rw',q2⟩⟩
end
theorem dk_empty {P:Program} {w:World} {H:Hp} (h:Heap) (hb:sysModules < h.objs.size):ObjOk P w H (h.push { cls:=.type "dict",data:=.dict #[] }) h.objs.size (.dK []):=
 ⟨Nat.zero_le _,beq_eq_false_iff_ne.mpr (Ne.symm (Nat.ne_of_lt hb)),[],.nil,Heap.DictOf.new h⟩
def tDNewK:TE:=fun _ H Q=>∀ p,H p=none→Q (.ref p) (upd H p (.dK []))
section
variable {X:Cx} {pos:Pos}
theorem pe_dnewK:PE X (.Dict [] [] pos) tDNewK:=fun pins s σ H Q I h=>
 wpAny_Dict_empty ⟨.ref s.heap.objs.size,_,I.laid (a:=s.heap.objs.size) (o:=.dK []) (t':=s.toks) (fun _ _ q=>Heap.get?_push_of_some _ q) (Nat.le_refl _) (dk_empty s.heap I.big),rfl,h _ (I.hok.fresh (Nat.le_refl _))⟩
end
def tPairs:List (TE × TE)→St→Hp→(List (V × V)→Hp→Prop)→Prop
 | [],_,H,Q=>Q [] H
 | (tk,tv) :: r,σ,H,Q=>tk σ H fun x H1=>tv σ H1 fun y H2=>tPairs r σ H2 fun ps H3=>Q ((x,y) :: ps) H3
abbrev VV:List (V × V)→List (Value × Value)→Prop:=Paired fun p q=>RelV p.1 q.1∧RelV p.2 q.2
def PPs (X:Cx) (pos:Pos) (keys:List (Option Expr)) (values:List Expr) (trs:List (TE × TE)):Prop:=
 ∀ (pins:List (Addr × Obj)) (s:Shared) (σ:St) (H:Hp) (Q:List (V × V)→Hp→Prop),Inv X pins σ H s→tPairs trs σ H Q→
  wpAny (model X.prog X.w) X.A (evalPairs (pairTrees keys values X.env pos)) (fun vs s'=>∃ ps H',Inv X pins σ H' s'∧VV ps vs∧Q ps H') X.xe s
theorem pps_nil {X:Cx} {pos:Pos}:PPs X pos [] [] []:=fun pins s σ H Q I h=>pairTrees_nil_walk ⟨[],H,I,.nil,h⟩
theorem pps_cons {X:Cx} {pos:Pos} {k v:Expr} {ks:List (Option Expr)} {vs:List Expr} {tk tv:TE} {trs:List (TE × TE)} (hk:PE X k tk) (hv:PE X v tv) (hr:PPs X pos ks vs trs) :
  PPs X pos (some k :: ks) (v :: vs) ((tk,tv) :: trs):=fun pins s σ H Q I h=>
 pairTrees_cons_walk (thn (hk pins s σ H _ I h) fun u s1 ⟨x,H1,I1,rx,q1⟩=>thn (hv pins s1 σ H1 _ I1 q1) fun w2 s2 ⟨y,H2,I2,ry,q2⟩=>
  thn (hr pins s2 σ H2 _ I2 q2) fun ws s3 ⟨ps,H3,I3,rel,q3⟩=>⟨(x,y) :: ps,H3,I3,.cons ⟨rx,ry⟩ rel,q3⟩)
def mergeK (kvs more:List (Key × V)):List (Key × V):=more.foldl (fun acc kv=>putK acc kv.1 kv.2) kvs
theorem KV.merge:∀ {more:List (Key × V)} {rs:List (Key × Value)} {kvs:List (Key × V)} {vs:List (Key × Value)},KV more rs→KV kvs vs→KV (mergeK kvs more) (merged vs rs):=by
 intro more rs kvs vs r
 unfold KV at r
 induction r generalizing kvs vs with
 | nil=>intro q; exact q
 | @cons p q ps qs h t ih=>
  intro r0
  have e:KV (putK kvs p.1 p.2) (stored vs q.1 q.2):=by
   have:=r0.put p.1 h.2
   rw [← h.1]; exact this
  exact ih e
theorem length_mergeK:∀ (more kvs:List (Key × V)),(mergeK kvs more).length≤kvs.length+more.length
 | [],kvs=>by show kvs.length≤kvs.length+0; omega
 | p :: r,kvs=>by
  have h1:=length_mergeK r (putK kvs p.1 p.2)
  have h2:=length_putK kvs p.1 p.2
  show (mergeK (putK kvs p.1 p.2) r).length≤_
  rw [List.length_cons]; omega
theorem carries_of {P:Program} {w:World}:∀ {kvs:List (Key × V)} {ws:List (Value × Value)},VV (kvs.map fun kv=>(kV kv.1,kv.2)) ws→∃ rs,Carries (mixKind P w) ws rs∧KV kvs rs
 | [],_,r=>by rw [List.map_nil] at r; cases r; exact ⟨[],True.intro,.nil⟩
 | p :: kvs,_,r=>by
  rw [List.map_cons] at r
  cases r with
  | @cons a b as bs h t=>
   obtain ⟨rs,c,q⟩:=carries_of (P:=P) (w:=w) t
   obtain ⟨b1,b2⟩:=b
   exact ⟨(p.1,b2) :: rs,⟨kV_is h.1,rfl,c⟩,.cons ⟨rfl,h.2⟩ q⟩
def tDisp (trs:List (TE × TE)):TE:=fun σ H Q=>∀ p,H p=none→tPairs trs σ (upd H p (.dK [])) fun ps H2=>H2 p=some (.dK [])∧∃ kvs:List (Key × V),ps=kvs.map (fun kv=>(kV kv.1,kv.2))∧kvs.length≤15∧Q (.ref p) (upd H2 p (.dK (mergeK [] kvs)))
theorem pe_disp {X:Cx} {pos:Pos} {keys:List (Option Expr)} {values:List Expr} {trs:List (TE × TE)} (h:PPs X pos keys values trs) (hall:keys.all (·.isSome)=true) (hl:keys.length=values.length) (h0:keys≠[])
  (h15:keys.length≤15):PE X (.Dict keys values pos) (tDisp trs):=by
 intro pins s σ H Q I q
 have hn:=I.hok.fresh (Nat.le_refl s.heap.objs.size)
 have I1:=I.laid (a:=s.heap.objs.size) (o:=.dK []) (h':=s.heap.push { cls:=.type "dict",data:=.dict #[] }) (t':=s.toks) (fun _ _ q=>Heap.get?_push_of_some _ q) (Nat.le_refl _) (dk_empty s.heap I.big)
 refine wpAny_Dict_walk (knd:=mixKind X.prog X.w) hall hl h0 h15 (thn (h pins _ σ _ _ I1 (q _ hn)) fun ws s2 ⟨ps,H2,I2,rel,e,kvs,ep,lk,q2⟩=>?_)
 subst ep
 obtain ⟨rs,c,rk⟩:=carries_of (P:=X.prog) (w:=X.w) rel
 obtain ⟨z,hd,vs0,r0,dd⟩:=dk_of I2.hok e
 cases r0
 refine ⟨rs,c,dd,fun h' dd' hs=>⟨.ref s.heap.objs.size,_,?_,rfl,q2⟩⟩
 have hz:(mergeK [] kvs).length≤sizeLine:=by
  have h1:=length_mergeK kvs []
  rw [List.length_nil] at h1
  rw [sizeLine_eq]; omega
 have he:∃ q,h'.get? s.heap.objs.size=some q:=let ⟨q,_,_,hq,_⟩:=dd'; ⟨q,hq⟩
 exact d_write I2 (by rw [e]; exact True.intro) hs he (dk_new hz hd (rk.merge .nil) dd')
structure M2 (X:Cx) (o:Expr) (m:Str) (apos:Pos) (e f:Expr) (cpos:Pos):Prop where
 base:attributeBase o m X.env (eval o X.env)=eval o X.env
 few:((backTo cpos (starEach [e,f] X.env)).all (fun x=>!x.1) && (backToKw cpos (keywordEach [] X.env)).all (fun x=>x.1.isSome)
  && decide (([e,f]:List Expr).length+([]:List Keyword).length+(if ([]:List Keyword).isEmpty then 0 else 1) < 30))=true
 line:(apos.endLine==cpos.line)=true
 trees:backTo cpos (starEach [e,f] X.env)=[(false,eval e X.env),(false,eval f X.env)]
def IsD (H:Hp) (a:Addr):Prop:=(∃ kvs,Rd H a (.dK kvs))∨∃ kvs,Rd H a (.dT kvs)
theorem isD_at {X:Cx} {pins:List (Addr × Obj)} {σ:St} {H:Hp} {s:Shared} {a:Addr} (I:Inv X pins σ H s) (d:IsD H a) :
  s.TypeIs (.ref a) "dict"∧(∀ b,Value.ref a=.ref b→∃ ob,s.heap.get? b=some ob∧ob.dict=none)∧(a==sysModules)=false:=by
 rcases d with ⟨kvs,e⟩ | ⟨kvs,e⟩
 ·obtain ⟨_,hd,vs,_,dd⟩:=dk_rd I.hok e
  refine ⟨dd.typeIs,fun b q=>?_,hd⟩
  cases q
  obtain ⟨ob,_,_,h1,h2,_⟩:=dd
  exact ⟨ob,h1,h2.2.1⟩
 ·obtain ⟨_,hd,xs,_,dd⟩:=dt_rd I.hok e
  refine ⟨dd.typeIs,fun b q=>?_,hd⟩
  cases q
  obtain ⟨ob,_,_,h1,h2,_⟩:=dd
  exact ⟨ob,h1,h2.2.1⟩
section
variable {X:Cx} {pins:List (Addr × Obj)} {σ:St} {H:Hp} {s:Shared} {a:Addr} {y d:V} {u r:Value} {o:Option V} {A:Around} {E:Value→Shared→Prop}
end
section
variable {X:Cx} {o e f:Expr} {apos cpos:Pos} {td ty tx:TE}
end
end L2
namespace L2
open PySem PySem.Spec PyProof.Rows
def clOf (env:Env):List (Str × NameKind)→List (Str × Addr)→List (Str × Addr)
 | [],acc=>acc
 | (n,.free) :: r,acc=>clOf env r ((n,(env.cells.lookup n).getD 0) :: acc)
 | _ :: r,acc=>clOf env r acc
def ClGood (env:Env) (acc:List (Str × Addr)):Prop:=∀ y c,acc.lookup y=some c→c=(env.cells.lookup y).getD 0
theorem clOf_skip {env:Env} {n:Str} {k:NameKind} {r:List (Str × NameKind)} {acc:List (Str × Addr)} (h:k≠.free):clOf env ((n,k) :: r) acc=clOf env r acc:=by
 cases k <;> first | rfl | exact absurd rfl h
theorem clOf_good {env:Env}:∀ (names:List (Str × NameKind)) (acc:List (Str × Addr)),ClGood env acc→ClGood env (clOf env names acc)
 | [],acc,h=>h
 | (n,k) :: r,acc,h=>by
  by_cases hk:k=.free
  ·subst hk
   refine clOf_good r _ fun y c e=>?_
   rw [List.lookup_cons] at e
   by_cases hy:y=n
   ·subst hy
    simp only [beq_self_eq_true] at e
    exact (Option.some.inj e).symm
   ·have hb:(y==n)=false:=by simpa using hy
    rw [hb] at e
    exact h y c e
  ·rw [clOf_skip hk]
   exact clOf_good r acc h
theorem clOf_has {env:Env} {x:Str}:∀ (names:List (Str × NameKind)) (acc:List (Str × Addr)),((∃ c,acc.lookup x=some c)∨(x,NameKind.free)∈names)→∃ c,(clOf env names acc).lookup x=some c
 | [],acc,h=>by
  rcases h with h | h
  ·exact h
  ·cases h
 | (n,k) :: r,acc,h=>by
  by_cases hk:k=.free
  ·subst hk
   refine clOf_has r _ ?_
   rw [List.lookup_cons]
   by_cases hy:x=n
   ·subst hy
    exact .inl ⟨(env.cells.lookup x).getD 0,by simp only [beq_self_eq_true]⟩
   ·have hb:(x==n)=false:=by simpa using hy
    rw [hb]
    rcases h with h | h
    ·exact .inl h
    ·rcases List.mem_cons.mp h with h | h
     ·exact absurd (congrArg Prod.fst h) hy
     ·exact .inr h
  ·rw [clOf_skip hk]
   refine clOf_has r acc ?_
   rcases h with h | h
   ·exact .inl h
   ·rcases List.mem_cons.mp h with h | h
    ·exact absurd (congrArg Prod.snd h).symm hk
    ·exact .inr h
theorem clOf_mem {env:Env} {x:Str} {c:Addr}:∀ (names:List (Str × NameKind)) (acc:List (Str × Addr)),(clOf env names acc).lookup x=some c→acc.lookup x=some c∨(x,NameKind.free)∈names
 | [],acc,h=>.inl h
 | (n,k) :: r,acc,h=>by
  by_cases hk:k=.free
  ·subst hk
   rcases clOf_mem r _ h with h1 | h1
   ·rw [List.lookup_cons] at h1
    by_cases hy:x=n
    ·subst hy
     exact .inr List.mem_cons_self
    ·have hb:(x==n)=false:=by simpa using hy
     rw [hb] at h1
     exact .inl h1
   ·exact .inr (List.mem_cons_of_mem _ h1)
  ·rw [clOf_skip hk] at h
   rcases clOf_mem r acc h with h1 | h1
   ·exact .inl h1
   ·exact .inr (List.mem_cons_of_mem _ h1)
theorem forIn_cl {env:Env} {f:Str × NameKind→List (Str × Addr)→Sem (ForInStep (List (Str × Addr)))} (h1:∀ n k r,k≠NameKind.free→f (n,k) r=pure (.yield r))
  (h2:∀ n r c,env.cells.lookup n=some c→f (n,.free) r=pure (.yield ((n,c) :: r))) :
  ∀ (names:List (Str × NameKind)) (acc:List (Str × Addr)),(∀ y∈names,y.2=NameKind.free→∃ c,env.cells.lookup y.1=some c)→forIn names acc f=pure (clOf env names acc)
 | [],acc,_=>rfl
 | (n,k) :: r,acc,hc=>by
  have hr:∀ y∈r,y.2=NameKind.free→∃ c,env.cells.lookup y.1=some c:=fun y hy=>hc y (List.mem_cons_of_mem _ hy)
  rw [List.forIn_cons]
  by_cases hk:k=.free
  ·subst hk
   obtain ⟨c,e⟩:=hc (n,.free) List.mem_cons_self rfl
   rw [h2 n acc c e,pure_bind]
   show forIn r ((n,c) :: acc) f=_
   rw [forIn_cl h1 h2 r _ hr]
   show _=pure (clOf env r ((n,(env.cells.lookup n).getD 0) :: acc))
   rw [e]
   rfl
  ·rw [h1 n k acc hk,pure_bind,clOf_skip hk]
   exact forIn_cl h1 h2 r acc hr
theorem closure_is {env:Env} {scope:Scope} (hc:∀ y∈scope.names,y.2=NameKind.free→∃ c,env.cells.lookup y.1=some c):closureFor scope env=pure (clOf env scope.names []):=by
 unfold closureFor
 dsimp only
 rw [forIn_cl (env:=env) ?_ ?_ scope.names [] hc]
 ·rfl
 ·intro n k r hk
  have hb:(k==NameKind.free)=false:=by simpa using hk
  simp only [hb,Bool.false_eq_true,if_false]
 ·intro n r c e
  simp only [cellOf,e,beq_self_eq_true,if_true,pure_bind]
structure CompOk (sc:Scope) (Nm own:List Str) (fr:List Nat) (scope:Scope):Prop where
 kind:scope.kind=.function
 nocell:∀ y∈scope.names,y.2≠NameKind.cell
 free:∀ y∈scope.names,y.2=NameKind.free→sc.names.lookup y.1=some .cell∨sc.names.lookup y.1=some .free
 locs:∀ y∈scope.names,y.2=NameKind.local→scope.names.lookup y.1=some .local
 frs:∀ j∈fr,j < Nm.length∧scope.names.lookup (Nm.getD j "")=some .free
def inNm (own Nm:List Str) (fr:List Nat):List Str:=own ++ fr.map fun j=>Nm.getD j ""
def inSt (n:Nat) (fr:List Nat) (σ:St):St:=List.replicate n none ++ fr.map fun j=>σ.getD j none
structure CD where
 cl:List (Str × Addr)
 C:Addr
 s:Shared
 H:Hp
 fp:List Addr
def compCx (X:Cx) (Nm:List Str) (scope:Scope) (d:CD):Cx:=
 {prog:=X.prog,w:=X.w,K:=X.K,mg:=X.mg,base:=X.base,A:=X.A,N:=Nm,s₀:=d.s,H₀:=d.H,env:=compEnvC scope d.cl d.C X.env,outer:=X.stack,stack:=X.stack,
  ex:=d.fp,fn:=fun _=>false,calm:=X.calm,pn:=[],xe:=fun _ _=>False }
def PTs (X:Cx) (ifs:List Expr) (t:TT):Prop:=
 ∀ (pins:List (Addr × Obj)) (s:Shared) (σ:St) (H:Hp) (Q:Bool→Hp→Prop),Inv X pins σ H s→t σ H Q→
  wpAny (model X.prog X.w) X.A (forIn ifs true fun c r=>if r=true then do let ok ← isTrue c X.env (eval c X.env); pure (ForInStep.yield ok) else pure (ForInStep.yield r)) (TP X pins σ Q) X.xe s
def tYes:TT:=fun _ H Q=>Q true H
theorem pts_nil {X:Cx}:PTs X [] tYes:=by
 intro pins s σ H Q I h
 rw [List.forIn_nil]
 exact wpAny_pure ⟨H,I,h⟩
theorem pts_one {X:Cx} {c:Expr} {t:TT} (hc:PT X c t):PTs X [c] t:=by
 intro pins s σ H Q I h
 rw [List.forIn_cons,if_pos rfl]
 refine wpAny_bind (wpAny_bind (thn (hc pins s σ H Q I h) fun b s1 q=>wpAny_pure ?_))
 show wpAny _ _ (forIn [] b _) _ _ s1
 rw [List.forIn_nil]
 exact wpAny_pure q
def GFr (n:Nat) (g:TG):Prop:=∀ v σ H Q,g v σ H Q→g v σ H fun σ2 H2=>Q σ2 H2∧σ2.length=σ.length∧∀ i,n≤i→σ2[i]? = σ[i]?
theorem gfr_name {n i:Nat} (h:i < n):GFr n (gName i):=fun v σ H Q q=>⟨q,by simp,fun j hj=>by
 rw [List.getElem?_set_ne (by omega)]⟩
def GsFr (n:Nat) (g:TGs):Prop:=∀ v σ H Q,g v σ H Q→g v σ H fun σ2 H2=>Q σ2 H2∧σ2.length=σ.length∧∀ i,n≤i→σ2[i]? = σ[i]?
theorem gsfr_nil {n:Nat}:GsFr n gNil:=fun v σ H Q q=>⟨q.1,q.2,rfl,fun _ _=>rfl⟩
theorem gsfr_name {n i:Nat} {u:TGs} (h:i < n) (hu:GsFr n u):GsFr n (gCons (gName i) u):=fun v σ H Q q=>by
 obtain ⟨x,r,e,q⟩:=q
 refine ⟨x,r,e,?_⟩
 have q2:=hu r (σ.set i (some x)) H Q q
 have mono:∀ Q1 Q2:St→Hp→Prop,(∀ a b,Q1 a b→Q2 a b)→True:=fun _ _ _=>True.intro
 have e1:(σ.set i (some x)).length=σ.length:=by simp
 have e2:∀ j,n≤j→(σ.set i (some x))[j]? = σ[j]?:=fun j hj=>by rw [List.getElem?_set_ne (by omega)]
 have:(fun σ2 H2=>Q σ2 H2∧σ2.length=(σ.set i (some x)).length∧∀ j,n≤j→σ2[j]? = (σ.set i (some x))[j]?)=fun σ2 H2=>Q σ2 H2∧σ2.length=σ.length∧∀ j,n≤j→σ2[j]? = σ[j]?:=by
  funext σ2 H2
  rw [e1]
  refine propext ⟨fun z=>⟨z.1,z.2.1,fun j hj=>(z.2.2 j hj).trans (e2 j hj)⟩,fun z=>⟨z.1,z.2.1,fun j hj=>(z.2.2 j hj).trans (e2 j hj).symm⟩⟩
 rw [this] at q2
 exact q2
theorem gfr_tup {n k:Nat} {K:PySem.W.Frag} {u:TGs} (hu:GsFr n u):GFr n (gTup K k u):=fun v σ H Q q=>by
 obtain ⟨a,xs,e,h1,h2,q⟩:=q
 exact ⟨a,xs,e,h1,h2,hu xs σ H Q q⟩
def CompW (J:It) (n:Nat) (fr:List Nat) (g:TG) (tt:TT) (te:TE) (σ:St) (H1:Hp) (Q:VK):Prop:=∃ W:Nat→Nat→List V→Hp→Prop,(∃ m,W 0 m [] H1)∧∀ i m acc H2,W i m acc H2→
 acc.length < sizeLine∧((J.stop i H2∧∀ l,H2 l=none→Q (.ref l) (upd H2 l (.lst acc)))∨
  (J.go i H2∧∃ Nx:List V→Hp→Prop,(∀ acc' H',Nx acc' H'→∃ m',m' < m∧W (i+1) m' acc' H')∧
   ∀ x H3,J.yld i H2 x H3→g x (inSt n fr σ) H3 fun σ4 H4=>tt σ4 H4 fun b H5=>if b=true then te σ4 H5 fun v H6=>Nx (acc ++ [v]) H6 else Nx acc H5))
def tComp (n:Nat) (fr:List Nat) (wi:TI) (g:TG) (tt:TT) (te:TE):TE:=fun σ H Q=>wi σ H fun J H1=>CompW J n fr g tt te σ H1 Q
section
variable {X:Cx} {pins:List (Addr × Obj)} {σ:St} {H:Hp} {s:Shared}
theorem Inv.adopt {a:Addr} {o:HO} (I:Inv X pins σ H s) (hp:X.s₀.heap.objs.size≤a) (hn:H a=none) (hL:a≠X.env.locals) (hc:∀ x c,X.env.cells.lookup x=some c→c≠a)
  (hq:∀ p∈X.pn ++ pins,p.1≠a) (new:ObjOk X.prog X.w (upd H a o) s.heap a o):Inv X pins σ (upd H a o) s:=by
 refine ⟨I.ok,I.os,I.bare,⟨I.base.keep,I.base.slot,fun b ob e n hx=>?_,I.base.there,fun b xs e=>?_,fun b ob u e=>?_,fun b ps e=>?_⟩,I.loc,I.cell,?_,fun x c e=>?_,fun p hp'=>?_,fun b u e=>?_,I.len⟩
 ·rw [upd_ne (Nat.ne_of_lt (Nat.lt_of_lt_of_le (Heap.lt_size e) hp))]
  exact I.base.free b ob e n hx
 ·have q:=I.base.tups b xs e
  rw [upd_ne (ne_of_none q hn)]
  exact q
 ·have q:=I.base.frzs b ob u e
  rw [upd_ne (ne_of_none q hn)]
  exact q
 ·obtain ⟨more,q⟩:=I.base.tbls b ps e
  exact ⟨more,by rw [upd_ne (ne_of_none q hn)]; exact q⟩
 ·rw [upd_ne (Ne.symm hL)]
  exact I.free
 ·rw [upd_ne (hc x c e)]
  exact I.freeC x c e
 ·obtain ⟨h1,h2,h3⟩:=I.pin p hp'
  exact ⟨h1,by rw [upd_ne (hq p hp')]; exact h2,h3⟩
 ·by_cases hb:b=a
  ·subst hb
   rw [upd_same] at e
   cases e
   exact new
  ·rw [upd_ne hb] at e
   refine (I.hok b u e).stay (fun c v _ q=>q) (fun c q=>?_) fun c xs q=>?_
   ·rw [upd_ne (ne_of_none q hn)]; exact q
   ·rw [upd_ne (ne_of_none q hn)]; exact q
end
section
variable {prog:Program} {w:World} {A:Around} {R:Result→Shared→Prop} {s:Shared}
theorem loop_comp {elt target iter:Expr} {ifs:List Expr} {scope:Scope} {pos:Pos} {it acc:Value} {env:Env} (J:Nat→Shared→Prop)
  (turn:∀ n s,J n s→wpAny (model prog w) A (pyNext it) (fun r s1=>match r with
   | none=>R (.ok .next) s1
   | some v=>wpAny (model prog w) A (letOwnedTupleGo target it v) (fun _ s2=>wpAny (model prog w) A (assign target env v) (fun _ s3=>
     wpAny (model prog w) A (forIn ifs true fun c r=>if r=true then do let ok ← isTrue c env (eval c env); pure (ForInStep.yield ok) else pure (ForInStep.yield r)) (fun ok s4=>
      if ok=true then wpAny (model prog w) A (eval elt env) (fun x s5=>wpAny (model prog w) A (call (.builtin "list.append") [acc,x]) (fun _ s6=>∃ m,m < n∧J m s6) (fun _ _=>False) s5) (fun _ _=>False) s4
      else ∃ m,m < n∧J m s4) (fun _ _=>False) s3) (fun _ _=>False) s2) (fun _ _=>False) s1) (fun _ _=>False) s)
  (n:Nat) (h:J n s):codeAny (model prog w) A (.compLoop (.ListComp elt [⟨target,iter,ifs,0⟩] scope pos) 0 it acc env) R s:=by
 refine codeAny_loop rfl J (fun k t hJ=>?_) n h
 show wpAny _ A ((compTurn (.ListComp elt [⟨target,iter,ifs,0⟩] scope pos) 0 it acc env).onRaise (fun x=>do noteFrame x env; theTreesLotGoes x)) _ _ t
 refine wpAny_noted ?_
 rw [compTurn_list]
 have no:∀ {α:Type} {m:Sem α} {Q:α→Shared→Prop} {E:Value→Shared→Prop} {u:Shared},wpAny (model prog w) A m Q (fun _ _=>False) u→wpAny (model prog w) A m Q E u:=fun q=>wpAny_mono q (fun _ _ z=>z) fun _ _ z=>z.elim
 refine wpAny_bind (wpAny_standAt (wpAny_bind (no (thn (turn k t hJ) fun r s1 h1=>?_))))
 cases r with
 | none=>exact wpAny_pure h1
 | some v=>
  refine wpAny_bind (no (thn h1 fun _ s2 h2=>wpAny_bind (no (thn h2 fun _ s3 h3=>wpAny_bind (no (thn h3 fun ok s4 h4=>?_))))))
  cases ok with
  | false=>exact wpAny_pure ⟨rfl,h4⟩
  | true=>
   exact wpAny_bind (wpAny_bind (no (thn h4 fun x s5 h5=>wpAny_bind (no (thn h5 fun _ s6 h6=>wpAny_pure (wpAny_pure ⟨rfl,h6⟩))))))
end
section
variable {X:Cx} {sc scope:Scope} {Nm own:List Str} {fr:List Nat} {elt tg iter:Expr} {ifs:List Expr} {cpos:Pos} {wi:TI} {g:TG} {tt:TT} {te:TE}
theorem lookup_relab {env:Env} {x:Str} {k:NameKind}:∀ {names:List (Str × NameKind)},(names.map fun (n,k)=>if (k==NameKind.free && env.scope.kind==.function && env.kindOf n==some .cell) then (n,NameKind.cell) else (n,k)).lookup x=some k→
  names.lookup x=some k∨(k=.cell∧names.lookup x=some .free)
 | [],h=>by simp at h
 | (n,j) :: r,h=>by
  have ih:=@lookup_relab env x k r
  have h':List.lookup x ((if (j==NameKind.free && env.scope.kind==.function && env.kindOf n==some .cell)=true then (n,NameKind.cell) else (n,j)) :: _)=some k:=h
  cases hx:x==n with
  | true=>
   by_cases hc:(j==NameKind.free && env.scope.kind==.function && env.kindOf n==some .cell)=true
   ·rw [if_pos hc] at h'
    simp only [List.lookup_cons,hx] at h' ⊢
    simp only [Bool.and_eq_true,beq_iff_eq] at hc
    exact .inr ⟨(Option.some.inj h').symm,congrArg some hc.1.1⟩
   ·rw [if_neg hc] at h'
    simp only [List.lookup_cons,hx] at h' ⊢
    exact .inl h'
  | false=>
   have h2:List.lookup x (r.map fun (n,k)=>if (k==NameKind.free && env.scope.kind==.function && env.kindOf n==some .cell) then (n,NameKind.cell) else (n,k))=some k:=by
    by_cases hc:(j==NameKind.free && env.scope.kind==.function && env.kindOf n==some .cell)=true
    ·rw [if_pos hc] at h'
     simpa only [List.lookup_cons,hx] using h'
    ·rw [if_neg hc] at h'
     simpa only [List.lookup_cons,hx] using h'
   simp only [List.lookup_cons,hx]
   exact ih h2
theorem relab_free {env:Env} {x:Str}:∀ {names:List (Str × NameKind)},names.lookup x=some .free→
  (names.map fun (n,k)=>if (k==NameKind.free && env.scope.kind==.function && env.kindOf n==some .cell) then (n,NameKind.cell) else (n,k)).lookup x=some .cell∨
  (names.map fun (n,k)=>if (k==NameKind.free && env.scope.kind==.function && env.kindOf n==some .cell) then (n,NameKind.cell) else (n,k)).lookup x=some .free
 | [],h=>by simp at h
 | (n,j) :: r,h=>by
  have ih:=@relab_free env x r
  show List.lookup x ((if (j==NameKind.free && env.scope.kind==.function && env.kindOf n==some .cell)=true then (n,NameKind.cell) else (n,j)) :: _)=_∨List.lookup x ((if (j==NameKind.free && env.scope.kind==.function && env.kindOf n==some .cell)=true then (n,NameKind.cell) else (n,j)) :: _)=_
  cases hx:x==n with
  | true=>
   simp only [List.lookup_cons,hx] at h
   by_cases hc:(j==NameKind.free && env.scope.kind==.function && env.kindOf n==some .cell)=true
   ·rw [if_pos hc]; simp only [List.lookup_cons,hx]; first | exact .inl rfl | exact .inl trivial
   ·rw [if_neg hc]; simp only [List.lookup_cons,hx]; exact .inr h
  | false=>
   simp only [List.lookup_cons,hx] at h
   by_cases hc:(j==NameKind.free && env.scope.kind==.function && env.kindOf n==some .cell)=true
   ·rw [if_pos hc]; simp only [List.lookup_cons,hx]; exact ih h
   ·rw [if_neg hc]; simp only [List.lookup_cons,hx]; exact ih h
theorem comp_core (S:CompOk sc Nm own fr scope) (hsc:X.env.scope=sc) (hN:X.N=Nm) (hc:X.calm=true) (hgf:GFr own.length g) (hi:PI X tg iter wi) (hg:∀ d,PG (compCx X (inNm own Nm fr) scope d) tg g)
  (ht:∀ d,PTs (compCx X (inNm own Nm fr) scope d) ifs tt) (he:∀ d,PE (compCx X (inNm own Nm fr) scope d) elt te) (hs:∀ x,foldedSetIterable iter X.env x=pure x)
  {use:Option (Value→Sem Unit)} {Q0:Value→Shared→Prop} {pins:List (Addr × Obj)} {s:Shared} {σ:St} {H:Hp} (I:Inv X pins σ H s) {Qf:VK} (h:tComp own.length fr wi g tt te σ H Qf)
  (hfin:∀ (D C:Addr) (Hd:Hp) (s':Shared) (m:Str→Option Value),Inv X pins σ Hd s'→Qf (.ref D) Hd→s'.heap.Ns C m→Hd C=none→X.s₀.heap.objs.size≤C→C≠X.env.locals→(∀ x c,X.env.cells.lookup x=some c→c≠C)→
   (∀ p∈X.pn ++ pins,p.1≠C)→compPost (model X.prog X.w) X.A X.xe use Q0 (.ref D) C (.ok .next) s') :
  wpAny (model X.prog X.w) X.A (comprehension (.ListComp elt [⟨tg,iter,ifs,0⟩] scope cpos) scope X.env (firstIterPos [⟨tg,iter,ifs,0⟩] cpos) (newList []) false (eval iter X.env) use) Q0 X.xe s:=by
 have hfree:∀ y∈scope.names,y.2=NameKind.free→∃ c,X.env.cells.lookup y.1=some c:=fun y hy hk=>by
  have q:=S.free y hy hk
  rw [← hsc] at q
  exact I.ok.has y.1 q
 refine wpAny_comprehension_free (g:=⟨tg,iter,ifs,0⟩) (gs:=[]) rfl hs (closure_is hfree) S.kind S.locs ?_
 refine thn (hi pins s σ H _ I h) fun v s1 h1=>thn h1 fun itv s2 h2=>?_
 obtain ⟨it,fp,tn,J,H2,e,I2,T,st2,f2,W,⟨m0,w0⟩,turn⟩:=h2
 subst e
 refine wpAny_newObj_type (wpAny_newFunctionEnv S.nocell (by intro y hy; simp at hy) (fun h1 hns hsb=>?_) S.kind)
 dsimp only at hns hsb ⊢
 generalize hG:s2.heap.push { cls:=.type "list",dict:=none,data:=.seq ([]:List Value).toArray } = G at hns hsb ⊢
 have hC:G.objs.size=s2.heap.objs.size+1:=by rw [← hG,Heap.size_push]
 have hDC:s2.heap.objs.size≠G.objs.size:=by omega
 have lo:∀ b,b < s2.heap.objs.size→b≠G.objs.size∧b≠s2.heap.objs.size:=fun b hb=>⟨by omega,by omega⟩
 have old:∀ b o,s2.heap.get? b=some o→h1.get? b=some o:=fun b o e=>hsb.extBut b o (lo b (Heap.lt_size e)).1 (Heap.get?_push_of_some _ (hG▸Heap.get?_push_of_some _ e))
 have hacc:h1.PlainList s2.heap.objs.size #[]:=⟨_,hsb.extBut _ _ hDC (Heap.get?_push_of_some _ (hG▸Heap.get?_push_size _ rfl))⟩
 have fpl:∀ b∈fp,b < s2.heap.objs.size:=fun b hb=>by
  obtain ⟨o,e,_⟩:=T.obj 0 _ st2 b hb
  exact Heap.lt_size e
 have hDf:s2.heap.objs.size∉fp:=fun z=>Nat.lt_irrefl _ (fpl _ z)
 have hCf:G.objs.size∉fp:=fun z=>Nat.lt_irrefl _ (Nat.lt_trans (fpl _ z) (by rw [hC]; exact Nat.lt_succ_self _))
 have cellL:∀ x c,(clOf X.env scope.names []).lookup x=some c→X.env.cells.lookup x=some c∧(x,NameKind.free)∈scope.names:=fun x c e=>by
  have e1:=clOf_good (env:=X.env) scope.names [] (fun y c z=>by simp at z) x c e
  rcases clOf_mem scope.names [] e with z | z
  ·simp at z
  ·obtain ⟨c',e'⟩:=hfree _ z rfl
   rw [e1,e']
   exact ⟨rfl,z⟩
 have cellLt:∀ x c,X.env.cells.lookup x=some c→c < s2.heap.objs.size:=fun x c e=>by
  obtain ⟨v,q⟩:=I2.cell x c e
  exact q.lt
 let d:CD:=⟨clOf X.env scope.names [],G.objs.size,s2,H2,fp⟩
 have isFree:∀ x,((compCx X (inNm own Nm fr) scope d).env.kindOf x=some .cell∨(compCx X (inNm own Nm fr) scope d).env.kindOf x=some .free)→scope.names.lookup x=some .free:=fun x hx=>by
  have noC:scope.names.lookup x≠some .cell:=fun z=>S.nocell _ (PySem.mem_of_lookup z) rfl
  rcases hx with hx | hx
  ·rcases lookup_relab (names:=scope.names) hx with z | z
   ·exact absurd z noC
   ·exact z.2
  ·rcases lookup_relab (names:=scope.names) hx with z | z
   ·exact z
   ·exact absurd z.1 (by decide)
 have ok:(compCx X (inNm own Nm fr) scope d).Ok:=by
  refine ⟨I.ok.mod,S.kind,I.ok.glob,I.ok.blt,?_,fun x y c e1 e2=>?_,fun x hx=>?_,fun x c z=>?_,I.ok.hd,I.ok.frames,.inl rfl,fun b hb=>⟨?_,fun x c e=>?_⟩,I2.bs,Nat.le_trans I2.ok.bsz I2.sz,fun b o e hb=>?_,fun b hb z=>?_,I2.stack,I2.stkFree⟩
  ·show s2.heap.objs.size≤G.objs.size
   omega
  ·exact I.ok.inj x y c (cellL x c e1).1 (cellL y c e2).1
  ·exact clOf_has scope.names [] (.inr (PySem.mem_of_lookup (isFree x hx)))
  ·exact absurd (show false=true from z) Bool.false_ne_true
  ·exact fun z=>hCf ((show b=G.objs.size from z)▸hb)
  ·exact (f2 b hb).2.2.2.2.1 x c (cellL x c e).1
  ·rcases (f2 b hb).2.2.2.1 with z | z
   ·exact I.ok.noex b o e z
   ·exact absurd (Nat.lt_of_lt_of_le (Heap.lt_size e) (Nat.le_trans I.ok.bsz z)) (Nat.lt_irrefl _)
  ·rcases List.mem_cons.mp (I2.stkSub b z) with z | z
   ·exact (f2 b hb).2.1 z
   ·exact (f2 b hb).2.2.1 z
 have hfrs:∀ (i:Nat) x v,(inNm own Nm fr)[i]? = some x→(inSt own.length fr σ)[i]? = some (some v)→scope.names.lookup x=some .free∧∃ j,Nm[j]? = some x∧σ[j]? = some (some v):=fun i x v e1 e2=>by
  unfold inNm at e1
  unfold inSt at e2
  by_cases hil:i < own.length
  ·rw [List.getElem?_append_left (by simpa using hil),List.getElem?_replicate,if_pos hil] at e2
   cases e2
  ·rw [List.getElem?_append_right (by omega),List.getElem?_map] at e1
   rw [List.getElem?_append_right (by simpa using hil),List.getElem?_map,List.length_replicate] at e2
   cases q:fr[i - own.length]? with
   | none=>rw [q] at e1; cases e1
   | some j=>
    rw [q] at e1 e2
    have hj:=S.frs j (List.mem_of_getElem? q)
    have e1':Nm.getD j "" = x:=Option.some.inj e1
    have e2':σ.getD j none=some v:=Option.some.inj e2
    rw [e1'] at hj
    refine ⟨hj.2,j,?_,?_⟩
    ·rw [← e1',List.getD_eq_getElem?_getD,List.getElem?_eq_getElem hj.1]
     rfl
    ·rw [List.getD_eq_getElem?_getD] at e2'
     cases q2:σ[j]? with
     | none=>rw [q2] at e2'; cases e2'
     | some z=>rw [q2] at e2'; exact congrArg some e2'
 have lenSt:(inSt own.length fr σ).length=(inNm own Nm fr).length:=by
  unfold inSt inNm
  simp
 have J0:∀ tk,Inv (compCx X (inNm own Nm fr) scope d) [] (inSt own.length fr σ) H2 { s2 with heap:=h1,toks:=tk }:=fun tk=>by
  obtain ⟨m,hn,hl⟩:=I2.loc
  refine ⟨ok,rfl,I2.bare,Un.kept old,⟨_,hns,fun i x v e1 e2 _=>?_⟩,fun x c e=>?_,I2.hok.fresh (show s2.heap.objs.size≤G.objs.size by omega),fun x c e=>I2.freeC x c (cellL x c e).1,fun p hp=>absurd (show p∈([]:List (Addr × Obj)) from hp) (by simp),I2.hok.kept old,lenSt⟩
  ·obtain ⟨hf,j,hj1,hj2⟩:=hfrs i x v e1 e2
   have kd:X.env.scope.names.lookup x=some .cell∨X.env.scope.names.lookup x=some .free:=by
    rw [hsc]
    exact S.free _ (PySem.mem_of_lookup hf) rfl
   obtain ⟨u,r,q,tk⟩:=hl j x v (by rw [hN]; exact hj1) hj2 (kd.elim (fun z=>.inr (.inl z)) fun z=>.inr (.inr z))
   refine ⟨u,r,.inr ⟨relab_free hf,?_⟩,tk⟩
   obtain ⟨c,e⟩:=clOf_has (env:=X.env) scope.names [] (.inr (PySem.mem_of_lookup hf))
   refine ⟨c,e,?_⟩
   rcases q with ⟨k,_⟩ | ⟨_,c',e',z⟩
   ·have k':X.env.scope.names.lookup x=some .local:=k
    rcases kd with y | y <;> rw [y] at k' <;> cases k'
   ·have:c=c':=Option.some.inj ((cellL x c e).1.symm.trans e')
    subst this
    obtain ⟨o,ho,hd⟩:=z
    exact ⟨o,old _ o ho,hd⟩
  ·obtain ⟨v,o,ho,hd⟩:=I2.cell x c (cellL x c e).1
   exact ⟨v,o,old _ o ho,hd⟩
 have stat:∀ {H':Hp} {pl:List (Addr × Obj)},(∀ b∈fp,H' b=none)→(∀ p∈pl,p.1∉fp)→∀ b∈fp,FpOk (compCx X (inNm own Nm fr) scope d) pl H' b:=fun hn hp b hb=>
  ⟨hn b hb,fun z=>hCf ((show b=G.objs.size from z)▸hb),ok.exfs b hb,.inl hb,(ok.exf b hb).2,fun p hp' z=>hp p (by simpa using (show p∈([]:List (Addr × Obj)) ++ _ from hp')) (z▸hb)⟩
 have loop:∀ tk,codeAny (model X.prog X.w) X.A (.compLoop (.ListComp elt [⟨tg,iter,ifs,0⟩] scope cpos) 0 (.ref it) (.ref s2.heap.objs.size) (compEnvC scope (clOf X.env scope.names []) G.objs.size X.env))
   (compPost (model X.prog X.w) X.A X.xe use Q0 (.ref s2.heap.objs.size) G.objs.size) { s2 with heap:=h1,toks:=tk }:=by
  intro tk
  refine loop_comp (fun n s'=>∃ i acc its H',Inv (compCx X (inNm own Nm fr) scope d) [] (inSt own.length fr σ) H' s'∧tn i s'.heap∧(∀ b∈fp,H' b=none)∧H' s2.heap.objs.size=none∧Vals acc its∧s'.heap.PlainList s2.heap.objs.size its.toArray∧W i n acc H') ?_ m0
   ⟨0,[],[],H2,J0 tk,T.keep 0 _ _ st2 fun b _ o e=>old b o e,fun b hb=>(f2 b hb).1,I2.hok.fresh (Nat.le_refl _),.nil,hacc,w0⟩
  rintro n s3 ⟨i,acc,its,H3,I3,st3,fr3,nD,va,⟨na,pa⟩,w3⟩
  have pinD:Inv (compCx X (inNm own Nm fr) scope d) [(s2.heap.objs.size,{ cls:=.type "list",data:=.seq its.toArray na })] (inSt own.length fr σ) H3 s3:=I3.pins_of fun p hp=>by
   have hp':=List.mem_singleton.mp hp
   subst hp'
   refine ⟨pa,nD,hDC,fun z=>?_,fun v z=>?_⟩
   ·have z':s2.heap.objs.size∈frs X.stack:=z
    rcases List.mem_cons.mp (I2.stkSub _ z') with y | y
    ·exact absurd I2.lt (by rw [← y]; exact Nat.lt_irrefl _)
    ·exact I2.nofs (Nat.le_refl _) y
   ·have z':Data.seq its.toArray na=Data.cell v:=z
    cases z'
  have pinsOut:∀ p∈[(s2.heap.objs.size,({ cls:=.type "list",data:=.seq its.toArray na }:Obj))],p.1∉fp:=fun p hp=>by
   rw [List.mem_singleton.mp hp]
   exact hDf
  obtain ⟨hz,alt⟩:=turn i n acc H3 w3
  rcases alt with ⟨stop,qn⟩ | ⟨go,Nx,hNx,step⟩
  ·refine thn (T.done (compCx X (inNm own Nm fr) scope d) rfl rfl rfl hc i _ s3 _ H3 _ pinD (stat fr3 pinsOut) st3 stop) fun r s4 ⟨hr,I4⟩=>?_
   subst hr
   have pD:=I4.pin (s2.heap.objs.size,{ cls:=.type "list",data:=.seq its.toArray na }) (List.mem_append_right _ (List.mem_singleton.mpr rfl))
   obtain ⟨m4,hn4,_⟩:=I4.loc
   have I5:Inv X pins σ H3 s4:=I2.call' (ch:=fp) I4.os I4.base I4.hok I4.bare fun b hb=>⟨(f2 b hb).2.2.2.1,(f2 b hb).2.1,(f2 b hb).2.2.2.2.1,(f2 b hb).2.2.2.2.2⟩
   have far:∀ a,s2.heap.objs.size≤a→X.s₀.heap.objs.size≤a∧a≠X.env.locals∧(∀ x c,X.env.cells.lookup x=some c→c≠a)∧∀ p∈X.pn ++ pins,p.1≠a:=fun a ha=>
    ⟨Nat.le_trans I2.sz ha,Nat.ne_of_gt (Nat.lt_of_lt_of_le I2.lt ha),fun x c e=>Nat.ne_of_lt (Nat.lt_of_lt_of_le (cellLt x c e) ha),fun p hp=>Nat.ne_of_lt (Nat.lt_of_lt_of_le (Heap.lt_size (I2.pin p hp).1) ha)⟩
   have fD:=far s2.heap.objs.size (Nat.le_refl _)
   have fC:=far G.objs.size (by omega)
   have I6:=I5.adopt (o:=.lst acc) fD.1 pD.2.1 fD.2.1 fD.2.2.1 fD.2.2.2 ⟨Nat.le_of_lt hz,its,na,va,pD.1⟩
   exact hfin s2.heap.objs.size G.objs.size _ s4 m4 I6 (qn _ pD.2.1) hn4 (by rw [upd_ne (Ne.symm hDC)]; exact I4.free) fC.1 fC.2.1 fC.2.2.1 fC.2.2.2
  ·refine thn (T.item (compCx X (inNm own Nm fr) scope d) rfl rfl rfl hc i _ s3 _ H3 _ pinD (stat fr3 pinsOut) st3 go) fun r s4 ⟨u,hr,h4⟩=>?_
   subst hr
   refine thn h4 fun _ s5 ⟨x,H5,I5,r5,y5,st5,fr5⟩=>?_
   have I5':=I5.pinned (stat fr5 pinsOut) (T.obj _ _ st5)
   refine thn (hg d _ s5 _ H5 x u _ I5' r5 (hgf _ _ _ _ (step x H5 y5))) fun _ s6 ⟨σ6,H6,I6,q6,l6,k6⟩=>?_
   have wk:∀ (j:Nat) v,(inSt own.length fr σ)[j]? = some (some v)→σ6[j]? = some (some v):=fun j v e=>by
    by_cases hj:j < own.length
    ·unfold inSt at e
     rw [List.getElem?_append_left (by simpa using hj),List.getElem?_replicate,if_pos hj] at e
     cases e
    ·rw [k6 j (by omega)]
     exact e
   refine thn (ht d _ s6 σ6 H6 _ I6 q6) fun b s7 ⟨H7,I7,q7⟩=>?_
   have fpK:∀ {σ':St} {H':Hp} {s':Shared},Inv (compCx X (inNm own Nm fr) scope d) ([(s2.heap.objs.size,({ cls:=.type "list",data:=.seq its.toArray na }:Obj))] ++ pinsAt fp s5.heap) σ' H' s'→
     tn (i+1) s'.heap∧(∀ b∈fp,H' b=none)∧H' s2.heap.objs.size=none∧s'.heap.get? s2.heap.objs.size=some { cls:=.type "list",data:=.seq its.toArray na }:=fun {σ' H' s'} I'=>by
    have pD:=I'.pin (s2.heap.objs.size,{ cls:=.type "list",data:=.seq its.toArray na }) (List.mem_append_right _ (List.mem_append_left _ (List.mem_singleton.mpr rfl)))
    refine ⟨T.keep _ _ _ st5 fun b hb o e=>(I'.pin (b,o) (List.mem_append_right _ (List.mem_append_right _ (mem_pinsAt hb e)))).1,fun b hb=>?_,pD.2.1,pD.1⟩
    obtain ⟨o,e,_⟩:=T.obj _ _ st5 b hb
    exact (I'.pin (b,o) (List.mem_append_right _ (List.mem_append_right _ (mem_pinsAt hb e)))).2.1
   have drop:∀ {σ':St} {H':Hp} {s':Shared},(∀ (j:Nat) v,(inSt own.length fr σ)[j]? = some (some v)→σ'[j]? = some (some v))→Inv (compCx X (inNm own Nm fr) scope d) ([(s2.heap.objs.size,({ cls:=.type "list",data:=.seq its.toArray na }:Obj))] ++ pinsAt fp s5.heap) σ' H' s'→
     Inv (compCx X (inNm own Nm fr) scope d) [] (inSt own.length fr σ) H' s':=fun {σ' H' s'} hw I'=>
    (I'.pins_of (pins':=[]) (fun p hp=>absurd hp (by simp))).weak (lenSt.trans I'.len.symm) hw
   cases b with
   | false=>
    rw [if_neg Bool.false_ne_true]
    obtain ⟨m',hm,w'⟩:=hNx acc H7 (by rw [if_neg Bool.false_ne_true] at q7; exact q7)
    obtain ⟨k1,k2,k3,k4⟩:=fpK I7
    exact ⟨m',hm,i+1,acc,its,H7,drop wk I7,k1,k2,k3,va,⟨_,k4⟩,w'⟩
   | true=>
    rw [if_pos rfl]
    rw [if_pos rfl] at q7
    refine thn (he d _ s7 σ6 H7 _ I7 q7) fun y s8 ⟨yv,H8,I8,r8,q8⟩=>?_
    obtain ⟨m',hm,w'⟩:=hNx _ H8 q8
    obtain ⟨k1,k2,k3,k4⟩:=fpK I8
    have hsz:its.toArray.size≤sizeLine:=by
     rw [List.size_toArray,← va.length]
     exact Nat.le_of_lt hz
    refine wpAny_list_append_plain (hsz:=hsz) ⟨_,k4⟩ fun h9 hl9 hs9=>?_
    have I9:Inv (compCx X (inNm own Nm fr) scope d) [] (inSt own.length fr σ) H8 { s8 with heap:=h9 }:=by
     refine (drop wk I8).turned (t':=s8.toks) (it:=s2.heap.objs.size) (fun b o hb e=>hs9.extBut b o hb e) k3 hDC (.inr (Nat.le_refl _)) (fun x c e=>?_) fun p hp=>absurd (show p∈([]:List (Addr × Obj)) from hp) (by simp)
     exact Nat.ne_of_lt (cellLt x c (cellL x c e).1)
    refine ⟨m',hm,i+1,acc ++ [yv],its ++ [y],H8,I9,T.keep _ _ _ k1 fun b hb o e=>hs9.extBut b o (fun z=>hDf (z▸hb)) e,k2,k3,va.append (.cons r8 .nil),?_,w'⟩
    rw [show (its ++ [y]).toArray=its.toArray.push y by simp]
    exact hl9
 exact codeAny_compStart_list (loop _) (T.self _ 0 _ _ _ (T.keep 0 _ _ st2 fun b _ o e=>old b o e) (loop _))
theorem pe_comp (S:CompOk sc Nm own fr scope) (hc:X.calm=true) (hgf:GFr own.length g) (hi:PI X tg iter wi) (hg:∀ d,PG (compCx X (inNm own Nm fr) scope d) tg g)
  (ht:∀ d,PTs (compCx X (inNm own Nm fr) scope d) ifs tt) (he:∀ d,PE (compCx X (inNm own Nm fr) scope d) elt te) (hsc:X.env.scope=sc:=by rfl) (hN:X.N=Nm:=by rfl)
  (hs:∀ x,foldedSetIterable iter X.env x=pure x:=by intro _; rfl):PE X (.ListComp elt [⟨tg,iter,ifs,0⟩] scope cpos) (tComp own.length fr wi g tt te):=by
 intro pins s σ H Q I h
 rw [eval_ListComp]
 refine comp_core (use:=none) S hsc hN hc hgf hi hg ht he hs I h fun D C Hd s' m I' q hn nC c1 c2 c3 c4=>?_
 exact ⟨m,hn,fun h' hb=>⟨.ref D,Hd,I'.turned (t':=s'.toks) (fun b o hne e=>hb.extBut b o hne e) nC c2 (.inr c1) c3 c4,rfl,q⟩⟩
theorem ps_setc {i:Nat} {x:Str} {pos pos':Pos} (hNd:X.N.Nodup) (hix:X.N[i]? = some x) (hx:X.env.scope.names.lookup x=some .local) (S:CompOk sc Nm own fr scope) (hc:X.calm=true) (hgf:GFr own.length g) (hi:PI X tg iter wi)
  (hg:∀ d,PG (compCx X (inNm own Nm fr) scope d) tg g) (ht:∀ d,PTs (compCx X (inNm own Nm fr) scope d) ifs tt) (he:∀ d,PE (compCx X (inNm own Nm fr) scope d) elt te) (hsc:X.env.scope=sc:=by rfl) (hN:X.N=Nm:=by rfl)
  (hs:∀ x,foldedSetIterable iter X.env x=pure x:=by intro _; rfl)
  (hsw:swapsWith (.ListComp elt [⟨tg,iter,ifs,0⟩] scope cpos) (some (.Name x pos')) pos.line X.env=pure true:=by rfl) :
  PS X (.Assign [.Name x pos'] (.ListComp elt [⟨tg,iter,ifs,0⟩] scope cpos) pos) (tAsg (tComp own.length fr wi g tt te) (gName i)):=by
 intro pins s σ H D0 I h
 rw [exec_Assign_Name_used _ _ _ _ hsw]
 refine wpAny_bind (wpAny_standAt (wpAny_bind ?_))
 refine wpAny_bind (thn (comp_core (use:=some (assign (.Name x pos') X.env)) (Q0:=fun _ s'=>SP X pins D0 .next s') S hsc hN hc hgf hi hg ht he hs I h fun D C Hd s' m I' q hn nC c1 c2 c3 c4=>?_) fun _ s' q=>wpAny_pure (wpAny_pure q))
 show wpAny _ _ (assign (.Name x pos') X.env (.ref D)) _ _ s'
 refine wpAny_assign_Name (store_ok2 I' hNd hix (.inl hx) (v:=.ref D) rfl (fun _ _ _ e=>nomatch e) (fun s2 I2 ⟨a,sb,ha⟩=>?_) (.inr hx))
 have hCa:C≠a:=by
  rcases ha with z | z
  ·rw [z]; exact c2
  ·exact (c3 x a z).symm
 refine ⟨m,hn.sameBut sb hCa,fun h' hb=>⟨_,Hd,I2.turned (t':=s2.toks) (fun b o hne e=>hb.extBut b o hne e) nC c2 (.inr c1) c3 c4,q⟩⟩
end
theorem comp_gen {J:It} {n k:Nat} {fr:List Nat} {g:TG} {tt:TT} {te:TE} {σ:St} {H:Hp} {Q:VK} (Pv:Nat→List V→Hp→Prop) (hk:k < sizeLine) (h0:Pv 0 [] H) (hlen:∀ i acc H,Pv i acc H→acc.length≤i)
  (hgo:∀ i acc H,i < k→Pv i acc H→J.go i H) (hst:∀ acc H,Pv k acc H→J.stop k H)
  (hs:∀ i acc H2 x H3,i < k→Pv i acc H2→J.yld i H2 x H3→g x (inSt n fr σ) H3 fun σ4 H4=>tt σ4 H4 fun b H5=>if b=true then te σ4 H5 fun v H6=>Pv (i+1) (acc ++ [v]) H6 else Pv (i+1) acc H5)
  (hd:∀ acc H2,Pv k acc H2→∀ l,H2 l=none→Q (.ref l) (upd H2 l (.lst acc))) :
  CompW J n fr g tt te σ H Q:=by
 refine ⟨fun i m acc H=>m=k - i∧i≤k∧Pv i acc H,⟨k,by simp,Nat.zero_le _,h0⟩,?_⟩
 rintro i m acc H2 ⟨rfl,hi,p⟩
 have hl:=hlen i acc H2 p
 refine ⟨by omega,?_⟩
 by_cases hlt:i < k
 ·exact .inr ⟨hgo i acc H2 hlt p,Pv (i+1),fun acc' H' p'=>⟨k - (i+1),by omega,rfl,hlt,p'⟩,fun x H3 y=>hs i acc H2 x H3 hlt p y⟩
 ·have e:i=k:=by omega
  subst e
  exact .inl ⟨hst acc H2 p,hd acc H2 p⟩
def comp_range {lo:Int} {n k:Nat} {fr:List Nat} {g:TG} {tt:TT} {te:TE} {σ:St} {H:Hp} {Q:VK} (Pv:Nat→List V→Hp→Prop) (hk:k < sizeLine) (h0:Pv 0 [] H) (hlen:∀ i acc H,Pv i acc H→acc.length≤i)
  (hs:∀ i acc H2,i < k→Pv i acc H2→g (.int (lo+i)) (inSt n fr σ) H2 fun σ4 H4=>tt σ4 H4 fun b H5=>if b=true then te σ4 H5 fun v H6=>Pv (i+1) (acc ++ [v]) H6 else Pv (i+1) acc H5)
  (hd:∀ acc H2,Pv k acc H2→∀ l,H2 l=none→Q (.ref l) (upd H2 l (.lst acc))):=
 comp_gen (J:=Itr lo k) (n:=n) (fr:=fr) (g:=g) (tt:=tt) (te:=te) (σ:=σ) (Q:=Q) Pv hk h0 hlen (fun _ _ _ h _=>h) (fun _ _ _=>Nat.le_refl _) (fun i acc H2 x H3 hi p y=>by
  obtain ⟨e1,e2⟩:=y
  subst e1 e2
  exact hs i acc _ hi p) hd
def comp_list {K:PySem.W.Frag} {a:Addr} {xs:List V} {n:Nat} {fr:List Nat} {g:TG} {tt:TT} {te:TE} {σ:St} {H:Hp} {Q:VK} (Pv:Nat→List V→Hp→Prop) (hk:xs.length < sizeLine) (h0:Pv 0 [] H) (hlen:∀ i acc H,Pv i acc H→acc.length≤i)
  (hl:∀ i acc H,Pv i acc H→SqL K H a xs)
  (hs:∀ i acc H2 x,xs[i]? = some x→Pv i acc H2→g x (inSt n fr σ) H2 fun σ4 H4=>tt σ4 H4 fun b H5=>if b=true then te σ4 H5 fun v H6=>Pv (i+1) (acc ++ [v]) H6 else Pv (i+1) acc H5)
  (hd:∀ acc H2,Pv xs.length acc H2→∀ l,H2 l=none→Q (.ref l) (upd H2 l (.lst acc))):=
 comp_gen (J:=Itl K a) (n:=n) (fr:=fr) (g:=g) (tt:=tt) (te:=te) (σ:=σ) (Q:=Q) Pv hk h0 hlen (fun i acc H hi p=>⟨xs,xs[i],hl i acc H p,by simp [hi]⟩) (fun acc H p=>⟨xs,hl _ acc H p,Nat.le_refl _⟩) (fun i acc H2 x H3 hi p y=>by
  obtain ⟨e1,e2⟩:=y
  subst e1
  exact hs i acc _ x (e2 xs (hl i acc _ p)) p) hd
end L2
namespace L2
open PySem PySem.Spec PyProof.Rows
def Its (cs:List Nat):It:=⟨fun i _=>i < cs.length,fun i H x H'=>H'=H∧∃ c,cs[i]? = some c∧x=.str ⟨#[c]⟩,fun i _=>cs.length≤i⟩
theorem turn_str {P:Program} {w:World} {K:PySem.W.Frag} {tg:Expr} (it:Addr) (ty:String) (hty:ty = "str_ascii_iterator"∨ty = "str_iterator") (x:Str) (t:Tok) :
  Turn P w K tg (Its x.cps.toList) [it] it (fun i h=>h.IsStrIter it ty x t i) where
 mem:=by simp
 obj:=fun i h st b hb=>by
  rw [List.mem_singleton.mp hb]
  obtain ⟨o,e,c,d⟩:=st
  exact ⟨o,e,fun v z=>by rw [d] at z; cases z⟩
 keep:=fun i h h' st k=>by
  obtain ⟨o,e,r⟩:=st
  exact ⟨o,k it (by simp) o e,r⟩
 item:=by
  intro X hP hw hK hc i pins s σ H E I hf st hg
  subst hP hw hK
  have hlt:i < x.cps.toList.length:=hg
  obtain ⟨f0,f1,f2,f3,f4,f5⟩:=hf it (by simp)
  have hx:x.cps[i]? = some (x.cps.toList[i]):=by
   rw [← Array.getElem?_toList]
   exact List.getElem?_eq_getElem hlt
  have fin:∀ h',h'.IsStrIter it ty x t (i+1)→Heap.SameBut it s.heap h'→∃ u,some (Value.str ⟨#[x.cps.toList[i]]⟩ s.toks)=some u∧
    wpAny (model X.prog X.w) X.A (letOwnedTupleGo tg (.ref it) u) (fun _ s2=>∃ y H',Inv X pins σ H' s2∧RelV y u∧(Its x.cps.toList).yld i H y H'∧s2.heap.IsStrIter it ty x t (i+1)∧∀ b∈[it],H' b=none) E { s with heap:=h',toks:=s.toks+1 }:=fun h' st' sb=>by
   have I1:Inv X pins σ H { s with heap:=h',toks:=s.toks+1 }:=I.turned (fun b o hb e=>(sb.2 b hb).trans e) f0 f1 f3 f4 f5
   obtain ⟨o,e,c,d⟩:=id st'
   refine ⟨_,rfl,go_of (s:={ s with heap:=h',toks:=s.toks+1 }) (n:=ty) e c d (by rcases hty with z | z <;> subst z <;> decide) ⟨.str ⟨#[x.cps.toList[i]]⟩,H,I1,⟨_,rfl⟩,⟨rfl,_,List.getElem?_eq_getElem hlt,rfl⟩,st',fun b hb=>(hf b hb).1⟩⟩
  rcases hty with z | z
  ·subst z
   exact wpAny_pyNext_ascii_item st hx fun h' st' sb=>fin h' st' sb
  ·subst z
   exact wpAny_pyNext_wide_item st hx fun h' st' sb=>fin h' st' sb
 done:=by
  intro X hP hw hK hc i pins s σ H E I hf st hg
  subst hP hw hK
  have hle:x.cps.toList.length≤i:=hg
  obtain ⟨f0,f1,f2,f3,f4,f5⟩:=hf it (by simp)
  have hx:x.cps[i]? = none:=by
   rw [← Array.getElem?_toList]
   exact List.getElem?_eq_none_iff.mpr hle
  rcases hty with z | z
  ·subst z
   exact wpAny_pyNext_ascii_end (I.ok.hd hc) st hx fun h' eb=>⟨rfl,I.turned (t':=s.toks) (fun b o hb e=>eb b o hb e) f0 f1 f3 f4 f5⟩
  ·subst z
   exact wpAny_pyNext_wide_end (I.ok.hd hc) st hx fun h' eb=>⟨rfl,I.turned (t':=s.toks) (fun b o hb e=>eb b o hb e) f0 f1 f3 f4 f5⟩
 self:=fun _ _ _ _ _ st h=>by
  rcases hty with z | z
  ·subst z
   exact wpAny_pyIter_striter_ascii st h
  ·subst z
   exact wpAny_pyIter_striter_wide st h
section
variable {X:Cx} {tg e:Expr} {te:TE}
def iStr (te:TE):TI:=fun σ H R=>te σ H fun v H1=>∃ z,v=.str z∧R (Its z.cps.toList) H1
theorem pi_str (he:PE X e te):PI X tg e (iStr te):=by
 intro pins s σ H R I h
 refine thn (he pins s σ H _ I h) fun v s1 ⟨x,H1,I1,r1,q1⟩=>?_
 obtain ⟨z,e1,q⟩:=q1
 subst e1
 obtain ⟨t,rfl⟩:=r1
 have go:∀ (ty:String),(ty = "str_ascii_iterator"∨ty = "str_iterator")→PIE X pins σ tg R (.ref s1.heap.objs.size) { s1 with heap:=s1.heap.push { cls:=.type ty,data:=.fields #[.str z t,.int 0 0] } }:=fun ty hty=>by
  refine ⟨s1.heap.objs.size,[s1.heap.objs.size],_,_,H1,rfl,I1.kept (t':=s1.toks) fun b o e=>Heap.get?_push_of_some _ e,turn_str _ ty hty z t,⟨_,Heap.get?_push_size _ rfl,rfl,rfl⟩,fun b hb=>?_,q⟩
  rw [List.mem_singleton.mp hb]
  exact I1.fpOk (Nat.le_refl _) (I1.hok.fresh (Nat.le_refl _))
 cases ha:z.cps.all (· < 128) with
 | false=>exact wpAny_pyIter_wide ha (go _ (.inr rfl))
 | true=>exact wpAny_pyIter_ascii ha (go _ (.inl rfl))
end
theorem for_str {cs:List Nat} {g:TG} {tb:TS} {D:Ends} {σ:St} {H:Hp} (Pv:Nat→St→Hp→Prop) (h0:Pv 0 σ H)
  (hs:∀ i c σ H,cs[i]? = some c→Pv i σ H→g (.str ⟨#[c]⟩) σ H fun σ2 H2=>tb { D with nx:=Pv (i+1),ct:=Pv (i+1),bk:=D.nx } σ2 H2) (hd:∀ σ H,Pv cs.length σ H→D.nx σ H) :
  ∃ W:Nat→Nat→St→Hp→Prop,(∃ m,W 0 m σ H)∧∀ i m σ H,W i m σ H→
   ((Its cs).stop i H∧D.nx σ H)∨((Its cs).go i H∧∃ N:St→Hp→Prop,(∀ σ' H',N σ' H'→∃ m',m' < m∧W (i+1) m' σ' H')∧∀ x H',(Its cs).yld i H x H'→g x σ H' fun σ2 H2=>tb { D with nx:=N,ct:=N,bk:=D.nx } σ2 H2):=by
 refine ⟨fun i m σ H=>m=cs.length - i∧i≤cs.length∧Pv i σ H,⟨cs.length,by simp,Nat.zero_le _,h0⟩,?_⟩
 rintro i m σ H ⟨rfl,hi,p⟩
 by_cases hlt:i < cs.length
 ·refine .inr ⟨hlt,Pv (i+1),fun σ' H' p'=>⟨cs.length - (i+1),by omega,rfl,hlt,p'⟩,fun x H' y=>?_⟩
  obtain ⟨e,c,hc,hx⟩:=y
  subst e hx
  exact hs i c σ _ hc p
 ·have e:i=cs.length:=by omega
  subst e
  exact .inl ⟨Nat.le_refl _,hd σ H p⟩
def comp_str {cs:List Nat} {n:Nat} {fr:List Nat} {g:TG} {tt:TT} {te:TE} {σ:St} {H:Hp} {Q:VK} (Pv:Nat→List V→Hp→Prop) (hk:cs.length < sizeLine) (h0:Pv 0 [] H) (hlen:∀ i acc H,Pv i acc H→acc.length≤i)
  (hs:∀ i acc H2 c,cs[i]? = some c→Pv i acc H2→g (.str ⟨#[c]⟩) (inSt n fr σ) H2 fun σ4 H4=>tt σ4 H4 fun b H5=>if b=true then te σ4 H5 fun v H6=>Pv (i+1) (acc ++ [v]) H6 else Pv (i+1) acc H5)
  (hd:∀ acc H2,Pv cs.length acc H2→∀ l,H2 l=none→Q (.ref l) (upd H2 l (.lst acc))):=
 comp_gen (J:=Its cs) (n:=n) (fr:=fr) (g:=g) (tt:=tt) (te:=te) (σ:=σ) (Q:=Q) Pv hk h0 hlen (fun _ _ _ h _=>h) (fun _ _ _=>Nat.le_refl _) (fun i acc H2 x H3 hi p y=>by
  obtain ⟨e1,c,hc,hx⟩:=y
  subst e1 hx
  exact hs i acc _ c hc p) hd
theorem range_getD_all (bs:List Bool):(List.range bs.length).all (fun i=>bs.getD i false)=bs.all id:=by
 rw [Bool.eq_iff_iff,List.all_eq_true,List.all_eq_true]
 constructor
 ·intro h b hb
  obtain ⟨i,hi,rfl⟩:=List.getElem_of_mem hb
  have:=h i (List.mem_range.mpr hi)
  simpa [List.getD_eq_getElem?_getD,hi] using this
 ·intro h i hi
  have hi':=List.mem_range.mp hi
  have:=h bs[i] (List.getElem_mem hi')
  simpa [List.getD_eq_getElem?_getD,hi'] using this
section
variable {X:Cx}
theorem walk_bools {pins:List (Addr × Obj)} {σ:St} {H:Hp} {s:Shared} {p:Addr} {bs:List Bool} {Qv:VK} {f:Nat→(Nat→Bool)→Bool} {b:Bool} (hc:X.calm=true) (I:Inv X pins σ H s) (hq:SqL X.K H p (bs.map V.bl)) (hb:f bs.length (fun i=>bs.getD i false)=b) (q:Qv (.bl b) H) :
  wpAny (model X.prog X.w) X.A.in1 (pyIter (.ref p)) (fun it s₂=>∃ I fp wr n P St tr,it=.ref I∧Walks X.prog X.w X.A.in1 I fp wr n P St∧St 0 s₂.heap∧TruthOf X.prog X.w X.A.in1 P tr∧
   ∀ h' tk,(∀ b o,b∉wr→s₂.heap.get? b=some o→h'.get? b=some o)→EP X pins σ Qv (.bool (f n tr)) { s₂ with heap:=h',toks:=tk }) X.xe s:=by
 obtain ⟨its,r,pl,hz⟩:=I.list hq
 have hlen:its.toArray.size=bs.length:=by
  rw [List.size_toArray,← r.length,List.length_map]
 have hpl:p < s.heap.objs.size:=by
  obtain ⟨o,e,_⟩:=pl.isList
  exact Heap.lt_size e
 refine wpAny_pyIter_list pl.isList ?_
 refine ⟨s.heap.objs.size,[s.heap.objs.size,p],[s.heap.objs.size],its.toArray.size,_,_,fun i=>bs.getD i false,rfl,Walks.list (A:=X.A.in1) (show X.A.in1.handled=none from I.ok.hd hc) s.heap.objs.size p (Nat.ne_of_lt hpl) its.toArray,?_,?_,fun h' tk k=>?_⟩
 ·refine And.intro (show Heap.IsListIter _ _ _ _ from ⟨_,Heap.get?_push_size _ rfl,rfl,rfl⟩) ?_
  obtain ⟨o,e,z⟩:=pl.isList
  exact ⟨o,Heap.get?_push_of_some _ e,z⟩
 ·intro i v s' Q E hv hQ
  have hv':its[i]? = some v:=by simpa using hv
  cases e:(bs.map V.bl)[i]? with
  | none=>
   have z:=r.none_of e
   rw [hv'] at z
   cases z
  | some x=>
   obtain ⟨u,hu,ru⟩:=r.get e
   rw [hv'] at hu
   cases hu
   rw [List.getElem?_map] at e
   cases e2:bs[i]? with
   | none=>rw [e2] at e; cases e
   | some y=>
    rw [e2] at e
    cases e
    cases ru
    refine wpAny_truthy_bool ?_
    have:bs.getD i false=y:=by rw [List.getD_eq_getElem?_getD,e2]; rfl
    exact this▸(show Q (bs.getD i false) s' from hQ)
 ·rw [hlen,hb]
  refine ⟨.bl b,H,I.kept fun c o e=>k c o ?_ (Heap.get?_push_of_some _ e),rfl,q⟩
  have:=Heap.lt_size e
  intro z
  rw [List.mem_singleton.mp z] at this
  exact Nat.lt_irrefl _ this
theorem call_all_bl (hc:X.calm=true):CallR X (.builtin "all") (fun xs H Q=>∃ (p:Addr) (bs:List Bool),xs=[.ref p]∧SqL X.K H p (bs.map V.bl)∧Q (.bl (bs.all id)) H):=by
 intro pins s σ H xs us Q I r h
 obtain ⟨p,bs,rfl,hq,q⟩:=h
 obtain ⟨u,rfl,ru⟩:=vals1 r
 cases ru
 exact call_all_walk (walk_bools (f:=fun n tr=>(List.range n).all tr) hc I hq (range_getD_all bs) q)
theorem strsAre_of:∀ {ys:List Str} {us:List Value},Vals (ys.map V.str) us→StrsAre us ys
 | [],us,r=>by rw [List.map_nil] at r; cases r; exact .nil
 | y :: ys,us,r=>by
  rw [List.map_cons] at r
  cases r with
  | cons r1 r2=>
   obtain ⟨t,e⟩:=r1
   subst e
   exact .cons y t (strsAre_of r2)
theorem vals_strs:∀ {us:List Value} {ys:List Str},StrsAre us ys→Vals (ys.map V.str) us
 | _,_,.nil=>.nil
 | _,_,.cons y t h=>.cons ⟨t,rfl⟩ (vals_strs h)
inductive rJoinI (K:PySem.W.Frag) (x:V) (xs:List V) (H:Hp) (Q:VK):Prop
 | mk (z p ys:_) (h1:x=.str z) (h2:xs=[.ref p]) (h3:SqL K H p (ys.map V.str)) (h4:(ys.map (·.length)).sum+ys.length * z.length≤16777216) (h5:Q (.str (Txt.join z ys)) H):rJoinI K x xs H Q
def rJoin (K:PySem.W.Frag):V→List V→Hp→VK→Prop:=fun x xs H Q=>rJoinI K x xs H Q
theorem mt_join:MtR X "str.join" (rJoin X.K):=by
 intro pins s σ H x xs v us Q I rx rs h
 obtain ⟨z,p,ys,rfl,rfl,hq,hz,q⟩:=h
 obtain ⟨t,rfl⟩:=rx
 obtain ⟨u,rfl,ru⟩:=rs.one
 cases ru
 obtain ⟨its,r,pl,_⟩:=I.list hq
 exact join_list pl.isList (by simpa using strsAre_of r) hz fun t' k=>⟨.str _,H,I.tok _,⟨_,rfl⟩,q⟩
theorem join_nil_list (ys:List Str):(Txt.join (Str.ofString "") ys).cps.toList=(ys.map fun y=>y.cps.toList).flatten:=by
  show (Builtin.Str.glued (Str.ofString "") ys).cps.toList=_
  rw [StrLaws.glued_eq_join]
  induction ys with
  | nil=>rfl
  | cons y r ih=>
   cases r with
   | nil=>simp [Str.join]
   | cons z r=>
    have e:Str.join (Str.ofString "") (y :: z :: r)=y ++ Str.ofString "" ++ Str.join (Str.ofString "") (z :: r):=rfl
    rw [e]
    have h0:(Str.ofString "").cps = #[]:=by decide +kernel
    show ((y.cps ++ (Str.ofString "").cps) ++ (Str.join (Str.ofString "") (z :: r)).cps).toList=_
    rw [h0,Array.append_empty,Array.toList_append,ih,List.map_cons,List.map_cons,List.flatten_cons]
    rfl
inductive rSlSI (x:V) (lo:Option Int) (hi:Option Int) (H:Hp) (Q:VK):Prop
 | mk (z:_) (h1:x=.str z) (h2:z.length≤sizeLine) (h3:Q (.str (Txt.slice z lo hi)) H):rSlSI x lo hi H Q
def rSlS:V→Option Int→Option Int→Hp→VK→Prop:=fun x lo hi H Q=>rSlSI x lo hi H Q
theorem sl_str:SlR X rSlS:=by
 intro pins s σ H x v vl vu lo hi sl Q I rx hs pl pu h
 obtain ⟨z,rfl,hz,q⟩:=h
 obtain ⟨t,rfl⟩:=rx
 refine ⟨"str",_,F.slot_str_getitem.lookup,typeIs_str _ _ _,?_⟩
 have fin:∀ t' k,EP X pins σ Q (.str (Txt.slice z lo hi) t') { s with toks:=k }:=fun t' k=>⟨.str _,H,I.tok _,⟨_,rfl⟩,q⟩
 have hle:(Txt.slice z lo hi).length≤sizeLine:=Nat.le_trans (Txt.slice_le z _ _) hz
 cases pl with
 | none=>
  cases pu with
  | none=>exact wpAny_getItem_str_slice (l:=none) (u:=none) (st:=none) hs rfl (post_val_or_str ⟨hle,fin⟩)
  | int j uj=>exact wpAny_getItem_str_slice (l:=none) (u:=some (j,uj)) (st:=none) hs rfl (post_val_or_str ⟨hle,fin⟩)
 | int i ui=>
  cases pu with
  | none=>exact wpAny_getItem_str_slice (l:=some (i,ui)) (u:=none) (st:=none) hs rfl (post_val_or_str ⟨hle,fin⟩)
  | int j uj=>exact wpAny_getItem_str_slice (l:=some (i,ui)) (u:=some (j,uj)) (st:=none) hs rfl (post_val_or_str ⟨hle,fin⟩)
def repS (z:Str) (n:Nat):Str:=⟨(List.replicate n z.cps.toList).flatten.toArray⟩
theorem foldl_arr (a:Array Nat):∀ (k:Nat) (acc:List Nat),List.foldl (fun x1 x2=>x1 ++ x2) acc.toArray (List.replicate k a)=(acc ++ (List.replicate k a.toList).flatten).toArray
 | 0,acc=>by simp
 | k+1,acc=>by
  rw [List.replicate_succ,List.foldl_cons]
  have e:acc.toArray ++ a=(acc ++ a.toList).toArray:=by simp
  rw [e,foldl_arr a k,List.replicate_succ,List.flatten_cons,List.append_assoc]
theorem op_mul_str:OpR X (binaryOp .Mult) (fun x y H Q=>∃ z n,x=.str z∧y=.int n∧0≤n∧n≤1000∧z.length≤1000∧Q (.str (repS z n.toNat)) H):=by
 intro pins s σ H x y v u Q I rx ry h
 obtain ⟨z,n,rfl,rfl,h0,h1,hz,q⟩:=h
 obtain ⟨t,rfl⟩:=rx
 obtain ⟨t',rfl⟩:=ry
 have hl:z.length * n.toNat≤1000 * 1000:=Nat.mul_le_mul hz (by omega)
 have hline:sizeLine=16777216:=sizeLine_eq
 have hlong:Builtin.Str.tooLong (z.length * n.toNat)=false:=by
  unfold Builtin.Str.tooLong
  exact decide_eq_false (by omega)
 refine PySem.P.mul_str (by
   rw [decide_eq_false (by omega),decide_eq_false (by omega)]; rfl) (fun hn _=>?_) (fun _ _=>hlong) ?_
 ·have h2:(2 ^ 63 - 1:Int) / n ≥ 1000:=by
   refine Int.le_ediv_of_mul_le (by omega) ?_
   have:(1000:Int) * n≤1000 * 1000:=Int.mul_le_mul_of_nonneg_left h1 (by omega)
   omega
  omega
 ·have rep0:∀ k,(⟨(List.replicate k z.cps).foldl (· ++ ·) #[]⟩:Str)=repS z k:=fun k=>by
   have:=foldl_arr z.cps k []
   rw [List.nil_append] at this
   exact congrArg Str.mk this
  have fin:∀ (y:Str),y=repS z n.toNat→∀ t2 k,EP X pins σ Q (.str y t2) { s with toks:=k }:=fun y e t2 k=>by
   subst e
   exact ⟨.str _,H,I.tok _,⟨_,rfl⟩,q⟩
  by_cases hn:n < 1
  ·rw [if_pos hn]
   refine ⟨by decide,fin _ ?_ _ _⟩
   have:n.toNat=0:=by omega
   rw [this]
   rfl
  ·rw [if_neg hn]
   by_cases hb:(n==1 || z.length==0)=true
   ·rw [if_pos hb]
    refine fin z ?_ t s.toks
    rcases Bool.or_eq_true_iff.mp hb with e | e
    ·have:n=1:=by simpa using e
     subst this
     show z=⟨([z.cps.toList].flatten).toArray⟩
     simp
    ·have e':z.cps.size=0:=by simpa [Str.length] using e
     have e2:z.cps = #[]:=Array.eq_empty_of_size_eq_zero e'
     unfold repS
     obtain ⟨c⟩:=z
     subst e2
     simp
   ·rw [if_neg hb]
    refine ⟨?_,?_⟩
    ·rw [rep0]
     show ((List.replicate n.toNat z.cps.toList).flatten.toArray).size≤sizeLine
     rw [List.size_toArray,len_rep,Array.length_toList]
     have:n.toNat * z.cps.size=z.length * n.toNat:=Nat.mul_comm _ _
     omega
    ·exact fin _ (rep0 _) _ _
inductive rSortSI (K:PySem.W.Frag) (xs:List V) (H:Hp) (Q:VK):Prop
 | mk (p ys:_) (h1:xs=[.ref p]) (h2:SqL K H p (ys.map V.str)) (h3:ys.length < 64) (h4:∀ ys' l,ys'.Perm ys→sortedS ys'=true→H l=none→Q (.ref l) (upd H l (.lst (ys'.map V.str)))):rSortSI K xs H Q
def rSortS (K:PySem.W.Frag):List V→Hp→VK→Prop:=fun xs H Q=>rSortSI K xs H Q
theorem call_sorted_str:CallR X (.builtin "sorted") (rSortS X.K):=by
 intro pins s σ H xs us Q I r h
 obtain ⟨p,ys,rfl,hq,h64,q⟩:=h
 obtain ⟨u,rfl,ru⟩:=vals1 r
 cases ru
 obtain ⟨its,r',pl,hz⟩:=I.list hq
 have hlen:=r'.length
 rw [List.length_map] at hlen hz
 refine sorted_strs pl.isList (strsAre_of r') (by omega) fun out ss' a1 a2 a3=>?_
 obtain ⟨e,he⟩:=sortedAll_at s.heap its out
 have hn:H (s.heap.objs.size+1)=none:=I.hok.fresh (Nat.le_succ _)
 refine ⟨.ref (s.heap.objs.size+1),upd H (s.heap.objs.size+1) (.lst (ss'.map V.str)),I.laid (t':=s.toks) (fun _ _=>sortedAll_old) (Nat.le_succ _) ⟨?_,out.toList,e,vals_strs a1,?_⟩,rfl,q ss' _ a2 a3 hn⟩
 ·rw [List.length_map,a2.length_eq]
  exact hz
 ·simpa [seqObj] using he
def oneS (c:Nat):V:=.str ⟨#[c]⟩
theorem vals_signs {x:Str}:∀ (us:List Value) (k:Nat),(∀ i v,us[i]? = some v→SignAt x (k+i) v)→us.length+k=x.cps.toList.length→Vals ((x.cps.toList.drop k).map oneS) us
 | [],k,_,hl=>by
  rw [List.drop_eq_nil_of_le (by simpa using Nat.le_of_eq hl.symm)]
  exact .nil
 | u :: us,k,h,hl=>by
  have hk:k < x.cps.toList.length:=by
   simp only [List.length_cons] at hl
   omega
  rw [List.drop_eq_getElem_cons hk,List.map_cons]
  refine .cons ?_ (vals_signs us (k+1) (fun i v e=>?_) (by simp only [List.length_cons] at hl; omega))
  ·obtain ⟨c,t,hc,rfl⟩:=h 0 u rfl
   have hc':x.cps.toList[k]? = some c:=by
    rw [Array.getElem?_toList]
    exact hc
   rw [List.getElem?_eq_getElem hk] at hc'
   rw [Option.some.inj hc']
   exact ⟨t,rfl⟩
  ·have:=h (i+1) v e
   rw [show k+1+i=k+(i+1) by omega]
   exact this
theorem call_list_text (hc:X.calm=true):CallR X (.type "list") (fun xs H Q=>∃ z,xs=[.str z]∧z.length≤sizeLine∧∀ l,H l=none→Q (.ref l) (upd H l (.lst (z.cps.toList.map oneS)))):=by
 intro pins s σ H xs us Q I r h
 obtain ⟨z,rfl,hz,q⟩:=h
 obtain ⟨u,rfl,t,rfl⟩:=vals1 r
 refine call_list_str (hn:=hz) (I.ok.hd hc) z t fun h' tk acc c kp e it=>?_
 refine ⟨.ref s.heap.objs.size,_,I.laid kp (Nat.le_refl _) (show ObjOk X.prog X.w _ h' _ (.lst (z.cps.toList.map oneS)) from ⟨by rw [List.length_map]; simpa [Str.length] using hz,acc.toList,c,?_,by simpa using e⟩),rfl,q _ (I.hok.fresh (Nat.le_refl _))⟩
 have e1:=vals_signs (x:=z) acc.toList 0 (fun i v e=>by rw [Nat.zero_add]; exact it.2 i v (by rw [← Array.getElem?_toList]; exact e)) (by rw [Array.length_toList,it.1,Nat.add_zero,Array.length_toList])
 rw [List.drop_zero] at e1
 exact e1
inductive rFind3I (x:V) (xs:List V) (H:Hp) (Q:VK):Prop
 | mk (z y i:_) (h1:x=.str z) (h2:xs=[.str y,.int i]) (h3:Q (.int (Txt.find3 z y i)) H):rFind3I x xs H Q
def rFind3:V→List V→Hp→VK→Prop:=fun x xs H Q=>rFind3I x xs H Q
theorem mt_find3:MtR X "str.find" rFind3:=by
 intro pins s σ H x xs v us Q I rx rs h
 obtain ⟨z,y,i,rfl,rfl,q⟩:=h
 obtain ⟨t,rfl⟩:=rx
 obtain ⟨u1,u2,rfl,⟨t1,rfl⟩,⟨t2,rfl⟩⟩:=rs.two
 exact SC.find3 ⟨.int _,H,I.tok _,⟨_,rfl⟩,q⟩
inductive rIsI (K:PySem.W.Frag) (xs:List V) (H:Hp) (Q:VK):Prop
 | mk (x n t b:_) (h1:xs=[x,.ty n]) (h2:TyOf K H x t) (h3:PySem.W.kitOne K t (.type n)=some b) (h4:Q (.bl b) H):rIsI K xs H Q
def rIs (K:PySem.W.Frag):List V→Hp→VK→Prop:=fun xs H Q=>rIsI K xs H Q
theorem call_is:CallR X (.builtin "isinstance") (rIs X.K):=by
 intro pins s σ H xs us Q I r h
 obtain ⟨x,n,t,b,rfl,ty,e,q⟩:=h
 obtain ⟨u,w',rfl,rx,rc⟩:=vals2 r
 cases (show w'=Value.type n from rc)
 exact isinst_ok I rx ty e fun tk=>⟨.bl b,H,I.tok _,rfl,q⟩
end
end L2
namespace L2
open PySem PySem.Spec PyProof.Rows
inductive tCutI (t:TS) (u:TS) (D:Ends) (σ:St) (H:Hp):Prop
 | mk (P:St→Hp→Prop) (h1:t { D with nx:=P } σ H) (h2:∀ σ' H',P σ' H'→u D σ' H'):tCutI t u D σ H
def tCut (t u:TS):TS:=fun D σ H=>tCutI t u D σ H
theorem pss_cut {X:Cx} {st:Stmt} {rest:List Stmt} {t u:TS} (h1:PS X st t) (h2:PSs X rest u):PSs X (st :: rest) (tCut t u):=by
 intro pins s σ H D I h
 obtain ⟨P,q,k⟩:=h
 have z:PSs X (st :: rest) (tSeq (fun D' σ' H'=>D'=D∧σ'=σ∧H'=H) (fun _ _ _=>True))→True:=fun _=>True.intro
 exact pss_cons (t:=fun D' σ' H'=>t { D' with nx:=P } σ' H'∧∀ σ2 H2,P σ2 H2→D'.nx σ2 H2) (u:=u) (fun pins s σ H D I h=>by
  refine thn (h1 pins s σ H _ I h.1) fun f s' r=>?_
  cases f with
  | next=>
   obtain ⟨σ',H',I',p⟩:=r
   exact ⟨σ',H',I',h.2 σ' H' p⟩
  | brk=>exact r
  | cont=>exact r
  | ret v=>exact r) h2 pins s σ H D I ⟨q,k⟩
structure Cal (P:Program) (w:World) (K:PySem.W.Frag) (mg:Str→Option Value) (base:Heap) (x:Str) (k:Nat) (ps:List Str) (sp:Sp) where
 f:Addr
 fd:FuncData
 ok:FnOk P w K mg base CX0 k f fd ps sp
 at_:mg x=some (.ref f)
 kp:PySem.W.keepIn K (.ref f)=true
 b:Binds K fd ps []
theorem pe_c {X:Cx} {x:Str} {k:Nat} {ps:List Str} {sp:Sp} {p pos:Pos} {e:Expr} {es:List Expr} {t:TA} (C:Cal X.prog X.w X.K X.mg X.base x k ps sp) (hr:Room k X.A) (ha:PA X (e :: es) t) (hg:Gl X x:=by rfl)
  (hdb:(x==("__debug__" : Str))=false:=by decide) (he:starEach (e :: es) X.env=(false,eval e X.env) :: starEach es X.env:=by rfl) (hpl:(backTo pos (starEach es X.env)).any (·.1)=false:=by rfl) :
  PE X (.Call (.Name x p) (e :: es) [] pos) (tCall sp [] E0 t):=pe_call C.ok hr hg C.at_ C.kp C.b .nil pass0 ha hdb he hpl
section
variable {X:Cx}
end
theorem lt_one (a b:Nat):decide (([a]:List Nat) < [b])=decide (a < b):=by
 rw [Bool.eq_iff_iff,decide_eq_true_eq,decide_eq_true_eq]
 constructor
 ·intro h
  cases h with
  | rel h=>exact h
  | cons h=>cases h
 ·intro h
  exact List.Lex.rel h
section
variable {X:Cx} {K:PySem.W.Frag}
inductive rLenQI (K:PySem.W.Frag) (xs:List V) (H:Hp) (Q:VK):Prop
 | mk (p ys:_) (h1:xs=[V.ref p]) (h2:(SqL K H p ys∨SqT K H p ys)) (h3:Q (.int ys.length) H):rLenQI K xs H Q
def rLenQ (K:PySem.W.Frag):List V→Hp→VK→Prop:=fun xs H Q=>rLenQI K xs H Q
inductive rListQI (K:PySem.W.Frag) (xs:List V) (H:Hp) (Q:VK):Prop
 | mk (p ys:_) (h1:xs=[V.ref p]) (h2:(SqL K H p ys∨SqT K H p ys)) (h3:∀ l,H l=none→Q (.ref l) (upd H l (.lst ys))):rListQI K xs H Q
def rListQ (K:PySem.W.Frag):List V→Hp→VK→Prop:=fun xs H Q=>rListQI K xs H Q
inductive rTupQI (K:PySem.W.Frag) (xs:List V) (H:Hp) (Q:VK):Prop
 | mk (p ys:_) (h1:xs=[V.ref p]) (h2:((SqL K H p ys∧∀ l,H l=none→Q (.ref l) (upd H l (.tup ys)))∨(SqT K H p ys∧Q (.ref p) H))):rTupQI K xs H Q
def rTupQ (K:PySem.W.Frag):List V→Hp→VK→Prop:=fun xs H Q=>rTupQI K xs H Q
inductive rAllQI (K:PySem.W.Frag) (xs:List V) (H:Hp) (Q:VK):Prop
 | mk (p:Addr) (bs:List Bool) (h1:xs=[V.ref p]) (h2:SqL K H p (bs.map V.bl)) (h3:Q (.bl (bs.all id)) H):rAllQI K xs H Q
def rAllQ (K:PySem.W.Frag):List V→Hp→VK→Prop:=fun xs H Q=>rAllQI K xs H Q
theorem CallR.imp {X:Cx} {f:Value} {r r':List V→Hp→VK→Prop} (h:CallR X f r) (hi:∀ xs H Q,r' xs H Q→r xs H Q):CallR X f r':=fun pins s σ H xs us Q I rv q=>h pins s σ H xs us Q I rv (hi xs H Q q)
theorem ix_listK (hK:X.K=K:=by rfl):IxR X (rIxL K):=by subst hK; exact ix_list
theorem ix_tupK (hK:X.K=K:=by rfl):IxR X (rIxT K):=by subst hK; exact ix_tup
theorem call_lenK (hK:X.K=K:=by rfl):CallR X (.builtin "len") (rLenQ K):=by subst hK; exact call_len_seq.imp fun _ _ _ ⟨p,ys,e,h,q⟩=>⟨p,ys,e,h,q⟩
theorem call_listK (hK:X.K=K:=by rfl):CallR X (.type "list") (rListQ K):=by subst hK; exact call_list_of.imp fun _ _ _ ⟨p,ys,e,h,q⟩=>⟨p,ys,e,h,q⟩
theorem call_tupK (hK:X.K=K:=by rfl):CallR X (.type "tuple") (rTupQ K):=by subst hK; exact call_tuple_of.imp fun _ _ _ ⟨p,ys,e,h⟩=>⟨p,ys,e,h⟩
theorem call_allK (hc:X.calm=true:=by rfl) (hK:X.K=K:=by rfl):CallR X (.builtin "all") (rAllQ K):=by subst hK; exact (call_all_bl hc).imp fun _ _ _ ⟨p,bs,e,h,q⟩=>⟨p,bs,e,h,q⟩
theorem call_sortK (hK:X.K=K:=by rfl):CallR X (.builtin "sorted") (rSortS K):=by subst hK; exact call_sorted_str
theorem call_isK (hK:X.K=K:=by rfl):CallR X (.builtin "isinstance") (rIs K):=by subst hK; exact call_is
theorem op_inK (hK:X.K=K:=by rfl):OpR X (compareOp .In) (rIn K false):=by subst hK; exact op_in_seq
theorem sl_tupK (hK:X.K=K:=by rfl):SlR X (rSlT K):=by subst hK; exact sl_tup
theorem mt_joinK (hK:X.K=K:=by rfl):MtR X "str.join" (rJoin K):=by subst hK; exact mt_join
theorem pi_listK {tg l:Expr} {tl:TE} (hl:PE X l tl) (hK:X.K=K:=by rfl):PI X tg l (iList K tl):=by subst hK; exact pi_list hl
theorem pi_tupK {tg l:Expr} {tl:TE} (hl:PE X l tl) (hK:X.K=K:=by rfl):PI X tg l (iTup K tl):=by subst hK; exact pi_tup hl
theorem pg_tupK {es:List Expr} {k:Nat} {t:TGs} {n:Nat} {pos:Pos} (hc:X.calm=true) (h:PGs X es t) (hK:X.K=K:=by rfl)
  (hn:(assignEach es X.env).length=n:=by rfl) (hst:(assignEach es X.env).findIdx? (·.1)=none:=by rfl):PG X (.Tuple es k pos) (gTup K n t):=by subst hK; exact pg_tup hc h hn hst
theorem pe_bmK {o e:Expr} {es:List Expr} {to:TE} {t:TA} {name:Str} {apos cpos:Pos} {T id:String} {r:V→List V→Hp→VK→Prop} (pa:PlainAttrs T) (slot:Slot T name id) (hty:typeOf (.builtin id)=pure (.type "method_descriptor")) (hm:MtR X id r) (ho:PE X o to)
  (ha:PA X (e :: es) t) (hK:X.K=K:=by rfl) (hbase:attributeBase o name X.env (eval o X.env)=eval o X.env:=by rfl)
  (hfew:((backTo cpos (starEach (e :: es) X.env)).all (fun x=>!x.1) && (backToKw cpos (keywordEach [] X.env)).all (fun x=>x.1.isSome)
   && decide ((e :: es).length+([]:List Keyword).length+(if ([]:List Keyword).isEmpty then 0 else 1) < 30))=true:=by rfl)
  (hline:(apos.endLine==cpos.line)=true:=by rfl) (hs:starEach (e :: es) X.env=(false,eval e X.env) :: starEach es X.env:=by rfl) (hplain:(backTo cpos (starEach es X.env)).any (·.1)=false:=by rfl) :
  PE X (.Call (.Attribute o name apos) (e :: es) [] cpos) (tBM K T r to t):=by subst hK; exact pe_bm pa slot hty hm ho ha hbase hfew hline hs hplain
end
theorem slice_ix (lo hi:Option Int) (n:Nat):Builtin.Str.strSliceIndices lo hi 1 n=(List.range (HT.sIx n n hi - HT.sIx n 0 lo)).map (HT.sIx n 0 lo + ·):=by
 obtain ⟨h1,h2,h3⟩:=slice_bounds lo hi n
 have e:Builtin.Str.strSliceIndices lo hi 1 n=sliceRange (sliceBounds lo hi none n).1 (sliceBounds lo hi none n).2.1 (sliceBounds lo hi none n).2.2:=by
  cases lo <;> cases hi <;> rfl
 rw [e,h1,h2,h3,sliceRange_one]
theorem slice_list (z:Str) (lo hi:Option Int):(Txt.slice z lo hi).cps.toList=(z.cps.toList.drop (HT.sIx z.length 0 lo)).take (HT.sIx z.length z.length hi - HT.sIx z.length 0 lo):=by
 unfold Txt.slice
 rw [slice_ix]
 by_cases hc:((1:Int)==1 && ((List.range (HT.sIx z.length z.length hi - HT.sIx z.length 0 lo)).map (HT.sIx z.length 0 lo + ·)).length==z.length)=true
 ·rw [if_pos hc]
  simp only [Bool.and_eq_true,List.length_map,List.length_range,beq_iff_eq,true_and] at hc
  have h1:=HT.sIx_le z.length 0 (Nat.zero_le _) lo
  have h2:=HT.sIx_le z.length z.length (Nat.le_refl _) hi
  have hl:z.cps.toList.length=z.length:=by simp [Str.length]
  by_cases h0:z.length=0
  ·have:z.cps.toList=[]:=List.eq_nil_of_length_eq_zero (by omega)
   rw [this]
   simp
  ·have e0:HT.sIx z.length 0 lo=0:=by omega
   rw [e0,List.drop_zero,List.take_of_length_le (by omega)]
 ·rw [if_neg hc]
  rw [pick_run]
theorem bt_len:bootBuiltins "len" = some (.builtin "len"):=by decide +kernel
theorem bt_sorted:bootBuiltins "sorted" = some (.builtin "sorted"):=by decide +kernel
theorem bt_all:bootBuiltins "all" = some (.builtin "all"):=by decide +kernel
theorem bt_isinstance:bootBuiltins "isinstance" = some (.builtin "isinstance"):=by decide +kernel
theorem bt_max:bootBuiltins "max" = some (.builtin "max"):=by decide +kernel
theorem bt_list:bootBuiltins "list" = some (.type "list"):=by decide +kernel
theorem bt_tuple:bootBuiltins "tuple" = some (.type "tuple"):=by decide +kernel
theorem bt_int:bootBuiltins "int" = some (.type "int"):=by decide +kernel
theorem bt_str:bootBuiltins "str" = some (.type "str"):=by decide +kernel
theorem bt_set:bootBuiltins "set" = some (.type "set"):=by decide +kernel
theorem cyes {i:Nat} {x:V} {σ:St} {H:Hp} {te:TE} {Nt:VK} {Nf:Hp→Prop} (h:te (σ.set i (some x)) H Nt):gName i x σ H fun σ4 H4=>tYes σ4 H4 fun b H5=>if b=true then te σ4 H5 Nt else Nf H5:=by
 show if true=true then te (σ.set i (some x)) H Nt else Nf H
 exact iteT h
theorem same_new {H:Hp} {p:Addr} (h:H p=none) (o:HO):Same H (upd H p o):=fun b u q=>by rw [upd_ne (ne_of_none q h)]; exact q
theorem line_le {n:Nat} (h:n≤1000):n≤sizeLine:=Nat.le_of_lt (small1000 h)
def FlowXs (sc:Addr) (xs:List V):Prop:=∃ a b c d:Int,xs=[.ref sc,.int a,.int b,.int c,.int d]∧0≤a∧0≤b∧0≤c∧c < 2147483647∧0≤d
structure FlowAt (H:Hp) (p sc:Addr):Prop where
 here:∃ xs,H p=some (.lst xs)∧FlowXs sc xs
 cells:∃ ns:List Int,H sc=some (.lst (ns.map V.int))
theorem FlowAt.ne {H:Hp} {p sc:Addr} (F:FlowAt H p sc):sc≠p:=by
 obtain ⟨xs,h1,a,b,c,d,e,_⟩:=F.here
 obtain ⟨ns,h2⟩:=F.cells
 refine ne_of h2 h1 fun z=>?_
 have z':ns.map V.int=xs:=by injection z
 rw [e] at z'
 cases ns with
 | nil=>cases z'
 | cons n r=>
  rw [List.map_cons] at z'
  injection z' with z1
  cases z1
theorem FlowAt.go {H:Hp} {p sc:Addr} {xs:List V} (F:FlowAt H p sc) (h:FlowXs sc xs):FlowAt (upd H p (.lst xs)) p sc:=by
 obtain ⟨ns,h2⟩:=F.cells
 exact ⟨⟨xs,upd_same,h⟩,ns,by rw [upd_ne F.ne]; exact h2⟩
def Drew (H H':Hp) (p:Addr):Prop:=∀ b o,H b=some o→b≠p→H' b=some o
theorem FlowAt.same {H H':Hp} {p sc:Addr} (F:FlowAt H p sc) (e:Same H H'):FlowAt H' p sc:=by
 obtain ⟨xs,h1,h2⟩:=F.here
 obtain ⟨ns,h3⟩:=F.cells
 exact ⟨⟨xs,e _ _ h1,h2⟩,ns,e _ _ h3⟩
theorem Drew.trans {H H1 H2:Hp} {p:Addr} (a:Drew H H1 p) (b:Drew H1 H2 p):Drew H H2 p:=fun c o h n=>b c o (a c o h n) n
theorem Drew.upd {H:Hp} {p:Addr} (o:HO):Drew H (upd H p o) p:=fun b u h n=>by rw [upd_ne n]; exact h
theorem Drew.same {H H':Hp} {p:Addr} (h:Same H H'):Drew H H' p:=fun b o e _=>h b o e
inductive spFlowI (K:PySem.W.Frag) (vs:List V) (H:Hp) (Q:VK):Prop
 | mk (a:Addr) (ns:List Int) (h1:vs=[.ref a]) (h2:SqL K H a (ns.map V.int)) (h3:∀ p sc H',H p=none→Same H H'→FlowAt H' p sc→Q (.ref p) H'):spFlowI K vs H Q
def spFlow (K:PySem.W.Frag):Sp:=fun vs H Q u3_=>spFlowI K vs H Q
inductive spPickI (vs:List V) (H:Hp) (Q:VK):Prop
 | mk (p sc:Addr) (m:Int) (h1:vs=[.ref p,.int m]) (h2:0 < m) (h3:m < 1073741824) (h4:FlowAt H p sc) (h5:∀ r xs,0≤r→r < m→FlowXs sc xs→Q (.int r) (upd H p (.lst xs))):spPickI vs H Q
def spPick:Sp:=fun vs H Q u3_=>spPickI vs H Q
def IsLetters (z:Str) (n:Nat):Prop:=z.cps.toList.length=n∧z.cps.toList.Pairwise (· < ·)∧∀ c∈z.cps.toList,97≤c∧c≤122
inductive spLettersI (vs:List V) (H:Hp) (Q:VK):Prop
 | mk (p sc:Addr) (m:Int) (h1:vs=[.ref p,.int m]) (h2:0≤m) (h3:m≤26) (h4:FlowAt H p sc) (h5:∀ z H',IsLetters z m.toNat→Drew H H' p→FlowAt H' p sc→Q (.str z) H'):spLettersI vs H Q
def spLetters:Sp:=fun vs H Q u3_=>spLettersI vs H Q
inductive spWordI (vs:List V) (H:Hp) (Q:VK):Prop
 | mk (p sc:Addr) (l:Str) (m:Int) (h1:vs=[.ref p,.str l,.int m]) (h2:0 < l.length) (h3:l.length≤1000) (h4:0≤m) (h5:m≤100) (h6:FlowAt H p sc) (h7:∀ z H',(z.cps.toList.length:Int)≤m→(∀ c∈z.cps.toList,c∈l.cps.toList)→Drew H H' p→FlowAt H' p sc→Q (.str z) H'):spWordI vs H Q
def spWord:Sp:=fun vs H Q u3_=>spWordI vs H Q
theorem kit_t_t (K:PySem.W.Frag):PySem.W.kitOne K (.type "tuple") (.type "tuple")=some true:=by kernel_rfl
end L2
namespace L2
open PySem PySem.Spec PyProof.Rows
section
variable {X:Cx} {tg:Expr}
end
def tTru (K:PySem.W.Frag) (ta:TE):TT:=fun σ H Q=>ta σ H fun x H'=>∃ k,TruV K x H' k∧Q k H'
theorem pt_truthK {X:Cx} {K:PySem.W.Frag} {a:Expr} {ta:TE} (ha:PE X a ta) (he:∀ whole,isTrue a X.env whole=(do let v ← whole; standAt a.pos; holding [v] (truthy v))) (hK:X.K=K:=by rfl):PT X a (tTru K ta):=by
 subst hK
 exact pt_truth ha he
end L2
namespace L2
open PySem PySem.Spec PyProof.Rows
def EntS (w:World) (e:Int × Value):Prop:=∃ y u,e=(hashStr w y,Value.str y u)
def keyS (e:Int × Value):Str:=strOf e.2
def SetTx (w:World) (o:Obj) (D:List Str) (n:Nat):Prop:=
 ∃ (es:Array (Int × Value)) (ep:Nat) (t:SetTable),o = { cls:=.type "set",dict:=none,data:=.set es ep t }∧(∀ e∈es.toList,EntS w e)∧
  (es.toList.map keyS).Nodup∧(∀ y,y∈es.toList.map keyS↔y∈D)∧es.size≤n∧t.fits es.size=true∧t.led = !w.params.followText "set-order"∧(es.size=0∨t.plain=false)
theorem lay_marks (t:SetTable) (es:Array (Int × Value)) (h:Int) (x:Value):(layNew t es h x).2.1.led=t.led∧(t.plain=false→(layNew t es h x).2.1.plain=false):=by
 unfold layNew
 split
 ·dsimp only
  unfold SetTable.orStandIn
  split
  ·exact ⟨rfl,fun z=>z⟩
  ·exact ⟨rfl,fun _=>rfl⟩
 ·exact ⟨rfl,fun _=>rfl⟩
theorem relay_marks (t:SetTable) (es:Array (Int × Value)) (n:Nat):(relayAll t es n).2.1.led=t.led∧(t.plain=false→(relayAll t es n).2.1.plain=false):=by
 unfold relayAll
 split
 ·rename_i t' order hr
  dsimp only
  split
  ·unfold SetTable.relaid SetTable.laid at hr
   cases hl:SetTable.layClean (SetTable.sizeAbove n - 1) (es.map (·.1)) with
   | none=>rw [hl] at hr; cases hr
   | some ow=>
    rw [hl] at hr
    have e:=Option.some.inj hr
    have e1:t'.led=t.led:=by rw [← (Prod.mk.inj e).1]
    have e2:t'.plain=t.plain:=by rw [← (Prod.mk.inj e).1]
    exact ⟨e1,fun z=>e2.trans z⟩
  ·exact ⟨rfl,fun _=>rfl⟩
 ·exact ⟨rfl,fun _=>rfl⟩
section
variable {P:Program} {w:World} {A:Around} {E:Value→Shared→Prop} {s:Shared}
theorem elems_of {es:List (Int × Value)} (h:∀ e∈es,EntS w e):ElemsOf (strKind P w) es:=fun e he=>by
 obtain ⟨y,u,rfl⟩:=h e he
 exact ⟨⟨y,by show Value.isStrOf y (.str y u)=true; simp [Value.isStrOf],rfl⟩,rfl⟩
theorem store_text {a:Addr} {es es':Array (Int × Value)} {ep:Nat} {t t':SetTable} {Q:Unit→Shared→Prop} (ho:s.heap.get? a=some { cls:=.type "set",dict:=none,data:=.set es ep t }) (hz:es'.size≤4096)
  (h:∀ h',Heap.SameBut a s.heap h'→h'.get? a=some { cls:=.type "set",dict:=none,data:=.set es' (ep+1) t' }→Q () { s with heap:=h' }):wpAny (model P w) A (storeSet a es' t') Q E s:=by
 refine wpAny_storeSet_of ho rfl (h _ (Heap.SameBut.update _ _ _) ?_) (Nat.le_trans hz (by rw [sizeLine_eq]; omega))
 have e:=Heap.get?_update_self (Obj.putSet es' t') ho (by rw [putSet_of es' t' rfl]; rfl)
 rw [putSet_of es' t' rfl] at e
 exact e
theorem tail_text {g:Bool→Sem Unit} (hg:∀ (b:Bool) (s₁:Shared) (Q':Unit→Shared→Prop),Q' () s₁→wpAny (model P w) A (g b) Q' E s₁) {a:Addr} {es es1:Array (Int × Value)} {ep:Nat} {t t2:SetTable}
  (ho:s.heap.get? a=some { cls:=.type "set",dict:=none,data:=.set es ep t }) (hz:es1.size≤4096) (hf:t2.fits es1.size=true) {wd:Bool} {R:Option Bool→Shared→Prop}
  (h:∀ h' es2 ep2 t3,Heap.SameBut a s.heap h'→h'.get? a=some { cls:=.type "set",dict:=none,data:=.set es2 ep2 t3 }→es2.toList.Perm es1.toList→t3.fits es2.size=true→t3.led=t2.led→(t2.plain=false→t3.plain=false)→
   R (some true) { s with heap:=h' }) :
  wpAny (model P w) A (do
   storeSet a es1 t2
   if (!wd && t2.tooFull)=true then do
    g (relayAll t2 es1 (SetTable.grown es1.size)).2.2
    storeSet a (relayAll t2 es1 (SetTable.grown es1.size)).1
     (relayAll t2 es1 (SetTable.grown es1.size)).2.1
    pure (some true)
   else pure (some true)) R E s:=by
 refine wpAny_bind (store_text ho hz fun h1 sb1 e1=>?_)
 split
 ·have hp:=relayAll_perm t2 es1 (SetTable.grown es1.size)
  have hfr:=relayAll_fits t2 es1 (SetTable.grown es1.size)
  have hmk:=relay_marks t2 es1 (SetTable.grown es1.size)
  generalize hRl:relayAll t2 es1 (SetTable.grown es1.size)=Rl at hp hfr hmk ⊢
  obtain ⟨es2,t3,gv⟩:=Rl
  dsimp only at hp hfr hmk ⊢
  have hsz:es2.size=es1.size:=by rw [← Array.length_toList,hp.length_eq,Array.length_toList]
  refine wpAny_bind (hg _ _ _ ?_)
  refine wpAny_bind (store_text (s:={ s with heap:=h1 }) e1 (by rw [hsz]; exact hz) fun h2 sb2 e2=>?_)
  exact wpAny_pure (h h2 _ _ _ (sb1.trans sb2) e2 hp hfr hmk.1 hmk.2)
 ·exact wpAny_pure (h h1 _ _ _ sb1 e1 (List.Perm.refl _) hf rfl fun z=>z)
theorem key_is {es:List (Int × Value)} (h:∀ e∈es,EntS w e) {e:Int × Value} (he:e∈es) (y:Str):(strKind P w).is y e.2=true↔keyS e=y:=by
 obtain ⟨z,u,rfl⟩:=h e he
 show Value.isStrOf y (.str z u)=true↔z=y
 simp only [Value.isStrOf,beq_iff_eq]
theorem add_text {a:Addr} {o:Obj} {D:List Str} {n:Nat} {Q:Bool→Shared→Prop} (ho:s.heap.get? a=some o) (hS:SetTx w o D n) (hb:n+1 < 4096) (y:Str) (u:Tok)
  (h:∀ b h' o',Heap.SameBut a s.heap h'→h'.get? a=some o'→SetTx w o' (D ++ [y]) (n+1)→Q b { s with heap:=h' }):wpAny (model P w) A (setAddHashed a (.str y u) (hashStr w y)) Q E s:=by
 obtain ⟨es,ep,t,rfl,hen,hnd,hmem,hsz,hf,hled,hpl⟩:=hS
 have hel:ElemsOf (strKind P w) es.toList:=elems_of hen
 have hbs:es.size < scanBound:=by show es.size < 4096; omega
 have hkey:(strKind P w).is y (.str y u)=true:=by show Value.isStrOf y (.str y u)=true; simp [Value.isStrOf]
 unfold setAddHashed setAddHashedIn
 refine wpAny_holding (wpAny_bind (wpAny_setState_of ho rfl hf ?_))
 dsimp only
 rw [byScan_of (knd:=strKind P w) (x:=.str y u) rfl hbs hel]
 simp only [↓reduceIte]
 unfold setAddByScan
 refine wpAny_bind (wpAny_bind (wpAny_rule (wpAny_bind ?_)))
 refine wpAny_setScan_of (knd:=strKind P w) (k:=y) hkey ho rfl hf hel ?_
 have hfi:∀ r,es.toList.findIdx? (fun e=>(strKind P w).is y e.2)=r→r.isSome=decide (y∈es.toList.map keyS):=fun r hr=>by
  subst hr
  rw [Bool.eq_iff_iff,decide_eq_true_eq,List.findIdx?_isSome,List.any_eq_true,List.mem_map]
  exact ⟨fun ⟨e,he,z⟩=>⟨e,he,(key_is (P:=P) hen he y).mp z⟩,fun ⟨e,he,z⟩=>⟨e,he,(key_is (P:=P) hen he y).mpr z⟩⟩
 cases hr:es.toList.findIdx? (fun e=>(strKind P w).is y e.2) with
 | some j=>
  have hin:y∈es.toList.map keyS:=of_decide_eq_true (hfi _ hr).symm
  dsimp only
  refine wpAny_pure (wpAny_pure ?_)
  refine h _ s.heap _ (Heap.SameBut.refl a s.heap) ho ⟨es,ep,t,rfl,hen,hnd,fun z=>?_,by omega,hf,hled,hpl⟩
  rw [hmem z,List.mem_append,List.mem_singleton]
  exact ⟨.inl,fun z=>z.elim id fun e=>e▸(hmem y).mp hin⟩
 | none=>
  have hout:y∉es.toList.map keyS:=fun z=>by
   have:=hfi _ hr
   rw [decide_eq_true z] at this
   cases this
  dsimp only
  have hperm:=layNew_perm t es (hashStr w y) (.str y u)
  have hfits:=layNew_fits t es (hashStr w y) (.str y u)
  have hmk:=lay_marks t es (hashStr w y) (.str y u)
  show wpAny (model P w) A (_ >>= _) _ _ _
  have eh:(strKind P w).hash y=hashStr w y:=rfl
  generalize hL:layNew t es (hashStr w y) (.str y u)=L at hperm hfits hmk ⊢
  obtain ⟨es1,t1,wd,gv⟩:=L
  dsimp only at hperm hfits hmk ⊢
  rw [Array.toList_push] at hperm
  have hsz1:es1.size=es.size+1:=by rw [← Array.length_toList,hperm.length_eq,List.length_append,Array.length_toList]; rfl
  have hgw:∀ (b:Bool) (s₁:Shared) (Q':Unit→Shared→Prop),Q' () s₁→wpAny (model P w) A (match b with | true=>rule "set.scan.the-table-gave-way" | false=>pure ()) Q' E s₁:=
   fun b s₁ Q' hq=>by cases b <;> first | exact wpAny_pure hq | exact wpAny_rule hq
  have fin:∀ t2:SetTable,t2.led=t1.led→t2.plain=false→t2.fits es1.size=true→∀ h' es2 ep2 t3,Heap.SameBut a s.heap h'→h'.get? a=some { cls:=.type "set",dict:=none,data:=.set es2 ep2 t3 }→es2.toList.Perm es1.toList→
    t3.fits es2.size=true→t3.led=t2.led→(t2.plain=false→t3.plain=false)→Q true { s with heap:=h' }:=fun t2 l2 p2 _ h' es2 ep2 t3 sb e2 hp f3 l3 p3=>by
   have pm:es2.toList.Perm (es.toList ++ [(hashStr w y,.str y u)]):=hp.trans hperm
   have pk:(es2.toList.map keyS).Perm (es.toList.map keyS ++ [y]):=by
    have:=pm.map keyS
    rw [List.map_append] at this
    exact this
   refine h _ h' _ sb e2 ⟨es2,ep2,t3,rfl,fun e he=>?_,?_,fun z=>?_,?_,f3,?_,.inr (p3 p2)⟩
   ·rcases List.mem_append.mp (pm.mem_iff.mp he) with z | z
    ·exact hen e z
    ·exact ⟨y,u,List.mem_singleton.mp z⟩
   ·refine pk.nodup_iff.mpr (List.nodup_append.mpr ⟨hnd,by simp,fun a ha b hb=>?_⟩)
    rw [List.mem_singleton.mp hb]
    exact fun z=>hout (z▸ha)
   ·rw [pk.mem_iff,List.mem_append,List.mem_append,hmem z]
   ·have:es2.size=es1.size:=by rw [← Array.length_toList,hp.length_eq,Array.length_toList]
    omega
   ·rw [l3,l2,hmk.1,hled]
  refine wpAny_bind (hgw _ _ _ ?_)
  split
  ·refine wpAny_bind ?_
   rw [hashByValue_scannable 8 (x:=.str y u) rfl]
   refine wpAny_pure ?_
   refine tail_text hgw ho (by omega) (t2:={ t1 with plain:=false }) (SetTable.fits_plain_off hfits) fun h' es2 ep2 t3 sb e2 hp f3 l3 p3=>?_
   dsimp only
   exact wpAny_pure (fin { t1 with plain:=false } rfl rfl (SetTable.fits_plain_off hfits) h' es2 ep2 t3 sb e2 hp f3 l3 p3)
  ·rename_i hnp
   refine wpAny_bind (wpAny_pure ?_)
   simp only [↓reduceIte]
   refine tail_text hgw ho (by omega) hfits fun h' es2 ep2 t3 sb e2 hp f3 l3 p3=>?_
   dsimp only
   exact wpAny_pure (fin t1 rfl (by simpa using hnp) hfits h' es2 ep2 t3 sb e2 hp f3 l3 p3)
theorem loop_text {R:Result→Shared→Prop} {I:Addr} {fp wr:List Addr} {G:Array GenState→Array GenState→Prop} {x:Str} {St:Nat→Shared→Prop} (W:WalksS P w A.in1 I fp wr G x.cps.size (SignAt x) St) (S:Addr) (hSf:S∉fp)
  (hb:x.cps.size+1 < 4096):∀ (k i:Nat) (s:Shared) (o:Obj),x.cps.size - i=k→i≤x.cps.size→St i s→s.heap.get? S=some o→SetTx w o ((x.cps.toList.take i).map fun c=>⟨#[c]⟩) i→
   (∀ s' o',Moved (S :: wr) G s s'→s'.heap.get? S=some o'→SetTx w o' (x.cps.toList.map fun c=>⟨#[c]⟩) x.cps.size→R (.ok (.ret .none)) s')→
   codeAny (model P w) A (.builtin "set.update.loop" ⟨[.ref S,.ref I],[]⟩) R s:=by
 have hSw:S∉wr:=fun h=>hSf (W.sub _ h)
 have hsub:∀ b∈wr,b∈S :: wr:=fun b hb=>List.mem_cons_of_mem _ hb
 intro k
 induction k with
 | zero=>
  intro i s o hk hi hst ho hS hR
  have hin:i=x.cps.size:=by omega
  subst hin
  refine codeAny_builtin PyProof.Rows.F.entry_set_update_loop ?_
  rw [Around.under_plainId PyProof.Rows.F.plain_set_update_loop _]
  show wpAny _ A.in1 (pyNext (.ref I) >>= _) _ _ s
  refine wpAny_bind (W.done s _ _ hst fun s' hm=>wpAny_pure (hR s' o (hm.mono hsub) (hm.heap S _ hSw ho) ?_))
  rw [List.take_of_length_le (by simp)] at hS
  exact hS
 | succ k ih=>
  intro i s o hk hi hst ho hS hR
  have hlt:i < x.cps.size:=by omega
  refine codeAny_builtin PyProof.Rows.F.entry_set_update_loop ?_
  rw [Around.under_plainId PyProof.Rows.F.plain_set_update_loop _]
  show wpAny _ A.in1 (pyNext (.ref I) >>= _) _ _ s
  refine wpAny_bind (W.item i s _ _ hlt hst fun v s' hP hst' hm=>?_)
  obtain ⟨c,u,hc,rfl⟩:=hP
  show wpAny _ A.in1 (holding [Value.str ⟨#[c]⟩ u] (setAdd S (.str ⟨#[c]⟩ u)) >>= _) _ _ s'
  unfold setAdd
  refine wpAny_bind (wpAny_holding (wpAny_holding (wpAny_bind ?_)))
  refine (PySem.strKind P w).pyHash (k:=⟨#[c]⟩) (by show Value.isStrOf ⟨#[c]⟩ (.str ⟨#[c]⟩ u)=true; simp [Value.isStrOf]) ?_
  refine add_text (s:={ s' with toks:=s'.toks+1 }) (hm.heap S _ hSw ho) hS (by omega) ⟨#[c]⟩ u fun _ h' o' hsb e2 hS2=>?_
  have hS3:SetTx w o' ((x.cps.toList.take (i+1)).map fun c=>⟨#[c]⟩) (i+1):=by
   have e:x.cps.toList.take (i+1)=x.cps.toList.take i ++ [c]:=by
    rw [List.take_succ,Array.getElem?_toList,hc]
    rfl
   rw [e,List.map_append]
   exact hS2
  refine wpAny_pure ⟨plainId_quiet PyProof.Rows.F.plain_set_update_loop _,ih (i+1) _ o' (by omega) hlt (W.frame _ s' _ _ hst' (Nat.le_succ _) fun b hb o e=>?_) e2 hS3 fun s'' o'' hm'' e'' hS''=>?_⟩
  ·exact (hsb.2 b (fun z:b=S=>hSf (z▸hb))).trans e
  ·exact hR s'' o'' (Moved.trans W.gtrans ((hm.mono hsub).then_heap (Nat.le_succ _) fun b o hb e=>(hsb.2 b (fun z:b=S=>hb (by rw [z]; exact List.mem_cons_self))).trans e) hm'') e'' hS''
def newSetObj (w:World):Obj:={ cls:=.type "set",dict:=none,data:=.set #[] 0 (.fresh 0 0 (!w.params.followText "set-order")) }
theorem new_text (v:Value) {Q₁:Value→Shared→Prop} (h:Q₁ (.ref s.heap.objs.size) { s with heap:=s.heap.push (newSetObj w) }):codeAny (model P w) A (.call (.builtin "set.__new__") ⟨[.type "set",v],[]⟩) (wants Q₁ E) s:=by
 refine codeAny_of_tree ?_
 show wpAny _ A.in1 (do checkBuiltinCall "set.__new__" ⟨[.type "set",v],[]⟩; again (.builtin "set.__new__" ⟨[.type "set",v],[]⟩)) _ _ s
 refine wpAny_bind (wpAny_of_eq (PySem.F.newCall_set_1 v) (wpAny_pure ⟨plainId_quiet PySem.F.plain_set_new _,codeAny_builtin PySem.F.entry_set_new ?_⟩))
 rw [Around.under_plainId PySem.F.plain_set_new _]
 unfold Builtin.«set.__new__» Builtin.Frozenset.newClass
 have hsub:=PySem.sub_set_self
 obtain ⟨hp,g,d,tk,os⟩:=s
 dsimp only
 wp_walk
 refine wpAny_askSetting (wpAny_pure ?_)
 dsimp only
 simp only [newObj]
 exact wpAny_bind (wpAny_alloc (wpAny_pure (wpAny_pure h)))
theorem sub_str_set:isSubtype (.type "str") (.type "set")=pure false:=by rw [isSubtype_type]; kernel_rfl
theorem sub_str_frozenset:isSubtype (.type "str") (.type "frozenset")=pure false:=by rw [isSubtype_type]; kernel_rfl
theorem newTx (w:World):SetTx w (newSetObj w) [] 0:=
 ⟨#[],0,_,rfl,fun e he=>by simp at he,by simp,fun y=>by simp,Nat.le_refl _,rfl,rfl,.inl rfl⟩
set_option maxHeartbeats 3200000 in
theorem call_set_text {Q:Value→Shared→Prop} (hh:A.handled=none) (x:Str) (t:Tok) (hb:x.cps.size+1 < 4096)
  (hQ:∀ h' tk o,(∀ b o,s.heap.get? b=some o→h'.get? b=some o)→h'.get? s.heap.objs.size=some o→SetTx w o (x.cps.toList.map fun c=>⟨#[c]⟩) x.cps.size→Q (.ref s.heap.objs.size) { s with heap:=h',toks:=tk }) :
  wpAny (model P w) A (call (.type "set") [.str x t]) Q E s:=by
 obtain ⟨c,tl,hmro⟩:=PySem.F.called_set.mro
 have hmade:=PySem.F.called_set.made
 have hsub:=PySem.F.called_set.sub
 refine wpAny_call (codeAny_of_tree ?_)
 show wpAny _ _ (callAny (.type "set") _) _ _ _
 refine wpAny_pure ⟨Code.quiet_builtin _ (by decide +kernel),codeAny_builtin PySem.F.entry_type_call ?_⟩
 rw [Around.under_plain (weight_type_call_type "set" [.str x t] []) rfl]
 have h1:=PySem.F.called_set.notType
 have h2:=PySem.F.called_set.canCreate
 have hct:=PySem.F.typeCall_set_1 (.str x t)
 repeat (any_goals (first | assumption | wp_step))
 refine codeAny_mono (new_text (.str x t) (E:=E) (Q₁:=fun obj s₁=>obj=.ref s.heap.objs.size∧s₁ = { s with heap:=s.heap.push (newSetObj w) }) ⟨rfl,rfl⟩) fun r s₁ hr=>?_
 cases r with
 | error e=>exact hr
 | ok fl=>
  cases fl with
  | ret obj=>
   obtain ⟨rfl,rfl⟩:=hr
   have hS:(s.heap.push (newSetObj w)).get? s.heap.objs.size=some (newSetObj w):=Heap.get?_push_size _ rfl
   have hT:Shared.TypeIs { s with heap:=s.heap.push (newSetObj w) } (.ref s.heap.objs.size) "set":=⟨_,hS,rfl⟩
   have hli:=PySem.F.called_set.init.lookup
   have hbi:=PySem.F.called_set.init.bind (.ref s.heap.objs.size)
   repeat (any_goals (first | assumption | wp_step))
   refine codeAny_mono (codeAny_call_builtin (R:=wants (fun r s₂=>r=.none∧∃ h' tk o,s₂ = { s with heap:=h',toks:=tk }∧(∀ b o,s.heap.get? b=some o→h'.get? b=some o)∧h'.get? s.heap.objs.size=some o∧
    SetTx w o (x.cps.toList.map fun c=>⟨#[c]⟩) x.cps.size) E) PySem.F.called_set.init.plain PySem.F.entry_set_init (check_set_init_1 hT ?_)) fun r₂ s₂ hr₂=>?_
   ·have hsls:=sub_str_set
    have hslf:=sub_str_frozenset
    have hne:(Value.type "str" == Value.type "dict")=false:=by decide
    have hS':(s.heap.push (newSetObj w)).get? s.heap.objs.size=some { cls:=.type "set",dict:=none,data:=.set #[] 0 (.fresh 0 0 (!w.params.followText "set-order")) }:=hS
    unfold Builtin.«set.__init__» noKeywords Builtin.Frozenset.updateFrom
    generalize hPI:pyIter=PI
    wp_walk
    subst hPI
    refine wpAny_pyIter_str fun oI St W hst=>wpAny_bind (wpAny_runValue ?_)
    have hSf:s.heap.objs.size∉[(s.heap.push (newSetObj w)).objs.size]:=by
     rw [Heap.size_push,List.mem_singleton]
     exact Nat.ne_of_lt (Nat.lt_succ_self _)
    refine loop_text (W _ (by simp [hh])).toS s.heap.objs.size hSf hb (x.cps.size - 0) 0 _ (newSetObj w) (by omega) (Nat.zero_le _) hst (Heap.get?_push_of_some _ hS) (newTx w) fun s' o' hm e' hS2=>?_
    obtain ⟨h',g',d',tk',os'⟩:=s'
    have eg:g'=s.gens:=hm.gens
    have ed:d'=s.drawn:=hm.drawn
    have eo:os'=s.os:=hm.os
    subst eg; subst ed; subst eo
    show wpAny _ _ _ _ _ _
    refine wpAny_pure (wpAny_pure ⟨rfl,h',tk',o',rfl,fun b o e=>?_,e',hS2⟩)
    have lt:=Heap.lt_size e
    refine hm.heap b o (fun z=>?_) (Heap.get?_push_of_some _ (Heap.get?_push_of_some _ e))
    rcases List.mem_cons.mp z with z | z
    ·exact Nat.lt_irrefl _ (z▸lt)
    ·have z2:=List.mem_singleton.mp z
     rw [Heap.size_push] at z2
     have:=z2▸lt
     exact Nat.lt_irrefl _ (Nat.lt_of_succ_lt this)
   ·cases r₂ with
    | error e=>exact hr₂
    | ok fl₂=>
     cases fl₂ with
     | ret r=>
      obtain ⟨rfl,h',tk,o,rfl,hk',e',hS'⟩:=hr₂
      repeat (any_goals (first | assumption | wp_step))
      exact hQ h' tk o hk' e' hS'
     | _=>exact hr₂.elim
  | _=>exact hr.elim
end
end L2
namespace L2
open PySem PySem.Spec PyProof.Rows
section
variable {P:Program} {w:World} {A:Around} {E:Value→Shared→Prop} {s:Shared}
end
end L2
namespace L2
open PySem PySem.Spec PyProof.Rows
section
variable {P:Program} {w:World} {A:Around} {E:Value→Shared→Prop} {s:Shared}
end
def signs (z:Str):List Str:=z.cps.toList.map fun c=>⟨#[c]⟩
def setH (w:World) (a:Addr) (D:List Str) (n:Nat):HO:=.ext fun h=>∃ o,h.get? a=some o∧SetTx w o D n
def rSet (w:World):List V→Hp→VK→Prop:=fun xs H Q=>∃ z,xs=[.str z]∧z.length+1 < 4096∧∀ l,H l=none→Q (.ref l) (upd H l (setH w l (signs z) z.length))
section
variable {X:Cx}
theorem call_set_s (hc:X.calm=true):CallR X (.type "set") (rSet X.w):=by
 intro pins s σ H xs us Q I r h
 obtain ⟨z,rfl,hz,q⟩:=h
 obtain ⟨u,rfl,t,rfl⟩:=vals1 r
 refine call_set_text (I.ok.hd hc) z t hz fun h' tk o k e sx=>?_
 exact ⟨.ref s.heap.objs.size,_,I.laid k (Nat.le_refl _) (show ObjOk X.prog X.w _ h' _ (setH X.w s.heap.objs.size (signs z) z.length) from ⟨⟨o,e,sx⟩,⟨o,e⟩,fun h1 h2 ⟨o1,e1,x1⟩ k1=>⟨o1,k1 o1 e1,x1⟩⟩),rfl,q _ (I.hok.fresh (Nat.le_refl _))⟩
end
def insU (c:Nat):List Nat→List Nat
 | []=>[c]
 | x :: l=>if c < x then c :: x :: l else if c=x then x :: l else x :: insU c l
def ltrs (cs:List Nat):List Nat:=cs.foldr insU []
end L2
namespace L2
open PySem PySem.Spec PyProof.Rows
end L2
namespace L2
open PySem PySem.Spec PyProof.Rows
section
variable {X:Cx} {K:PySem.W.Frag}
theorem hu_lt {A:Around} {k:Nat} (hr:Room k A):A.units < cLine:=Nat.lt_of_succ_lt (hu_of hr)
inductive rMax1I (K:PySem.W.Frag) (xs:List V) (H:Hp) (Q:VK):Prop
 | mk (l:Addr) (ns:List Int) (h1:xs=[.ref l]) (h2:SqL K H l (ns.map V.int)) (h3:0 < ns.length) (h4:∀ M,M∈ns→(∀ a∈ns,a≤M)→Q (.int M) H):rMax1I K xs H Q
def rMax1 (K:PySem.W.Frag):List V→Hp→VK→Prop:=fun xs H Q=>rMax1I K xs H Q
theorem call_max1 (hc:X.calm=true) (hK:X.K=K:=by rfl):CallR X (.builtin "max") (rMax1 K):=by
 subst hK
 intro pins s σ H xs us Q I r h
 obtain ⟨l,ns,rfl,hl,hne,q⟩:=h
 obtain ⟨u,rfl,ru⟩:=vals1 r
 cases ru
 obtain ⟨its,r1,p1,_⟩:=I.list hl
 have hi:IntsAre its.toArray.toList ns:=intsAre_of r1
 obtain ⟨ys,e⟩:=hi.allInts.items
 have en:ns=ys.toList.map (·.1):=(hi.numsOf.symm.trans (by rw [e])).trans (nums_intItems ys)
 have el:ns.length=ys.size:=by rw [en,List.length_map]; exact Array.length_toList
 have p1':=p1.isList
 rw [show its.toArray=intItems ys from e] at p1'
 refine max_intList (I.ok.hd hc) p1' (by omega) fun v h' tk hv hk=>?_
 obtain ⟨t,rfl⟩:=intItems_at hv
 have g:=argBest_gt (numAt ys) (ys.size - 1)
 have at_:∀ j,numAt ys j=ns.getD j 0:=fun j=>by rw [en]; exact numAt_eq ..
 refine ⟨.int _,H,I.kept hk,⟨_,rfl⟩,q _ (by rw [at_]; exact getD_mem (by have:=g.1; omega)) fun a ha=>?_⟩
 obtain ⟨j,hj,rfl⟩:=mem_getD ha
 rw [← at_]
 exact g.2 j (by omega)
def revS (z:Str):Str:=⟨z.cps.toList.reverse.toArray⟩
theorem revS_len (z:Str):(revS z).length=z.length:=by simp [revS,Str.length]
def tRevS (te ts:TE):TE:=fun σ H Q=>te σ H fun x H1=>ts σ H1 fun y H2=>y=.int (-1)∧∃ z,x=.str z∧z.length≤sizeLine∧Q (.str (revS z)) H2
theorem rev_pick (z:Str):(⟨((Builtin.Str.strSliceIndices none none (-1) z.length).filterMap (z.cps[·]?)).toArray⟩:Str)=revS z:=by
 have e:Builtin.Str.strSliceIndices none none (-1) z.length=(List.range z.length).map fun k=>z.length - 1 - k:=PySem.W.krv_sliceRange z.length
 have e2:(List.range z.length).filterMap (z.cps[·]?)=z.cps.toList:=PySem.W.krv_all z.cps
 rw [e,PySem.W.krv_range,List.filterMap_reverse,e2]
 rfl
theorem pe_revS {e st:Expr} {te ts:TE} {p2 pos:Pos} (he:PE X e te) (hst:PE X st ts):PE X (.Subscript e (.Slice none none (some st) p2) pos) (tRevS te ts):=by
 intro pins s σ H Q I h
 refine Subscript_ (thn (he pins s σ H _ I h) fun v s1 ⟨x,H1,I1,r1,q1⟩=>wpAny_Slice ?_)
 rw [evalPart_none,evalPart_some]
 refine wpAny_pure (wpAny_pure (thn (hst pins s1 σ H1 _ I1 q1) fun vs s2 ⟨y,H2,I2,r2,q2⟩=>?_))
 obtain ⟨rfl,z,rfl,hz,q⟩:=q2
 obtain ⟨t,rfl⟩:=r2
 obtain ⟨t0,rfl⟩:=r1
 have I4:Inv X pins σ H2 { s2 with heap:=s2.heap.push { cls:=.type "slice",data:=.fields #[.none,.none,.int (-1) t] } }:=I2.kept (t':=s2.toks) fun b ob k=>Heap.get?_push_of_some _ k
 have fin:∀ t' k,EP X pins σ Q (.str (revS z) t') { s2 with heap:=s2.heap.push { cls:=.type "slice",data:=.fields #[.none,.none,.int (-1) t] },toks:=k }:=fun t' k=>⟨.str _,H2,I4.tok _,⟨_,rfl⟩,q⟩
 show wpAny (model X.prog X.w) X.A (subscriptTail e (.Slice none none (some st) p2) (.str z t0) (.ref s2.heap.objs.size)) (EP X pins σ Q) X.xe { s2 with heap:=s2.heap.push { cls:=.type "slice",data:=.fields #[.none,.none,.int (-1) t] } }
 refine tail_any (ops:=[.str z t0,.ref s2.heap.objs.size]) (typeIs_str _ _ _) F.slot_str_getitem.lookup ?_ (by with_unfolding_all rfl)
 refine wpAny_getItem_str_slice (l:=none) (u:=none) (st:=some (-1,t)) (Heap.IsSliceOf.new ..) rfl ?_
 have g:(Made.str (revS z)).post (EP X pins σ Q) { s2 with heap:=s2.heap.push { cls:=.type "slice",data:=.fields #[.none,.none,.int (-1) t] } }:=⟨by rw [revS_len]; exact hz,fin _ _⟩
 rw [← rev_pick] at g
 exact g
end
end L2
namespace L2
open PySem PySem.Spec PyProof.Rows
section
variable {X:Cx}
end
def jl (c:Nat):List (List Nat)→List Nat
 | []=>[]
 | [x]=>x
 | x :: y :: r=>x ++ c :: jl c (y :: r)
end L2
namespace L2
open PySem PySem.Spec PyProof.Rows
section
variable {X:Cx} {K:PySem.W.Frag}
end
section
open PySem.SeqAt
open PySem.AutoSeq1 (wpAny_loadPart')
open PySem.MeetsSeq PySem.MeetsSeq2 PySem.MeetsSeq3
end
section
variable {X:Cx} {K:PySem.W.Frag}
end
end L2
namespace L2
open PySem PySem.Spec PyProof.Rows
section
open PySem.W (KasT kas_asc kas_count kas_cmp kas_st kas_item)
end
section
variable {prog:Program} {w:World} {A:Around} {E:Value→Shared→Prop} {s:Shared}
end
abbrev lo (ks:List Value) (e:Nat):Obj:={ cls:=.type "list",data:=.seq ks.toArray e }
section
variable {X:Cx} {pins:List (Addr × Obj)} {σ:St} {H:Hp} {s:Shared}
end
section
variable {X:Cx} {pins:List (Addr × Obj)} {σ:St} {H:Hp} {s:Shared} {x:Str} {k:Nat} {ps:List Str} {sp:Sp} {ok:V→Prop} {kf:V→List V}
end
end L2
namespace L2
open PySem PySem.Spec PyProof.Rows
section
open PySem.W (KasT kas_asc kas_desc kas_tail3 kas_descPart kas_count kas_place kas_bin kas_sort kas_rev)
variable {n:Nat} {lt:Nat→Nat→Bool} {p:Array Nat}
end
end L2
namespace L2
open PySem PySem.Spec PyProof.Rows
section
open PySem.W (kas_count kas_ask kas_item kas_st kas_asc)
end
section
variable {X:Cx} {pins:List (Addr × Obj)} {σ:St} {H:Hp} {s:Shared} {x:Str} {k:Nat} {ps:List Str} {sp:Sp}
end
end L2
namespace L2
open PySem PySem.Spec PyProof.Rows
section
variable {P:Program} {w:World} {A:Around} {E:Value→Shared→Prop} {s:Shared}
end
section
variable {X:Cx} {pins:List (Addr × Obj)} {σ:St} {H:Hp} {s:Shared} {x:Str} {k:Nat} {ps:List Str} {sp:Sp}
end
end L2
namespace L2
open PySem PySem.Spec PyProof.Rows
section
variable {prog:Program} {w:World} {A:Around} {E:Value→Shared→Prop} {s:Shared} {K:PySem.W.Frag} {C:Addr}
end
section
variable {prog:Program} {w:World} {A:Around} {E:Value→Shared→Prop} {s:Shared} {K:PySem.W.Frag} {x C:Addr} {ox:Obj} {od:Option Obj} {name:Str}
end
end L2
namespace L2
open PySem PySem.Spec PyProof.Rows
section
variable {X:Cx} {pins:List (Addr × Obj)} {σ:St} {H:Hp} {s:Shared} {a C:Addr} {fs:List (Str × V)} {A:Around} {E:Value→Shared→Prop}
end
end L2
namespace L2
open PySem PySem.Spec PyProof.Rows
section
variable {P:Program} {w:World} {A:Around} {E:Value→Shared→Prop} {s:Shared}
end
section
variable {X:Cx}
end
end L2
namespace L2
open PySem PySem.Spec PyProof.Rows
section
variable {P:Program} {w:World} {A:Around} {E:Value→Shared→Prop} {s:Shared} {d:Addr} {vs:List Value} {ep:Nat}
end
section
variable {X:Cx} {pins:List (Addr × Obj)} {σ:St} {H:Hp} {s:Shared} {x:Str} {k:Nat} {ps:List Str} {sp:Sp}
end
end L2
namespace L2
open PySem PySem.Spec PyProof.Rows
section
open PySem.W (KasT kas_asc kas_desc kas_tail3 kas_descPart kas_count kas_place kas_bin kas_sort kas_rev)
variable {n:Nat} {key:Nat→Nat} {p:Array Nat}
end
end L2
namespace L2
open PySem PySem.Spec PyProof.Rows
section
open PySem.W (kas_sort kas_ask kas_item)
variable {X:Cx} {pins:List (Addr × Obj)} {σ:St} {H:Hp} {s:Shared}
end
end L2
namespace L2
open PySem PySem.Spec PyProof.Rows
section
variable {P:Program} {w:World} {A:Around} {E:Value→Shared→Prop} {s:Shared}
set_option maxHeartbeats 3200000 in
end
section
variable {X:Cx}
end
end L2
namespace L2
open PySem PySem.Spec PyProof.Rows
section
variable {P:Program} {w:World} {A:Around} {E:Value→Shared→Prop} {s:Shared} {t r:Addr} {items:Array Value}
end
section
variable {X:Cx}
end
end L2
namespace L2
open PySem PySem.Spec PyProof.Rows
section
variable {X:Cx} {tg:Expr}
end
end L2
namespace L2
open PySem PySem.Spec PyProof.Rows
theorem runs_toks {M:Model} {Γ:PySem.Ctx} {p:Pos} {t:Sem Fin} {fs:List Frame} {s:Shared} {e:End} {s':Shared} (h:Runs M Γ p t fs s e s'):s.toks≤s'.toks:=by
 induction h <;> first | exact Nat.le_refl _ | assumption | (simp only [Shared.setGen] at *; omega) | omega | (dsimp only at *; omega)
theorem wakes_toks {M:Model} {Γ:PySem.Ctx} {p:Pos} {g:Nat} {r:Resume} {s:Shared} {res:GenResult} {s':Shared} (h:Wakes M Γ p g r s res s'):s.toks≤s'.toks:=by
 unfold Wakes at h
 split at h
 ·exact h.elim
 ·split at h
  ·obtain ⟨e1,s1,h1,_,_,rfl⟩:=h
   have q:=runs_toks h1
   exact q
  ·rw [h.2]; exact Nat.le_refl _
  ·rw [h.2]; exact Nat.le_refl _
 ·obtain ⟨e1,s1,h1,_,_,rfl⟩:=h
  have q:=runs_toks h1
  exact q
 ·rw [h.2]; exact Nat.le_refl _
 ·rw [h.2]; exact Nat.le_refl _
theorem wp_toks {α:Type} {M:Model} {Γ:PySem.Ctx}:∀ (t:Sem α) {Q:α→Pos→Shared→Prop} {E:Value→Pos→Shared→Prop} {p:Pos} {s:Shared} (n:Nat),n≤s.toks→Sem.wp M Γ t (fun a p' s'=>n≤s'.toks→Q a p' s') (fun e p' s'=>n≤s'.toks→E e p' s') p s→Sem.wp M Γ t Q E p s:=by
 intro t
 induction t with
 | pure a=>intro Q E p s n hn h; rw [Sem.wp] at h ⊢; exact h hn
 | raise e=>intro Q E p s n hn h; rw [Sem.wp] at h ⊢; exact h hn
 | call c hh g l k ih=>
  intro Q E p s n hn h
  rw [Sem.wp] at h ⊢
  obtain ⟨r,s1,h1,h2⟩:=h
  exact ⟨r,s1,h1,ih r n (Nat.le_trans hn (runs_toks h1)) h2⟩
 | unsupported _=>intro Q E p s n hn h; rw [Sem.wp] at h; exact h.elim
 | finish _=>intro Q E p s n hn h; rw [Sem.wp] at h; exact h.elim
 | register _ _=>intro Q E p s n hn h; rw [Sem.wp] at h; exact h.elim
 | yield _ _ _ _=>intro Q E p s n hn h; rw [Sem.wp] at h; exact h.elim
 | load a x k ih=>intro Q E p s n hn h; rw [Sem.wp] at h ⊢; obtain ⟨o,h1,h2⟩:=h; exact ⟨o,h1,ih o n hn h2⟩
 | update a x f k ih=>intro Q E p s n hn h; rw [Sem.wp] at h ⊢; exact ⟨h.1,ih () n hn h.2⟩
 | fresh k ih=>intro Q E p s n hn h; rw [Sem.wp] at h ⊢; exact ih _ n (Nat.le_succ_of_le hn) h
 | choose src m k ih=>intro Q E p s n hn h; rw [Sem.wp] at h ⊢; exact ⟨h.1,ih _ n hn h.2⟩
 | genState g k ih=>intro Q E p s n hn h; rw [Sem.wp] at h ⊢; obtain ⟨st,h1,h2⟩:=h; exact ⟨st,h1,ih _ n hn h2⟩
 | resume g r l k ih=>
  intro Q E p s n hn h
  rw [Sem.wp] at h ⊢
  obtain ⟨res,s1,h1,h2⟩:=h
  exact ⟨res,s1,h1,ih res n (Nat.le_trans hn (wakes_toks h1)) h2⟩
 | fork=>intro Q E p s n hn h; rw [Sem.wp] at h; exact h.elim
 | await=>intro Q E p s n hn h; rw [Sem.wp] at h; exact h.elim
 | _=>intro Q E p s n hn h; rw [Sem.wp] at h ⊢; rename_i ih; exact ih _ n hn h
theorem toks_up {α:Type} {M:Model} {A:Around} {t:Sem α} {Q:α→Shared→Prop} {E:Value→Shared→Prop} {s:Shared} (h:wpAny M A t (fun a s'=>s.toks≤s'.toks→Q a s') (fun e s'=>s.toks≤s'.toks→E e s') s):wpAny M A t Q E s:=
 fun Γ p hΓ=>wp_toks t s.toks (Nat.le_refl _) (h Γ p hΓ)
section
variable {X:Cx}
theorem up {α:Type} {t:Sem α} {M:Model} {A:Around} {Q:α→Shared→Prop} {E:Value→Shared→Prop} {s:Shared} (h:wpAny M A t Q E s):wpAny M A t (fun a s'=>Q a s'∧s.toks≤s'.toks) E s:=
 toks_up (wpAny_mono h (fun _ _ q le=>⟨q,le⟩) fun _ _ q _=>q)
def PE0 (X:Cx) (e:Expr) (t:TE):Prop:=
 ∀ (pins:List (Addr × Obj)) (s:Shared) (σ:St) (H:Hp) (Q:VK),0 < s.toks→Inv X pins σ H s→t σ H Q→wpAny (model X.prog X.w) X.A (eval e X.env) (EP X pins σ Q) X.xe s
def PS0 (X:Cx) (st:Stmt) (t:TS):Prop:=
 ∀ (pins:List (Addr × Obj)) (s:Shared) (σ:St) (H:Hp) (D:Ends),0 < s.toks→Inv X pins σ H s→t D σ H→wpAny (model X.prog X.w) X.A (exec st X.env) (SP X pins D) X.xe s
def PSs0 (X:Cx) (st:List Stmt) (t:TS):Prop:=
 ∀ (pins:List (Addr × Obj)) (s:Shared) (σ:St) (H:Hp) (D:Ends),0 < s.toks→Inv X pins σ H s→t D σ H→wpAny (model X.prog X.w) X.A (execs st X.env) (SP X pins D) X.xe s
def PAs (X:Cx) (es:List Expr) (t:TA):Prop:=
 ∀ (pos:Pos) (pins:List (Addr × Obj)) (s:Shared) (σ:St) (H:Hp) (Q:List V→Hp→Prop),Inv X pins σ H s→t σ H Q→wpAny (model X.prog X.w) X.A (spliced (backTo pos (starEach es X.env))) (fun us s'=>AP X pins σ Q us s'∧0 < s'.toks) X.xe s
def PEs (X:Cx) (e:Expr) (t:TE):Prop:=
 ∀ (pins:List (Addr × Obj)) (s:Shared) (σ:St) (H:Hp) (Q:VK),Inv X pins σ H s→t σ H Q→wpAny (model X.prog X.w) X.A (eval e X.env) (fun u s'=>EP X pins σ Q u s'∧0 < s'.toks) X.xe s
def PSt (X:Cx) (st:Stmt) (t:TS):Prop:=
 ∀ (pins:List (Addr × Obj)) (s:Shared) (σ:St) (H:Hp) (D:Ends),Inv X pins σ H s→t D σ H→wpAny (model X.prog X.w) X.A (exec st X.env) (fun f s'=>SP X pins D f s'∧0 < s'.toks) X.xe s
def PEk (X:Cx) (e:Expr) (t:TE):Prop:=
 ∀ (pins:List (Addr × Obj)) (s:Shared) (σ:St) (H:Hp) (Q:VK),0 < s.toks→Inv X pins σ H s→t σ H Q→wpAny (model X.prog X.w) X.A (eval e X.env) (fun u s'=>EP X pins σ Q u s'∧∀ z t,u=Value.str z t→t≠0) X.xe s
theorem PE.z {e:Expr} {t:TE} (h:PE X e t):PE0 X e t:=fun pins s σ H Q _ I q=>h pins s σ H Q I q
theorem PS.z {st:Stmt} {t:TS} (h:PS X st t):PS0 X st t:=fun pins s σ H D _ I q=>h pins s σ H D I q
theorem PSs.z {st:List Stmt} {t:TS} (h:PSs X st t):PSs0 X st t:=fun pins s σ H D _ I q=>h pins s σ H D I q
theorem pss0_cons {st:Stmt} {rest:List Stmt} {t u:TS} (h1:PS0 X st t) (h2:PSs0 X rest u):PSs0 X (st :: rest) (tSeq t u):=by
 intro pins s σ H D hk I h
 refine wpAny_execs_cons (thn (up (h1 pins s σ H { D with nx:=u D } hk I h)) fun f s1 ⟨q,le⟩=>?_)
 cases f with
 | next=>
  obtain ⟨σ',H',I',q⟩:=q
  exact h2 pins s1 σ' H' D (Nat.lt_of_lt_of_le hk le) I' q
 | ret v=>exact q
 | brk=>exact q
 | cont=>exact q
theorem pss_s {st:Stmt} {rest:List Stmt} {t u:TS} (h1:PSt X st t) (h2:PSs0 X rest u):PSs X (st :: rest) (tSeq t u):=by
 intro pins s σ H D I h
 refine wpAny_execs_cons (thn (h1 pins s σ H { D with nx:=u D } I h) fun f s1 ⟨q,hk⟩=>?_)
 cases f with
 | next=>
  obtain ⟨σ',H',I',q⟩:=q
  exact h2 pins s1 σ' H' D hk I' q
 | ret v=>exact q
 | brk=>exact q
 | cont=>exact q
theorem pas_int {i:Int} {j:Nat} {p:Pos} (hs:starEach [.Constant (.int i) j p] X.env=(false,eval (.Constant (.int i) j p) X.env) :: starEach [] X.env:=by rfl):PAs X [.Constant (.int i) j p] (tCons (tC (.int i)) tNil):=by
 intro pos pins s σ H Q I h
 rw [hs]
 show wpAny _ _ (spliced ((false,eval (.Constant (.int i) j p) X.env) :: backTo pos (starEach [] X.env))) _ _ s
 exact Calls.spliced_cons (wpAny_Constant_int (Calls.spliced_nil ⟨⟨[.int i],H,I.tok _,.cons ⟨_,rfl⟩ .nil,h⟩,Nat.succ_pos _⟩))
theorem pas_cons {e:Expr} {es:List Expr} {te:TE} {t:TA} (ha:PE X e te) (hr:PAs X es t) (hs:starEach (e :: es) X.env=(false,eval e X.env) :: starEach es X.env:=by rfl):PAs X (e :: es) (tCons te t):=by
 intro pos pins s σ H Q I h
 rw [hs]
 show wpAny _ _ (spliced ((false,eval e X.env) :: backTo pos (starEach es X.env))) _ _ s
 refine Calls.spliced_cons (thn (ha pins s σ H _ I h) fun u s1 ⟨x,H1,I1,r1,q1⟩=>?_)
 exact thn (hr pos pins s1 σ H1 _ I1 q1) fun us s2 ⟨⟨xs,H2,I2,r2,q2⟩,hk⟩=>⟨⟨x :: xs,H2,I2,.cons r1 r2,q2⟩,hk⟩
theorem ps_sets {i:Nat} {x:Str} {e:Expr} {te:TE} {pos pos':Pos} (hN:X.N.Nodup) (hi:X.N[i]? = some x) (hx:Loc X.env.scope x) (he:PEs X e te) (hs:swapsWith e (some (.Name x pos')) pos.line X.env=pure false:=by rfl) (hf:X.fn x=true∨X.env.scope.names.lookup x=some .local:=by first | exact .inl rfl | exact .inr rfl | assumption) (ht:decide (x = "_law_lacking")=false:=by rfl) :
  PSt X (.Assign [.Name x pos'] e pos) (tAsg te (gName i)):=by
 intro pins s σ H D I h
 refine wpAny_Assign_Name (thn (he pins s σ H _ I h) fun v s1 ⟨⟨y,H1,I1,r1,q1⟩,hk⟩=>?_) hs
 exact thn (up (store_ok (Q:=fun _=>SP X pins D .next) I1 hN hi hx r1 (.no ht) (fun s2 I2=>⟨_,H1,I2,q1⟩) hf)) fun _ s2 ⟨q,le⟩=>⟨q,Nat.lt_of_lt_of_le hk le⟩
theorem ps0_if {c:Expr} {a b:List Stmt} {tc:TT} {t u:TS} {pos:Pos} (hc:PT X c tc) (ha:PSs0 X a t) (hb:PSs0 X b u):PS0 X (.If c a b pos) (tIfS tc t u):=by
 intro pins s σ H D hk I h
 refine wpAny_If (thn (up (hc pins s σ H _ I h)) fun d s1 ⟨⟨H1,I1,q1⟩,le⟩=>?_)
 cases d with
 | true=>exact ha pins s1 σ H1 D (Nat.lt_of_lt_of_le hk le) I1 q1
 | false=>exact hb pins s1 σ H1 D (Nat.lt_of_lt_of_le hk le) I1 q1
theorem ps0_set {i:Nat} {x:Str} {e:Expr} {te:TE} {pos pos':Pos} (hN:X.N.Nodup) (hi:X.N[i]? = some x) (hx:Loc X.env.scope x) (he:PE0 X e te) (hs:swapsWith e (some (.Name x pos')) pos.line X.env=pure false:=by rfl) (hf:X.fn x=true∨X.env.scope.names.lookup x=some .local:=by first | exact .inl rfl | exact .inr rfl | assumption) (ht:decide (x = "_law_lacking")=false:=by rfl) :
  PS0 X (.Assign [.Name x pos'] e pos) (tAsg te (gName i)):=by
 intro pins s σ H D hk I h
 refine wpAny_Assign_Name (thn (he pins s σ H _ hk I h) fun v s1 ⟨y,H1,I1,r1,q1⟩=>?_) hs
 exact store_ok I1 hN hi hx r1 (.no ht) (fun s2 I2=>⟨_,H1,I2,q1⟩) hf
theorem ps0_setk {i:Nat} {x:Str} {e:Expr} {te:TE} {pos pos':Pos} (hN:X.N.Nodup) (hi:X.N[i]? = some x) (hx:Loc X.env.scope x) (he:PEk X e te) (hs:swapsWith e (some (.Name x pos')) pos.line X.env=pure false:=by rfl) (hf:X.fn x=true∨X.env.scope.names.lookup x=some .local:=by first | exact .inl rfl | exact .inr rfl | assumption) :
  PS0 X (.Assign [.Name x pos'] e pos) (tAsg te (gName i)):=by
 intro pins s σ H D hk I h
 refine wpAny_Assign_Name (thn (he pins s σ H _ hk I h) fun v s1 ⟨⟨y,H1,I1,r1,q1⟩,tk⟩=>?_) hs
 exact store_ok I1 hN hi hx r1 (fun _=>tk) (fun s2 I2=>⟨_,H1,I2,q1⟩) hf
theorem pk_ix {a b:Expr} {ta tb:TE} {pos:Pos} (ha:PE X a ta) (hb:PE X b tb) (hs:PlainIx b):PEk X (.Subscript a b pos) (tOp rIxS ta tb):=by
 intro pins s σ H Q hk I h
 refine Subscript_ (thn (up (ha pins s σ H _ I h)) fun v s1 ⟨⟨x,H1,I1,r1,q1⟩,le1⟩=>?_)
 refine thn (up (hb pins s1 σ H1 _ I1 q1)) fun u s2 ⟨⟨y,H2,I2,r2,q2⟩,le2⟩=>?_
 obtain ⟨z,i,c,rfl,rfl,hz,he,q⟩:=q2
 obtain ⟨t,rfl⟩:=r1
 obtain ⟨t',rfl⟩:=r2
 obtain ⟨j,h1,h2,h3,h4,h5⟩:=atI_get he
 have hl:z.cps.toList.length=z.length:=by simp [Str.length]
 rw [hl] at h1 h4 h5
 have hn:=line63
 exact tail_any (typeIs_str s2 z t) slot_str_getitem.lookup (getItem_str (c:=c) (by
  have e1:decide (i < -(2 ^ 63:Int))=false:=decide_eq_false (by omega)
  have e2:decide (i ≥ 2 ^ 63)=false:=decide_eq_false (by omega)
  rw [e1,e2,Bool.or_false]) (by rw [h1]; simpa using h2) ⟨⟨.str ⟨#[c]⟩,H2,I2.tok _,⟨_,rfl⟩,q⟩,fun z' t'' e=>by cases e; exact Nat.ne_of_gt (Nat.lt_of_lt_of_le hk (Nat.le_trans le1 le2))⟩) (hs _ _)
theorem isSame_one (y z:Str) (u:Tok) (h0:u≠0):isSame (.str y u) (.str z u)=pure true:=by
 show (if (u==0 || u==0)=true then _ else if (u==u)=true then pure true else _:Sem Bool)=_
 rw [if_neg (by simp [h0]),if_pos (by simp)]
theorem gives_one (x y z:Str) (t u:Tok) (h0:u≠0):Gives (Builtin.«str.replace» ⟨[.str x t,.str y u,.str z u],[]⟩) (.val (.str x t)):=by
 show Gives (if _ then _ else (isSame (.str y u) (.str z u) >>= _)) _
 split
 ·exact .rule (.of_eq rfl)
 ·rw [isSame_one y z u h0]
  exact .rule (.of_eq rfl)
def tRepl (to:TE) (i:Nat):TE:=fun σ H Q=>to σ H fun x H1=>∃ z c,x=.str z∧σ[i]? = some (some (.str c))∧(c==("" : Str))=false∧z.length≤1000∧∀ y:Str,y=Txt.replace z c ""∨y=z→Q (.str y) H1
theorem pe0_repl {o:Expr} {to:TE} {x:Str} {i j:Nat} {pn pc apos cpos:Pos} (ho:PE0 X o to) (hN:X.N[i]? = some x:=by rfl) (hx:x = "_law_lacking":=by rfl) (hk:X.env.kindOf x=some .local:=by rfl) (hv:Vis X.env.scope x:=by first | exact Or.inl rfl)
  (hbase:attributeBase o "replace" X.env (eval o X.env)=eval o X.env:=by rfl)
  (hfew:((backTo cpos (starEach [.Name x pn,.Constant (.str "") j pc] X.env)).all (fun x=>!x.1) && (backToKw cpos (keywordEach [] X.env)).all (fun x=>x.1.isSome)
   && decide (([.Name x pn,.Constant (.str "") j pc]:List Expr).length+([]:List Keyword).length+(if ([]:List Keyword).isEmpty then 0 else 1) < 30))=true:=by rfl)
  (hline:(apos.endLine==cpos.line)=true:=by rfl) (hs:starEach [.Name x pn,.Constant (.str "") j pc] X.env=[(false,eval (.Name x pn) X.env),(false,eval (.Constant (.str "") j pc) X.env)]:=by rfl) (hd:(x==("__debug__" : Str))=false:=by decide) :
  PE0 X (.Call (.Attribute o "replace" apos) [.Name x pn,.Constant (.str "") j pc] [] cpos) (tRepl to i):=by
 intro pins s σ H Q h0 I h
 refine wpAny_Call_method_late hbase hfew hline rfl (thn (up (ho pins s σ H _ h0 I h)) fun v s1 ⟨⟨y,H1,I1,r1,q1⟩,le⟩=>?_)
 obtain ⟨z,c,rfl,hc,hne,hz,q⟩:=q1
 obtain ⟨h1,h2⟩:=tyV_is (T:="str") I1 r1 rfl
 refine ⟨"str","str.replace",PySem.F.plainAttrs_str,PySem.F.slot_str_replace,PySem.F.type_str_replace,h1,h2,?_⟩
 obtain ⟨t,rfl⟩:=r1
 obtain ⟨m,hn,hl⟩:=I1.loc
 obtain ⟨u,ru,l,tk⟩:=hl i x (.str c) hN hc hv
 obtain ⟨tu,rfl⟩:=ru
 have hu:tu≠0:=tk hx _ _ rfl
 have hm:m x=some (.str c tu):=by
  rcases l with ⟨_,hm⟩ | ⟨hk',_⟩
  ·exact hm
  ·rw [hk] at hk'
   rcases hk' with e | e <;> cases e
 have hp1:0 < s1.toks:=Nat.lt_of_lt_of_le h0 le
 rw [hs]
 refine Calls.callWith_builtin rfl (Calls.evalArgs_plain ?_)
 refine Calls.spliced_cons (wpAny_Name (wpAny_loadName_local I1.ok.kind hk hn hm ?_) hd)
 refine Calls.spliced_cons (Calls.Constant_str (k:=j) (pos:=pc) (Calls.spliced_nil ?_))
 show wpAny _ _ (call (.builtin "str.replace") [.str z t,.str c tu,.str "" s1.toks] []) _ _ _
 by_cases e:tu=s1.toks
 ·subst e
  refine call_gives PySem.F.slot_str_replace (typeIs_str _ _ _) PySem.F.entry_str_replace (PySem.F.args_str_replace_3 _ _ _) (gives_one z c "" t _ hu) ?_
  exact ⟨.str z,H1,I1.tok _,⟨_,rfl⟩,q z (.inr rfl)⟩
 ·refine SC.replace hu (Nat.ne_of_gt hp1) e hne (by show z.length+(z.length+1) * 0≤_; omega) fun t' k=>?_
  exact ⟨.str _,H1,I1.tok _,⟨_,rfl⟩,q _ (.inl rfl)⟩
theorem pe0_op {op:Operator} {r:R2} {a b:Expr} {ta tb:TE} {pos:Pos} (ho:OpR X (binaryOp op) r) (ha:PE0 X a ta) (hb:PE0 X b tb):PE0 X (.BinOp a op b pos) (tOp r ta tb):=by
 intro pins s σ H Q hk I h
 refine wpAny_BinOp (thn (up (ha pins s σ H _ hk I h)) fun v s1 ⟨⟨x,H1,I1,r1,q1⟩,le⟩=>?_)
 exact thn (hb pins s1 σ H1 _ (Nat.lt_of_lt_of_le hk le) I1 q1) fun u s2 ⟨y,H2,I2,r2,q2⟩=>ho pins s2 σ H2 x y v u Q I2 r1 r2 q2
theorem pe0_slice {r:V→Option Int→Option Int→Hp→VK→Prop} {e:Expr} {lo hi:Option Expr} {te:TE} {tl th:TO} {p2 pos:Pos} (hr:SlR X r) (he:PE0 X e te) (hl:PO X lo tl) (hu:PO X hi th):PE0 X (.Subscript e (.Slice lo hi none p2) pos) (tSl r te tl th):=by
 intro pins s σ H Q hk I h
 refine Subscript_ (thn (he pins s σ H _ hk I h) fun v s1 ⟨x,H1,I1,r1,q1⟩=>?_)
 refine wpAny_Slice (thn (hl pins s1 σ H1 _ I1 q1) fun vl s2 ⟨l,H2,I2,pl,q2⟩=>thn (hu pins s2 σ H2 _ I2 q2) fun vu s3 ⟨u,H3,I3,pu,q3⟩=>?_)
 rw [evalPart_none]
 refine wpAny_pure ?_
 have I4:Inv X pins σ H3 { s3 with heap:=s3.heap.push { cls:=.type "slice",data:=.fields #[vl,vu,.none] } }:=I3.kept (t':=s3.toks) fun b ob q=>Heap.get?_push_of_some _ q
 obtain ⟨T,id,hT,ht,hg⟩:=hr pins { s3 with heap:=s3.heap.push { cls:=.type "slice",data:=.fields #[vl,vu,.none] } } σ H3 x v vl vu l u s3.heap.objs.size Q I4 r1 (Heap.IsSliceOf.new ..) pl pu q3
 show wpAny (model X.prog X.w) X.A (subscriptTail e (.Slice lo hi none p2) v (.ref s3.heap.objs.size)) (EP X pins σ Q) X.xe { s3 with heap:=s3.heap.push { cls:=.type "slice",data:=.fields #[vl,vu,.none] } }
 exact tail_any (ops:=[.ref s3.heap.objs.size,v]) ht hT hg (by with_unfolding_all rfl)
theorem pe_calls {CX:CXT} {k:Nat} {f:Addr} {fd:FuncData} {ps:List Str} {sp:Sp} {x:Str} {ds:List Value} {dvs:List V} {E:XK} {e:Expr} {es:List Expr} {t:TA} {p pos:Pos} (F:FnOk X.prog X.w X.K X.mg X.base CX k f fd ps sp) (hr:Room k X.A) (hg:Gl X x) (hm:X.mg x=some (.ref f)) (hk:PySem.W.keepIn X.K (.ref f)=true) (hb:Binds X.K fd ps ds) (hd:Vals dvs ds) (hx:Passes CX X E)
  (ha:PAs X (e :: es) t) (hdb:(x==("__debug__" : Str))=false:=by decide) (he:starEach (e :: es) X.env=(false,eval e X.env) :: starEach es X.env:=by rfl) (hpl:(backTo pos (starEach es X.env)).any (·.1)=false:=by rfl) :
  PEs X (.Call (.Name x p) (e :: es) [] pos) (tCall sp dvs E t):=by
 intro pins s σ H Q I h
 refine wpAny_Call_Name_kw (ld_glob I hg hm ?_ hdb)
 refine PySem.W.callWith_K (h₀:=X.base) I.ok.mod.kin hk (thn (ha pos pins s σ H _ I h) fun us s1 ⟨⟨vs,H1,I1,r,q⟩,h0⟩=>⟨I1.kIn,?_⟩) he hpl
 exact thn (up (run_fn F hr hb hd hx I1 r q)) fun u s2 ⟨q,le⟩=>⟨q,Nat.lt_of_lt_of_le h0 le⟩
end
end L2
namespace L2
open PySem PySem.Spec PyProof.Rows
section
variable {P:Program} {w:World} {A:Around} {E:Value→Shared→Prop} {s:Shared}
theorem entries_text {a:Addr} {es:Array (Int × Value)} {ep:Nat} {t:SetTable} {Q:Array (Int × Value)→Shared→Prop} (ho:s.heap.get? a=some { cls:=.type "set",dict:=none,data:=.set es ep t }) (hf:t.fits es.size=true) (h:Q es s):wpAny (model P w) A (setEntries a) Q E s:=by
 unfold setEntries
 exact wpAny_bind (wpAny_setState_of ho rfl hf (wpAny_pure h))
theorem epoch_text {a:Addr} {es:Array (Int × Value)} {ep:Nat} {t:SetTable} {Q:Nat→Shared→Prop} (ho:s.heap.get? a=some { cls:=.type "set",dict:=none,data:=.set es ep t }) (hf:t.fits es.size=true) (h:Q ep s):wpAny (model P w) A (setEpoch a) Q E s:=by
 unfold setEpoch
 exact wpAny_bind (wpAny_setState_of ho rfl hf (wpAny_pure h))
theorem find_text {a:Addr} {o:Obj} {D:List Str} {n:Nat} (ho:s.heap.get? a=some o) (hS:SetTx w o D n) (hb:n < 4096) (y:Str) (u:Tok) {Q:Option Nat→Shared→Prop} (h:∀ r:Option Nat,r.isSome=decide (y∈D)→Q r s):wpAny (model P w) A (setFind a (.str y u) (hashStr w y)) Q E s:=by
 obtain ⟨es,ep,t,rfl,he,hnd,hm,hsz,hf,_⟩:=hS
 have hel:=elems_of (P:=P) he
 unfold setFind setFindIn
 refine wpAny_bind (wpAny_setState_of ho rfl hf ?_)
 dsimp only
 rw [byScan_of (knd:=strKind P w) (x:=.str y u) rfl (by show es.size < 4096; omega) hel]
 simp only [↓reduceIte]
 refine wpAny_bind (wpAny_rule ?_)
 refine wpAny_bind (wpAny_setScan_of (knd:=strKind P w) (k:=y) (by show Value.isStrOf y (.str y u)=true; simp [Value.isStrOf]) ho rfl hf hel ?_)
 have key:(es.toList.findIdx? (fun e=>(strKind P w).is y e.2)).isSome=decide (y∈D):=by
  rw [Bool.eq_iff_iff,decide_eq_true_eq,List.findIdx?_isSome,List.any_eq_true,← hm y,List.mem_map]
  exact ⟨fun ⟨e,h1,h2⟩=>⟨e,h1,(key_is he h1 y).mp h2⟩,fun ⟨e,h1,h2⟩=>⟨e,h1,(key_is he h1 y).mpr h2⟩⟩
 cases hr:es.toList.findIdx? (fun e=>(strKind P w).is y e.2) with
 | none=>
  rw [hr] at key
  dsimp only
  exact wpAny_pure (h none key)
 | some j=>
  rw [hr] at key
  dsimp only
  exact wpAny_pure (h (some (0+j)) key)
open PySem.Builtin PySem.Builtin.Frozenset in
theorem unseen_text {a b:Addr} {o o':Obj} {D D':List Str} {n n':Nat} (ho:s.heap.get? a=some o) (hS:SetTx w o D n) (ho':s.heap.get? b=some o') (hS':SetTx w o' D' n') {Q:List (Int × Value)→Shared→Prop}
  (h:∀ es ep t,o = { cls:=.type "set",dict:=none,data:=.set es ep t }→Q es.toList s):wpAny (model P w) A (walkUnseen a b) Q E s:=by
 obtain ⟨es,ep,t,rfl,he,hnd,hm,hsz,hf,_⟩:=hS
 obtain ⟨es',ep',t',rfl,he',hnd',hm',hsz',hf',_⟩:=hS'
 unfold walkUnseen
 refine wpAny_bind (entries_text ho hf ?_)
 refine wpAny_bind (entries_text ho' hf' ?_)
 have all:∀ e∈es.toList ++ es'.toList,EntS w e:=fun e hh=>(List.mem_append.mp hh).elim (he e) (he' e)
 have key:∀ l:List (Int × Value),(∀ e∈l,EntS w e)→(forIn l (none,()) (fun x (_:Option (List (Int × Value)) × Unit)=>match x with | (_,x)=>(do let q ← quietEq x; if (!q)=true then (do let r ← walk a; pure (ForInStep.done (some r,()))) else pure (ForInStep.yield (none,())))):Sem (Option (List (Int × Value)) × Unit))=pure (none,()):=by
  intro l
  induction l with
  | nil=>intro _; rfl
  | cons e l ih=>
   intro hh
   obtain ⟨y,u,rfl⟩:=hh e List.mem_cons_self
   rw [List.forIn_cons]
   exact ih fun e' he'=>hh e' (List.mem_cons_of_mem _ he')
 refine wpAny_bind ?_
 rw [key _ all]
 exact wpAny_pure (wpAny_pure (h es ep t rfl))
theorem nd_lenS {a:List Str}:∀ {b:List Str},a.Nodup→(∀ c∈a,c∈b)→a.length≤b.length:=by
 induction a with
 | nil=>exact fun _ _=>Nat.zero_le _
 | cons x a ih=>
  intro b nd h
  have hx:x∈b:=h x List.mem_cons_self
  have q:=ih (b:=b.erase x) (List.nodup_cons.mp nd).2 fun c hc=>(List.mem_erase_of_ne fun e=>(List.nodup_cons.mp nd).1 (by rw [← e]; exact hc)).mpr (h c (List.mem_cons_of_mem _ hc))
  rw [List.length_erase_of_mem hx] at q
  have:=List.length_pos_of_mem hx
  rw [List.length_cons]
  omega
open PySem.Builtin PySem.Builtin.Frozenset in
theorem subset_text {a b:Addr} {o o':Obj} {D D':List Str} {n n':Nat} (id:String) (ho:s.heap.get? a=some o) (hS:SetTx w o D n) (ho':s.heap.get? b=some o') (hS':SetTx w o' D' n') (hb:n' < 4096) {Q:Bool→Shared→Prop}
  (h:∀ r:Bool,(r=true↔∀ y∈D,y∈D')→Q r s):wpAny (model P w) A (subsetOf id a b) Q E s:=by
 have hS0:=hS
 have hS0':=hS'
 obtain ⟨es,ep,t,rfl,he,hnd,hm,hsz,hf,_⟩:=hS
 obtain ⟨es',ep',t',rfl,he',hnd',hm',hsz',hf',_⟩:=hS'
 unfold subsetOf Frozenset.sizeOf
 refine wpAny_bind (wpAny_bind (entries_text ho hf (wpAny_pure ?_)))
 refine wpAny_bind (wpAny_bind (entries_text ho' hf' (wpAny_pure ?_)))
 have keys:(∀ y∈D,y∈D')↔∀ e∈es.toList,keyS e∈D':=⟨fun q e hh=>q _ ((hm _).mp (List.mem_map.mpr ⟨e,hh,rfl⟩)),fun q y hy=>by
  obtain ⟨e,h1,rfl⟩:=List.mem_map.mp ((hm y).mpr hy)
  exact q e h1⟩
 split
 ·rename_i hgt
  refine wpAny_pure (h false ⟨nofun,fun q=>?_⟩)
  have:=nd_lenS hnd (b:=es'.toList.map keyS) fun y hy=>(hm' y).mpr (q y ((hm y).mp hy))
  rw [List.length_map,List.length_map,Array.length_toList,Array.length_toList] at this
  omega
 ·refine wpAny_bind (epoch_text ho hf ?_)
  refine wpAny_bind (unseen_text ho hS0 ho' hS0' fun es1 ep1 t1 e=>?_)
  cases e
  have loop:∀ l:List (Int × Value),(∀ e∈l,EntS w e)→wpAny (model P w) A (forIn l (none,()) (fun x (_:Option Bool × Unit)=>match x with | (h,x)=>(do let r ← holding [x] (setFind b x h); if r.isNone=true then pure (ForInStep.done (some false,())) else (do unchanged id a ep; pure (ForInStep.yield (none,()))))):Sem (Option Bool × Unit))
    (fun r s'=>s'=s∧((r=(none,())∧∀ e∈l,keyS e∈D')∨(r=(some false,())∧¬ ∀ e∈l,keyS e∈D'))) E s:=by
   intro l
   induction l with
   | nil=>intro _; exact wpAny_pure ⟨rfl,.inl ⟨rfl,nofun⟩⟩
   | cons e l ih=>
    intro hh
    obtain ⟨y,u,rfl⟩:=hh e List.mem_cons_self
    rw [List.forIn_cons]
    refine wpAny_bind (wpAny_bind (wpAny_holding (find_text ho' hS0' hb y u fun r hr=>?_)))
    cases r with
    | none=>
     have hy:¬ y∈D':=of_decide_eq_false hr.symm
     exact wpAny_pure (wpAny_pure ⟨rfl,.inr ⟨rfl,fun q=>hy (q _ List.mem_cons_self)⟩⟩)
    | some j=>
     have hy:y∈D':=of_decide_eq_true hr.symm
     simp only [Option.isNone_some,Bool.false_eq_true,if_false]
     unfold unchanged
     refine wpAny_bind (wpAny_bind (epoch_text ho hf ?_))
     rw [if_neg (by simp)]
     refine wpAny_pure (wpAny_pure (thn (ih fun e' he'=>hh e' (List.mem_cons_of_mem _ he')) fun r s' ⟨e1,e2⟩=>⟨e1,?_⟩))
     rcases e2 with ⟨e2,e3⟩ | ⟨e2,e3⟩
     ·exact .inl ⟨e2,fun e' he'=>(List.mem_cons.mp he').elim (fun z=>by rw [z]; exact hy) (e3 e')⟩
     ·exact .inr ⟨e2,fun q=>e3 fun e' he'=>q e' (List.mem_cons_of_mem _ he')⟩
  refine wpAny_bind (thn (loop _ he) fun r s' ⟨e1,e2⟩=>?_)
  subst e1
  rcases e2 with ⟨rfl,e3⟩ | ⟨rfl,e3⟩
  ·exact wpAny_pure (h true ⟨fun _=>keys.mpr e3,fun _=>rfl⟩)
  ·exact wpAny_pure (h false ⟨nofun,fun q=>absurd (keys.mp q) e3⟩)
theorem entry_set_eq:entryFor table "set.__eq__" = some Builtin.«frozenset.__eq__»:=entryFor_alias (id':="frozenset.__eq__") (by kernel_rfl) rfl (by decide +kernel) (by kernel_rfl)
theorem entry_set_ne:entryFor table "set.__ne__" = some Builtin.«frozenset.__ne__»:=entryFor_alias (id':="frozenset.__ne__") (by kernel_rfl) rfl (by decide +kernel) (by kernel_rfl)
theorem sub_set_set:isSubtype (.type "set") (.type "set")=pure true:=by rw [isSubtype_type]; kernel_rfl
theorem sub_set_frozen:isSubtype (.type "set") (.type "frozenset")=pure false:=by rw [isSubtype_type]; kernel_rfl
theorem eq_sets {a b:Addr} {o o':Obj} {D D':List Str} {n n':Nat} {Q:Value→Shared→Prop} (ho:s.heap.get? a=some o) (hS:SetTx w o D n) (ho':s.heap.get? b=some o') (hS':SetTx w o' D' n') (hb:n' < 4096) (hu:A.units < cLine)
  (h:∀ r:Bool,(r=true↔∀ y,y∈D↔y∈D')→Q (.bool r) s):wpAny (model P w) A (compareOp .Eq (.ref a) (.ref b)) Q E s:=by
 have hT:s.TypeIs (.ref a) "set":=by obtain ⟨es,ep,t,rfl,_⟩:=hS; exact ⟨_,ho,rfl⟩
 have hT':s.TypeIs (.ref b) "set":=by obtain ⟨es,ep,t,rfl,_⟩:=hS'; exact ⟨_,ho',rfl⟩
 show wpAny _ _ (richCompare .Eq _ _) _ _ _
 refine wpAny_richCompare_same_room (op:=.Eq) (T:="set") (id:="set.__eq__") hT hT' PySem.F.slot_set_eq ?_ hu
 refine wpAny_call_entry (T:="set") (id:="set.__eq__") PySem.F.slot_set_eq hT entry_set_eq ?_ (PySem.F.args_set_eq_2 _ _)
 have f1:=sub_set_set
 have f2:=sub_set_frozen
 unfold Builtin.«frozenset.__eq__»
 refine wpAny_bind (m:=Builtin.Frozenset.slot1 "__eq__" ⟨[.ref a,.ref b],[]⟩) ?_
 rw [show Builtin.Frozenset.slot1 "__eq__" ⟨[.ref a,.ref b],[]⟩=pure (.ref a,.ref b) from rfl]
 refine wpAny_pure ?_
 dsimp only
 refine wpAny_bind ?_
 unfold Builtin.Frozenset.isAnySet
 refine wpAny_bind (m:=isInstance (.ref b) (.type "set")) (wpAny_isInstance (T:="set") hT' f1 ?_)
 refine wpAny_pure ?_
 rw [if_neg (by simp)]
 obtain ⟨es,ep,t,rfl,he,hnd,hm,hsz,hf,hx⟩:=id hS
 obtain ⟨es',ep',t',rfl,he',hnd',hm',hsz',hf',hx'⟩:=id hS'
 refine wpAny_bind (m:=Builtin.Frozenset.addrOf (.ref a)) (wpAny_pure ?_)
 refine wpAny_bind (m:=Builtin.Frozenset.addrOf (.ref b)) (wpAny_pure ?_)
 unfold Builtin.Frozenset.sizeOf
 refine wpAny_bind (wpAny_bind (entries_text ho hf (wpAny_pure ?_)))
 refine wpAny_bind (wpAny_bind (entries_text ho' hf' (wpAny_pure ?_)))
 have fin:∀ r:Bool,(r=true↔∀ y,y∈D↔y∈D')→∃ v,Fin.done (Flow.ret (Value.bool r))=Fin.done (Flow.ret v)∧v≠.notImplemented∧Q v s:=fun r hr=>⟨_,rfl,nofun,h r hr⟩
 refine wpAny_bind ?_
 have l1:(es.toList.map keyS).length=es.size:=by rw [List.length_map,Array.length_toList]
 have l2:(es'.toList.map keyS).length=es'.size:=by rw [List.length_map,Array.length_toList]
 split
 ·rename_i hne
  refine wpAny_pure (wpAny_pure (fin false ⟨nofun,fun q=>?_⟩))
  have q1:=nd_lenS hnd (b:=es'.toList.map keyS) fun y hy=>(hm' y).mpr ((q y).mp ((hm y).mp hy))
  have q2:=nd_lenS hnd' (b:=es.toList.map keyS) fun y hy=>(hm y).mpr ((q y).mpr ((hm' y).mp hy))
  have:es.size≠es'.size:=bne_iff_ne.mp hne
  omega
 ·rename_i heq
  have heq:es.size=es'.size:=by
   rcases Nat.decEq es.size es'.size with z | z
   ·exact absurd (bne_iff_ne.mpr z) heq
   ·exact z
  refine wpAny_bind ?_
  refine wpAny_bind (m:=isInstance (.ref a) (.type "frozenset")) (wpAny_isInstance (T:="set") hT f2 ?_)
  refine wpAny_pure ?_
  rw [if_neg (by simp)]
  refine subset_text _ ho hS ho' hS' hb fun r hr=>wpAny_pure (fin r ⟨fun e y=>⟨hr.mp e y,fun hy=>?_⟩,fun q=>hr.mpr fun y hy=>(q y).mp hy⟩)
  by_cases c:y∈D
  ·exact c
  ·have:=nd_lenS (a:=y :: es.toList.map keyS) (b:=es'.toList.map keyS) (List.nodup_cons.mpr ⟨fun z=>c ((hm y).mp z),hnd⟩) fun x hx=>(hm' x).mpr ((List.mem_cons.mp hx).elim (fun z=>by rw [z]; exact hy) fun z=>hr.mp e x ((hm x).mp z))
   rw [List.length_cons] at this
   omega
theorem ne_sets {a b:Addr} {o o':Obj} {D D':List Str} {n n':Nat} {Q:Value→Shared→Prop} (ho:s.heap.get? a=some o) (hS:SetTx w o D n) (ho':s.heap.get? b=some o') (hS':SetTx w o' D' n') (hb:n' < 4096) (hu:A.units < cLine)
  (h:∀ r:Bool,(r=true↔∀ y,y∈D↔y∈D')→Q (.bool (!r)) s):wpAny (model P w) A (compareOp .NotEq (.ref a) (.ref b)) Q E s:=by
 have hT:s.TypeIs (.ref a) "set":=by obtain ⟨es,ep,t,rfl,_⟩:=hS; exact ⟨_,ho,rfl⟩
 have hT':s.TypeIs (.ref b) "set":=by obtain ⟨es,ep,t,rfl,_⟩:=hS'; exact ⟨_,ho',rfl⟩
 show wpAny _ _ (richCompare .NotEq _ _) _ _ _
 refine wpAny_richCompare_same_room (op:=.NotEq) (T:="set") (id:="set.__ne__") hT hT' PySem.F.slot_set_ne ?_ hu
 refine wpAny_call_entry (T:="set") (id:="set.__ne__") PySem.F.slot_set_ne hT entry_set_ne ?_ (PySem.F.args_set_ne_2 _ _)
 have f1:=sub_set_set
 have f2:=sub_set_frozen
 unfold Builtin.«frozenset.__ne__»
 refine wpAny_bind (m:=Builtin.Frozenset.slot1 "__ne__" ⟨[.ref a,.ref b],[]⟩) ?_
 rw [show Builtin.Frozenset.slot1 "__ne__" ⟨[.ref a,.ref b],[]⟩=pure (.ref a,.ref b) from rfl]
 refine wpAny_pure ?_
 dsimp only
 refine wpAny_bind ?_
 unfold Builtin.Frozenset.isAnySet
 refine wpAny_bind (m:=isInstance (.ref b) (.type "set")) (wpAny_isInstance (T:="set") hT' f1 ?_)
 refine wpAny_pure ?_
 rw [if_neg (by simp)]
 obtain ⟨es,ep,t,rfl,he,hnd,hm,hsz,hf,hx⟩:=id hS
 obtain ⟨es',ep',t',rfl,he',hnd',hm',hsz',hf',hx'⟩:=id hS'
 refine wpAny_bind (m:=Builtin.Frozenset.addrOf (.ref a)) (wpAny_pure ?_)
 refine wpAny_bind (m:=Builtin.Frozenset.addrOf (.ref b)) (wpAny_pure ?_)
 unfold Builtin.Frozenset.sizeOf
 refine wpAny_bind (wpAny_bind (entries_text ho hf (wpAny_pure ?_)))
 refine wpAny_bind (wpAny_bind (entries_text ho' hf' (wpAny_pure ?_)))
 have fin:∀ r:Bool,(r=true↔∀ y,y∈D↔y∈D')→∃ v,Fin.done (Flow.ret (Value.bool (!r)))=Fin.done (Flow.ret v)∧v≠.notImplemented∧Q v s:=fun r hr=>⟨_,rfl,nofun,h r hr⟩
 refine wpAny_bind ?_
 have l1:(es.toList.map keyS).length=es.size:=by rw [List.length_map,Array.length_toList]
 have l2:(es'.toList.map keyS).length=es'.size:=by rw [List.length_map,Array.length_toList]
 split
 ·rename_i hne
  refine wpAny_pure (wpAny_pure (fin false ⟨nofun,fun q=>?_⟩))
  have q1:=nd_lenS hnd (b:=es'.toList.map keyS) fun y hy=>(hm' y).mpr ((q y).mp ((hm y).mp hy))
  have q2:=nd_lenS hnd' (b:=es.toList.map keyS) fun y hy=>(hm y).mpr ((q y).mpr ((hm' y).mp hy))
  have:es.size≠es'.size:=bne_iff_ne.mp hne
  omega
 ·rename_i heq
  have heq:es.size=es'.size:=by
   rcases Nat.decEq es.size es'.size with z | z
   ·exact absurd (bne_iff_ne.mpr z) heq
   ·exact z
  refine wpAny_bind ?_
  refine wpAny_bind (m:=isInstance (.ref a) (.type "frozenset")) (wpAny_isInstance (T:="set") hT f2 ?_)
  refine wpAny_pure ?_
  rw [if_neg (by simp)]
  refine subset_text _ ho hS ho' hS' hb fun r hr=>wpAny_pure (fin r ⟨fun e y=>⟨hr.mp e y,fun hy=>?_⟩,fun q=>hr.mpr fun y hy=>(q y).mp hy⟩)
  by_cases c:y∈D
  ·exact c
  ·have:=nd_lenS (a:=y :: es.toList.map keyS) (b:=es'.toList.map keyS) (List.nodup_cons.mpr ⟨fun z=>c ((hm y).mp z),hnd⟩) fun x hx=>(hm' x).mpr ((List.mem_cons.mp hx).elim (fun z=>by rw [z]; exact hy) fun z=>hr.mp e x ((hm x).mp z))
   rw [List.length_cons] at this
   omega
end
section
variable {X:Cx}
inductive rSetsI (neg:Bool) (w:World) (x:V) (y:V) (H:Hp) (Q:VK):Prop
 | mk (a b D D' n n':_) (h1:x=.ref a) (h2:y=.ref b) (h3:H a=some (setH w a D n)) (h4:H b=some (setH w b D' n')) (h5:n' < 4096) (h6:∀ r:Bool,(r=true↔∀ z,z∈D↔z∈D')→Q (.bl (r ^^ neg)) H):rSetsI neg w x y H Q
def rSets (neg:Bool) (w:World):R2:=fun x y H Q=>rSetsI neg w x y H Q
theorem op_eqSets (hu:X.A.units < cLine):OpR X (compareOp .Eq) (rSets false X.w):=by
 intro pins s σ H x y v u Q I rx ry h
 obtain ⟨a,b,D,D',n,n',rfl,rfl,ha,hb,hn,q⟩:=h
 cases rx
 cases ry
 obtain ⟨⟨o,e,sx⟩,_,_⟩:=(show ObjOk X.prog X.w H s.heap a (setH X.w a D n) from I.hok a _ ha)
 obtain ⟨⟨o',e',sx'⟩,_,_⟩:=(show ObjOk X.prog X.w H s.heap b (setH X.w b D' n') from I.hok b _ hb)
 refine eq_sets e sx e' sx' hn hu fun r hr=>⟨.bl r,H,I,rfl,?_⟩
 have:=q r hr
 rwa [Bool.xor_false] at this
theorem op_neSets (hu:X.A.units < cLine):OpR X (compareOp .NotEq) (rSets true X.w):=by
 intro pins s σ H x y v u Q I rx ry h
 obtain ⟨a,b,D,D',n,n',rfl,rfl,ha,hb,hn,q⟩:=h
 cases rx
 cases ry
 obtain ⟨⟨o,e,sx⟩,_,_⟩:=(show ObjOk X.prog X.w H s.heap a (setH X.w a D n) from I.hok a _ ha)
 obtain ⟨⟨o',e',sx'⟩,_,_⟩:=(show ObjOk X.prog X.w H s.heap b (setH X.w b D' n') from I.hok b _ hb)
 refine ne_sets e sx e' sx' hn hu fun r hr=>⟨.bl (!r),H,I,rfl,?_⟩
 have:=q r hr
 rwa [Bool.xor_true] at this
end
end L2
namespace L2
open PySem PySem.Spec PyProof.Rows
section
variable {X:Cx}
inductive rRemoveI (x:V) (vs:List V) (H:Hp) (Q:VK):Prop
 | mk (l:Addr) (cs:List Nat) (c:Nat) (h1:x=.ref l) (h2:vs=[.str ⟨#[c]⟩]) (h3:H l=some (.lst (cs.map oneS))) (h4:c∈cs) (h5:Q .non (upd H l (.lst ((cs.erase c).map oneS)))):rRemoveI x vs H Q
def rRemove:V→List V→Hp→VK→Prop:=fun x vs H Q=>rRemoveI x vs H Q
theorem ones_at:∀ {cs:List Nat} {us:List Value} {i:Nat} {u:Value},Vals (cs.map oneS) us→us[i]? = some u→∃ c t,cs[i]? = some c∧u=.str ⟨#[c]⟩ t
 | [],us,i,u,r,h=>by rw [List.map_nil] at r; cases r; simp at h
 | c :: cs,us,i,u,r,h=>by
  rw [List.map_cons] at r
  cases r with
  | cons a b=>
   obtain ⟨t,rfl⟩:=a
   cases i with
   | zero=>cases h; exact ⟨c,t,rfl,rfl⟩
   | succ i=>
    obtain ⟨m,t',e1,e2⟩:=ones_at (i:=i) b (by simpa using h)
    exact ⟨m,t',by simpa using e1,e2⟩
theorem str_one_beq (a b:Nat):((⟨#[a]⟩:Str)==⟨#[b]⟩)=(a==b):=by
 rw [Bool.eq_iff_iff,beq_iff_eq,beq_iff_eq]
 exact ⟨fun h=>by injection h with h; simpa using h,fun h=>by rw [h]⟩
theorem ones_erase:∀ (l:List Nat) (i:Nat),(l.map oneS).eraseIdx i=(l.eraseIdx i).map oneS
 | [],_=>rfl
 | _ :: _,0=>rfl
 | a :: r,i+1=>by rw [List.map_cons,List.eraseIdx_cons_succ,List.eraseIdx_cons_succ,List.map_cons,ones_erase r i]
theorem mt_remove:MtM X "list.remove" rRemove:=by
 intro pins s σ H x vs v us Q I rx rv h
 obtain ⟨l,cs,c,rfl,rfl,hH,hc,q⟩:=h
 cases rx
 obtain ⟨u,rfl,ru⟩:=rv.one
 obtain ⟨t,rfl⟩:=ru
 obtain ⟨z,its,n,r,hl,e⟩:=I.lstM hH
 have hlen:its.length=cs.length:=by have:=r.length; rw [List.length_map] at this; exact this.symm
 have hj:=List.idxOf_lt_length_of_mem hc
 have hat:∀ (m:Nat) (hm:m < its.toArray.size),∃ d t',cs[m]? = some d∧its.toArray[m]=.str ⟨#[d]⟩ t':=fun m hm=>by
  rw [List.size_toArray] at hm
  obtain ⟨d,t',e1,e2⟩:=ones_at (u:=its[m]) r (List.getElem?_eq_getElem hm)
  exact ⟨d,t',e1,by rw [List.getElem_toArray,e2]⟩
 have hS:=strsAre_of (ys:=cs.map fun c=>(⟨#[c]⟩:Str)) (us:=its) (by rw [List.map_map]; exact r)
 refine call_meets F.slot_list_remove ⟨_,e,rfl⟩ F.entry_list_remove (F.args_list_remove_2 _ _)
  (MeetsSeq.list_remove l its.toArray n (.str ⟨#[c]⟩ t) (isStrOf ⟨#[c]⟩) (fun y hy=>eq_isStrOf _ t hS y (by simpa using hy)) (cs.idxOf c) (by rw [List.size_toArray]; omega) ?_ (fun m hm hlt=>?_) (by rw [List.size_toArray]; rw [List.length_map] at z; omega)) ⟨e,?_⟩
 ·obtain ⟨d,t',e1,e2⟩:=hat (cs.idxOf c) (by rw [List.size_toArray]; omega)
  rw [List.getElem?_eq_getElem hj,List.getElem_idxOf] at e1
  cases e1
  rw [e2]
  exact (str_one_beq _ _).trans (by simp)
 ·obtain ⟨d,t',e1,e2⟩:=hat m hm
  rw [e2]
  refine (str_one_beq _ _).trans (beq_eq_false_iff_ne.mpr fun z=>?_)
  have hmem:d∈cs.take (m+1):=by
   rw [List.take_add_one,e1]
   simp
  have h1:cs.idxOf c=(cs.take (m+1)).idxOf c:=by
   conv=>lhs; rw [← List.take_append_drop (m+1) cs]
   rw [List.idxOf_append,if_pos (z▸hmem)]
  have h2:=List.idxOf_lt_length_of_mem (z▸hmem:c∈cs.take (m+1))
  have h3:m < cs.length:=(List.getElem?_eq_some_iff.mp e1).1
  rw [List.length_take] at h2
  by_cases c2:c∈cs.take m
  ·have h5:cs.idxOf c=(cs.take m).idxOf c:=by
    conv=>lhs; rw [← List.take_append_drop m cs]
    rw [List.idxOf_append,if_pos c2]
   have h6:=List.idxOf_lt_length_of_mem c2
   rw [List.length_take] at h6
   omega
  ·omega
 ·refine ⟨.non,_,I.lset (its':=its.eraseIdx (cs.idxOf c)) hH e ?_ ?_ ?_,rfl,q⟩
  ·show its.toArray.eraseIdxIfInBounds _=(its.eraseIdx _).toArray
   rw [List.eraseIdxIfInBounds_toArray]
  ·rw [List.erase_eq_eraseIdx_of_idxOf rfl,← ones_erase]
   exact r.eraseIdx _
  ·rw [List.length_map] at z ⊢
   have:=List.length_erase_le (a:=c) (l:=cs)
   omega
inductive rJoinTI (K:PySem.W.Frag) (x:V) (xs:List V) (H:Hp) (Q:VK):Prop
 | mk (z p ys:_) (h1:x=.str z) (h2:xs=[.ref p]) (h3:SqT K H p (ys.map V.str)) (h4:(ys.map (·.length)).sum+ys.length * z.length≤16777216) (h5:Q (.str (Txt.join z ys)) H):rJoinTI K x xs H Q
def rJoinT (K:PySem.W.Frag):V→List V→Hp→VK→Prop:=fun x xs H Q=>rJoinTI K x xs H Q
theorem mt_joinT {K:PySem.W.Frag} (hK:X.K=K:=by rfl):MtR X "str.join" (rJoinT K):=by
 subst hK
 intro pins s σ H x xs v us Q I rx rs h
 obtain ⟨z,p,ys,rfl,rfl,hq,hz,q⟩:=h
 obtain ⟨t,rfl⟩:=rx
 obtain ⟨u,rfl,ru⟩:=rs.one
 cases ru
 obtain ⟨its,r,pl,_⟩:=I.tuple hq
 exact join_tuple pl (by simpa using strsAre_of r) hz fun t' k=>⟨.str _,H,I.tok _,⟨_,rfl⟩,q⟩
def tOrG (K:PySem.W.Frag) (ta tb:TE):TE:=fun σ H Q=>ta σ H fun x H1=>∃ k,TruV K x H1 k∧if k=false then tb σ H1 Q else Q x H1
theorem pe_orG {X:Cx} {K:PySem.W.Frag} {a b:Expr} {rest:List Expr} {ta tb:TE} {pos:Pos} (ha:PE X a ta) (hb:PE X (.BoolOp .Or (b :: rest) pos) tb) (hK:X.K=K:=by rfl):PE X (.BoolOp .Or (a :: b :: rest) pos) (tOrG K ta tb):=by
 subst hK
 intro pins s σ H Q I h
 refine BoolOp_or (thn (ha pins s σ H _ I h) fun v s1 ⟨x,H1,I1,r1,q1⟩=>?_)
 obtain ⟨k,hk,q1⟩:=q1
 refine tru_ok pins s1 σ H1 x _ (fun b H2=>H2=H1∧b=k) I1 r1 ⟨_,hk,rfl,rfl⟩ |> fun hh=>thn hh fun b s2 ⟨H2,I2,e1,e2⟩=>?_
 subst e1 e2
 cases b with
 | false=>
  rw [if_pos rfl] at q1
  exact hb pins s2 σ H2 Q I2 q1
 | true=>
  rw [if_neg (by decide)] at q1
  exact ⟨x,H2,I2,r1,q1⟩
theorem pss0_one {st:Stmt} {t:TS} (h1:PS0 X st t):PSs0 X [st] t:=by
 intro pins s σ H D hk I h
 refine wpAny_execs_cons (thn (h1 pins s σ H D hk I h) fun f s1 q=>?_)
 cases f with
 | next=>exact wpAny_execs_nil q
 | ret v=>exact q
 | brk=>exact q
 | cont=>exact q
theorem pss0_cut {st:Stmt} {rest:List Stmt} {t u:TS} (h1:PS0 X st t) (h2:PSs0 X rest u):PSs0 X (st :: rest) (tCut t u):=by
 intro pins s σ H D hk I h
 obtain ⟨P,q,k⟩:=h
 exact pss0_cons (t:=fun D' σ' H'=>t { D' with nx:=P } σ' H'∧∀ σ2 H2,P σ2 H2→D'.nx σ2 H2) (u:=u) (fun pins s σ H D hk I h=>by
  refine thn (h1 pins s σ H _ hk I h.1) fun f s' r=>?_
  cases f with
  | next=>
   obtain ⟨σ',H',I',p⟩:=r
   exact ⟨σ',H',I',h.2 σ' H' p⟩
  | brk=>exact r
  | cont=>exact r
  | ret v=>exact r) h2 pins s σ H D hk I ⟨q,k⟩
theorem pe_cs {x:Str} {k:Nat} {ps:List Str} {sp:Sp} {p pos:Pos} {e:Expr} {es:List Expr} {t:TA} (C:Cal X.prog X.w X.K X.mg X.base x k ps sp) (hr:Room k X.A) (ha:PAs X (e :: es) t) (hg:Gl X x:=by rfl)
  (hdb:(x==("__debug__" : Str))=false:=by decide) (he:starEach (e :: es) X.env=(false,eval e X.env) :: starEach es X.env:=by rfl) (hpl:(backTo pos (starEach es X.env)).any (·.1)=false:=by rfl) :
  PEs X (.Call (.Name x p) (e :: es) [] pos) (tCall sp [] E0 t):=pe_calls C.ok hr hg C.at_ C.kp C.b .nil pass0 ha hdb he hpl
end
end L2
namespace L2
open PySem PySem.Spec PyProof.Rows
def Itk (a:Addr) (o:Obj) (kvs:List (Key × V)):It:=
 ⟨fun i H=>i < kvs.length∧H a=some (.frz o (.dK kvs)),fun i H x H'=>H'=H∧∃ k v,kvs[i]? = some (k,v)∧x=kV k,fun i H=>i=kvs.length∧H a=some (.frz o (.dK kvs))⟩
theorem rel_of_is {P:Program} {w:World} {k:Key} {u:Value} (h:(mixKind P w).is k u=true):RelV (kV k) u:=by
 rcases keyIs_shape (show keyIs k u=true from h) with ⟨i,t,rfl,rfl⟩ | ⟨x,t,rfl,rfl⟩
 ·exact ⟨t,rfl⟩
 ·exact ⟨t,rfl⟩
theorem kv_len {kvs:List (Key × V)} {vs:List (Key × Value)} (r:KV kvs vs):kvs.length=vs.length:=Paired.length r
theorem kv_get:∀ {kvs:List (Key × V)} {vs:List (Key × Value)} {i:Nat} {k:Key} {x:Value},KV kvs vs→vs[i]? = some (k,x)→∃ v,kvs[i]? = some (k,v)
 | _,_,i,_,_,.nil,h=>by simp at h
 | _,_,0,k,x,.cons (a:=p) (b:=q) r _,h=>by
  cases h
  obtain ⟨e,_⟩:=r
  obtain ⟨pk,pv⟩:=p
  have e':pk=k:=e
  subst e'
  exact ⟨pv,rfl⟩
 | _,_,i+1,k,x,.cons _ t,h=>by
  obtain ⟨v,e⟩:=kv_get (i:=i) t (by simpa using h)
  exact ⟨v,by simpa using e⟩
theorem turn_dict {P:Program} {w:World} {K:PySem.W.Frag} {tg:Expr} (a it:Addr) (o:Obj) (kvs:List (Key × V)) (vs:List (Key × Value)) (es:Array DictEntry) (ep:Nat) (rel:KV kvs vs) (ho:∀ h:Heap,h.get? a=some o→h.DictAt (mixKind P w) a vs ep) :
  Turn P w K tg (Itk a o kvs) [it] it (fun i h=>h.IsKeyIter it a i vs.length ep) where
 mem:=by simp
 obj:=fun i h st b hb=>by
  have e:b=it:=by simpa using hb
  subst e
  obtain ⟨o,e,c,d⟩:=st
  exact ⟨o,e,fun v z=>by rw [d] at z; cases z⟩
 keep:=fun i h h' st k=>st.at fun o e=>k it (by simp) o e
 item:=by
  intro X hP hw hK hc i pins s σ H E I hf st hg
  subst hP hw hK
  obtain ⟨hi,hq⟩:=hg
  have hd:=ho s.heap (I.hok a _ hq).1
  have hl:=kv_len rel
  have hx:vs[i]? = some (vs[i]'(by omega)):=List.getElem?_eq_getElem (by omega)
  obtain ⟨f0,f1,f2,f3,f4,f5⟩:=hf it (by simp)
  refine wpAny_pyNext_dict_item (k:=(vs[i]'(by omega)).1) (v:=(vs[i]'(by omega)).2) st hd hx fun key h' hk st' sb=>?_
  have I1:Inv X pins σ H { s with heap:=h' }:=I.turned (t':=s.toks) (fun b o hb e=>(sb.2 b hb).trans e) f0 f1 f3 f4 f5
  obtain ⟨oi,e,c,d⟩:=id st'
  obtain ⟨v,hv⟩:=kv_get (k:=(vs[i]'(by omega)).1) (x:=(vs[i]'(by omega)).2) rel hx
  exact ⟨key,rfl,go_of (s:={ s with heap:=h' }) e c d (by decide) ⟨kV _,H,I1,rel_of_is hk,⟨rfl,_,v,hv,rfl⟩,st',fun b hb=>(hf b hb).1⟩⟩
 done:=by
  intro X hP hw hK hc i pins s σ H E I hf st hg
  subst hP hw hK
  obtain ⟨hi,hq⟩:=hg
  have hd:=ho s.heap (I.hok a _ hq).1
  have hl:=kv_len rel
  obtain ⟨f0,f1,f2,f3,f4,f5⟩:=hf it (by simp)
  exact wpAny_pyNext_dict_end (I.ok.hd hc) st hd (List.getElem?_eq_none (by omega)) fun h' eb=>⟨rfl,I.turned (t':=s.toks) (fun b o hb e=>eb b o hb e) f0 f1 f3 f4 f5⟩
 self:=fun _ _ _ _ _ st h=>wpAny_pyIter_keyiter st h
section
variable {X:Cx} {tg:Expr}
def iDict (te:TE):TI:=fun σ H R=>te σ H fun x H1=>∃ a kvs,x=.ref a∧((H1 a=some (.dK kvs)∧∀ o,R (Itk a o kvs) (upd H1 a (.frz o (.dK kvs))))∨∃ o,H1 a=some (.frz o (.dK kvs))∧R (Itk a o kvs) H1)
theorem pi_dict {e:Expr} {te:TE} (he:PE X e te):PI X tg e (iDict te):=by
 intro pins s σ H R I h
 refine thn (he pins s σ H _ I h) fun v s1 ⟨x,H1,I1,r1,q1⟩=>?_
 obtain ⟨a,kvs,e,q⟩:=q1
 subst e
 cases r1
 have key:∀ (o:Obj) (H2:Hp),Inv X pins σ H2 s1→H2 a=some (.frz o (.dK kvs))→R (Itk a o kvs) H2→wpAny (model X.prog X.w) X.A (pyIter (.ref a)) (PIE X pins σ tg R) X.xe s1:=by
  intro o H2 I2 h2 q2
  obtain ⟨ho,_,hsm,vs,rel,dd⟩:=I2.hok a _ h2
  obtain ⟨o',es,ep,ho',hx,hdat,hk,hp,hn⟩:=dd
  rw [ho] at ho'
  cases ho'
  have at_:∀ h:Heap,h.get? a=some o→h.DictAt (mixKind X.prog X.w) a vs ep:=fun h e=>⟨o,es,e,hx,hdat,hk,hp,hn⟩
  refine wpAny_pyIter_dict hsm (at_ s1.heap ho) ?_
  refine ⟨s1.heap.objs.size,[s1.heap.objs.size],_,_,H2,rfl,I2.kept (t':=s1.toks) fun b o e=>Heap.get?_push_of_some _ e,turn_dict a _ o kvs vs es ep rel at_,⟨_,Heap.get?_push_size _ rfl,rfl,rfl⟩,fun b hb=>?_,q2⟩
  have e:b=s1.heap.objs.size:=by simpa using hb
  subst e
  exact I2.fpOk (Nat.le_refl _) (I2.hok.fresh (Nat.le_refl _))
 rcases q with ⟨hd,q⟩ | ⟨o,hd,q⟩
 ·obtain ⟨hz,hsm,vs,rel,dd⟩:=I1.hok a _ hd
  obtain ⟨o,es,ep,ho,rest⟩:=id dd
  have I2:Inv X pins σ (upd H1 a (.frz o (.dK kvs))) s1:=I1.write (x:=a) (e:=a) (t':=s1.toks) (h':=s1.heap) (by rw [hd]; exact True.intro) (.inl rfl) (fun b u _ e=>e) ⟨o,ho⟩ ⟨ho,hz,hsm,vs,rel,dd⟩
  exact key o _ I2 upd_same (q o)
 ·exact key o H1 I1 hd q
theorem for_dict {a:Addr} {o:Obj} {kvs:List (Key × V)} {g:TG} {tb:TS} {D:Ends} {σ:St} {H:Hp} (Pv:Nat→St→Hp→Prop) (h0:Pv 0 σ H) (hl:∀ i σ H,i≤kvs.length→Pv i σ H→H a=some (.frz o (.dK kvs)))
  (hs:∀ i k v σ H,kvs[i]? = some (k,v)→Pv i σ H→g (kV k) σ H fun σ2 H2=>tb { D with nx:=Pv (i+1),ct:=Pv (i+1),bk:=D.nx } σ2 H2) (hd:∀ σ H,Pv kvs.length σ H→D.nx σ H) :
  ∃ W:Nat→Nat→St→Hp→Prop,(∃ m,W 0 m σ H)∧∀ i m σ H,W i m σ H→
   ((Itk a o kvs).stop i H∧D.nx σ H)∨((Itk a o kvs).go i H∧∃ N:St→Hp→Prop,(∀ σ' H',N σ' H'→∃ m',m' < m∧W (i+1) m' σ' H')∧∀ x H',(Itk a o kvs).yld i H x H'→g x σ H' fun σ2 H2=>tb { D with nx:=N,ct:=N,bk:=D.nx } σ2 H2):=by
 refine ⟨fun i m σ H=>m=kvs.length - i∧i≤kvs.length∧Pv i σ H,⟨kvs.length,by simp,Nat.zero_le _,h0⟩,?_⟩
 rintro i m σ H ⟨rfl,hi,p⟩
 have q:=hl i σ H hi p
 by_cases hlt:i < kvs.length
 ·refine .inr ⟨⟨hlt,q⟩,Pv (i+1),fun σ' H' p'=>⟨kvs.length - (i+1),by omega,rfl,hlt,p'⟩,fun x H' y=>?_⟩
  obtain ⟨e,k,v,hk,ex⟩:=y
  subst e ex
  exact hs i k v σ _ hk p
 ·have e:i=kvs.length:=by omega
  subst e
  exact .inl ⟨⟨rfl,q⟩,hd σ H p⟩
def tDSet (td ty tx:TE):TE:=fun σ H Q=>td σ H fun x H1=>∃ a,x=.ref a∧IsD H1 a∧ty σ H1 fun y H2=>tx σ H2 fun z H3=>∃ kvs k,H3 a=some (.dK kvs)∧y=kV k∧kvs.length < sizeLine∧
 (∀ v,valV kvs k=some v→Q v H3)∧(valV kvs k=none→Q z (upd H3 a (.dK (putK kvs k z))))
theorem pe_dset {o e f:Expr} {apos cpos:Pos} {td ty tx:TE} (ho:PE X o td) (he:PE X e ty) (hf:PE X f tx) (m:M2 X o "setdefault" apos e f cpos):PE X (.Call (.Attribute o "setdefault" apos) [e,f] [] cpos) (tDSet td ty tx):=by
 intro pins s σ H Q I h
 refine wpAny_Call_method m.base m.few m.line PySem.F.plainAttrs_dict PySem.F.slot_dict_setdefault PySem.F.type_dict_setdefault (thn (ho pins s σ H _ I h) fun u s1 ⟨x,H1,I1,rx,a,ex,d,q1⟩=>?_)
 subst ex
 obtain rfl:u=Value.ref a:=rx
 obtain ⟨t1,t2,_⟩:=isD_at I1 d
 refine ⟨t1,t2,?_⟩
 rw [m.trees]
 refine Calls.callWith_builtin rfl (Calls.evalArgs_plain (Calls.spliced_cons (thn (he pins s1 σ H1 _ I1 q1) fun iv s2 ⟨y,H2,I2,ry,q2⟩=>
  Calls.spliced_cons (thn (hf pins s2 σ H2 _ I2 q2) fun fv s3 ⟨z,H3,I3,rz,kvs,k,hk,ey,hlt,q3,q4⟩=>Calls.spliced_nil ?_))))
 subst ey
 obtain ⟨hz,hsm,vs,rel,dd⟩:=dk_of I3.hok hk
 have hvl:vs.length≤sizeLine:=by rw [← kv_len rel]; exact hz
 refine call_meetsIn PySem.F.slot_dict_setdefault dd.typeIs PySem.F.entry_dict_setdefault (PySem.F.args_dict_setdefault_3 _ _ _) (kt_meets_setdefault (mixKind X.prog X.w) a (kV_is ry) hsm fv) ⟨vs,dd,hvl,fun w' hw=>?_,fun hn h' dd' hs=>?_⟩
 ·have r:=rel.val k
  rw [hw] at r
  cases hv:valV kvs k with
  | none=>rw [hv] at r; exact r.elim
  | some v=>
   rw [hv] at r
   exact ⟨v,H3,I3.tok _,r,q3 v hv⟩
 ·have r:=rel.val k
  rw [hn] at r
  have hv:valV kvs k=none:=by
   cases hv:valV kvs k with
   | none=>rfl
   | some v=>rw [hv] at r; exact r.elim
  have he:∃ q,h'.get? a=some q:=let ⟨q,_,_,hq,_⟩:=dd'; ⟨q,hq⟩
  have hl:(putK kvs k z).length≤sizeLine:=by have:=length_putK kvs k z; omega
  exact ⟨z,_,d_write I3 (by rw [hk]; exact True.intro) hs he (dk_new hl hsm (rel.put k rz) dd'),rz,q4 hv⟩
end
end L2
namespace My
open PySem PySem.Spec PyProof.Rows L2
def top (i:Nat):Stmt:=PySem.Challenge.pw_spreadwords_k09_arches_and_absent_words.main.body.getD i (.Pass ⟨0,0,0,0⟩)
abbrev s_left_behind:Stmt:=top 1
abbrev s_arch_end:Stmt:=top 3
abbrev s_arches:Stmt:=top 4
abbrev s_absent:Stmt:=top 5
abbrev s_law_flow:Stmt:=top 7
abbrev s_law_pick:Stmt:=top 8
abbrev s_law_letters:Stmt:=top 9
abbrev s_law_word:Stmt:=top 10
abbrev s_law_spread:Stmt:=top 11
abbrev s_law_all_words:Stmt:=top 12
abbrev s_law_pairs:Stmt:=top 13
abbrev s_law_step:Stmt:=top 14
abbrev s_law_arches:Stmt:=top 15
abbrev s_law_pieces_right:Stmt:=top 16
abbrev s_law_first_absent:Stmt:=top 17
abbrev s_law:Stmt:=top 18
theorem sc_left_behind:FnScope ["text","start","letter"] ["text","start","letter"] (defScope s_left_behind):=⟨rfl,rfl,rfl,by decide +kernel,rfl,by decide +kernel,by decide +kernel,by decide +kernel⟩
theorem sc_arch_end:FnScope ["letters","text","start","ends"] ["letters","text","start"] (defScope s_arch_end):=⟨rfl,rfl,rfl,by decide +kernel,rfl,by decide +kernel,by decide +kernel,by decide +kernel⟩
theorem sc_arches:FnScope ["letters","text","told","start","end"] ["letters","text"] (defScope s_arches):=⟨rfl,rfl,rfl,by decide +kernel,rfl,by decide +kernel,by decide +kernel,by decide +kernel⟩
theorem sc_absent:FnScope ["letters","text","level","longer","start","letter","word","behind"] ["letters","text"] (defScope s_absent):=⟨rfl,rfl,rfl,by decide +kernel,rfl,by decide +kernel,by decide +kernel,by decide +kernel⟩
theorem sc_law_flow:FnScope ["_law_script"] ["_law_script"] (defScope s_law_flow):=⟨rfl,rfl,rfl,by decide +kernel,rfl,by decide +kernel,by decide +kernel,by decide +kernel⟩
theorem sc_law_pick:FnScope ["_law_flow_here","_law_many","_law_cell","_law_digit"] ["_law_flow_here","_law_many"] (defScope s_law_pick):=⟨rfl,rfl,rfl,by decide +kernel,rfl,by decide +kernel,by decide +kernel,by decide +kernel⟩
theorem sc_law_letters:FnScope ["_law_flow_here","_law_many","_law_left"] ["_law_flow_here","_law_many"] (defScope s_law_letters):=⟨rfl,rfl,rfl,by decide +kernel,rfl,by decide +kernel,by decide +kernel,by decide +kernel⟩
theorem sc_law_word:FnScope ["_law_flow_here","_law_letters_here","_law_most","_law_again","_law_many","_law_piece"] ["_law_flow_here","_law_letters_here","_law_most"] (defScope s_law_word):=⟨rfl,rfl,rfl,by decide +kernel,rfl,by decide +kernel,by decide +kernel,by decide +kernel⟩
theorem sc_law_spread:FnScope ["_law_word_here","_law_text","_law_at","_law_letter"] ["_law_word_here","_law_text"] (defScope s_law_spread):=⟨rfl,rfl,rfl,by decide +kernel,rfl,by decide +kernel,by decide +kernel,by decide +kernel⟩
theorem sc_law_all_words:FnScope ["_law_letters_here","_law_most","_law_found","_law_here","_law_turn"] ["_law_letters_here","_law_most"] (defScope s_law_all_words):=⟨rfl,rfl,rfl,by decide +kernel,rfl,by decide +kernel,by decide +kernel,by decide +kernel⟩
theorem sc_law_pairs:FnScope ["_law_words","_law_letters_here","_law_found","_law_word_here"] ["_law_words","_law_letters_here"] (defScope s_law_pairs):=⟨rfl,rfl,rfl,by decide +kernel,rfl,by decide +kernel,by decide +kernel,by decide +kernel⟩
theorem sc_law_step:FnScope ["_law_text","_law_at","_law_letter","_law_there"] ["_law_text","_law_at","_law_letter"] (defScope s_law_step):=⟨rfl,rfl,rfl,by decide +kernel,rfl,by decide +kernel,by decide +kernel,by decide +kernel⟩
theorem sc_law_arches:FnScope ["_law_letters_here","_law_text","_law_many","_law_left","_law_letter"] ["_law_letters_here","_law_text"] (defScope s_law_arches):=⟨rfl,rfl,rfl,by decide +kernel,rfl,by decide +kernel,by decide +kernel,by decide +kernel⟩
theorem sc_law_pieces_right:FnScope ["_law_letters_here","_law_text","_law_told","_law_piece"] ["_law_letters_here","_law_text","_law_told"] (defScope s_law_pieces_right):=⟨rfl,rfl,rfl,by decide +kernel,rfl,by decide +kernel,by decide +kernel,by decide +kernel⟩
theorem sc_law_first_absent:FnScope ["_law_letters_here","_law_text","_law_word_here","_law_at","_law_k","_law_letter","_law_there"] ["_law_letters_here","_law_text","_law_word_here"] (defScope s_law_first_absent):=⟨rfl,rfl,rfl,by decide +kernel,rfl,by decide +kernel,by decide +kernel,by decide +kernel⟩
theorem sc_law:FnScope ["_law_script","_law_flow_here","_law_way","_law_letters_here","_law_lacking","_law_more","_law_cut","_law_text","_law_every","_law_some","_law_told","_law_word_here","_law_k","_law_whole"] ["_law_script"] (defScope s_law):=⟨rfl,rfl,rfl,by decide +kernel,rfl,by decide +kernel,by decide +kernel,by decide +kernel⟩
theorem nd_law_0:(inNm ["_law_one"] ["_law_script","_law_flow_here","_law_way","_law_letters_here","_law_lacking","_law_more","_law_cut","_law_text","_law_every","_law_some","_law_told","_law_word_here","_law_k","_law_whole"] [3,5]).Nodup:=by decide +kernel
theorem nd_law_1:(inNm ["_law_letter"] ["_law_script","_law_flow_here","_law_way","_law_letters_here","_law_lacking","_law_more","_law_cut","_law_text","_law_every","_law_some","_law_told","_law_word_here","_law_k","_law_whole"] [10]).Nodup:=by decide +kernel
theorem nd_law_2:(inNm ["_law_word_here"] ["_law_script","_law_flow_here","_law_way","_law_letters_here","_law_lacking","_law_more","_law_cut","_law_text","_law_every","_law_some","_law_told","_law_word_here","_law_k","_law_whole"] [7]).Nodup:=by decide +kernel
theorem nd_law_letters_0:(inNm ["_law_k"] ["_law_flow_here","_law_many","_law_left"] [0,2]).Nodup:=by decide +kernel
theorem nd_law_word_0:(inNm ["_law_k"] ["_law_flow_here","_law_letters_here","_law_most","_law_again","_law_many","_law_piece"] [0,1]).Nodup:=by decide +kernel
theorem nd_law_word_1:(inNm ["_law_k"] ["_law_flow_here","_law_letters_here","_law_most","_law_again","_law_many","_law_piece"] [0,1]).Nodup:=by decide +kernel
theorem nd_law_pairs_0:(inNm ["_law_letter"] ["_law_words","_law_letters_here","_law_found","_law_word_here"] [3]).Nodup:=by decide +kernel
theorem nd_law_all_words_0:(inNm ["_law_word_here","_law_letter"] ["_law_letters_here","_law_most","_law_found","_law_here","_law_turn"] []).Nodup:=by decide +kernel
theorem nd_arch_end_0:(inNm ["letter"] ["letters","text","start","ends"] [1,2]).Nodup:=by decide +kernel
theorem nd_law_first_absent_0:(inNm ["_law_one"] ["_law_letters_here","_law_text","_law_word_here","_law_at","_law_k","_law_letter","_law_there"] [2,4]).Nodup:=by decide +kernel
structure Blt (mg:Str→Option Value):Prop where
 all:mg "all" = none
 int:mg "int" = none
 isinstance:mg "isinstance" = none
 len:mg "len" = none
 list:mg "list" = none
 max:mg "max" = none
 range:mg "range" = none
 set:mg "set" = none
 sorted:mg "sorted" = none
 str:mg "str" = none
 tuple:mg "tuple" = none
inductive spLawI (K:PySem.W.Frag) (vs:List V) (H:Hp) (Q:VK):Prop
 | mk (a:Addr) (ns:List Int) (h1:vs=[.ref a]) (h2:SqL K H a (ns.map V.int)) (h3:ns.length≤63) (h4:∀ H',Q (.bl true) H'):spLawI K vs H Q
def spLaw (K:PySem.W.Frag):Sp:=fun vs H Q u3_=>spLawI K vs H Q
section
variable {P:Program} {w:World} {K:PySem.W.Frag} {mg:Str→Option Value} {base:Heap}
theorem rd_ix {K:PySem.W.Frag} {σ:L2.St} {H:Hp} {Q:VK} {p:Addr} {xs:List V} {i:Int} {v:V} {j:Nat} (h0:σ[j]? = some (some (.ref p))) (hp:H p=some (.lst xs)) (hv:atI xs i=some v) (q:Q v H):tOp (rIxL K) (tVar j) (tC (.int i)) σ H Q:=
 ⟨_,h0,p,xs,i,v,rfl,rfl,SqL.of hp,hv,q⟩
theorem ok_law_flow {f:Addr} {fd:FuncData} (F:Fun K "_law_flow" "_law_flow" s_law_flow f fd) (Z:Blt mg):FnOk P w K mg base CX0 1 f fd ["_law_script"] (spFlow K):=by
 refine F.ok sc_law_flow (fun vs H Q E h=>?_) (fun cdv A outer s H vs Q E hr h=>?_)
 ·obtain ⟨a,ns,rfl,_⟩:=h
  rfl
 obtain ⟨a,ns,rfl,hS,k⟩:=h
 refine ⟨_,(pss_one (ps_ret (pe_lst (pa_cons (pe_callTy (call_listK (K:=K)) (by rfl) Z.list bt_list (pa_cons (pv 0) pa_nil)) (pa_cons pe_int (pa_cons pe_int (pa_cons pe_int (pa_cons pe_int pa_nil)))))))),?_⟩
 refine ⟨_,rfl,a,_,rfl,.inl hS,fun l hl=>?_⟩
 refine ⟨(by show 5≤sizeLine; decide),fun p hp=>?_⟩
 have e1:Same H (upd H l (.lst (ns.map V.int))):=same_new hl _
 refine k p l _ (e1.free hp) (e1.trans (same_new hp _)) ⟨⟨_,upd_same,0,0,1,0,rfl,by decide,by decide,by decide,by decide,by decide⟩,ns,?_⟩
 rw [upd_ne (ne_of_none upd_same hp)]
 exact upd_same
theorem pick_last (c:Int) (m:Int) (hm:0 < m):0≤c % m∧c % m < m:=⟨Int.emod_nonneg _ (by omega),Int.emod_lt_of_pos _ hm⟩
theorem atI_ints {ns:List Int} {a:Int} (h0:0≤a) (h1:a < ((ns.map V.int).length:Int)):∃ z,atI (ns.map V.int) a=some (.int z):=by
 have hk:a.toNat < ns.length:=by
  rw [List.length_map] at h1
  omega
 have q:atI (ns.map V.int) ((a.toNat:Nat):Int)=some (.int ns[a.toNat]):=atI_nat (by rw [List.getElem?_map,List.getElem?_eq_getElem hk]; rfl)
 rw [show ((a.toNat:Nat):Int)=a by omega] at q
 exact ⟨_,q⟩
theorem ok_law_pick {f:Addr} {fd:FuncData} (F:Fun K "_law_pick" "_law_pick" s_law_pick f fd) (Z:Blt mg):FnOk P w K mg base CX0 1 f fd ["_law_flow_here","_law_many"] spPick:=by
 refine F.ok sc_law_pick (fun vs H Q E h=>?_) (fun cdv A outer s H vs Q E hr h=>?_)
 ·obtain ⟨p,sc,m,rfl,_⟩:=h
  rfl
 obtain ⟨p,sc,m,rfl,hm0,hm1,FA,k⟩:=h
 obtain ⟨xs,hp,a,b,c,d,rfl,ha,hb,hc0,hc1,hd⟩:=FA.here
 obtain ⟨ns,hs⟩:=FA.cells
 refine ⟨_,(pss_cut (ps_if (PW.pt (pw_and (pt_cmpR op_eq (pe_ix (ix_listK (K:=K)) (pv 0) pe_int (fun _ _=>rfl)) pe_int (nomark _)) (pw_and1 (pt_cmpR op_lt (pe_ix (ix_listK (K:=K)) (pv 0) pe_int (fun _ _=>rfl)) (pe_callB (call_lenK (K:=K)) (by rfl) Z.len bt_len (pa_cons (pe_ix (ix_listK (K:=K)) (pv 0) pe_int (fun _ _=>rfl)) pa_nil)) (nomark _))))) 
    (pss_cons (ps_set (i:=2) sc_law_pick.nd (by rfl) (Or.inl (by rfl)) (pe_ix (ix_listK (K:=K)) (pe_ix (ix_listK (K:=K)) (pv 0) pe_int (fun _ _=>rfl)) (pe_ix (ix_listK (K:=K)) (pv 0) pe_int (fun _ _=>rfl)) (fun _ _=>rfl))) 
    (pss_cons (ps_asg (pe_op op_add (pe_ix (ix_listK (K:=K)) (pv 0) pe_int (fun _ _=>rfl)) pe_int) (pg_sub (pv 0) pe_int set_list)) 
    (pss_one (ps_if (pt_cmpR op_ge (pv 2) (pe_op op_pow pe_int pe_int) (nomark _)) 
     (pss_one (ps_asg (pv 2) (pg_sub (pv 0) pe_int set_list))) 
     (pss_one (ps_asg (pe_op op_mod (pe_op op_add (pe_op op_add (pe_op op_mul (pe_ix (ix_listK (K:=K)) (pv 0) pe_int (fun _ _=>rfl)) pe_int) (pe_op op_mod (pv 2) pe_int)) pe_int) pe_int) (pg_sub (pv 0) pe_int set_list))))))) pss_nil) 
   (pss_cons (ps_if (pt_cmpR op_gt (pe_ix (ix_listK (K:=K)) (pv 0) pe_int (fun _ _=>rfl)) pe_int (nomark _)) 
    (pss_cons (ps_set (i:=3) sc_law_pick.nd (by rfl) (Or.inl (by rfl)) (pe_op op_mod (pe_ix (ix_listK (K:=K)) (pv 0) pe_int (fun _ _=>rfl)) (pv 1))) 
    (pss_cons (ps_asg (pe_op op_fdiv (pe_ix (ix_listK (K:=K)) (pv 0) pe_int (fun _ _=>rfl)) (pv 1)) (pg_sub (pv 0) pe_int set_list)) 
    (pss_one (ps_ret (pv 3))))) pss_nil) 
   (pss_cons (ps_asg (pe_op op_add (pe_ix (ix_listK (K:=K)) (pv 0) pe_int (fun _ _=>rfl)) pe_int) (pg_sub (pv 0) pe_int set_list)) 
   (pss_cons (ps_asg (pe_op op_mod (pe_op op_add (pe_op op_add (pe_op op_mul (pe_ix (ix_listK (K:=K)) (pv 0) pe_int (fun _ _=>rfl)) pe_int) pe_int) (pe_ix (ix_listK (K:=K)) (pv 0) pe_int (fun _ _=>rfl))) pe_int) (pg_sub (pv 0) pe_int set_list)) 
   (pss_one (ps_ret (pe_op op_mod (pe_op op_fdiv (pe_op op_mod (pe_op op_mul (pe_op op_add (pe_op op_mod (pe_ix (ix_listK (K:=K)) (pv 0) pe_int (fun _ _=>rfl)) pe_int) pe_int) (pe_op op_add (pe_op op_fdiv (pe_ix (ix_listK (K:=K)) (pv 0) pe_int (fun _ _=>rfl)) pe_int) pe_int)) pe_int) pe_int) (pv 1)))))))),?_⟩
 refine (let zz0:TS:=_; let zz1:TS:=tSeq _ zz0; let zz2:TS:=tSeq _ zz1; let zz3:TS:=_; let zz4:TS:=tSeq _ zz3; let zz5:TS:=tSeq _ zz4; let zz6:TS:=tSeq (tIfS _ zz5 _) zz2; let zz7:TS:=_; let zz8:TS:=tSeq _ zz7; let zz9:TS:=tSeq _ zz8; (?_:tCut (tIfS _ zz9 _) zz6 _ _ _))
 refine ⟨fun σ' H'=>∃ cv xs',σ'=[some (V.ref p),some (V.int m),cv,none]∧H' p=some (.lst xs')∧(∀ o,upd H' p o=upd H p o)∧FlowXs sc xs',?_,?_⟩
 ·have stay:∃ cv xs',[some (V.ref p),some (V.int m),none,none]=[some (V.ref p),some (V.int m),cv,none]∧H p=some (.lst xs')∧(∀ o,upd H p o=upd H p o)∧FlowXs sc xs':=⟨_,_,rfl,hp,fun _=>rfl,a,b,c,d,rfl,ha,hb,hc0,hc1,hd⟩
  refine rd_ix rfl hp (atI_nat (j:=2) rfl) ?_
  refine ⟨rfl,_,rfl,?_⟩
  refine ite2 (fun _=>?_) (fun _=>stay)
  refine rd_ix rfl hp (atI_nat (j:=1) rfl) ?_
  refine rd_ix rfl hp (atI_nat (j:=0) rfl) ?_
  refine ⟨sc,_,rfl,.inl (SqL.of hs),_,_,rfl,rfl,_,rfl,?_⟩
  refine ite2 (fun lt=>?_) (fun _=>stay)
  obtain ⟨z,hz⟩:=atI_ints (ns:=ns) ha (of_decide_eq_true lt)
  refine rd_ix rfl hp (atI_nat (j:=0) rfl) ?_
  refine rd_ix rfl hp (atI_nat (j:=1) rfl) ?_
  refine ⟨sc,_,_,_,rfl,rfl,SqL.of hs,hz,?_⟩
  refine rd_ix rfl hp (atI_nat (j:=1) rfl) ?_
  refine ⟨_,_,rfl,rfl,_,rfl,p,_,_,1,rfl,rfl,hp,rfl,?_⟩
  have hp1:upd H p (.lst [.ref sc,.int (a+1),.int b,.int c,.int d]) p=some (.lst [.ref sc,.int (a+1),.int b,.int c,.int d]):=upd_same
  refine ⟨_,rfl,_,_,rfl,rfl,⟨by decide,by decide,by decide⟩,_,_,rfl,rfl,_,rfl,?_⟩
  refine ite2 (fun big=>?_) (fun _=>?_)
  ·have big':(10:Int) ^ 18≤z:=of_decide_eq_true big
   refine ⟨_,rfl,_,rfl,p,_,_,2,rfl,rfl,hp1,rfl,?_⟩
   exact ⟨_,_,rfl,upd_same,fun o=>by rw [upd_upd,upd_upd],a+1,z,c,d,rfl,by omega,by omega,hc0,hc1,hd⟩
  ·refine rd_ix rfl hp1 (atI_nat (j:=3) rfl) ?_
   refine ⟨_,_,rfl,rfl,.inl ⟨by omega,by omega⟩,?_⟩
   refine ⟨_,rfl,_,_,rfl,rfl,(by show (0:Int) < 1000003; decide),_,_,rfl,rfl,_,_,rfl,rfl,_,_,rfl,rfl,(by show (0:Int) < 2147483647; decide),?_⟩
   refine ⟨_,rfl,p,_,_,3,rfl,rfl,hp1,rfl,?_⟩
   have q:=pick_last (c * 40013+z % 1000003+1) 2147483647 (by decide)
   exact ⟨_,_,rfl,upd_same,fun o=>by rw [upd_upd,upd_upd],a+1,b,_,d,rfl,by omega,hb,q.1,q.2,hd⟩
 ·rintro σ' H' ⟨cv,xs',rfl,hp',hu,a',b',c',d',rfl,ha',hb',hc0',hc1',hd'⟩
  refine rd_ix rfl hp' (atI_nat (j:=2) rfl) ?_
  refine ⟨_,_,rfl,rfl,_,rfl,?_⟩
  refine ite2 (fun pos=>?_) (fun _=>?_)
  ·have pos':0 < b':=of_decide_eq_true pos
   refine rd_ix rfl hp' (atI_nat (j:=2) rfl) ?_
   refine ⟨_,rfl,_,_,rfl,rfl,hm0,?_⟩
   refine rd_ix rfl hp' (atI_nat (j:=2) rfl) ?_
   refine ⟨_,rfl,_,_,rfl,rfl,⟨hm0,hm1⟩,_,rfl,p,_,_,2,rfl,rfl,hp',rfl,?_⟩
   refine ⟨_,rfl,?_⟩
   have q:=pick_last b' m hm0
   have e:=k (b' % m) [.ref sc,.int a',.int (b' / m),.int c',.int d'] q.1 q.2 ⟨a',b' / m,c',d',rfl,ha',Int.ediv_nonneg hb' (by omega),hc0',hc1',hd'⟩
   rw [← hu] at e
   exact e
  ·refine rd_ix rfl hp' (atI_nat (j:=4) rfl) ?_
   refine ⟨_,_,rfl,rfl,_,rfl,p,_,_,4,rfl,rfl,hp',rfl,?_⟩
   have hp2:upd H' p (.lst [.ref sc,.int a',.int b',.int c',.int (d'+1)]) p=some (.lst [.ref sc,.int a',.int b',.int c',.int (d'+1)]):=upd_same
   refine rd_ix rfl hp2 (atI_nat (j:=3) rfl) ?_
   refine ⟨_,_,rfl,rfl,.inl ⟨by omega,by omega⟩,_,_,rfl,rfl,?_⟩
   refine rd_ix rfl hp2 (atI_nat (j:=4) rfl) ?_
   refine ⟨_,_,rfl,rfl,_,_,rfl,rfl,(by show (0:Int) < 2147483647; decide),?_⟩
   refine ⟨_,rfl,p,_,_,3,rfl,rfl,hp2,rfl,?_⟩
   have q:=pick_last (c' * 48271+12820163+(d'+1)) 2147483647 (by decide)
   have hp3:∀ H3:Hp,upd H3 p (.lst [.ref sc,.int a',.int b',.int ((c' * 48271+12820163+(d'+1)) % 2147483647),.int (d'+1)]) p=some (.lst [.ref sc,.int a',.int b',.int ((c' * 48271+12820163+(d'+1)) % 2147483647),.int (d'+1)]):=fun _=>upd_same
   refine rd_ix rfl (hp3 _) (atI_nat (j:=3) rfl) ?_
   refine ⟨_,_,rfl,rfl,(by show (0:Int) < 65521; decide),_,_,rfl,rfl,?_⟩
   refine rd_ix rfl (hp3 _) (atI_nat (j:=3) rfl) ?_
   have q2:=pick_last ((c' * 48271+12820163+(d'+1)) % 2147483647) 65521 (by decide)
   refine ⟨_,_,rfl,rfl,⟨by decide,by decide⟩,_,_,rfl,rfl,_,_,rfl,rfl,.inl ⟨by omega,by omega⟩,_,_,rfl,rfl,(by show (0:Int) < 1000003; decide),_,_,rfl,rfl,⟨by decide,by decide⟩,_,rfl,_,_,rfl,rfl,hm0,?_⟩
   have q3:=pick_last (((c' * 48271+12820163+(d'+1)) % 2147483647 % 65521+1) * ((c' * 48271+12820163+(d'+1)) % 2147483647 / 65521+7919) % 1000003 / 7) m hm0
   have e:=k _ [.ref sc,.int a',.int b',.int ((c' * 48271+12820163+(d'+1)) % 2147483647),.int (d'+1)] q3.1 q3.2 ⟨a',b',_,d'+1,rfl,ha',hb',q.1,q.2,by omega⟩
   rw [← hu,← upd_upd (H:=H') (o:=.lst [.ref sc,.int a',.int b',.int c',.int (d'+1)])] at e
   exact e
def one (c:Nat):Str:=⟨#[c]⟩
theorem strs_ones {ys':List Str} {cs:List Nat} (h:ys'.Perm (cs.map one)):∃ cs':List Nat,cs'.Perm cs∧ys'=cs'.map one:=by
 have e:∀ y∈ys',y=one (y.cps.toList.headD 0):=fun y hy=>by
  obtain ⟨c,_,rfl⟩:=List.mem_map.mp (h.mem_iff.mp hy)
  rfl
 have e2:ys'=(ys'.map fun y=>y.cps.toList.headD 0).map one:=by
  rw [List.map_map]
  have:∀ (l:List Str),(∀ y∈l,y=one (y.cps.toList.headD 0))→l=l.map (one ∘ fun y=>y.cps.toList.headD 0):=by
   intro l
   induction l with
   | nil=>intro _; rfl
   | cons y r ih=>
    intro hl
    rw [List.map_cons,← ih fun z hz=>hl z (List.mem_cons_of_mem _ hz)]
    exact congrArg (· :: r) (hl y List.mem_cons_self)
  exact this ys' e
 refine ⟨_,?_,e2⟩
 have p:=h.map fun y:Str=>y.cps.toList.headD 0
 rw [List.map_map] at p
 have:(fun y:Str=>y.cps.toList.headD 0) ∘ one=id:=rfl
 rw [this,List.map_id] at p
 exact p
theorem lt_cps_one (a b:Nat):ltCps (one a).cps.toList (one b).cps.toList=decide (a < b):=by
 rw [ltCps_eq]
 exact lt_one a b
theorem rising_ones:∀ (p:Nat) (cs:List Nat),risingS (one p) (cs.map one)=true→∀ c∈cs,p≤c
 | _,[],_,c,hc=>by cases hc
 | p,x :: r,h,c,hc=>by
  have h':(!ltCps (one x).cps.toList (one p).cps.toList && risingS (one x) (r.map one))=true:=h
  rw [Bool.and_eq_true,lt_cps_one] at h'
  have h1:p≤x:=by
   have:=h'.1
   simp at this
   exact this
  rcases List.mem_cons.mp hc with e | e
  ·subst e; exact h1
  ·exact Nat.le_trans h1 (rising_ones x r h'.2 c e)
theorem sorted_ones:∀ (cs:List Nat),sortedS (cs.map one)=true→cs.Pairwise (·≤·)
 | [],_=>.nil
 | p :: r,h=>by
  have h':risingS (one p) (r.map one)=true:=h
  refine List.Pairwise.cons (rising_ones p r h') (sorted_ones r ?_)
  cases r with
  | nil=>rfl
  | cons x r=>
   have h2:(!ltCps (one x).cps.toList (one p).cps.toList && risingS (one x) (r.map one))=true:=h'
   rw [Bool.and_eq_true] at h2
   exact h2.2
theorem lt_of_le_nodup:∀ {cs:List Nat},cs.Pairwise (·≤·)→cs.Nodup→cs.Pairwise (· < ·)
 | [],_,_=>.nil
 | p :: r,h,n=>by
  cases h with
  | cons h1 h2=>
   rw [List.nodup_cons] at n
   refine List.Pairwise.cons (fun c hc=>?_) (lt_of_le_nodup h2 n.2)
   have:=h1 c hc
   have:p≠c:=fun e=>n.1 (e▸hc)
   omega
theorem erase_perm {α:Type}:∀ {l:List α} {n:Nat} {v:α},l[n]? = some v→(v :: l.eraseIdx n).Perm l
 | [],n,v,h=>by simp at h
 | x :: r,0,v,h=>by
  have e:x=v:=by simpa using h
  subst e
  exact List.Perm.refl _
 | x :: r,n+1,v,h=>by
  have ih:=erase_perm (l:=r) (n:=n) (v:=v) (by simpa using h)
  rw [List.eraseIdx_cons_succ]
  exact (List.Perm.swap x v _).trans (List.Perm.cons x ih)
theorem erase_map {α β:Type} (f:α→β):∀ (l:List α) (i:Nat),(l.map f).eraseIdx i=(l.eraseIdx i).map f
 | [],_=>rfl
 | _ :: _,0=>rfl
 | x :: r,i+1=>by
  rw [List.map_cons,List.eraseIdx_cons_succ,List.eraseIdx_cons_succ,List.map_cons,erase_map f r i]
theorem flat_ones (cs:List Nat):((cs.map one).map fun y=>y.cps.toList).flatten=cs:=by
 induction cs with
 | nil=>rfl
 | cons c r ih=>rw [List.map_cons,List.map_cons,List.flatten_cons,ih]; rfl
theorem sum_ones (cs:List Nat):((cs.map one).map (·.length)).sum=cs.length:=by
 induction cs with
 | nil=>rfl
 | cons c r ih=>rw [List.map_cons,List.map_cons,List.sum_cons,ih,List.length_cons,Nat.add_comm]; rfl
def abc:List Nat:=(List.range 26).map (· + 97)
theorem abc_is:(Str.ofString "abcdefghijklmnopqrstuvwxyz").cps.toList=abc:=by decide +kernel
theorem abc_nodup:abc.Nodup:=by decide +kernel
theorem abc_mem {c:Nat} (h:c∈abc):97≤c∧c≤122:=by
 unfold abc at h
 obtain ⟨i,hi,rfl⟩:=List.mem_map.mp h
 have:=List.mem_range.mp hi
 omega
theorem oneS_map (cs:List Nat):cs.map oneS=(cs.map one).map V.str:=by
 rw [List.map_map]
 rfl
theorem ok_law_letters {f:Addr} {fd:FuncData} (F:Fun K "_law_letters" "_law_letters" s_law_letters f fd) (Z:Blt mg) (C_law_pick:Cal P w K mg base "_law_pick" 1 ["_law_flow_here","_law_many"] spPick) :
  FnOk P w K mg base CX0 2 f fd ["_law_flow_here","_law_many"] spLetters:=by
 refine F.ok sc_law_letters (fun vs H Q E h=>?_) (fun cdv A outer s H vs Q E hr h=>?_)
 ·obtain ⟨p,sc,m,rfl,_⟩:=h
  rfl
 obtain ⟨p,sc,m,rfl,hm0,hm1,FA,k⟩:=h
 refine ⟨_,(pss_cons (ps_set (i:=2) sc_law_letters.nd (by rfl) (Or.inr (by rfl)) (pe_callTy (call_list_text (by rfl)) (by rfl) Z.list bt_list (pa_cons pe_str pa_nil))) 
   (pss_one (ps_ret (pe_bmK (K:=K) PySem.F.plainAttrs_str PySem.F.slot_str_join PySem.F.type_str_join (mt_joinK (K:=K)) pe_str (pa_cons (pe_callB (call_sortK (K:=K)) (by rfl) Z.sorted bt_sorted (pa_cons (pe_comp (sc:=defScope s_law_letters) (Nm:=["_law_flow_here","_law_many","_law_left"]) (own:=["_law_k"]) (fr:=[0,2]) ⟨rfl,by decide +kernel,by decide +kernel,by decide +kernel,by decide +kernel⟩ (by rfl) (gfr_name (by decide)) (pi_range1 (by rfl) Z.range (pa_cons (pv 1) pa_nil)) (fun d=>(pg_name (i:=0) nd_law_letters_0 (by rfl) (Or.inl (by rfl)))) (fun d=>pts_nil) (fun d=>(pe_bmK (K:=K) PySem.F.plainAttrs_list PySem.F.slot_list_pop PySem.F.type_list_pop mt_popAt (pv 2) (pa_cons (pe_c C_law_pick (hr.mono (by decide)) (pa_cons (pv 1) (pa_cons (pe_callB (call_lenK (K:=K)) (by rfl) Z.len bt_len (pa_cons (pv 2) pa_nil)) pa_nil))) pa_nil)))) pa_nil)) pa_nil))))),?_⟩
 refine (let zz0:TS:=_; (?_:tSeq _ zz0 _ _ _))
 refine ⟨_,rfl,(by decide +kernel),fun l hl=>?_⟩
 have e1:Same H (upd H l (.lst ((Str.ofString "abcdefghijklmnopqrstuvwxyz").cps.toList.map oneS))):=same_new hl _
 have npl:p≠l:=by
  obtain ⟨xs,hp,_⟩:=FA.here
  exact ne_of_none hp hl
 refine ⟨rfl,_,rfl,_,rfl,by omega,by omega,?_⟩
 refine comp_range (lo:=0) (k:=m.toNat) (fun i acc H2=>∃ ys rem:List Nat,acc=ys.map oneS∧ys.length=i∧H2 l=some (.lst (rem.map oneS))∧(ys ++ rem).Perm abc∧FlowAt H2 p sc∧Drew H H2 p) (Nat.lt_of_le_of_lt (show m.toNat≤26 by omega) (by decide))
  ⟨[],abc,rfl,rfl,by rw [upd_same,abc_is],List.Perm.refl _,FA.same e1,Drew.same e1⟩ (fun i acc H2 ⟨ys,rem,e,hl',_⟩=>by rw [e,List.length_map,hl']; exact Nat.le_refl _) (fun i acc H2 hi hp=>?_) (fun acc H2 hp q hq=>?_)
 ·obtain ⟨ys,rem,rfl,hyl,hrem,hperm,FA2,dr⟩:=hp
  have hlen:ys.length+rem.length=26:=by
   have:=hperm.length_eq
   rw [List.length_append] at this
   exact this
  refine cyes ?_
  refine ⟨_,rfl,.inl ⟨rfl,_,SqL.of hrem⟩,_,rfl,_,rfl,l,_,rfl,.inl (SqL.of hrem),p,sc,_,rfl,?_,?_,FA2,fun r xs hr0 hr1 hxs=>?_⟩
  ·rw [List.length_map]; omega
  ·rw [List.length_map]; omega
  ·have hr1':r < (rem.length:Int):=by
    rw [List.length_map] at hr1
    exact hr1
   have hrn:r.toNat < rem.length:=by omega
   have hv:rem[r.toNat]? = some rem[r.toNat]:=List.getElem?_eq_getElem hrn
   have hl2:upd H2 p (.lst xs) l=some (.lst (rem.map oneS)):=by rw [upd_ne (Ne.symm npl)]; exact hrem
   refine ⟨l,_,r,r.toNat,oneS rem[r.toNat],rfl,rfl,hl2,by omega,by omega,?_,?_,?_⟩
   ·rw [List.length_map]
    exact seqIndex_of hr0 hr1'
   ·rw [List.getElem?_map,hv]
    rfl
   ·refine ⟨ys ++ [rem[r.toNat]],rem.eraseIdx r.toNat,by rw [List.map_append]; rfl,by rw [List.length_append,hyl]; rfl,?_,?_,?_,?_⟩
    ·rw [upd_same,erase_map]
    ·rw [List.append_assoc]
     exact (List.Perm.append_left ys (erase_perm hv)).trans hperm
    ·have FA3:=FA2.go hxs
     obtain ⟨xs',h1,h2⟩:=FA3.here
     obtain ⟨ns,h3⟩:=FA3.cells
     refine ⟨⟨xs',by rw [upd_ne npl]; exact h1,h2⟩,ns,?_⟩
     rw [upd_ne ?_]
     ·exact h3
     ·obtain ⟨ns0,h0⟩:=FA.cells
      exact ne_of_none h0 hl
    ·intro b o hb hne
     rw [upd_ne (ne_of_none hb hl),upd_ne hne]
     exact dr b o hb hne
 ·obtain ⟨ys,rem,rfl,hyl,hrem,hperm,FA2,dr⟩:=hp
  have hn:ys.Nodup:=(List.nodup_append.mp (hperm.nodup_iff.mpr abc_nodup)).1
  refine ⟨q,ys.map one,rfl,SqL.of (by rw [upd_same,oneS_map]),by rw [List.length_map]; omega,fun ys' l2 hp2 hs2 hl2=>?_⟩
  obtain ⟨cs,hc,rfl⟩:=strs_ones hp2
  have hclen:=hc.length_eq
  refine ⟨_,l2,cs.map one,rfl,rfl,SqL.of upd_same,?_,?_⟩
  ·rw [sum_ones,List.length_map]
   have:(Str.ofString "").length=0:=by decide +kernel
   rw [this]
   omega
  ·have e3:=join_nil_list (cs.map one)
   rw [flat_ones] at e3
   refine k _ _ ⟨?_,?_,fun c hcm=>?_⟩ ?_ ?_
   ·rw [e3]; omega
   ·rw [e3]
    exact lt_of_le_nodup (sorted_ones cs hs2) (hc.nodup_iff.mpr hn)
   ·rw [e3] at hcm
    exact abc_mem (hperm.mem_iff.mp (List.mem_append_left _ (hc.mem_iff.mp hcm)))
   ·exact dr.trans (Drew.trans (Drew.same (same_new hq _)) (Drew.same (same_new hl2 _)))
   ·exact (FA2.same (same_new hq _)).same (same_new hl2 _)
theorem drew_go {H0 H:Hp} {p:Addr} (d:Drew H0 H p) (o:HO):Drew H0 (upd H p o) p:=d.trans (Drew.upd o)
theorem atI_sign {l:Str} {r:Int} (h0:0≤r) (h1:r < (l.length:Int)):∃ c,c∈l.cps.toList∧atI l.cps.toList r=some c:=by
 have hk:r.toNat < l.cps.toList.length:=by
  have:l.cps.toList.length=l.length:=by simp [Str.length]
  omega
 refine ⟨l.cps.toList[r.toNat],List.getElem_mem hk,?_⟩
 have q:atI l.cps.toList ((r.toNat:Nat):Int)=some l.cps.toList[r.toNat]:=atI_nat (List.getElem?_eq_getElem hk)
 rw [show ((r.toNat:Nat):Int)=r by omega] at q
 exact q
def Drawn (H:Hp) (p sc:Addr) (l:Str) (i:Nat) (acc:List V) (H2:Hp):Prop:=∃ ys:List Nat,acc=ys.map oneS∧ys.length=i∧(∀ c∈ys,c∈l.cps.toList)∧FlowAt H2 p sc∧Drew H H2 p
theorem drawn_turn {H H2:Hp} {p sc:Addr} {l:Str} {i:Nat} {acc:List V} {σ:L2.St} {jl jf:Nat} (hl0:0 < l.length) (hl1:l.length≤1000) (hv1:σ[jl]? = some (some (.str l))) (hv2:σ[jf]? = some (some (.ref p))) (h:Drawn H p sc l i acc H2) :
  tOp rIxS (tVar jl) (tCall spPick [] E0 (tCons (tVar jf) (tCons (tCB (fun xs H Q=>∃ z,xs=[V.str z]∧z.length≤sizeLine∧Q (.int z.length) H) (tCons (tVar jl) tNil)) tNil))) σ H2 fun v H6=>Drawn H p sc l (i+1) (acc ++ [v]) H6:=by
 obtain ⟨ys,rfl,hyl,hyc,FA2,dr⟩:=h
 refine ⟨_,hv1,_,hv2,_,hv1,l,rfl,line_le hl1,p,sc,_,rfl,by omega,by omega,FA2,fun r xs h0 h1 hx=>?_⟩
 obtain ⟨c,hc,ha⟩:=atI_sign h0 h1
 exact ⟨l,r,c,rfl,rfl,line_le hl1,ha,ys ++ [c],by rw [List.map_append]; rfl,by rw [List.length_append,hyl]; rfl,fun c' h'=>(List.mem_append.mp h').elim (hyc c') fun z=>by rw [List.mem_singleton.mp z]; exact hc,FA2.go hx,drew_go dr _⟩
theorem drawn_len {H:Hp} {p sc:Addr} {l:Str}:∀ i acc H2,Drawn H p sc l i acc H2→acc.length≤i:=fun i acc H2 ⟨ys,e,hl',_⟩=>by rw [e,List.length_map,hl']; exact Nat.le_refl _
theorem rep_mem {z:List Nat} {n:Nat} {c:Nat} (h:c∈(List.replicate n z).flatten):c∈z:=by
 obtain ⟨l,hl,hc⟩:=List.mem_flatten.mp h
 rw [(List.mem_replicate.mp hl).2] at hc
 exact hc
theorem cut_le (z:Str) (n:Int) (h:0≤n):((Txt.slice z none (some n)).cps.toList.length:Int)≤n∧∀ c∈(Txt.slice z none (some n)).cps.toList,c∈z.cps.toList:=by
 rw [slice_list]
 constructor
 ·rw [List.length_take,List.length_drop]
  have e:HT.sIx z.length z.length (some n)=min n.toNat z.length:=by
   have:=HT.sIx_nat z.length z.length n.toNat
   rw [show ((n.toNat:Nat):Int)=n by omega] at this
   exact this
  rw [e]
  omega
 ·intro c hc
  exact List.mem_of_mem_drop (List.mem_of_mem_take hc)
theorem join_ones_len (ys:List Nat) (h:ys.length≤1000):((ys.map one).map (·.length)).sum+(ys.map one).length * (Str.ofString "").length≤16777216:=by
 have:(Str.ofString "").length=0:=by decide +kernel
 rw [sum_ones,this]
 omega
theorem join_ones (ys:List Nat):(Txt.join (Str.ofString "") (ys.map one)).cps.toList=ys:=by
 rw [join_nil_list,flat_ones]
theorem ok_law_word {f:Addr} {fd:FuncData} (F:Fun K "_law_word" "_law_word" s_law_word f fd) (Z:Blt mg) (C_law_pick:Cal P w K mg base "_law_pick" 1 ["_law_flow_here","_law_many"] spPick) :
  FnOk P w K mg base CX0 2 f fd ["_law_flow_here","_law_letters_here","_law_most"] spWord:=by
 refine F.ok sc_law_word (fun vs H Q E h=>?_) (fun cdv A outer s H vs Q E hr h=>?_)
 ·obtain ⟨p,sc,l,m,rfl,_⟩:=h
  rfl
 obtain ⟨p,sc,l,m,rfl,hl0,hl1,hm0,hm1,FA,k⟩:=h
 refine ⟨_,(pss_cons (ps_set (i:=3) sc_law_word.nd (by rfl) (Or.inl (by rfl)) (pe_cmpR op_eq (pe_c C_law_pick (hr.mono (by decide)) (pa_cons (pv 0) (pa_cons pe_int pa_nil))) pe_int (nomark _))) 
   (pss_cons (ps_set (i:=4) sc_law_word.nd (by rfl) (Or.inl (by rfl)) (pe_c C_law_pick (hr.mono (by decide)) (pa_cons (pv 0) (pa_cons (pe_op op_add (pv 2) pe_int) pa_nil)))) 
   (pss_cons (ps_if (pt_truthK (K:=K) (pv 3) (fun _=>rfl)) 
    (pss_cons (ps_set (i:=5) sc_law_word.nd (by rfl) (Or.inl (by rfl)) (pe_bmK (K:=K) PySem.F.plainAttrs_str PySem.F.slot_str_join PySem.F.type_str_join (mt_joinK (K:=K)) pe_str (pa_cons (pe_comp (sc:=defScope s_law_word) (Nm:=["_law_flow_here","_law_letters_here","_law_most","_law_again","_law_many","_law_piece"]) (own:=["_law_k"]) (fr:=[0,1]) ⟨rfl,by decide +kernel,by decide +kernel,by decide +kernel,by decide +kernel⟩ (by rfl) (gfr_name (by decide)) (pi_range1 (by rfl) Z.range (pa_cons (pe_op op_add pe_int (pe_c C_law_pick (hr.mono (by decide)) (pa_cons (pv 0) (pa_cons pe_int pa_nil)))) pa_nil)) (fun d=>(pg_name (i:=0) nd_law_word_0 (by rfl) (Or.inl (by rfl)))) (fun d=>pts_nil) (fun d=>(pe_ix ix_str (pv 2) (pe_c C_law_pick (hr.mono (by decide)) (pa_cons (pv 1) (pa_cons (pe_callB call_len_str (by rfl) Z.len bt_len (pa_cons (pv 2) pa_nil)) pa_nil))) (fun _ _=>rfl)))) pa_nil))) 
    (pss_one (ps_ret (pe_slice sl_str (pe_op op_mul_str (pv 5) (pv 4)) po_none (po_some (pv 4)))))) pss_nil) 
   (pss_one (ps_ret (pe_bmK (K:=K) PySem.F.plainAttrs_str PySem.F.slot_str_join PySem.F.type_str_join (mt_joinK (K:=K)) pe_str (pa_cons (pe_comp (sc:=defScope s_law_word) (Nm:=["_law_flow_here","_law_letters_here","_law_most","_law_again","_law_many","_law_piece"]) (own:=["_law_k"]) (fr:=[0,1]) ⟨rfl,by decide +kernel,by decide +kernel,by decide +kernel,by decide +kernel⟩ (by rfl) (gfr_name (by decide)) (pi_range1 (by rfl) Z.range (pa_cons (pv 4) pa_nil)) (fun d=>(pg_name (i:=0) nd_law_word_1 (by rfl) (Or.inl (by rfl)))) (fun d=>pts_nil) (fun d=>(pe_ix ix_str (pv 2) (pe_c C_law_pick (hr.mono (by decide)) (pa_cons (pv 1) (pa_cons (pe_callB call_len_str (by rfl) Z.len bt_len (pa_cons (pv 2) pa_nil)) pa_nil))) (fun _ _=>rfl)))) pa_nil))))))),?_⟩
 refine (let zz0:TS:=_; let zz1:TS:=_; let zz2:TS:=tSeq _ zz1; let zz3:TS:=tSeq (tIfS _ zz2 _) zz0; let zz4:TS:=tSeq _ zz3; (?_:tSeq _ zz4 _ _ _))
 refine ⟨_,rfl,p,sc,4,rfl,by decide,by decide,FA,fun r0 xs0 _ _ hx0=>⟨rfl,?_⟩⟩
 have FA0:=FA.go hx0
 have d0:Drew H (upd H p (.lst xs0)) p:=Drew.upd _
 refine ⟨_,rfl,_,rfl,_,_,rfl,rfl,p,sc,m+1,rfl,by omega,by omega,FA0,fun n xs1 hn0 hn1 hx1=>?_⟩
 have FA1:=FA0.go hx1
 have d1:Drew H (upd (upd H p (.lst xs0)) p (.lst xs1)) p:=drew_go d0 _
 refine ⟨_,rfl,_,rfl,?_⟩
 refine ite2 (fun _=>?_) (fun _=>?_)
 ·refine ⟨rfl,_,rfl,p,sc,3,rfl,by decide,by decide,FA1,fun r2 xs2 hr0 hr1 hx2=>⟨_,_,rfl,rfl,_,rfl,by omega,by omega,?_⟩⟩
  refine comp_range (lo:=0) (k:=(1+r2).toNat) (Drawn H p sc l) (Nat.lt_of_le_of_lt (show (1+r2).toNat≤3 by omega) (by decide)) ⟨[],rfl,rfl,fun c hc=>absurd hc (by simp),FA1.go hx2,drew_go d1 _⟩ drawn_len
   (fun i acc H2 hi hp=>cyes (drawn_turn hl0 hl1 rfl rfl hp)) (fun acc H2 hp q hq=>?_)
  obtain ⟨ys,rfl,hyl,hyc,FA2,dr⟩:=hp
  have hy3:ys.length≤3:=by omega
  refine ⟨_,q,ys.map one,rfl,rfl,SqL.of (by rw [upd_same,oneS_map]),join_ones_len ys (by omega),?_⟩
  have hj:=join_ones ys
  have hjl:(Txt.join (Str.ofString "") (ys.map one)).length=ys.length:=by
   have:(Txt.join (Str.ofString "") (ys.map one)).cps.toList.length=ys.length:=by rw [hj]
   simpa [Str.length] using this
  refine ⟨_,rfl,_,rfl,_,n,rfl,rfl,hn0,by omega,by omega,_,rfl,_,rfl,_,rfl,?_,?_⟩
  ·show ((List.replicate n.toNat _).flatten.toArray).size≤sizeLine
   rw [List.size_toArray,len_rep,Array.length_toList]
   have e:(Txt.join (Str.ofString "") (ys.map one)).cps.size=ys.length:=hjl
   rw [e]
   have:n.toNat * ys.length≤100 * 3:=Nat.mul_le_mul (by omega) hy3
   exact line_le (by omega)
  ·obtain ⟨c1,c2⟩:=cut_le (repS (Txt.join (Str.ofString "") (ys.map one)) n.toNat) n hn0
   refine k _ _ (by omega) (fun c hc=>?_) (dr.trans (Drew.same (same_new hq _))) (FA2.same (same_new hq _))
   have h1:=c2 c hc
   have h2:c∈(List.replicate n.toNat (Txt.join (Str.ofString "") (ys.map one)).cps.toList).flatten:=by simpa [repS] using h1
   have h3:=rep_mem h2
   rw [hj] at h3
   exact hyc c h3
 ·refine ⟨rfl,_,rfl,_,rfl,by omega,by omega,?_⟩
  refine comp_range (lo:=0) (k:=n.toNat) (Drawn H p sc l) (Nat.lt_of_le_of_lt (show n.toNat≤100 by omega) (by decide)) ⟨[],rfl,rfl,fun c hc=>absurd hc (by simp),FA1,d1⟩ drawn_len
   (fun i acc H2 hi hp=>cyes (drawn_turn hl0 hl1 rfl rfl hp)) (fun acc H2 hp q hq=>?_)
  obtain ⟨ys,rfl,hyl,hyc,FA2,dr⟩:=hp
  refine ⟨_,q,ys.map one,rfl,rfl,SqL.of (by rw [upd_same,oneS_map]),join_ones_len ys (by omega),?_⟩
  refine k _ _ ?_ (fun c hc=>?_) (dr.trans (Drew.same (same_new hq _))) (FA2.same (same_new hq _))
  ·rw [join_ones]; omega
  ·rw [join_ones] at hc
   exact hyc c hc
def emb:List Nat→List Nat→Nat
 | [],_=>1
 | _ :: _,[]=>0
 | c :: w,d :: t=>emb (c :: w) t+if c=d then emb w t else 0
theorem emb_nil (t:List Nat):emb [] t=1:=by cases t <;> rfl
theorem emb_cc (c:Nat) (w:List Nat) (d:Nat) (t:List Nat):emb (c :: w) (d :: t)=emb (c :: w) t+if c=d then emb w t else 0:=rfl
theorem emb_end {w:List Nat} (h:w≠[]):emb w []=0:=by
 cases w with
 | nil=>exact absurd rfl h
 | cons c r=>rfl
theorem emb_more (w:List Nat) (d:Nat) (t:List Nat):emb w t≤emb w (d :: t):=by
 cases w with
 | nil=>rw [emb_nil,emb_nil]; exact Nat.le_refl _
 | cons c w=>rw [emb_cc]; omega
theorem emb_tail (c:Nat) (w:List Nat):∀ t:List Nat,0 < emb (c :: w) t→0 < emb w t
 | [],h=>absurd h (Nat.lt_irrefl 0)
 | d :: t,h=>by
  rw [emb_cc] at h
  have m:=emb_more w d t
  by_cases z:0 < emb (c :: w) t
  ·have:=emb_tail c w t z
   omega
  ·by_cases e:c=d
   ·rw [if_pos e] at h; omega
   ·rw [if_neg e] at h; omega
def adv (w:List Nat) (k c:Nat):Nat:=if k < w.length∧w.getD k 0=c then k+1 else k
def spB (w t:List Nat):Bool:=decide (t.foldl (adv w) 0=w.length)
theorem adv_emb (w:List Nat):∀ (t:List Nat) (k:Nat),k≤w.length→(t.foldl (adv w) k=w.length↔0 < emb (w.drop k) t)
 | [],k,hk=>by
  show k=w.length↔_
  by_cases e:k=w.length
  ·subst e
   rw [List.drop_length,emb_nil]
   simp
  ·rw [emb_end (by
    intro z
    have:=congrArg List.length z
    rw [List.length_drop,List.length_nil] at this
    omega)]
   omega
 | d :: t,k,hk=>by
  rw [List.foldl_cons]
  by_cases hl:k < w.length
  ·have hd:w.drop k=w.getD k 0 :: w.drop (k+1):=by
    rw [List.drop_eq_getElem_cons hl,List.getD_eq_getElem?_getD,List.getElem?_eq_getElem hl]
    rfl
   by_cases e:w.getD k 0=d
   ·have ea:adv w k d=k+1:=by unfold adv; rw [if_pos ⟨hl,e⟩]
    rw [ea,adv_emb w t (k+1) hl,hd,emb_cc,if_pos e]
    constructor
    ·intro h; omega
    ·intro h
     by_cases z:0 < emb (w.getD k 0 :: w.drop (k+1)) t
     ·exact emb_tail _ _ t z
     ·omega
   ·have ea:adv w k d=k:=by unfold adv; rw [if_neg fun z=>e z.2]
    rw [ea,adv_emb w t k hk,hd,emb_cc,if_neg e]
    simp
  ·have e:k=w.length:=by omega
   have ea:adv w k d=k:=by unfold adv; rw [if_neg fun z=>hl z.1]
   rw [ea,adv_emb w t k hk]
   subst e
   rw [List.drop_length,emb_nil,emb_nil]
theorem spB_is (w t:List Nat):spB w t=decide (0 < emb w t):=by
 unfold spB
 rw [Bool.eq_iff_iff,decide_eq_true_eq,decide_eq_true_eq,adv_emb w t 0 (Nat.zero_le _),List.drop_zero]
structure NextAt (t:List Nat) (s c k:Nat):Prop where
 ge:s≤k
 lt:k < t.length
 at_:t.getD k 0=c
 first:∀ v,s≤v→v < k→t.getD v 0≠c
def nx (t:List Nat) (s c:Nat):Option Nat:=((List.range' s (t.length - s)).filter fun v=>decide (t.getD v 0=c)).head?
theorem head_filter {p:Nat→Bool}:∀ (n s k:Nat),((List.range' s n).filter p).head? = some k↔(s≤k∧k < s+n∧p k=true∧∀ v,s≤v→v < k→p v=false)
 | 0,s,k=>by
  constructor
  ·intro h; simp at h
  ·intro h; omega
 | n+1,s,k=>by
  rw [List.range'_succ]
  by_cases hp:p s=true
  ·rw [List.filter_cons_of_pos hp,List.head?_cons]
   constructor
   ·intro h
    have e:s=k:=Option.some.inj h
    subst e
    exact ⟨Nat.le_refl _,by omega,hp,fun v h1 h2=>by omega⟩
   ·intro ⟨h1,h2,h3,h4⟩
    by_cases e:s=k
    ·rw [e]
    ·have:=h4 s (Nat.le_refl _) (by omega)
     rw [hp] at this
     cases this
  ·have hp':p s=false:=by simpa using hp
   rw [List.filter_cons_of_neg hp,head_filter n (s+1) k]
   constructor
   ·intro ⟨h1,h2,h3,h4⟩
    refine ⟨by omega,by omega,h3,fun v g1 g2=>?_⟩
    by_cases e:v=s
    ·subst e; exact hp'
    ·exact h4 v (by omega) g2
   ·intro ⟨h1,h2,h3,h4⟩
    have:s≠k:=fun e=>by rw [e,h3] at hp'; cases hp'
    exact ⟨by omega,by omega,h3,fun v g1 g2=>h4 v (by omega) g2⟩
theorem head_none {p:Nat→Bool} (n s:Nat):((List.range' s n).filter p).head? = none↔∀ v,s≤v→v < s+n→p v=false:=by
 rw [List.head?_eq_none_iff,List.filter_eq_nil_iff]
 constructor
 ·intro h v h1 h2
  have:=h v (List.mem_range'_1.mpr ⟨h1,h2⟩)
  simpa using this
 ·intro h v hv
  obtain ⟨h1,h2⟩:=List.mem_range'_1.mp hv
  rw [h v h1 h2]
  simp
theorem nx_some {t:List Nat} {s c k:Nat} (hs:s≤t.length):nx t s c=some k↔NextAt t s c k:=by
 unfold nx
 rw [head_filter]
 constructor
 ·intro ⟨h1,h2,h3,h4⟩
  exact ⟨h1,by omega,of_decide_eq_true h3,fun v g1 g2=>of_decide_eq_false (h4 v g1 g2)⟩
 ·intro h
  exact ⟨h.ge,by have:=h.lt; omega,decide_eq_true h.at_,fun v g1 g2=>decide_eq_false (h.first v g1 g2)⟩
theorem nx_none {t:List Nat} {s c:Nat} (hs:s≤t.length):nx t s c=none↔∀ v,s≤v→v < t.length→t.getD v 0≠c:=by
 unfold nx
 rw [head_none]
 constructor
 ·intro h v h1 h2
  exact of_decide_eq_false (h v h1 (by omega))
 ·intro h v h1 h2
  exact decide_eq_false (h v h1 (by omega))
def gp (t:List Nat):List Nat→Nat→Option (List Nat)
 | [],_=>some []
 | c :: w,s=>match nx t s c with
  | none=>none
  | some k=>(gp t w (k+1)).map (k :: ·)
theorem drop_cons {t:List Nat} {n:Nat} (h:n < t.length):t.drop n=t.getD n 0 :: t.drop (n+1):=by
 rw [List.drop_eq_getElem_cons h,List.getD_eq_getElem?_getD,List.getElem?_eq_getElem h]
 rfl
theorem emb_skip {t w:List Nat} {c:Nat}:∀ (n s:Nat),s+n≤t.length→(∀ v,s≤v→v < s+n→t.getD v 0≠c)→emb (c :: w) (t.drop s)=emb (c :: w) (t.drop (s+n))
 | 0,s,_,_=>rfl
 | n+1,s,h,hne=>by
  rw [drop_cons (show s < t.length by omega),emb_cc,if_neg (fun e=>hne s (Nat.le_refl _) (by omega) e.symm),Nat.add_zero,emb_skip n (s+1) (by omega) (fun v h1 h2=>hne v (by omega) (by omega)),show s+1+n=s+(n+1) by omega]
theorem emb_next {t w:List Nat} {s c k:Nat} (h:NextAt t s c k):emb (c :: w) (t.drop s)=emb (c :: w) (t.drop (k+1))+emb w (t.drop (k+1)):=by
 obtain ⟨h1,h2,h3,h4⟩:=h
 have e:=emb_skip (w:=w) (k - s) s (by omega) (fun v g1 g2=>h4 v g1 (by omega))
 rw [e,show s+(k - s)=k by omega,drop_cons h2,emb_cc,if_pos h3.symm]
theorem emb_no {t w:List Nat} {s c:Nat} (hs:s≤t.length) (h:∀ v,s≤v→v < t.length→t.getD v 0≠c):emb (c :: w) (t.drop s)=0:=by
 rw [emb_skip (t.length - s) s (by omega) (fun v h1 h2=>h v h1 (by omega)),show s+(t.length - s)=t.length by omega,List.drop_length]
 rfl
theorem gp_some (t:List Nat):∀ (w:List Nat) (s:Nat),s≤t.length→((gp t w s).isSome=true↔0 < emb w (t.drop s))
 | [],s,hs=>by rw [emb_nil]; simp [gp]
 | c :: w,s,hs=>by
  unfold gp
  cases e:nx t s c with
  | none=>
   rw [emb_no hs ((nx_none hs).mp e)]
   simp
  | some k=>
   have h:=(nx_some hs).mp e
   have ih:=gp_some t w (k+1) h.lt
   rw [emb_next h]
   show ((gp t w (k+1)).map (k :: ·)).isSome=true↔_
   rw [Option.isSome_map,ih]
   constructor
   ·intro z; omega
   ·intro z
    by_cases y:0 < emb (c :: w) (t.drop (k+1))
    ·exact emb_tail c w _ y
    ·omega
def fc (t:List Nat) (s c:Nat) (w:List Nat):Option Nat:=(((List.range' s (t.length - s)).filter fun v=>decide (t.getD v 0=c)).filter fun v=>spB w (t.drop (v+1))).head?
def lf (t:List Nat):List Nat→Nat→Option (List Nat)
 | [],_=>some []
 | c :: w,s=>match fc t s c w with
  | none=>none
  | some k=>(lf t w (k+1)).map (k :: ·)
inductive spSpreadI (vs:List V) (H:Hp) (Q:VK):Prop
 | mk (z t:Str) (h1:vs=[.str z,.str t]) (h2:z.length≤100) (h3:t.length≤100) (h4:Q (.bl (spB z.cps.toList t.cps.toList)) H):spSpreadI vs H Q
def spSpread:Sp:=fun vs H Q u3_=>spSpreadI vs H Q
theorem len_list (z:Str):z.cps.toList.length=z.length:=by simp [Str.length]
theorem same_put {H H':Hp} {c:Addr} (e:Same H H') (h:H c=none) (o:HO):Same H (upd H' c o):=fun b u q=>by
 rw [upd_ne (ne_of_none q h)]
 exact e b u q
theorem atI_code {w:List Nat} {n:Nat} (h:n < w.length):atI w ((n:Nat):Int)=some (w.getD n 0):=atI_nat (by rw [List.getD_eq_getElem?_getD,List.getElem?_eq_getElem h]; rfl)
theorem one_eq (a b:Nat):(V.str ⟨#[a]⟩=V.str ⟨#[b]⟩)↔a=b:=by
 constructor
 ·intro h
  injection h with h
  injection h with h
  simpa using h
 ·intro h
  rw [h]
theorem int_eq (a b:Nat):decide (V.int ((a:Nat):Int)=V.int ((b:Nat):Int))=decide (a=b):=by
 rw [Bool.eq_iff_iff,decide_eq_true_eq,decide_eq_true_eq]
 constructor
 ·intro h
  injection h with h
  omega
 ·intro h
  rw [h]
theorem fold_take {w t:List Nat} {i c:Nat} (h:t[i]? = some c):(t.take (i+1)).foldl (adv w) 0=adv w ((t.take i).foldl (adv w) 0) c:=by
 rw [List.take_add_one,h,List.foldl_append]
 rfl
theorem ok_law_spread {f:Addr} {fd:FuncData} (F:Fun K "_law_spread" "_law_spread" s_law_spread f fd) (Z:Blt mg):FnOk P w K mg base CX0 1 f fd ["_law_word_here","_law_text"] spSpread:=by
 refine F.ok sc_law_spread (fun vs H Q E h=>?_) (fun cdv A outer s H vs Q E hr h=>?_)
 ·obtain ⟨z,t,rfl,_⟩:=h
  rfl
 obtain ⟨z,t,rfl,hz,ht,k⟩:=h
 refine ⟨_,(pss_cons (ps_set (i:=2) sc_law_spread.nd (by rfl) (Or.inl (by rfl)) pe_int) 
   (pss_cons (ps_for PassesOwn.never (by rfl) (pi_str (pv 1)) (pg_name (i:=3) sc_law_spread.nd (by rfl) (Or.inl (by rfl))) 
    (pss_one (ps_if (PW.pt (pw_and (pt_cmpR op_lt (pv 2) (pe_callB call_len_str (by rfl) Z.len bt_len (pa_cons (pv 0) pa_nil)) (nomark _)) (pw_and1 (pt_cmpR op_eq (pe_ix ix_str (pv 0) (pv 2) (fun _ _=>rfl)) (pv 3) (nomark _))))) 
     (pss_one (ps_set (i:=2) sc_law_spread.nd (by rfl) (Or.inl (by rfl)) (pe_op op_add (pv 2) pe_int))) pss_nil))) 
   (pss_one (ps_ret (pe_cmpR op_eq (pv 2) (pe_callB call_len_str (by rfl) Z.len bt_len (pa_cons (pv 0) pa_nil)) (nomark _)))))),?_⟩
 refine (let zz0:TS:=_; let zz1:TS:=tSeq _ zz0; (?_:tSeq _ zz1 _ _ _))
 have hl:=len_list z
 refine ⟨_,rfl,t,rfl,?_⟩
 refine for_str (cs:=t.cps.toList) (fun i σ H2=>∃ v,σ=[some (.str z),some (.str t),some (.int (((t.cps.toList.take i).foldl (adv z.cps.toList) 0:Nat):Int)),v]∧H2=H) ⟨none,rfl,rfl⟩ ?_ ?_
 ·rintro i c σ H2 hc ⟨v,rfl,rfl⟩
  rw [fold_take hc]
  generalize (t.cps.toList.take i).foldl (adv z.cps.toList) 0=n
  refine ⟨_,rfl,_,rfl,z,rfl,line_le (by omega),_,_,rfl,rfl,_,rfl,?_⟩
  refine ite2 (fun lt=>?_) (fun lt=>?_)
  ·have hn:n < z.cps.toList.length:=by
    have:((n:Nat):Int) < (z.length:Int):=of_decide_eq_true lt
    omega
   refine ⟨_,rfl,_,rfl,z,_,_,rfl,rfl,line_le (by omega),atI_code hn,_,rfl,rfl,_,rfl,?_⟩
   refine ite2 (fun c1=>?_) (fun c1=>?_)
   ·have hc1:z.cps.toList.getD n 0=c:=(one_eq _ _).mp (of_decide_eq_true c1)
    refine ⟨_,rfl,_,_,rfl,rfl,some (.str ⟨#[c]⟩),?_,rfl⟩
    unfold adv
    rw [if_pos ⟨hn,hc1⟩]
    rfl
   ·have hc1:z.cps.toList.getD n 0≠c:=fun h=>c1 (decide_eq_true ((one_eq _ _).mpr h))
    refine ⟨some (.str ⟨#[c]⟩),?_,rfl⟩
    unfold adv
    rw [if_neg fun q=>hc1 q.2]
    rfl
  ·have hn:¬ n < z.cps.toList.length:=fun q=>lt (decide_eq_true (show ((n:Nat):Int) < (z.length:Int) by omega))
   refine iteF ⟨some (.str ⟨#[c]⟩),?_,rfl⟩
   unfold adv
   rw [if_neg fun q=>hn q.1]
   rfl
 ·rintro σ H2 ⟨v,rfl,rfl⟩
  refine ⟨_,rfl,_,rfl,z,rfl,line_le (by omega),rfl,?_⟩
  rw [int_eq,List.take_length]
  unfold spB at k
  rw [hl] at k
  exact k
def nI (n:Nat):V:=.int (n:Int)
def lbv:Option Nat→Int
 | none=>0
 | some k=>(k:Int)+1
theorem find_nx (t:Str) (s c:Nat) (hs:s≤t.length):Txt.find3 t ⟨#[c]⟩ ((s:Nat):Int)+1=lbv (nx t.cps.toList s c):=by
 have hl:=len_list t
 have hs':s≤t.cps.toList.length:=by omega
 have hD:∀ v:Nat,t.cps.getD v 0=t.cps.toList.getD v 0:=fun v=>by
  rw [List.getD_eq_getElem?_getD,Array.getElem?_toList,Array.getD_eq_getD_getElem?]
 have hf:PySem.fromIndex t.length ((s:Nat):Int)=s:=by
  unfold PySem.fromIndex
  rw [if_neg (by omega)]
  omega
 rcases StrLaws.find3_spec t c ((s:Nat):Int) with ⟨e,hn⟩ | ⟨k,hk,h1,h2,h3,h4⟩
 ·rw [hf] at hn
  rw [e,(nx_none hs').mpr fun v g1 g2=>by rw [← hD]; exact hn v g1 (by omega)]
  rfl
 ·rw [hf] at h1 h4
  rw [hk,(nx_some hs').mpr ⟨h1,by omega,by rw [← hD]; exact h3,fun v g1 g2=>by rw [← hD]; exact h4 v g1 g2⟩]
  rfl
inductive spLBI (vs:List V) (H:Hp) (Q:VK):Prop
 | mk (t:Str) (s c:Nat) (h1:vs=[.str t,nI s,.str ⟨#[c]⟩]) (h2:s≤t.length) (h3:Q (.int (lbv (nx t.cps.toList s c))) H):spLBI vs H Q
def spLB:Sp:=fun vs H Q u3_=>spLBI vs H Q
theorem ok_left_behind {f:Addr} {fd:FuncData} (F:Fun K "left_behind" "left_behind" s_left_behind f fd) (Z:Blt mg):FnOk P w K mg base CX0 1 f fd ["text","start","letter"] spLB:=by
 refine F.ok sc_left_behind (fun vs H Q E h=>?_) (fun cdv A outer s H vs Q E hr h=>?_)
 ·obtain ⟨t,s,c,rfl,_⟩:=h
  rfl
 obtain ⟨t,s',c,rfl,hs,k⟩:=h
 refine ⟨_,(pss_one (ps_ret (pe_op op_add (pe_bmK (K:=K) PySem.F.plainAttrs_str PySem.F.slot_str_find PySem.F.type_str_find mt_find3 (pv 0) (pa_cons (pv 2) (pa_cons (pv 1) pa_nil))) pe_int))),?_⟩
 refine ⟨_,rfl,rfl,_,rfl,_,rfl,t,_,_,rfl,rfl,_,_,rfl,rfl,?_⟩
 show Q (.int (Txt.find3 t ⟨#[c]⟩ ((s':Nat):Int)+1)) H
 rw [find_nx t s' c hs]
 exact k
abbrev Rw:=List Nat × Nat × Nat
def lbn:Option Nat→Nat
 | none=>0
 | some k=>k+1
def nb (t:List Nat) (s c:Nat):Nat:=lbn (nx t s c)
theorem nb_le {t:List Nat} {s c:Nat} (hs:s≤t.length):nb t s c≤t.length:=by
 unfold nb
 cases e:nx t s c with
 | none=>exact Nat.zero_le _
 | some k=>exact ((nx_some hs).mp e).lt
theorem nb_gt {t:List Nat} {s c:Nat} (hs:s≤t.length) (h:0 < nb t s c):s < nb t s c:=by
 unfold nb at *
 cases e:nx t s c with
 | none=>rw [e] at h; exact absurd h (Nat.lt_irrefl _)
 | some k=>exact Nat.lt_succ_of_le ((nx_some hs).mp e).ge
def pos (t:List Nat):List Nat→Nat→Option Nat
 | [],s=>some s
 | c :: w,s=>match nx t s c with
  | none=>none
  | some k=>pos t w (k+1)
theorem pos_le {t:List Nat}:∀ {w:List Nat} {s p:Nat},s≤t.length→pos t w s=some p→p≤t.length
 | [],s,p,hs,h=>by cases h; exact hs
 | c :: w,s,p,hs,h=>by
  unfold pos at h
  cases e:nx t s c with
  | none=>rw [e] at h; cases h
  | some k=>rw [e] at h; exact pos_le ((nx_some hs).mp e).lt h
theorem pos_snoc {t:List Nat} (c:Nat):∀ (w:List Nat) (s:Nat),pos t (w ++ [c]) s=(pos t w s).bind fun p=>(nx t p c).map (· + 1)
 | [],s=>by
  show pos t [c] s=(nx t s c).map (· + 1)
  unfold pos
  cases nx t s c <;> rfl
 | d :: w,s=>by
  show pos t (d :: (w ++ [c])) s=_
  unfold pos
  cases nx t s d with
  | none=>rfl
  | some k=>exact pos_snoc c w (k+1)
theorem pos_gp {t:List Nat}:∀ (w:List Nat) (s:Nat),(pos t w s).isSome=(gp t w s).isSome
 | [],s=>rfl
 | c :: w,s=>by
  unfold pos gp
  cases nx t s c with
  | none=>rfl
  | some k=>
   show (pos t w (k+1)).isSome=((gp t w (k+1)).map (k :: ·)).isSome
   rw [Option.isSome_map,pos_gp w (k+1)]
theorem pos_sp (t w:List Nat):(pos t w 0).isSome=spB w t:=by
 rw [pos_gp,spB_is]
 have h:=gp_some t w 0 (Nat.zero_le _)
 rw [List.drop_zero] at h
 cases e:(gp t w 0).isSome with
 | true=>rw [decide_eq_true (h.mp e)]
 | false=>
  rw [decide_eq_false fun z=>?_]
  rw [h.mpr z] at e
  cases e
def cands (L a b:List Nat) (rs:List Rw):List Rw:=rs.flatMap fun r=>L.map fun c=>(r.1 ++ [c],nb a r.2.1 c,nb b r.2.2 c)
def go:List Rw→List (Nat × Nat)→List Rw→List Nat ⊕ (List (Nat × Nat) × List Rw)
 | [],seen,fr=>.inr (seen,fr)
 | (w,x,y) :: rest,seen,fr=>if (decide (x=0) != decide (y=0))=true then .inl w else if 0 < x∧(x,y)∉seen then go rest (seen ++ [(x,y)]) (fr ++ [(w,x,y)]) else go rest seen fr
def bfs (L a b:List Nat):Nat→List Rw→List (Nat × Nat)→Option (List Nat)
 | 0,_,_=>none
 | n+1,rs,seen=>match rs with
  | []=>none
  | r :: rs'=>match go (cands L a b (r :: rs')) seen [] with
   | .inl w=>some w
   | .inr (seen',fr)=>bfs L a b n fr seen'
def part (a b:List Nat):Option (List Nat):=bfs (ltrs (a ++ b)) a b (a.length+1) [([],0,0)] []
theorem pos_nb {t w:List Nat} {s c:Nat} (h:pos t w 0=some s):(0 < nb t s c→pos t (w ++ [c]) 0=some (nb t s c))∧(nb t s c=0→pos t (w ++ [c]) 0=none):=by
 rw [pos_snoc,h]
 unfold nb
 show (_→(nx t s c).map (· + 1)=_)∧(_→(nx t s c).map (· + 1)=none)
 cases nx t s c with
 | none=>exact ⟨fun z=>absurd z (Nat.lt_irrefl _),fun _=>rfl⟩
 | some k=>exact ⟨fun _=>rfl,fun z=>by cases z⟩
theorem nodup_lt:∀ (n:Nat) (l:List Nat),l.Nodup→(∀ x∈l,x < n)→l.length≤n
 | 0,l,_,h=>by
  cases l with
  | nil=>exact Nat.le_refl _
  | cons x r=>exact absurd (h x List.mem_cons_self) (Nat.not_lt_zero _)
 | n+1,l,nd,h=>by
  by_cases z:n∈l
  ·have e:=List.length_erase_of_mem z
   have:=nodup_lt n (l.erase n) (nd.erase n) fun x hx=>by
    have q:=(nd.mem_erase_iff).mp hx
    have:=h x q.2
    have:=q.1
    omega
   have:0 < l.length:=List.length_pos_of_mem z
   omega
  ·have:=nodup_lt n l nd fun x hx=>by
    have:=h x hx
    have:x≠n:=fun e=>z (e▸hx)
    omega
   omega
def Tk (H H':Hp):Prop:=∀ b ys,H b=some (.tup ys)→H' b=some (.tup ys)
theorem Tk.same {H H':Hp} (e:Same H H'):Tk H H':=fun b ys h=>e b _ h
theorem Tk.lst {H:Hp} {l:Addr} {xs:List V} (h:H l=some (.lst xs)) (o:HO):Tk H (upd H l o):=fun b ys e=>by
 rw [upd_ne (ne_of e h fun z=>nomatch z)]
 exact e
theorem map_take {α β:Type} {f:α→β} {l:List α} {i:Nat} {x:α} (h:l[i]? = some x):(l.take (i+1)).map f=(l.take i).map f ++ [f x]:=by
 rw [List.take_add_one,h,List.map_append]
 rfl
theorem none_of {H H':Hp} {p:Addr} (e:Same H H') (h:H' p=none):H p=none:=by
 cases z:H p with
 | none=>rfl
 | some o=>rw [e _ _ z] at h; cases h
inductive TR {α:Type} (tv:α→List V) (H:Hp):List V→List α→Prop where
 | nil:TR tv H [] []
 | cons {a:Addr} {r:α} {vs:List V} {rs:List α} (h:H a=some (.tup (tv r))) (t:TR tv H vs rs):TR tv H (.ref a :: vs) (r :: rs)
section
variable {α:Type} {tv:α→List V}
theorem TR.keep {H H':Hp} (e:Tk H H'):∀ {vs:List V} {rs:List α},TR tv H vs rs→TR tv H' vs rs
 | _,_,.nil=>.nil
 | _,_,.cons h t=>.cons (e _ _ h) (t.keep e)
theorem TR.app {H:Hp} {ws:List V} {qs:List α} (h:TR tv H ws qs):∀ {vs:List V} {rs:List α},TR tv H vs rs→TR tv H (vs ++ ws) (rs ++ qs)
 | _,_,.nil=>h
 | _,_,.cons h' t=>.cons h' (TR.app h t)
theorem TR.snoc {H:Hp} {a:Addr} {r:α} {vs:List V} {rs:List α} (h:H a=some (.tup (tv r))) (t:TR tv H vs rs):TR tv H (vs ++ [.ref a]) (rs ++ [r]):=TR.app (.cons h .nil) t
theorem TR.len {H:Hp}:∀ {vs:List V} {rs:List α},TR tv H vs rs→vs.length=rs.length
 | _,_,.nil=>rfl
 | _,_,.cons _ t=>by rw [List.length_cons,List.length_cons,t.len]
theorem TR.at_ {H:Hp}:∀ {vs:List V} {rs:List α} {i:Nat} {x:V},TR tv H vs rs→vs[i]? = some x→∃ a r,x=.ref a∧rs[i]? = some r∧H a=some (.tup (tv r))
 | _,_,i,x,.nil,h=>by simp at h
 | _,_,0,x,.cons (a:=a) (r:=r) h' t,h=>by
  cases h
  exact ⟨a,r,rfl,rfl,h'⟩
 | _,_,i+1,x,.cons h' t,h=>t.at_ (i:=i) (by simpa using h)
end
theorem cyes2 {K:PySem.W.Frag} {x x0 x1:V} {a:Addr} {σ:L2.St} {H:Hp} {te:TE} {Nt:VK} {Nf:Hp→Prop} (hx:x=.ref a) (hq:SqT K H a [x0,x1]) (h:te ((σ.set 0 (some x0)).set 1 (some x1)) H Nt) :
  gTup K 2 (gCons (gName 0) (gCons (gName 1) gNil)) x σ H fun σ4 H4=>tYes σ4 H4 fun b H5=>if b=true then te σ4 H5 Nt else Nf H5:=by
 refine ⟨a,_,hx,hq,rfl,_,_,rfl,_,_,rfl,rfl,?_⟩
 show if true=true then te ((σ.set 0 (some x0)).set 1 (some x1)) H Nt else Nf H
 exact iteT h
abbrev S (w:List Nat):Str:=⟨w.toArray⟩
theorem S_nil:Str.ofString "" = S []:=by decide +kernel
theorem S_len (w:List Nat):(S w).length=w.length:=by simp [Str.length]
theorem S_snoc (w:List Nat) (c:Nat):S w ++ (⟨#[c]⟩:Str)=S (w ++ [c]):=by
 show (⟨(S w).cps ++ #[c]⟩:Str)=_
 simp [S]
theorem S_of (z:Str):S z.cps.toList=z:=by
 cases z
 simp [S]
theorem flat_take {α β:Type} {f:α→List β} {l:List α} {i:Nat} {x:α} (h:l[i]? = some x):(l.take (i+1)).flatMap f=(l.take i).flatMap f ++ f x:=by
 rw [List.take_add_one,h,List.flatMap_append]
 simp
theorem flat_len {α β:Type} {f:α→List β} {n:Nat} (h:∀ x,(f x).length≤n):∀ l:List α,(l.flatMap f).length≤l.length * n
 | []=>by simp
 | x :: l=>by
  rw [List.flatMap_cons,List.length_append,List.length_cons,Nat.succ_mul]
  have:=h x
  have:=flat_len h l
  omega
def strV (ws:List (List Nat)):List V:=ws.map fun u=>.str (S u)
theorem strV_len (us:List (List Nat)):(strV us).length=us.length:=by unfold strV; rw [List.length_map]
theorem strV_at {us:List (List Nat)} {i:Nat} {x:V} (h:(strV us)[i]? = some x):∃ u,us[i]? = some u∧x=.str (S u):=by
 unfold strV at h
 rw [List.getElem?_map] at h
 cases e:us[i]? with
 | none=>rw [e] at h; cases h
 | some u=>rw [e] at h; exact ⟨u,rfl,(Option.some.inj h).symm⟩
def aw (L:List Nat):Nat→List (List Nat)
 | 0=>[[]]
 | i+1=>(aw L i).flatMap fun u=>L.map fun c=>u ++ [c]
theorem aw_mem {L:List Nat}:∀ (i:Nat) (u:List Nat),u∈aw L i↔u.length=i∧∀ c∈u,c∈L
 | 0,u=>by
  show u∈[[]]↔_
  rw [List.mem_singleton]
  constructor
  ·rintro rfl
   exact ⟨rfl,fun c hc=>by cases hc⟩
  ·exact fun h=>List.eq_nil_of_length_eq_zero h.1
 | i+1,u=>by
  show u∈(aw L i).flatMap _↔_
  rw [List.mem_flatMap]
  constructor
  ·rintro ⟨v,hv,h⟩
   obtain ⟨c,hc,rfl⟩:=List.mem_map.mp h
   obtain ⟨h1,h2⟩:=(aw_mem i v).mp hv
   refine ⟨by rw [List.length_append,h1]; rfl,fun d hd=>?_⟩
   rcases List.mem_append.mp hd with z | z
   ·exact h2 d z
   ·rw [List.mem_singleton.mp z]
    exact hc
  ·rintro ⟨h1,h2⟩
   have hne:u≠[]:=fun e=>by rw [e] at h1; cases h1
   have hd:=List.dropLast_concat_getLast hne
   refine ⟨u.dropLast,(aw_mem i _).mpr ⟨by rw [List.length_dropLast,h1]; rfl,fun c hc=>h2 c (List.dropLast_subset _ hc)⟩,List.mem_map.mpr ⟨u.getLast hne,h2 _ (List.getLast_mem hne),hd⟩⟩
def awl (L:List Nat) (n:Nat):List (List Nat):=(List.range (n+1)).flatMap (aw L)
theorem awl_succ (L:List Nat) (n:Nat):awl L (n+1)=awl L n ++ aw L (n+1):=by
 unfold awl
 rw [List.range_succ,List.flatMap_append]
 simp
theorem awl_mem {L:List Nat} {n:Nat} {u:List Nat}:u∈awl L n↔u.length≤n∧∀ c∈u,c∈L:=by
 unfold awl
 rw [List.mem_flatMap]
 constructor
 ·rintro ⟨i,hi,h⟩
  obtain ⟨h1,h2⟩:=(aw_mem i u).mp h
  exact ⟨by have:=List.mem_range.mp hi; omega,h2⟩
 ·exact fun h=>⟨u.length,List.mem_range.mpr (by omega),(aw_mem _ _).mpr ⟨rfl,h.2⟩⟩
theorem aw_len {L:List Nat} {m:Nat} (hm:L.length≤m):∀ i,(aw L i).length≤m ^ i
 | 0=>Nat.le_refl _
 | i+1=>by
  have h:=flat_len (f:=fun u:List Nat=>L.map fun c=>u ++ [c]) (n:=m) (fun u=>by rw [List.length_map]; exact hm) (aw L i)
  show ((aw L i).flatMap _).length≤_
  rw [Nat.pow_succ]
  exact Nat.le_trans h (Nat.mul_le_mul_right _ (aw_len hm i))
theorem awl_len {L:List Nat} (hm:L.length≤3):∀ n,n≤4→(awl L n).length≤400:=fun n hn=>by
 have h:=aw_len hm
 have h0:=h 0
 have h1:=h 1
 have h2:=h 2
 have h3:=h 3
 have h4:=h 4
 have e0:(awl L 0).length=(aw L 0).length:=by simp [awl]
 have st:∀ j,(awl L (j+1)).length=(awl L j).length+(aw L (j+1)).length:=fun j=>by rw [awl_succ,List.length_append]
 have s0:=st 0
 have s1:=st 1
 have s2:=st 2
 have s3:=st 3
 simp only [Nat.reduceAdd,Nat.reducePow] at *
 match n,hn with
 | 0,_=>omega
 | 1,_=>omega
 | 2,_=>omega
 | 3,_=>omega
 | 4,_=>omega
def pw (r:List Nat × Nat):List V:=[.str (S r.1),.str ⟨#[r.2]⟩]
inductive spPairsI (vs:List V) (H:Hp) (Q:VK):Prop
 | mk (wp:Addr) (us:List (List Nat)) (l:Str) (h1:vs=[.ref wp,.str l]) (h2:H wp=some (.lst (strV us))) (h3:us.length≤300) (h4:l.length≤3) (h5:∀ p ys H',H p=none→Same H H'→H' p=some (.lst ys)→TR pw H' ys (us.flatMap fun u=>l.cps.toList.map fun c=>(u,c))→Q (.ref p) H'):spPairsI vs H Q
def spPairs:Sp:=fun vs H Q u3_=>spPairsI vs H Q
theorem ok_law_pairs {f:Addr} {fd:FuncData} (F:Fun K "_law_pairs" "_law_pairs" s_law_pairs f fd) (Z:Blt mg):FnOk P w K mg base CX0 1 f fd ["_law_words","_law_letters_here"] spPairs:=by
 refine F.ok sc_law_pairs (fun vs H Q E h=>?_) (fun cdv A outer s H vs Q E hr h=>?_)
 ·obtain ⟨wp,us,l,rfl,_⟩:=h
  rfl
 obtain ⟨wp,us,l,rfl,hwp,hus,hl,k⟩:=h
 refine ⟨_,(pss_cons (ps_set (i:=2) sc_law_pairs.nd (by rfl) (Or.inl (by rfl)) (pe_lst pa_nil)) 
   (pss_cons (ps_for PassesOwn.never (by rfl) (pi_listK (K:=K) (pv 0)) (pg_name (i:=3) sc_law_pairs.nd (by rfl) (Or.inr (by rfl))) 
    (pss_one (ps_expr (pe_bmK (K:=K) PySem.F.plainAttrs_list PySem.F.slot_list_extend PySem.F.type_list_extend mt_extend (pv 2) (pa_cons (pe_comp (sc:=defScope s_law_pairs) (Nm:=["_law_words","_law_letters_here","_law_found","_law_word_here"]) (own:=["_law_letter"]) (fr:=[3]) ⟨rfl,by decide +kernel,by decide +kernel,by decide +kernel,by decide +kernel⟩ (by rfl) (gfr_name (by decide)) (pi_str (pv 1)) (fun d=>(pg_name (i:=0) nd_law_pairs_0 (by rfl) (Or.inl (by rfl)))) (fun d=>pts_nil) (fun d=>(pe_tup (pa_cons (pv 1) (pa_cons (pv 0) pa_nil))))) pa_nil))))) 
   (pss_one (ps_ret (pv 2))))),?_⟩
 refine (let zz0:TS:=_; let zz1:TS:=tSeq _ zz0; (?_:tSeq _ zz1 _ _ _))
 have hll:=len_list l
 refine ⟨(by show 0≤sizeLine; decide),fun p hp=>?_⟩
 refine ⟨_,rfl,wp,rfl,⟨_,SqL.of (same_new hp _ _ _ hwp)⟩,?_⟩
 refine for_list (K:=K) (a:=wp) (xs:=strV us) (fun i σ H2=>∃ (ys:List V) (v3:Option V),σ=[some (.ref wp),some (.str l),some (.ref p),v3]∧H2 p=some (.lst ys)∧Same H H2∧TR pw H2 ys ((us.take i).flatMap fun u=>l.cps.toList.map fun c=>(u,c)))
  ⟨[],none,rfl,upd_same,same_new hp _,.nil⟩ (fun i σ H2 _ h=>?_) ?_ ?_
 ·obtain ⟨ys,v3,rfl,h1,h2,h3⟩:=h
  exact SqL.of (h2 _ _ hwp)
 ·rintro i x σ H2 hx ⟨ys,v3,rfl,h2p,e2,R2⟩
  obtain ⟨u,hu,rfl⟩:=strV_at hx
  refine ⟨_,rfl,.inl ⟨rfl,_,SqL.of h2p⟩,_,rfl,l,rfl,?_⟩
  refine comp_str (cs:=l.cps.toList) (fun j acc H3=>Same H2 H3∧TR pw H3 acc ((l.cps.toList.take j).map fun c=>(u,c))) (small1000 (by omega)) ⟨Same.refl _,.nil⟩ (fun j acc H3 q=>by rw [q.2.len,List.length_map,List.length_take]; exact Nat.min_le_left _ _)
   (fun j acc H3 c hc q=>?_) (fun acc H3 q y hy=>?_)
  ·obtain ⟨e3,R3⟩:=q
   refine cyes ⟨_,rfl,_,rfl,(by show 2≤sizeLine; decide),fun t ht=>⟨e3.trans (same_new ht _),?_⟩⟩
   rw [map_take hc]
   exact (R3.keep (Tk.same (same_new ht _))).snoc upd_same
  ·obtain ⟨e3,R3⟩:=q
   rw [List.take_length] at R3
   have s4:=same_new hy (.lst acc)
   have e24:=e3.trans s4
   have h4p:=e24 _ _ h2p
   have ln:=flat_len (f:=fun u:List Nat=>l.cps.toList.map fun c=>(u,c)) (n:=3) (fun u=>by rw [List.length_map]; omega) (us.take i)
   have lt:(us.take i).length * 3≤300 * 3:=Nat.mul_le_mul_right _ (by rw [List.length_take]; omega)
   have l1:=R2.len
   have l2:=R3.len
   rw [List.length_map] at l2
   refine ⟨p,y,_,_,rfl,rfl,h4p,upd_same,(by rw [sizeLine_eq]; omega),?_⟩
   refine ⟨_,_,rfl,upd_same,same_put (e2.trans e24) hp _,?_⟩
   rw [flat_take hu]
   have K6:=Tk.lst h4p (.lst (ys ++ acc))
   exact ((R3.keep (Tk.same s4)).keep K6).app ((R2.keep (Tk.same e24)).keep K6)
 ·rintro σ H2 ⟨ys,v3,rfl,h2p,e2,R2⟩
  refine ⟨_,rfl,k p ys H2 hp e2 h2p ?_⟩
  rw [strV_len,List.take_length] at R2
  exact R2
inductive spAllWI (vs:List V) (H:Hp) (Q:VK):Prop
 | mk (l:Str) (k:Nat) (h1:vs=[.str l,nI k]) (h2:l.length≤3) (h3:k≤4) (h4:∀ p H',H p=none→Same H H'→H' p=some (.lst (strV (awl l.cps.toList k)))→Q (.ref p) H'):spAllWI vs H Q
def spAllW:Sp:=fun vs H Q u3_=>spAllWI vs H Q
theorem ok_law_all_words {f:Addr} {fd:FuncData} (F:Fun K "_law_all_words" "_law_all_words" s_law_all_words f fd) (Z:Blt mg) (C_law_pairs:Cal P w K mg base "_law_pairs" 1 ["_law_words","_law_letters_here"] spPairs):FnOk P w K mg base CX0 2 f fd ["_law_letters_here","_law_most"] spAllW:=by
 refine F.ok sc_law_all_words (fun vs H Q E h=>?_) (fun cdv A outer s H vs Q E hr h=>?_)
 ·obtain ⟨l,k,rfl,_⟩:=h
  rfl
 obtain ⟨l,kn,rfl,hl,hk,k⟩:=h
 refine ⟨_,(pss_cons (ps_set (i:=2) sc_law_all_words.nd (by rfl) (Or.inl (by rfl)) (pe_lst (pa_cons pe_str pa_nil))) 
   (pss_cons (ps_set (i:=3) sc_law_all_words.nd (by rfl) (Or.inl (by rfl)) (pe_lst (pa_cons pe_str pa_nil))) 
   (pss_cons (ps_for PassesOwn.never (by rfl) (pi_range1 (by rfl) Z.range (pa_cons (pv 1) pa_nil)) (pg_name (i:=4) sc_law_all_words.nd (by rfl) (Or.inl (by rfl))) 
    (pss_cons (ps_setc (i:=3) sc_law_all_words.nd (by rfl) (by rfl) (sc:=defScope s_law_all_words) (Nm:=["_law_letters_here","_law_most","_law_found","_law_here","_law_turn"]) (own:=["_law_word_here","_law_letter"]) (fr:=[]) ⟨rfl,by decide +kernel,by decide +kernel,by decide +kernel,by decide +kernel⟩ (by rfl) (gfr_tup (gsfr_name (by decide) (gsfr_name (by decide) gsfr_nil))) (pi_listK (K:=K) (pe_c C_law_pairs (hr.mono (by decide)) (pa_cons (pv 3) (pa_cons (pv 0) pa_nil)))) (fun d=>(pg_tupK (K:=K) (n:=2) (by rfl) (pgs_cons (pg_name (i:=0) nd_law_all_words_0 (by rfl) (Or.inl (by rfl))) (pgs_cons (pg_name (i:=1) nd_law_all_words_0 (by rfl) (Or.inl (by rfl))) pgs_nil)))) (fun d=>pts_nil) (fun d=>(pe_op op_add_str (pv 0) (pv 1)))) 
    (pss_one (ps_expr (pe_bmK (K:=K) PySem.F.plainAttrs_list PySem.F.slot_list_extend PySem.F.type_list_extend mt_extend (pv 2) (pa_cons (pv 3) pa_nil)))))) 
   (pss_one (ps_ret (pv 2)))))),?_⟩
 refine (let zz0:TS:=_; let zz1:TS:=_; let zz2:TS:=tSeq _ zz1; let zz3:TS:=tSeq (tFor _ _ zz2) zz0; let zz4:TS:=tSeq _ zz3; (?_:tSeq _ zz4 _ _ _))
 have hll:=len_list l
 refine ⟨(by show 1≤sizeLine; decide),fun p hp=>⟨(by show 1≤sizeLine; decide),fun q hq=>?_⟩⟩
 rw [S_nil]
 have e2:=(same_new hp (.lst [.str (S [])])).trans (same_new hq (.lst [.str (S [])]))
 have h2p:=same_new hq (.lst [.str (S [])]) _ _ (upd_same (H:=H) (a:=p) (o:=.lst [.str (S [])]))
 have npq:p≠q:=ne_of_none upd_same hq
 refine ⟨_,rfl,_,rfl,by omega,by omega,?_⟩
 refine for_range (lo:=0) (n:=((kn:Nat):Int).toNat) (fun i σ H4=>∃ (q:Addr) (v4:Option V),σ=[some (.str l),some (nI kn),some (.ref p),some (.ref q),v4]∧H4 p=some (.lst (strV (awl l.cps.toList i)))∧H4 q=some (.lst (strV (aw l.cps.toList i)))∧p≠q∧Same H H4)
  ⟨q,none,rfl,h2p,upd_same,npq,e2⟩ ?_ ?_
 ·rintro i σ H4 hi ⟨q,v4,rfl,h4p,h4q,npq,e4⟩
  have hi':i < kn:=by omega
  have la:=aw_len (m:=3) (L:=l.cps.toList) (by omega) i
  have lb:=aw_len (m:=3) (L:=l.cps.toList) (by omega) (i+1)
  have pa:3 ^ i≤3 ^ 4:=Nat.pow_le_pow_right (by decide) (by omega)
  have pb:3 ^ (i+1)≤3 ^ 4:=Nat.pow_le_pow_right (by decide) (by omega)
  refine ⟨_,rfl,_,rfl,q,aw l.cps.toList i,l,rfl,h4q,by omega,hl,fun r ys H5 hr5 e5 h5 R5=>?_⟩
  have hyl:=R5.len
  have hfl:((aw l.cps.toList i).flatMap fun u=>l.cps.toList.map fun c=>(u,c)).map (fun r=>V.str (S (r.1 ++ [r.2])))=strV (aw l.cps.toList (i+1)):=by
   show _=((aw l.cps.toList i).flatMap fun u=>l.cps.toList.map fun c=>u ++ [c]).map fun u=>V.str (S u)
   rw [List.map_flatMap,List.map_flatMap]
   congr 1
   funext u
   rw [List.map_map,List.map_map]
   rfl
  have hfn:((aw l.cps.toList i).flatMap fun u=>l.cps.toList.map fun c=>(u,c)).length=(aw l.cps.toList (i+1)).length:=by
   have:=congrArg List.length hfl
   rw [List.length_map,strV_len] at this
   exact this
  refine ⟨r,rfl,⟨_,SqL.of h5⟩,?_⟩
  refine comp_list (K:=K) (a:=r) (xs:=ys) (fun j acc H6=>acc=(((aw l.cps.toList i).flatMap fun u=>l.cps.toList.map fun c=>(u,c)).take j).map (fun r=>V.str (S (r.1 ++ [r.2])))∧Same H5 H6) (by rw [hyl,hfn]; exact small1000 (by omega)) ⟨rfl,Same.refl _⟩ (fun j acc H6 z=>by rw [z.1,List.length_map,List.length_take]; exact Nat.min_le_left _ _)
   (fun j acc H6 z=>SqL.of (z.2 _ _ h5)) (fun j acc H6 x hx z=>?_) (fun acc H6 z y hy=>?_)
  ·obtain ⟨rfl,e6⟩:=z
   obtain ⟨ra,r',rfl,hr',hra⟩:=(R5.keep (Tk.same e6)).at_ hx
   have hb:r'.1.length≤100:=by
    obtain ⟨u,hu,hm⟩:=List.mem_flatMap.mp (List.mem_of_getElem? hr')
    obtain ⟨c,_,rfl⟩:=List.mem_map.mp hm
    have:=((aw_mem _ _).mp hu).1
    show u.length≤100
    omega
   refine cyes2 rfl (SqT.of hra) ⟨_,rfl,_,rfl,_,_,rfl,rfl,line_le (by rw [S_len]; show r'.1.length+1≤1000; omega),?_,e6⟩
   rw [map_take hr',S_snoc]
  ·obtain ⟨rfl,e6⟩:=z
   rw [hyl,List.take_length,hfl]
   have s7:=same_new hy (.lst (strV (aw l.cps.toList (i+1))))
   have e47:=(e5.trans e6).trans s7
   have h7p:=e47 _ _ h4p
   have wl:=awl_len (L:=l.cps.toList) (by omega) i (by omega)
   have npy:p≠y:=ne_of_none (e6 _ _ (e5 _ _ h4p)) hy
   refine ⟨_,rfl,.inl ⟨rfl,_,SqL.of h7p⟩,_,rfl,p,y,_,_,rfl,rfl,h7p,upd_same,(by rw [strV_len,strV_len]; exact line_le (by omega)),?_⟩
   refine ⟨y,_,rfl,?_,(upd_ne npy.symm).trans upd_same,npy,same_put (e4.trans e47) hp _⟩
   rw [upd_same,awl_succ]
   unfold strV
   rw [List.map_append]
 ·rintro σ H4 ⟨q,v4,rfl,h4p,h4q,npq,e4⟩
  exact ⟨_,rfl,k p H4 hp e4 h4p⟩
theorem sub_cc {c d:Nat} {w t:List Nat}:(c :: w).Sublist (d :: t)↔(c :: w).Sublist t∨(c=d∧w.Sublist t):=by
 constructor
 ·intro h
  cases h with
  | cons _ h=>exact .inl h
  | cons_cons _ h=>exact .inr ⟨rfl,h⟩
 ·rintro (h | ⟨rfl,h⟩)
  ·exact h.cons _
  ·exact h.cons_cons _
theorem sp_sub:∀ (w t:List Nat),0 < emb w t↔w.Sublist t
 | [],t=>by rw [emb_nil]; exact ⟨fun _=>List.nil_sublist _,fun _=>Nat.one_pos⟩
 | c :: w,[]=>by
  rw [emb_end (by simp)]
  exact ⟨fun h=>absurd h (Nat.lt_irrefl _),fun h=>by cases h⟩
 | c :: w,d :: t=>by
  rw [emb_cc,sub_cc,← sp_sub (c :: w) t,← sp_sub w t]
  by_cases e:c=d
  ·rw [if_pos e]
   constructor
   ·intro h
    by_cases z:0 < emb (c :: w) t
    ·exact .inl z
    ·exact .inr ⟨e,by omega⟩
   ·rintro (z | ⟨_,z⟩) <;> omega
  ·rw [if_neg e]
   constructor
   ·intro h
    exact .inl (by omega)
   ·rintro (z | ⟨z,_⟩)
    ·omega
    ·exact absurd z e
theorem spB_sub (w t:List Nat):spB w t=true↔w.Sublist t:=by
 rw [spB_is,decide_eq_true_eq]
 exact sp_sub w t
theorem pos_app {t:List Nat} (z:List Nat):∀ (v:List Nat) (s:Nat),pos t (v ++ z) s=(pos t v s).bind fun p=>pos t z p
 | [],s=>rfl
 | c :: v,s=>by
  have e:∀ v:List Nat,pos t (c :: v) s=(match nx t s c with | none=>none | some k=>pos t v (k+1)):=fun v=>rfl
  show pos t (c :: (v ++ z)) s=_
  rw [e,e]
  cases nx t s c with
  | none=>rfl
  | some k=>exact pos_app z v (k+1)
inductive Lx:List Nat→List Nat→Prop where
 | hd {a b:Nat} {x y:List Nat} (h:a < b):Lx (a :: x) (b :: y)
 | tl {a:Nat} {x y:List Nat} (h:Lx x y):Lx (a :: x) (a :: y)
theorem Lx.app {x y:List Nat} (h:Lx x y) (z z':List Nat):Lx (x ++ z) (y ++ z'):=by
 induction h with
 | hd h=>exact .hd h
 | tl _ ih=>exact .tl ih
theorem Lx.snoc {c d:Nat} (h:c < d):∀ x:List Nat,Lx (x ++ [c]) (x ++ [d])
 | []=>.hd h
 | _ :: x=>.tl (Lx.snoc h x)
def sl (v u:List Nat):Prop:=v.length < u.length∨(v.length=u.length∧Lx v u)
def lev (T:List Nat):Nat→List (List Nat × Nat)
 | 0=>[([],0)]
 | i+1=>(lev T i).flatMap fun r=>((ltrs T).filter fun c=>decide (0 < nb T r.2 c)).map fun c=>(r.1 ++ [c],nb T r.2 c)
def wl (T:List Nat) (n:Nat):List (List Nat):=(List.range (n+1)).flatMap fun i=>(lev T i).map (·.1)
theorem sl_irrefl {u:List Nat} (h:sl u u):False:=by
 rcases h with h | ⟨_,h⟩
 ·omega
 ·have irr:∀ x y:List Nat,Lx x y→x=y→False:=fun x y h=>by
   induction h with
   | hd h=>intro e; injection e with e1 _; omega
   | tl _ ih=>intro e; injection e with _ e2; exact ih e2
  exact irr u u h rfl
theorem Lx.trans {x y z:List Nat} (h1:Lx x y) (h2:Lx y z):Lx x z:=by
 induction h1 generalizing z with
 | hd h=>
  cases h2 with
  | hd h'=>exact .hd (by omega)
  | tl _=>exact .hd h
 | tl _ ih=>
  cases h2 with
  | hd h'=>exact .hd h'
  | tl h'=>exact .tl (ih h')
abbrev Ar:=Nat × List Nat
def setd (fr:List Ar) (q:Ar):List Ar:=if q.1∈fr.map (·.1) then fr else fr ++ [q]
def acs (L T:List Nat) (rs:List Ar):List Ar:=rs.flatMap fun r=>L.map fun c=>(nb T r.1 c,r.2 ++ [c])
theorem mem_acs {L T:List Nat} {rs:List Ar} {q:Ar}:q∈acs L T rs↔∃ r∈rs,∃ c∈L,q=(nb T r.1 c,r.2 ++ [c]):=by
 unfold acs
 rw [List.mem_flatMap]
 constructor
 ·rintro ⟨r,hr,hq⟩
  obtain ⟨c,hc,e⟩:=List.mem_map.mp hq
  exact ⟨r,hr,c,hc,e.symm⟩
 ·rintro ⟨r,hr,c,hc,e⟩
  exact ⟨r,hr,List.mem_map.mpr ⟨c,hc,e.symm⟩⟩
theorem acs_sorted {L T:List Nat} (hL:L.Pairwise (· < ·)) {rs:List Ar} (h:rs.Pairwise fun r r'=>Lx r.2 r'.2):(acs L T rs).Pairwise fun r r'=>Lx r.2 r'.2:=by
 unfold acs
 rw [List.pairwise_flatMap]
 refine ⟨fun r _=>?_,h.imp fun {r r'} hrr p hp p' hp'=>?_⟩
 ·rw [List.pairwise_map]
  exact hL.imp fun {c d} hcd=>Lx.snoc hcd r.2
 ·obtain ⟨c,_,e⟩:=List.mem_map.mp hp
  obtain ⟨d,_,e'⟩:=List.mem_map.mp hp'
  rw [← e,← e']
  exact hrr.app _ _
structure ALv (L T:List Nat) (i:Nat) (rs:List Ar):Prop where
 ok:∀ r∈rs,r.2.length=i∧pos T r.2 0=some r.1∧∀ c∈r.2,c∈L
 so:rs.Pairwise fun r r'=>Lx r.2 r'.2
 all:∀ u:List Nat,u.length=i→(∀ c∈u,c∈L)→∃ r∈rs,pos T u 0=some r.1∧(u=r.2∨Lx r.2 u)
 nd:(rs.map (·.1)).Nodup
theorem ALv.zero (L T:List Nat):ALv L T 0 [(0,[])]:=by
 refine ⟨fun r hr=>?_,List.pairwise_singleton _ _,fun u hu _=>⟨(0,[]),List.mem_cons_self,?_,?_⟩,by simp⟩
 ·rw [List.mem_singleton.mp hr]
  exact ⟨rfl,rfl,fun c hc=>by cases hc⟩
 ·rw [List.eq_nil_of_length_eq_zero hu]; rfl
 ·exact .inl (List.eq_nil_of_length_eq_zero hu)
structure AFr (cs fr:List Ar):Prop where
 nz:∀ q∈cs,q.1≠0
 sub:fr.Sublist cs
 nd:(fr.map (·.1)).Nodup
 rep:∀ q∈cs,∃ r∈fr,r.1=q.1∧(q.2=r.2∨Lx r.2 q.2)
theorem AFr.nil:AFr [] []:=⟨(fun _ h=>by cases h),.slnil,.nil,(fun _ h=>by cases h)⟩
theorem AFr.step {cs fr:List Ar} {q:Ar} (h:AFr cs fr) (hq:q.1≠0) (hs:(cs ++ [q]).Pairwise fun r r'=>Lx r.2 r'.2):AFr (cs ++ [q]) (setd fr q):=by
 have nz:∀ p∈cs ++ [q],p.1≠0:=fun p hp=>by
  rcases List.mem_append.mp hp with z | z
  ·exact h.nz p z
  ·rw [List.mem_singleton.mp z]; exact hq
 unfold setd
 by_cases c:q.1∈fr.map (·.1)
 ·rw [if_pos c]
  refine ⟨nz,h.sub.trans (List.sublist_append_left _ _),h.nd,fun p hp=>?_⟩
  rcases List.mem_append.mp hp with z | z
  ·exact h.rep p z
  ·rw [List.mem_singleton.mp z]
   obtain ⟨r,hr,e⟩:=List.mem_map.mp c
   exact ⟨r,hr,e,.inr ((List.pairwise_append.mp hs).2.2 r (h.sub.subset hr) q List.mem_cons_self)⟩
 ·rw [if_neg c]
  refine ⟨nz,h.sub.append (List.Sublist.refl _),?_,fun p hp=>?_⟩
  ·rw [List.map_append,List.nodup_append]
   refine ⟨h.nd,by simp,fun a ha b hb e=>c ?_⟩
   have:b=q.1:=by simpa using hb
   rw [← this,← e]
   exact ha
  ·rcases List.mem_append.mp hp with z | z
   ·obtain ⟨r,hr,e⟩:=h.rep p z
    exact ⟨r,List.mem_append_left _ hr,e⟩
   ·rw [List.mem_singleton.mp z]
    exact ⟨q,List.mem_append_right _ List.mem_cons_self,rfl,.inl rfl⟩
theorem ALv.cand {L T:List Nat} {i:Nat} {rs:List Ar} (h:ALv L T i rs) {u:List Nat} (hu:u.length=i+1) (hc:∀ c∈u,c∈L):∃ p∈acs L T rs,(u=p.2∨Lx p.2 u)∧(p.1≠0→pos T u 0=some p.1)∧(p.1=0→pos T u 0=none):=by
 rcases List.eq_nil_or_concat u with e | ⟨v,d,e⟩
 ·rw [e] at hu; cases hu
 rw [List.concat_eq_append] at e
 subst e
 have hv:v.length=i:=by simpa using hu
 obtain ⟨r,hr,hp,hw⟩:=h.all v hv fun c hc'=>hc c (List.mem_append_left _ hc')
 have hd:d∈L:=hc d (List.mem_append_right _ List.mem_cons_self)
 refine ⟨(nb T r.1 d,r.2 ++ [d]),mem_acs.mpr ⟨r,hr,d,hd,rfl⟩,?_,fun z=>(pos_nb hp).1 (Nat.pos_of_ne_zero z),(pos_nb hp).2⟩
 rcases hw with e | e
 ·exact .inl (by rw [e])
 ·exact .inr (e.app _ _)
theorem ALv.next {L T:List Nat} {i:Nat} {rs fr:List Ar} (hL:L.Pairwise (· < ·)) (h:ALv L T i rs) (g:AFr (acs L T rs) fr):ALv L T (i+1) fr:=by
 refine ⟨fun q hq=>?_,(acs_sorted hL h.so).sublist g.sub,fun u hu hc=>?_,g.nd⟩
 ·have hm:=g.sub.subset hq
  obtain ⟨r,hr,c,hc,e⟩:=mem_acs.mp hm
  obtain ⟨h1,h2,h3⟩:=h.ok r hr
  have hz:=g.nz q hm
  rw [e] at hz ⊢
  refine ⟨by show (r.2 ++ [c]).length=i+1; rw [List.length_append,h1]; rfl,(pos_nb h2).1 (Nat.pos_of_ne_zero hz),fun d hd=>?_⟩
  rcases List.mem_append.mp hd with z | z
  ·exact h3 d z
  ·rw [List.mem_singleton.mp z]; exact hc
 ·obtain ⟨p,hp,hw,hpos,_⟩:=h.cand hu hc
  obtain ⟨r,hr,e,hw2⟩:=g.rep p hp
  refine ⟨r,hr,by rw [e]; exact hpos (g.nz p hp),?_⟩
  rcases hw with z | z
  ·rcases hw2 with y | y
   ·exact .inl (z.trans y)
   ·exact .inr (by rw [z]; exact y)
  ·rcases hw2 with y | y
   ·exact .inr (by rw [← y]; exact z)
   ·exact .inr (y.trans z)
theorem pos_sub {T w:List Nat}:(∃ p,pos T w 0=some p)↔w.Sublist T:=by
 rw [← spB_sub,← pos_sp,Option.isSome_iff_exists]
theorem ALv.lies {L T:List Nat} {i:Nat} {rs:List Ar} (h:ALv L T i rs) {u:List Nat} (hu:u.length=i) (hc:∀ c∈u,c∈L):u.Sublist T:=by
 obtain ⟨r,_,hp,_⟩:=h.all u hu hc
 exact pos_sub.mp ⟨_,hp⟩
theorem ALv.short {L T:List Nat} {i:Nat} {rs:List Ar} (hL:L≠[]) (h:ALv L T i rs) {u:List Nat} (hu:u.length≤i) (hc:∀ c∈u,c∈L):u.Sublist T:=by
 obtain ⟨d,hd⟩:=List.exists_mem_of_ne_nil L hL
 have:=h.lies (u:=u ++ List.replicate (i - u.length) d) (by rw [List.length_append,List.length_replicate]; omega) fun c hc'=>by
  rcases List.mem_append.mp hc' with z | z
  ·exact hc c z
  ·rw [(List.mem_replicate.mp z).2]; exact hd
 exact (List.sublist_append_left _ _).trans this
def FirstAbs (L T w:List Nat):Prop:=(∀ c∈w,c∈L)∧¬ w.Sublist T∧∀ u:List Nat,(∀ c∈u,c∈L)→sl u w→u.Sublist T
theorem Lx.irr {x:List Nat} (h:Lx x x):False:=sl_irrefl (.inr ⟨rfl,h⟩)
theorem ALv.found {L T:List Nat} {i:Nat} {rs pre post:List Ar} {q:Ar} (hL:L.Pairwise (· < ·)) (hne:L≠[]) (h:ALv L T i rs) (e:acs L T rs=pre ++ q :: post) (hp:∀ p∈pre,p.1≠0) (hq:q.1=0):FirstAbs L T q.2∧q.2.length=i+1:=by
 have hm:q∈acs L T rs:=by rw [e]; exact List.mem_append_right _ List.mem_cons_self
 have hs:=acs_sorted (T:=T) hL h.so
 rw [e] at hs
 obtain ⟨r,hr,c,hc,eq⟩:=mem_acs.mp hm
 obtain ⟨h1,h2,h3⟩:=h.ok r hr
 have hlen:q.2.length=i+1:=by rw [eq]; show (r.2 ++ [c]).length=i+1; rw [List.length_append,h1]; rfl
 have hin:∀ d∈q.2,d∈L:=fun d hd=>by
  rw [eq] at hd
  rcases List.mem_append.mp hd with z | z
  ·exact h3 d z
  ·rw [List.mem_singleton.mp z]; exact hc
 refine ⟨⟨hin,fun z=>?_,fun u hu hsl=>?_⟩,hlen⟩
 ·obtain ⟨p,hp'⟩:=pos_sub.mpr z
  rw [eq] at hq hp'
  have:=(pos_nb h2).2 hq
  rw [this] at hp'
  cases hp'
 ·rcases hsl with z | ⟨z,y⟩
  ·exact h.short hne (by omega) hu
  ·obtain ⟨p,hpm,hw,hpos,_⟩:=h.cand (z.trans hlen) hu
   have hlt:Lx p.2 q.2:=by
    rcases hw with x | x
    ·rw [← x]; exact y
    ·exact x.trans y
   rw [e] at hpm
   obtain ⟨hs1,hs2,hs3⟩:=List.pairwise_append.mp hs
   rcases List.mem_append.mp hpm with x | x
   ·exact pos_sub.mp ⟨_,hpos (hp p x)⟩
   ·rcases List.mem_cons.mp x with x | x
    ·rw [x] at hlt
     exact (Lx.irr hlt).elim
    ·exact (Lx.irr (hlt.trans ((List.pairwise_cons.mp hs2).1 p x))).elim
theorem ALv.le {L T:List Nat} {i:Nat} {rs:List Ar} (hL:L≠[]) (h:ALv L T i rs):i≤T.length:=by
 obtain ⟨d,hd⟩:=List.exists_mem_of_ne_nil L hL
 have:=(h.lies (u:=List.replicate i d) (List.length_replicate ..) fun c hc=>by rw [(List.mem_replicate.mp hc).2]; exact hd).length_le
 rwa [List.length_replicate] at this
theorem lb_nb (t:List Nat) (s c:Nat):V.int (lbv (nx t s c))=nI (nb t s c):=by
 unfold nb
 cases nx t s c <;> rfl
theorem nx_mono {t:List Nat} {p s c k:Nat} (hs:s≤t.length) (hp:p≤s) (h:nx t s c=some k):∃ k',nx t p c=some k'∧k'≤k:=by
 have g:=(nx_some hs).mp h
 cases e:nx t p c with
 | none=>
  have:=(nx_none (by omega)).mp e k (by have:=g.ge; omega) g.lt
  exact absurd g.at_ this
 | some k'=>
  refine ⟨k',rfl,Nat.le_of_not_lt fun z=>?_⟩
  exact ((nx_some (by omega)).mp e).first k (by have:=g.ge; omega) z g.at_
theorem nb_pos {t:List Nat} {s c:Nat} (h:0 < nb t s c):nx t s c=some (nb t s c - 1):=by
 unfold nb at *
 cases e:nx t s c with
 | none=>rw [e] at h; exact absurd h (Nat.lt_irrefl _)
 | some k=>rfl
def AllIn (L T:List Nat) (n s:Nat):Prop:=∀ u:List Nat,u.length≤n→(∀ c∈u,c∈L)→∃ p,p≤s∧pos T u 0=some p
theorem AllIn.zero (L T:List Nat):AllIn L T 0 0:=fun u hu _=>by
 have:u=[]:=List.eq_nil_of_length_eq_zero (by omega)
 subst this
 exact ⟨0,Nat.le_refl _,rfl⟩
theorem AllIn.next {L T:List Nat} {n s e:Nat} (h:AllIn L T n s) (hs:s≤T.length) (he:s≤e) (hL:∀ c∈L,0 < nb T s c∧nb T s c≤e):AllIn L T (n+1) e:=fun u hu hc=>by
 by_cases z:u.length≤n
 ·obtain ⟨p,hp,e1⟩:=h u z hc
  exact ⟨p,by omega,e1⟩
 ·have hne:u≠[]:=fun q=>by rw [q] at z; exact z (Nat.zero_le _)
  have hd:=List.dropLast_concat_getLast hne
  have hlast:u.getLast hne∈L:=hc _ (List.getLast_mem hne)
  obtain ⟨p,hp,e1⟩:=h u.dropLast (by rw [List.length_dropLast]; omega) fun c hc'=>hc c (List.dropLast_subset _ hc')
  obtain ⟨l1,l2⟩:=hL _ hlast
  obtain ⟨k',e2,e3⟩:=nx_mono hs hp (nb_pos l1)
  refine ⟨k'+1,by omega,?_⟩
  rw [← hd,pos_snoc,e1]
  show (nx T p _).map (· + 1)=_
  rw [e2]
  rfl
theorem AllIn.sub {L T:List Nat} {n s:Nat} (h:AllIn L T n s) {u:List Nat} (hu:u.length≤n) (hc:∀ c∈u,c∈L):u.Sublist T:=by
 obtain ⟨p,_,e⟩:=h u hu hc
 rw [← spB_sub,← pos_sp,e]
 rfl
def ArEnd (L T:List Nat) (s e:Nat):Prop:=(e=0∧∃ c∈L,nb T s c=0)∨(s < e∧e≤T.length∧(∀ c∈L,0 < nb T s c∧nb T s c≤e)∧∃ c∈L,nb T s c=e)
def EndsAt (L T:List Nat) (n s:Nat):Prop:=∃ u:List Nat,u.length=n∧(∀ c∈u,c∈L)∧pos T u 0=some s
theorem EndsAt.next {L T:List Nat} {n s e:Nat} (h:EndsAt L T n s) (he:0 < e) (hc:∃ c∈L,nb T s c=e):EndsAt L T (n+1) e:=by
 obtain ⟨u,h1,h2,h3⟩:=h
 obtain ⟨c,hc,e1⟩:=hc
 refine ⟨u ++ [c],by rw [List.length_append,h1]; rfl,fun d hd=>?_,?_⟩
 ·rcases List.mem_append.mp hd with z | z
  ·exact h2 d z
  ·rw [List.mem_singleton.mp z]; exact hc
 ·rw [← e1]
  exact (pos_nb h3).1 (by omega)
theorem EndsAt.lack {L T:List Nat} {n s:Nat} (h:EndsAt L T n s) (hc:∃ c∈L,nb T s c=0):∃ u:List Nat,u.length=n+1∧(∀ c∈u,c∈L)∧¬ u.Sublist T:=by
 obtain ⟨u,h1,h2,h3⟩:=h
 obtain ⟨c,hc,e1⟩:=hc
 refine ⟨u ++ [c],by rw [List.length_append,h1]; rfl,fun d hd=>?_,fun z=>?_⟩
 ·rcases List.mem_append.mp hd with z | z
  ·exact h2 d z
  ·rw [List.mem_singleton.mp z]; exact hc
 ·obtain ⟨p,hp⟩:=pos_sub.mpr z
  rw [(pos_nb h3).2 e1] at hp
  cases hp
inductive spArchEndI (vs:List V) (H:Hp) (Q:VK):Prop
 | mk (l t:Str) (s:Nat) (h1:vs=[.str l,.str t,nI s]) (h2:0 < l.length) (h3:l.length≤100) (h4:t.length≤100) (h5:s≤t.length) (h6:∀ e H',Same H H'→ArEnd l.cps.toList t.cps.toList s e→Q (nI e) H'):spArchEndI vs H Q
def spArchEnd:Sp:=fun vs H Q u3_=>spArchEndI vs H Q
theorem ok_arch_end {f:Addr} {fd:FuncData} (F:Fun K "arch_end" "arch_end" s_arch_end f fd) (Z:Blt mg) (C_left_behind:Cal P w K mg base "left_behind" 1 ["text","start","letter"] spLB):FnOk P w K mg base CX0 2 f fd ["letters","text","start"] spArchEnd:=by
 refine F.ok sc_arch_end (fun vs H Q E h=>?_) (fun cdv A outer s H vs Q E hr h=>?_)
 ·obtain ⟨l,t,s,rfl,_⟩:=h
  rfl
 obtain ⟨l,t,s',rfl,hl0,hl1,ht,hs,k⟩:=h
 refine ⟨_,(pss_cons (ps_setc (i:=3) sc_arch_end.nd (by rfl) (by rfl) (sc:=defScope s_arch_end) (Nm:=["letters","text","start","ends"]) (own:=["letter"]) (fr:=[1,2]) ⟨rfl,by decide +kernel,by decide +kernel,by decide +kernel,by decide +kernel⟩ (by rfl) (gfr_name (by decide)) (pi_str (pv 0)) (fun d=>(pg_name (i:=0) nd_arch_end_0 (by rfl) (Or.inl (by rfl)))) (fun d=>pts_nil) (fun d=>(pe_c C_left_behind (hr.mono (by decide)) (pa_cons (pv 1) (pa_cons (pv 2) (pa_cons (pv 0) pa_nil)))))) 
   (pss_cons (ps_if (pt_cmpR (op_inK (K:=K)) pe_int (pv 3) (by with_unfolding_all rfl)) 
    (pss_one (ps_ret pe_int)) pss_nil) 
   (pss_one (ps_ret (pe_callB (call_max1 (K:=K) (by rfl)) (by rfl) Z.max bt_max (pa_cons (pv 3) pa_nil)))))),?_⟩
 refine (let zz0:TS:=_; let zz1:TS:=tSeq _ zz0; (?_:tSeq _ zz1 _ _ _))
 have hll:=len_list l
 have htl:=len_list t
 refine ⟨_,rfl,l,rfl,?_⟩
 refine comp_str (cs:=l.cps.toList) (fun j acc H3=>Same H H3∧acc=(l.cps.toList.take j).map fun c=>nI (nb t.cps.toList s' c)) (small1000 (by omega)) ⟨Same.refl _,by rw [List.take_zero]; rfl⟩
  (fun j acc H3 p=>by rw [p.2,List.length_map,List.length_take]; omega) (fun j acc H3 c hc p=>cyes ?_) (fun acc H3 p y hy=>?_)
 ·obtain ⟨e3,rfl⟩:=p
  refine ⟨_,rfl,_,rfl,_,rfl,t,s',c,rfl,hs,e3,?_⟩
  rw [lb_nb,map_take hc]
 obtain ⟨e3,rfl⟩:=p
 rw [List.take_length]
 have e4:=e3.trans (same_new hy (.lst (l.cps.toList.map fun c=>nI (nb t.cps.toList s' c))))
 have h4:upd H3 y (.lst (l.cps.toList.map fun c=>nI (nb t.cps.toList s' c))) y=some (.lst (l.cps.toList.map fun c=>nI (nb t.cps.toList s' c))):=upd_same
 generalize upd H3 y (.lst (l.cps.toList.map fun c=>nI (nb t.cps.toList s' c)))=H4 at e4 h4
 have hflat:(l.cps.toList.map fun c=>nI (nb t.cps.toList s' c)).all flatV=true:=by
  rw [List.all_map]
  exact List.all_eq_true.mpr fun _ _=>rfl
 refine ⟨_,rfl,y,_,rfl,.inl (SqL.of h4),rfl,hflat,_,rfl,?_⟩
 refine ite2 (fun c1=>k 0 H4 e4 (.inl ⟨rfl,?_⟩)) (fun c1=>?_)
 ·have c2:(l.cps.toList.map fun c=>nI (nb t.cps.toList s' c)).any _=true:=c1
  obtain ⟨x,hx,e⟩:=List.any_eq_true.mp c2
  obtain ⟨c,hc,rfl⟩:=List.mem_map.mp hx
  refine ⟨c,hc,?_⟩
  have:((0:Int)==((nb t.cps.toList s' c:Nat):Int))=true∨(((nb t.cps.toList s' c:Nat):Int)==(0:Int))=true:=by first | exact .inl e | exact .inr e
  rcases this with z | z
  ·have:=eq_of_beq z; omega
  ·have:=eq_of_beq z; omega
 have c2:inV (.int 0) (l.cps.toList.map fun c=>nI (nb t.cps.toList s' c))=false:=by
  rw [Bool.not_eq_true] at c1
  exact c1
 have hn0:∀ c∈l.cps.toList,0 < nb t.cps.toList s' c:=fun c hc=>by
  rcases Nat.eq_zero_or_pos (nb t.cps.toList s' c) with z | z
  ·unfold inV at c2
   rw [List.any_eq_false] at c2
   refine absurd ?_ (c2 (nI (nb t.cps.toList s' c)) (List.mem_map.mpr ⟨c,hc,rfl⟩))
   rw [z]
   rfl
  ·exact z
 refine ⟨_,rfl,y,l.cps.toList.map fun c=>((nb t.cps.toList s' c:Nat):Int),rfl,?_,by rw [List.length_map]; omega,fun M hM hmax=>?_⟩
 ·rw [List.map_map]
  exact SqL.of h4
 obtain ⟨c,hc,rfl⟩:=List.mem_map.mp hM
 have g:=nb_gt (t:=t.cps.toList) (by omega) (hn0 c hc)
 have g2:=nb_le (t:=t.cps.toList) (c:=c) (show s'≤t.cps.toList.length by omega)
 refine k (nb t.cps.toList s' c) H4 e4 (.inr ⟨g,by omega,fun d hd=>⟨hn0 d hd,?_⟩,c,hc,rfl⟩)
 have:=hmax _ (List.mem_map.mpr ⟨d,hd,rfl⟩)
 omega
def Univ (L T:List Nat) (n:Nat):Prop:=(∀ u:List Nat,u.length≤n→(∀ c∈u,c∈L)→u.Sublist T)∧∃ u:List Nat,u.length=n+1∧(∀ c∈u,c∈L)∧¬ u.Sublist T
theorem Univ.uniq {L T:List Nat} {n m:Nat} (a:Univ L T n) (b:Univ L T m):n=m:=by
 rcases Nat.lt_trichotomy n m with h | h | h
 ·obtain ⟨u,h1,h2,h3⟩:=a.2
  exact absurd (b.1 u (by omega) h2) h3
 ·exact h
 ·obtain ⟨u,h1,h2,h3⟩:=b.2
  exact absurd (a.1 u (by omega) h2) h3
theorem Univ.of {L T:List Nat} {n s:Nat} (h:AllIn L T n s) (l:∃ u:List Nat,u.length=n+1∧(∀ c∈u,c∈L)∧¬ u.Sublist T):Univ L T n:=⟨fun _ hu hc=>h.sub hu hc,l⟩
theorem Univ.all {L T:List Nat} {n:Nat} (h:Univ L T n) (k:Nat):(∀ u:List Nat,u.length≤k→(∀ c∈u,c∈L)→u.Sublist T)↔k≤n:=by
 constructor
 ·intro q
  refine Nat.le_of_not_lt fun z=>?_
  obtain ⟨u,h1,h2,h3⟩:=h.2
  exact h3 (q u (by omega) h2)
 ·exact fun q u hu hc=>h.1 u (by omega) hc
def Whole (L p:List Nat):Prop:=(∀ c∈L,c∈p)∧∃ c∈L,c∉p.dropLast
structure Right (L T:List Nat) (ini:List (List Nat)) (last:List Nat):Prop where
 flat:(ini ++ [last]).flatten=T
 whole:∀ p∈ini,Whole L p
 lack:∃ c∈L,c∉last
 n:Univ L T ini.length
theorem mem_cut {T:List Nat} {s e c:Nat} (he:e≤T.length):c∈(T.drop s).take (e - s)↔∃ v,s≤v∧v < e∧T.getD v 0=c:=by
 constructor
 ·intro h
  obtain ⟨i,hi,e1⟩:=List.getElem_of_mem h
  rw [List.getElem_take,List.getElem_drop] at e1
  rw [List.length_take,List.length_drop] at hi
  refine ⟨s+i,by omega,by omega,?_⟩
  rw [List.getD_eq_getElem?_getD,List.getElem?_eq_getElem (by omega)]
  exact e1
 ·rintro ⟨v,h1,h2,h3⟩
  have h4:v - s < ((T.drop s).take (e - s)).length:=by rw [List.length_take,List.length_drop]; omega
  have:((T.drop s).take (e - s))[v - s]=c:=by
   rw [List.getElem_take,List.getElem_drop]
   rw [List.getD_eq_getElem?_getD,List.getElem?_eq_getElem (by omega)] at h3
   have e2:s+(v - s)=v:=by omega
   simp only [e2]
   exact h3
  rw [← this]
  exact List.getElem_mem h4
theorem nb_some {T:List Nat} {s c:Nat} (hs:s≤T.length) (h:0 < nb T s c):NextAt T s c (nb T s c - 1):=(nx_some hs).mp (nb_pos h)
theorem nb_in {T:List Nat} {s e c:Nat} (he:e≤T.length) (h:∃ v,s≤v∧v < e∧T.getD v 0=c):0 < nb T s c∧nb T s c≤e:=by
 obtain ⟨v,h1,h2,h3⟩:=h
 unfold nb
 cases e1:nx T s c with
 | none=>exact absurd h3 ((nx_none (by omega)).mp e1 v h1 (by omega))
 | some k=>
  have g:=(nx_some (by omega)).mp e1
  have:¬ v < k:=fun z=>g.first v h1 z h3
  show 0 < k+1∧k+1≤e
  omega
theorem nb_at {T:List Nat} {s i c:Nat} (hs:s≤i) (hi:i < T.length) (h1:T.getD i 0=c) (h2:∀ v,s≤v→v < i→T.getD v 0≠c):nb T s c=i+1:=by
 unfold nb
 rw [(nx_some (by omega)).mpr ⟨hs,hi,h1,h2⟩]
 rfl
theorem nb_zero {T:List Nat} {s c:Nat} (hs:s≤T.length):nb T s c=0↔∀ v,s≤v→v < T.length→T.getD v 0≠c:=by
 rw [← nx_none hs]
 unfold nb
 cases nx T s c with
 | none=>exact ⟨fun _=>rfl,fun _=>rfl⟩
 | some k=>exact ⟨fun h=>(by cases h),fun h=>(by cases h)⟩
theorem whole_cut {L T:List Nat} {s e:Nat} (hs:s < e) (he:e≤T.length) (h:∀ c∈L,0 < nb T s c∧nb T s c≤e) (h2:∃ c∈L,nb T s c=e):Whole L ((T.drop s).take (e - s)):=by
 refine ⟨fun c hc=>?_,?_⟩
 ·obtain ⟨g1,g2⟩:=h c hc
  have g:=nb_some (by omega) g1
  exact (mem_cut he).mpr ⟨_,g.ge,by omega,g.at_⟩
 ·obtain ⟨c,hc,e1⟩:=h2
  refine ⟨c,hc,fun z=>?_⟩
  have e2:((T.drop s).take (e - s)).dropLast=(T.drop s).take (e - 1 - s):=by
   rw [List.dropLast_eq_take,List.take_take]
   congr 1
   rw [List.length_take,List.length_drop]
   omega
  rw [e2] at z
  obtain ⟨v,g1,g2,g3⟩:=(mem_cut (by omega)).mp z
  have g:=nb_some (c:=c) (show s≤T.length by omega) (by omega)
  exact g.first v g1 (by omega) g3
theorem slice_two (t:Str) {s e:Nat} (h2:e≤t.length):Txt.slice t (some ((s:Nat):Int)) (some ((e:Nat):Int))=S ((t.cps.toList.drop s).take (e - s)):=by
 have h:=slice_list t (some ((s:Nat):Int)) (some ((e:Nat):Int))
 rw [HT.sIx_nat,HT.sIx_nat,Nat.min_eq_left h2] at h
 rw [← S_of (Txt.slice t _ _),h]
 by_cases c:s≤t.length
 ·rw [Nat.min_eq_left c]
 ·have hl:=len_list t
  rw [Nat.min_eq_right (by omega),show e - t.length=0 by omega,show e - s=0 by omega,List.take_zero,List.take_zero]
theorem slice_from (t:Str) (s:Nat):Txt.slice t (some ((s:Nat):Int)) none=S (t.cps.toList.drop s):=by
 have hl:=len_list t
 have h:=slice_list t (some ((s:Nat):Int)) none
 rw [HT.sIx_nat,HT.sIx_none] at h
 rw [← S_of (Txt.slice t _ _),h]
 by_cases c:s≤t.length
 ·rw [Nat.min_eq_left c,List.take_of_length_le (by rw [List.length_drop]; omega)]
 ·rw [Nat.min_eq_right (by omega),Nat.sub_self,List.take_zero,List.drop_eq_nil_of_le (by omega)]
theorem strV_snoc (us:List (List Nat)) (u:List Nat):strV us ++ [V.str (S u)]=strV (us ++ [u]):=by
 unfold strV
 rw [List.map_append]
 rfl
theorem flat_snoc {ini:List (List Nat)} {p T:List Nat} {s e:Nat} (h:ini.flatten=T.take s) (hs:s≤e) (hp:p=(T.drop s).take (e - s)):(ini ++ [p]).flatten=T.take e:=by
 rw [List.flatten_append,h,hp]
 show T.take s ++ ([(T.drop s).take (e - s)]:List (List Nat)).flatten=_
 rw [List.flatten_cons,List.flatten_nil,List.append_nil]
 have:e=s+(e - s):=by omega
 conv=>rhs; rw [this]
 exact List.take_add.symm
inductive spArchesI (vs:List V) (H:Hp) (Q:VK):Prop
 | mk (l t:Str) (h1:vs=[.str l,.str t]) (h2:0 < l.length) (h3:l.length≤100) (h4:t.length≤100) (h5:∀ q ini last H',Same H H'→H' q=some (.tup (strV (ini ++ [last])))→Right l.cps.toList t.cps.toList ini last→Q (.ref q) H'):spArchesI vs H Q
def spArches:Sp:=fun vs H Q u3_=>spArchesI vs H Q
theorem ok_arches {f:Addr} {fd:FuncData} (F:Fun K "arches" "arches" s_arches f fd) (Z:Blt mg) (C_arch_end:Cal P w K mg base "arch_end" 2 ["letters","text","start"] spArchEnd):FnOk P w K mg base CX0 3 f fd ["letters","text"] spArches:=by
 refine F.ok sc_arches (fun vs H Q E h=>?_) (fun cdv A outer s H vs Q E hr h=>?_)
 ·obtain ⟨l,t,rfl,_⟩:=h
  rfl
 obtain ⟨l,t,rfl,hl0,hl1,ht,k⟩:=h
 refine ⟨_,(pss_cons (ps_set (i:=2) sc_arches.nd (by rfl) (Or.inl (by rfl)) (pe_lst pa_nil)) 
   (pss_cons (ps_set (i:=3) sc_arches.nd (by rfl) (Or.inl (by rfl)) pe_int) 
   (pss_cons (ps_set (i:=4) sc_arches.nd (by rfl) (Or.inl (by rfl)) (pe_c C_arch_end (hr.mono (by decide)) (pa_cons (pv 0) (pa_cons (pv 1) (pa_cons (pv 3) pa_nil))))) 
   (pss_cons (ps_while PassesOwn.never (pt_cmpR op_gt (pv 4) pe_int (nomark _)) 
    (pss_cons (ps_expr (pe_bmK (K:=K) PySem.F.plainAttrs_list PySem.F.slot_list_append PySem.F.type_list_append mt_append (pv 2) (pa_cons (pe_slice sl_str (pv 1) (po_some (pv 3)) (po_some (pv 4))) pa_nil))) 
    (pss_cons (ps_set (i:=3) sc_arches.nd (by rfl) (Or.inl (by rfl)) (pv 4)) 
    (pss_one (ps_set (i:=4) sc_arches.nd (by rfl) (Or.inl (by rfl)) (pe_c C_arch_end (hr.mono (by decide)) (pa_cons (pv 0) (pa_cons (pv 1) (pa_cons (pv 3) pa_nil))))))))) 
   (pss_cons (ps_expr (pe_bmK (K:=K) PySem.F.plainAttrs_list PySem.F.slot_list_append PySem.F.type_list_append mt_append (pv 2) (pa_cons (pe_slice sl_str (pv 1) (po_some (pv 3)) po_none) pa_nil))) 
   (pss_one (ps_ret (pe_callTy (call_tupK (K:=K)) (by rfl) Z.tuple bt_tuple (pa_cons (pv 2) pa_nil))))))))),?_⟩
 refine (let zz0:TS:=_; let zz1:TS:=tSeq _ zz0; let zz2:TS:=_; let zz3:TS:=tSeq _ zz2; let zz4:TS:=tSeq _ zz3; let zz5:TS:=tSeq (tWhile _ zz4) zz1; let zz6:TS:=tSeq _ zz5; let zz7:TS:=tSeq _ zz6; (?_:tSeq _ zz7 _ _ _))
 have htl:=len_list t
 refine ⟨(by show 0≤sizeLine; decide),fun q hq=>?_⟩
 have e1:=same_new hq (.lst [])
 have h1:upd H q (.lst []) q=some (.lst []):=upd_same
 generalize upd H q (.lst [])=H1 at e1 h1
 refine ⟨_,rfl,_,rfl,_,rfl,l,t,0,rfl,hl0,hl1,ht,Nat.zero_le _,fun e H2 e2 he=>?_⟩
 refine ⟨fun m σ H4=>∃ (s e:Nat) (ws:List (List Nat)),m=t.length - s∧σ=[some (.str l),some (.str t),some (.ref q),some (nI s),some (nI e)]∧H4 q=some (.lst (strV ws))∧Same H H4∧s≤t.length∧ws.length≤s∧AllIn l.cps.toList t.cps.toList ws.length s∧EndsAt l.cps.toList t.cps.toList ws.length s∧ArEnd l.cps.toList t.cps.toList s e∧ws.flatten=t.cps.toList.take s∧∀ p∈ws,Whole l.cps.toList p,
  ⟨_,0,e,[],rfl,rfl,e2 _ _ h1,e1.trans e2,Nat.zero_le _,Nat.le_refl _,AllIn.zero _ _,⟨[],rfl,(fun c hc=>by cases hc),rfl⟩,he,rfl,fun p hp=>by cases hp⟩,?_⟩
 rintro m σ H4 ⟨s',e,ws,rfl,rfl,h4,e4,hs,hwl,hA,hE,he,hfl,hwh⟩
 refine ⟨_,rfl,_,_,rfl,rfl,_,rfl,?_⟩
 refine ite2 (fun c1=>?_) (fun c1=>?_)
 ·have c2:(0:Int) < ((e:Nat):Int):=of_decide_eq_true c1
  have he':s' < e∧e≤t.cps.toList.length∧(∀ c∈l.cps.toList,0 < nb t.cps.toList s' c∧nb t.cps.toList s' c≤e)∧∃ c∈l.cps.toList,nb t.cps.toList s' c=e:=by
   rcases he with ⟨z,_⟩ | z
   ·omega
   ·exact z
  obtain ⟨h5,h6',h7,h8⟩:=he'
  have h6:e≤t.length:=by omega
  refine ⟨fun σ' H'=>∃ m',m' < t.length - s'∧_,fun _ _ z=>z,?_⟩
  refine ⟨_,rfl,.inl ⟨rfl,_,SqL.of h4⟩,_,rfl,_,rfl,_,rfl,_,rfl,_,rfl,t,rfl,line_le (by omega),q,_,_,rfl,rfl,h4,small1000 (by rw [strV_len]; omega),?_⟩
  rw [slice_two t h6,strV_snoc]
  generalize hy:(t.cps.toList.drop s').take (e - s')=y
  have e5:=same_put e4 hq (.lst (strV (ws ++ [y])))
  have h5q:upd H4 q (.lst (strV (ws ++ [y]))) q=some (.lst (strV (ws ++ [y]))):=upd_same
  generalize upd H4 q (.lst (strV (ws ++ [y])))=H5 at e5 h5q
  refine ⟨_,rfl,_,rfl,_,rfl,_,rfl,l,t,e,rfl,hl0,hl1,ht,h6,fun e' H6 e6 he6=>?_⟩
  have wl:(ws ++ [y]).length=ws.length+1:=by rw [List.length_append]; rfl
  refine ⟨t.length - e,by omega,e,e',ws ++ [y],rfl,rfl,e6 _ _ h5q,e5.trans e6,h6,by omega,?_,?_,he6,flat_snoc hfl (by omega) hy.symm,fun p hp=>?_⟩
  ·rw [wl]
   exact hA.next (by omega) (by omega) h7
  ·rw [wl]
   exact hE.next (by omega) h8
  ·rcases List.mem_append.mp hp with z | z
   ·exact hwh p z
   ·rw [List.mem_singleton.mp z,← hy]
    exact whole_cut h5 h6' h7 h8
 ·have hz:∃ c∈l.cps.toList,nb t.cps.toList s' c=0:=by
   rcases he with ⟨_,z⟩ | z
   ·exact z
   ·exact absurd (decide_eq_true (show (0:Int) < ((e:Nat):Int) by omega)) c1
  refine ⟨_,rfl,.inl ⟨rfl,_,SqL.of h4⟩,_,rfl,_,rfl,_,rfl,t,rfl,line_le (by omega),q,_,_,rfl,rfl,h4,small1000 (by rw [strV_len]; omega),?_⟩
  rw [slice_from t,strV_snoc]
  have e5:=same_put e4 hq (.lst (strV (ws ++ [t.cps.toList.drop s'])))
  have h5q:upd H4 q (.lst (strV (ws ++ [t.cps.toList.drop s']))) q=some (.lst (strV (ws ++ [t.cps.toList.drop s']))):=upd_same
  generalize upd H4 q (.lst (strV (ws ++ [t.cps.toList.drop s'])))=H5 at e5 h5q
  refine ⟨_,rfl,q,_,rfl,.inl ⟨SqL.of h5q,fun y' hy'=>?_⟩⟩
  refine k y' ws (t.cps.toList.drop s') _ (e5.trans (same_new hy' _)) upd_same ⟨?_,hwh,?_,Univ.of hA (hE.lack hz)⟩
  ·rw [flat_snoc hfl (e:=t.cps.toList.length) (by omega) (by rw [List.take_of_length_le (by rw [List.length_drop]; omega)]),List.take_length]
  ·obtain ⟨c,hc,z⟩:=hz
   refine ⟨c,hc,fun h=>?_⟩
   have h':c∈(t.cps.toList.drop s').take (t.cps.toList.length - s'):=by rw [List.take_of_length_le (by rw [List.length_drop]; omega)]; exact h
   obtain ⟨v,g1,g2,g3⟩:=(mem_cut (Nat.le_refl _)).mp h'
   exact (nb_zero (by omega)).mp z v g1 g2 g3
def kvA (r:Ar):Key × V:=(.inl (r.1:Int),.str (S r.2))
theorem kvA_val {rs:List Ar} (nd:(rs.map (·.1)).Nodup) {r:Ar} (h:r∈rs):valV (rs.map kvA) (.inl (r.1:Int))=some (.str (S r.2)):=by
 induction rs with
 | nil=>cases h
 | cons a rs ih=>
  rw [List.map_cons,List.nodup_cons] at nd
  rcases List.mem_cons.mp h with e | e
  ·rw [e,List.map_cons]
   exact valV_pos rfl
  ·rw [List.map_cons,valV_neg,ih nd.2 e]
   intro z
   have:((a.1:Nat):Int)=((r.1:Nat):Int):=Sum.inl.inj z
   have e2:a.1=r.1:=by omega
   exact nd.1 (e2▸List.mem_map_of_mem e)
theorem kvA_none {rs:List Ar} {x:Nat} (h:x∉rs.map (·.1)):valV (rs.map kvA) (.inl (x:Int))=none:=by
 induction rs with
 | nil=>rfl
 | cons a rs ih=>
  rw [List.map_cons,List.mem_cons] at h
  rw [List.map_cons,valV_neg,ih fun z=>h (.inr z)]
  intro z
  have:((a.1:Nat):Int)=((x:Nat):Int):=Sum.inl.inj z
  exact h (.inl (by omega))
theorem kvA_some {rs:List Ar} {x:Nat} (h:x∈rs.map (·.1)):∃ v,valV (rs.map kvA) (.inl (x:Int))=some v:=by
 induction rs with
 | nil=>cases h
 | cons a rs ih=>
  rw [List.map_cons]
  by_cases e:a.1=x
  ·exact ⟨_,valV_pos (by show Sum.inl ((a.1:Nat):Int)=_; rw [e])⟩
  ·rcases List.mem_cons.mp h with z | z
   ·exact absurd z.symm e
   ·obtain ⟨v,hv⟩:=ih z
    refine ⟨v,?_⟩
    rw [valV_neg,hv]
    intro z
    have:((a.1:Nat):Int)=((x:Nat):Int):=Sum.inl.inj z
    exact e (by omega)
theorem kvA_put {fr:List Ar} {q:Ar} (h:q.1∉fr.map (·.1)):putK (fr.map kvA) (.inl (q.1:Int)) (.str (S q.2))=(setd fr q).map kvA:=by
 unfold setd putK
 rw [if_neg h,if_neg,List.map_append]
 ·rfl
 intro z
 obtain ⟨kv,hk,e⟩:=List.any_eq_true.mp z
 obtain ⟨r,hr,rfl⟩:=List.mem_map.mp hk
 have e2:(Sum.inl ((r.1:Nat):Int):Key)=.inl (q.1:Int):=of_decide_eq_true e
 have:((r.1:Nat):Int)=((q.1:Nat):Int):=Sum.inl.inj e2
 have e3:r.1=q.1:=by omega
 exact h (e3▸List.mem_map_of_mem hr)
theorem acs_take {L T:List Nat} {rs:List Ar} {j:Nat} {r:Ar} (h:rs[j]? = some r):acs L T (rs.take (j+1))=acs L T (rs.take j) ++ L.map fun c=>(nb T r.1 c,r.2 ++ [c]):=by
 unfold acs
 rw [List.take_add_one,h,List.flatMap_append]
 simp
theorem acs_cut {L T:List Nat} {rs:List Ar} {j m:Nat} {r:Ar} {c:Nat} (h:rs[j]? = some r) (hc:L[m]? = some c):∃ post,acs L T rs=(acs L T (rs.take j) ++ (L.take m).map fun c=>(nb T r.1 c,r.2 ++ [c])) ++ (nb T r.1 c,r.2 ++ [c]) :: post:=by
 have e1:rs=rs.take (j+1) ++ rs.drop (j+1):=(List.take_append_drop _ _).symm
 have e2:L=L.take m ++ c :: L.drop (m+1):=by
  rw [List.getElem?_eq_some_iff] at hc
  obtain ⟨hm,e⟩:=hc
  rw [← e,← List.drop_eq_getElem_cons hm,List.take_append_drop]
 have e3:acs L T rs=acs L T (rs.take (j+1)) ++ acs L T (rs.drop (j+1)):=by
  conv=>lhs; rw [e1]
  exact List.flatMap_append ..
 refine ⟨((L.drop (m+1)).map fun c=>(nb T r.1 c,r.2 ++ [c])) ++ acs L T (rs.drop (j+1)),?_⟩
 rw [e3,acs_take h]
 conv=>lhs; lhs; rhs; rw [e2]
 simp
theorem few_keys {T:List Nat} {fr:List Ar} (nd:(fr.map (·.1)).Nodup) (h:∀ q∈fr,q.1≤T.length):fr.length≤T.length+1:=by
 have:=nodup_lt (T.length+1) (fr.map (·.1)) nd fun x hx=>by
  obtain ⟨q,hq,e⟩:=List.mem_map.mp hx
  have:=h q hq
  omega
 rwa [List.length_map] at this
inductive spAbsentI (vs:List V) (H:Hp) (Q:VK):Prop
 | mk (l t:Str) (n:Nat) (h1:vs=[.str l,.str t]) (h2:IsLetters l n) (h3:0 < n) (h4:n≤26) (h5:t.length≤100) (h6:∀ w H',FirstAbs l.cps.toList t.cps.toList w→w.length≤t.length+1→Same H H'→Q (.str (S w)) H'):spAbsentI vs H Q
def spAbsent:Sp:=fun vs H Q u3_=>spAbsentI vs H Q
theorem ok_absent {f:Addr} {fd:FuncData} (F:Fun K "absent" "absent" s_absent f fd) (Z:Blt mg) (C_left_behind:Cal P w K mg base "left_behind" 1 ["text","start","letter"] spLB):FnOk P w K mg base CX0 2 f fd ["letters","text"] spAbsent:=by
 refine F.ok sc_absent (fun vs H Q E h=>?_) (fun cdv A outer s H vs Q E hr h=>?_)
 ·obtain ⟨l,t,n,rfl,_⟩:=h
  rfl
 obtain ⟨l,t,n,rfl,hl,hn0,hn1,ht,k⟩:=h
 have hll:=len_list l
 have htl:=len_list t
 have hln:l.cps.toList.length=n:=hl.1
 have hso:l.cps.toList.Pairwise (· < ·):=hl.2.1
 have hne:l.cps.toList≠[]:=fun e=>by rw [e] at hln; simp at hln; omega
 refine ⟨_,(pss_cons (ps_set (i:=2) sc_absent.nd (by rfl) (Or.inl (by rfl)) (pe_disp (pps_cons pe_int pe_str pps_nil) (by rfl) (by rfl) (by intro h; cases h) (by show 1≤15; decide))) 
   (pss_one (ps_while PassesOwn.never (pt_truthK (K:=K) pe_bl (fun _=>rfl)) 
    (pss_cons (ps_set (i:=3) sc_absent.nd (by rfl) (Or.inl (by rfl)) pe_dnewK) 
    (pss_cons (ps_for PassesOwn.never (by rfl) (pi_dict (pv 2)) (pg_name (i:=4) sc_absent.nd (by rfl) (Or.inl (by rfl))) 
     (pss_one (ps_for PassesOwn.never (by rfl) (pi_str (pv 0)) (pg_name (i:=5) sc_absent.nd (by rfl) (Or.inl (by rfl))) 
      (pss_cons (ps_set (i:=6) sc_absent.nd (by rfl) (Or.inl (by rfl)) (pe_op op_add_str (pe_dget (hu_of hr) (pv 2) (pv 4) (fun _ _=>rfl)) (pv 5))) 
      (pss_cons (ps_set (i:=7) sc_absent.nd (by rfl) (Or.inl (by rfl)) (pe_c C_left_behind (hr.mono (by decide)) (pa_cons (pv 1) (pa_cons (pv 4) (pa_cons (pv 5) pa_nil))))) 
      (pss_cons (ps_if (pt_cmpR op_eq (pv 7) pe_int (nomark _)) 
       (pss_one (ps_ret (pv 6))) pss_nil) 
      (pss_one (ps_expr (pe_dset (pv 3) (pv 7) (pv 6) ⟨rfl,rfl,rfl,rfl⟩))))))))) 
    (pss_one (ps_set (i:=2) sc_absent.nd (by rfl) (Or.inl (by rfl)) (pv 3)))))))),?_⟩
 refine (let zz0:TS:=_; let zz1:TS:=_; let zz2:TS:=tSeq _ zz1; let zz3:TS:=tSeq _ zz2; let zz4:TS:=tSeq _ zz3; let zz5:TS:=(tFor _ _ zz4); let zz6:TS:=tSeq (tFor _ _ zz5) zz0; let zz7:TS:=tSeq _ zz6; let zz8:TS:=(tWhile _ zz7); (?_:tSeq _ zz8 _ _ _))
 intro lv hlv
 refine ⟨upd_same,[(.inl 0,.str (S []))],by rw [S_nil]; rfl,by decide,?_⟩
 have e1:Same H (upd (upd H lv (.dK [])) lv (.dK [(.inl 0,.str (S []))])):=same_put (same_new hlv _) hlv _
 refine ⟨fun m σ H4=>∃ (i:Nat) (rs:List Ar) (lv:Addr) (v3 v4 v5 v6 v7:Option V),m=t.length+1 - i∧σ=[some (.str l),some (.str t),some (.ref lv),v3,v4,v5,v6,v7]∧H lv=none∧H4 lv=some (.dK (rs.map kvA))∧Same H H4∧ALv l.cps.toList t.cps.toList i rs,
  ⟨_,0,[(0,[])],lv,none,none,none,none,none,rfl,rfl,hlv,upd_same,e1,ALv.zero _ _⟩,?_⟩
 clear e1 hlv lv
 rintro m σ H4 ⟨i,rs,lv,v3,v4,v5,v6,v7,rfl,rfl,hlv,h4v,e4,A4⟩
 have hil:=A4.le hne
 refine ⟨true,rfl,iteT ⟨fun σ' H'=>∃ m',m' < t.length+1 - i∧_,fun _ _ z=>z,?_⟩⟩
 intro lg hlg
 have hlg0:=none_of e4 hlg
 have hvg:lv≠lg:=fun e=>by rw [e] at h4v; rw [h4v] at hlg; cases hlg
 have s5:=same_new hlg (.dK [])
 have h5v:=s5 _ _ h4v
 have e5:=e4.trans s5
 have h5g:upd H4 lg (.dK []) lg=some (.dK []):=upd_same
 generalize upd H4 lg (.dK [])=H5 at s5 h5v e5 h5g ⊢
 refine ⟨_,rfl,lv,_,rfl,.inl ⟨h5v,fun o=>?_⟩⟩
 have e6:=same_put e5 hlv (.frz o (.dK (rs.map kvA)))
 have h6v:upd H5 lv (.frz o (.dK (rs.map kvA))) lv=some (.frz o (.dK (rs.map kvA))):=upd_same
 have h6g:upd H5 lv (.frz o (.dK (rs.map kvA))) lg=some (.dK []):=by rw [upd_ne (Ne.symm hvg)]; exact h5g
 generalize upd H5 lv (.frz o (.dK (rs.map kvA)))=H6 at e6 h6v h6g ⊢
 have kk:∀ {j m:Nat} {r:Ar} {c:Nat} {fr:List Ar},rs[j]? = some r→l.cps.toList[m]? = some c→AFr (acs l.cps.toList t.cps.toList (rs.take j) ++ (l.cps.toList.take m).map fun c=>(nb t.cps.toList r.1 c,r.2 ++ [c])) fr→nb t.cps.toList r.1 c≠0→
   AFr (acs l.cps.toList t.cps.toList (rs.take j) ++ (l.cps.toList.take (m+1)).map fun c=>(nb t.cps.toList r.1 c,r.2 ++ [c])) (setd fr (nb t.cps.toList r.1 c,r.2 ++ [c])):=fun {j m r c fr} hj hm A hz=>by
  obtain ⟨post,e⟩:=acs_cut (T:=t.cps.toList) hj hm
  have so:=acs_sorted (T:=t.cps.toList) hso A4.so
  rw [e] at so
  have:=A.step (q:=(nb t.cps.toList r.1 c,r.2 ++ [c])) hz (so.sublist (by
   refine List.Sublist.append (List.Sublist.refl _) ?_
   exact List.Sublist.cons_cons _ (List.nil_sublist _)))
  rw [List.take_add_one,hm,List.map_append,← List.append_assoc]
  exact this
 refine for_dict (a:=lv) (o:=o) (kvs:=rs.map kvA) (fun j σ H7=>∃ (fr:List Ar) (v4 v5 v6 v7:Option V),σ=[some (.str l),some (.str t),some (.ref lv),some (.ref lg),v4,v5,v6,v7]∧H7 lv=some (.frz o (.dK (rs.map kvA)))∧H7 lg=some (.dK (fr.map kvA))∧Same H H7∧AFr (acs l.cps.toList t.cps.toList (rs.take j)) fr)
  ⟨[],v4,v5,v6,v7,rfl,h6v,h6g,e6,by rw [List.take_zero]; exact AFr.nil⟩ (fun j σ H7 _ h=>?_) ?_ ?_
 ·obtain ⟨fr,v4,v5,v6,v7,rfl,h1,_⟩:=h
  exact h1
 ·rintro j kx vx σ H7 hj ⟨fr,v4,v5,v6,v7,rfl,h7v,h7g,e7,A7⟩
  rw [List.getElem?_map] at hj
  cases hr':rs[j]? with
  | none=>rw [hr'] at hj; cases hj
  | some r=>
   rw [hr'] at hj
   cases hj
   have hrm:=List.mem_of_getElem? hr'
   obtain ⟨g1,g2,g3⟩:=A4.ok r hrm
   have g4:=pos_le (Nat.zero_le _) g2
   refine ⟨_,rfl,l,rfl,?_⟩
   refine for_str (fun m σ H7=>∃ (fr:List Ar) (v5 v6 v7:Option V),σ=[some (.str l),some (.str t),some (.ref lv),some (.ref lg),some (nI r.1),v5,v6,v7]∧H7 lv=some (.frz o (.dK (rs.map kvA)))∧H7 lg=some (.dK (fr.map kvA))∧Same H H7∧AFr (acs l.cps.toList t.cps.toList (rs.take j) ++ (l.cps.toList.take m).map fun c=>(nb t.cps.toList r.1 c,r.2 ++ [c])) fr)
    ⟨fr,v5,v6,v7,rfl,h7v,h7g,e7,by rw [List.take_zero,List.map_nil,List.append_nil]; exact A7⟩ ?_ ?_
   ·rintro m c σ H8 hm ⟨fr,v5,v6,v7,rfl,h8v,h8g,e8,A8⟩
    have s1:(S r.2).length+(⟨#[c]⟩:Str).length≤1000:=by
     rw [S_len]
     show r.2.length+1≤1000
     omega
    refine ⟨_,rfl,_,rfl,lv,.str (S r.2),rfl,.inl ⟨_,.inl (r.1:Int),.inr ⟨o,h8v⟩,rfl,(kvA_val A4.nd hrm).symm⟩,_,rfl,_,_,rfl,rfl,line_le s1,?_⟩
    rw [S_snoc]
    refine ⟨_,rfl,_,rfl,_,rfl,t,r.1,c,rfl,by omega,?_⟩
    rw [lb_nb]
    refine ⟨_,rfl,rfl,_,rfl,?_⟩
    refine ite2 (fun c1=>?_) (fun c1=>?_)
    ·have c2:nb t.cps.toList r.1 c=0:=by
      have:((nb t.cps.toList r.1 c:Nat):Int)=0:=V.int.inj (of_decide_eq_true c1)
      omega
     obtain ⟨post,e⟩:=acs_cut (T:=t.cps.toList) hr' hm
     obtain ⟨f1,f2⟩:=A4.found hso hne e A8.nz c2
     have f3:(r.2 ++ [c]).length=i+1:=f2
     refine ⟨_,rfl,k _ H8 f1 ?_ e8⟩
     omega
    ·have c2:nb t.cps.toList r.1 c≠0:=fun z=>c1 (decide_eq_true (show V.int ((nb t.cps.toList r.1 c:Nat):Int)=V.int 0 by rw [z]; rfl))
     have hk:=kk hr' hm A8 c2
     have hfl:fr.length≤t.cps.toList.length+1:=few_keys A8.nd fun q hq=>by
      have h1:=A8.sub.subset hq
      obtain ⟨post,e⟩:=acs_cut (T:=t.cps.toList) hr' hm
      have h2:q∈acs l.cps.toList t.cps.toList rs:=by rw [e]; exact List.mem_append_left _ h1
      obtain ⟨r2,hr2,c2,_,eq⟩:=mem_acs.mp h2
      rw [eq]
      exact nb_le (pos_le (Nat.zero_le _) (A4.ok r2 hr2).2.1)
     refine ⟨_,rfl,lg,rfl,.inl ⟨_,.inl h8g⟩,_,rfl,_,rfl,_,.inl ((nb t.cps.toList r.1 c:Nat):Int),h8g,rfl,by rw [List.length_map,sizeLine_eq]; omega,fun v hv=>?_,fun hv=>?_⟩
     ·have hin:nb t.cps.toList r.1 c∈fr.map (·.1):=Classical.byContradiction fun z=>by rw [kvA_none z] at hv; cases hv
      have:setd fr (nb t.cps.toList r.1 c,r.2 ++ [c])=fr:=if_pos hin
      rw [this] at hk
      exact ⟨fr,_,_,_,rfl,h8v,h8g,e8,hk⟩
     ·have hin:nb t.cps.toList r.1 c∉fr.map (·.1):=fun z=>by
       obtain ⟨v,e⟩:=kvA_some z
       rw [e] at hv
       cases hv
      have e9:=kvA_put (q:=(nb t.cps.toList r.1 c,r.2 ++ [c])) hin
      refine ⟨setd fr (nb t.cps.toList r.1 c,r.2 ++ [c]),_,_,_,rfl,by rw [upd_ne hvg]; exact h8v,?_,same_put e8 hlg0 _,hk⟩
      rw [← e9]
      exact upd_same
   ·rintro σ H8 ⟨fr,v5,v6,v7,rfl,h8v,h8g,e8,A8⟩
    rw [List.take_length] at A8
    exact ⟨fr,_,_,_,_,rfl,h8v,h8g,e8,by rw [acs_take hr']; exact A8⟩
 ·rintro σ H7 ⟨fr,v4,v5,v6,v7,rfl,h7v,h7g,e7,A7⟩
  rw [List.length_map,List.take_length] at A7
  have A9:=A4.next hso A7
  have:=A9.le hne
  exact ⟨_,rfl,t.length+1 - (i+1),by omega,i+1,fr,lg,_,_,_,_,_,rfl,rfl,hlg0,h7g,e7,A9⟩
def stV:Option Nat→V
 | none=>.non
 | some k=>nI (k+1)
inductive spStepI (vs:List V) (H:Hp) (Q:VK):Prop
 | mk (t:Str) (a c:Nat) (h1:vs=[.str t,nI a,.str ⟨#[c]⟩]) (h2:a≤t.length) (h3:t.length≤100) (h4:Q (stV (nx t.cps.toList a c)) H):spStepI vs H Q
def spStep:Sp:=fun vs H Q u3_=>spStepI vs H Q
theorem ok_law_step {f:Addr} {fd:FuncData} (F:Fun K "_law_step" "_law_step" s_law_step f fd) (Z:Blt mg):FnOk P w K mg base CX0 1 f fd ["_law_text","_law_at","_law_letter"] spStep:=by
 refine F.ok sc_law_step (fun vs H Q E h=>?_) (fun cdv A outer s H vs Q E hr h=>?_)
 ·obtain ⟨t,a,c,rfl,_⟩:=h
  rfl
 obtain ⟨t,a,c,rfl,ha,ht,k⟩:=h
 have htl:=len_list t
 refine ⟨_,(pss_cons (ps_for PassesOwn.never (by rfl) (pi_range2 (by rfl) Z.range (pa_cons (pv 1) (pa_cons (pe_callB call_len_str (by rfl) Z.len bt_len (pa_cons (pv 0) pa_nil)) pa_nil))) (pg_name (i:=3) sc_law_step.nd (by rfl) (Or.inl (by rfl))) 
    (pss_one (ps_if (pt_cmpR op_eq (pe_ix ix_str (pv 0) (pv 3) (fun _ _=>rfl)) (pv 2) (nomark _)) 
     (pss_one (ps_ret (pe_op op_add (pv 3) pe_int))) pss_nil))) 
   (pss_one (ps_ret pe_non))),?_⟩
 refine ⟨_,rfl,_,rfl,t,rfl,line_le (by omega),(a:Int),(t.length:Int),rfl,⟨by omega,by omega,by omega,by omega⟩,?_⟩
 refine for_range (lo:=((a:Nat):Int)) (n:=((t.length:Int) - (a:Int)).toNat) (fun i σ H2=>(∃ v,σ=[some (.str t),some (nI a),some (.str ⟨#[c]⟩),v])∧H2=H∧∀ v,a≤v→v < a+i→t.cps.toList.getD v 0≠c) ⟨⟨none,rfl⟩,rfl,fun v h1 h2=>absurd h2 (by omega)⟩ ?_ ?_
 ·rintro i σ H2 hi ⟨⟨v,rfl⟩,rfl,hno⟩
  have hn:a+i < t.cps.toList.length:=by omega
  have e0:((a:Nat):Int)+(i:Int)=((a+i:Nat):Int):=by omega
  rw [e0]
  refine ⟨_,rfl,_,rfl,t,_,_,rfl,rfl,line_le (by omega),atI_code hn,_,rfl,rfl,_,rfl,?_⟩
  refine ite2 (fun c1=>?_) (fun c1=>?_)
  ·have hc1:t.cps.toList.getD (a+i) 0=c:=(one_eq _ _).mp (of_decide_eq_true c1)
   refine ⟨_,rfl,_,_,rfl,rfl,?_⟩
   rw [(nx_some (by omega)).mpr ⟨by omega,hn,hc1,fun v h1 h2=>hno v h1 (by omega)⟩] at k
   exact k
  ·have hc1:t.cps.toList.getD (a+i) 0≠c:=fun h=>c1 (decide_eq_true ((one_eq _ _).mpr h))
   refine ⟨⟨_,rfl⟩,rfl,fun v h1 h2=>?_⟩
   by_cases z:v=a+i
   ·rw [z]; exact hc1
   ·exact hno v h1 (by omega)
 ·rintro σ H2 ⟨_,rfl,hno⟩
  rw [(nx_none (by omega)).mpr fun v h1 h2=>hno v h1 (by omega)] at k
  exact k
theorem inV_one (c:Nat) (cs:List Nat):inV (.str ⟨#[c]⟩) (cs.map oneS)=decide (c∈cs):=by
 unfold inV
 rw [List.any_map,Bool.eq_iff_iff,decide_eq_true_eq,List.any_eq_true]
 constructor
 ·rintro ⟨d,hd,e⟩
  have e2:((⟨#[d]⟩:Str)==⟨#[c]⟩)=true:=e
  rw [str_one_beq,beq_iff_eq] at e2
  rw [← e2]
  exact hd
 ·intro h
  refine ⟨c,h,?_⟩
  show ((⟨#[c]⟩:Str)==⟨#[c]⟩)=true
  rw [str_one_beq]
  simp
theorem ones_flat (cs:List Nat):(cs.map oneS).all flatV=true:=by
 rw [List.all_map]
 exact List.all_eq_true.mpr fun _ _=>rfl
structure Lf (L T:List Nat) (n s i:Nat) (lf:List Nat):Prop where
 le:s≤i
 all:AllIn L T n s
 ends:EndsAt L T n s
 nd:lf.Nodup
 mem:∀ c,c∈lf↔c∈L∧∀ v,s≤v→v < i→T.getD v 0≠c
theorem Lf.new {L T:List Nat} {n s:Nat} (a:AllIn L T n s) (e:EndsAt L T n s) (nd:L.Nodup):Lf L T n s s L:=⟨Nat.le_refl _,a,e,nd,fun c=>⟨fun h=>⟨h,fun v h1 h2=>absurd h2 (by omega)⟩,fun h=>h.1⟩⟩
theorem Lf.go {L T:List Nat} {n s i c:Nat} {lf:List Nat} (h:Lf L T n s i lf) (hc:T[i]? = some c):Lf L T n s (i+1) (lf.erase c):=by
 have hg:T.getD i 0=c:=by rw [List.getD_eq_getElem?_getD,hc]; rfl
 refine ⟨by have:=h.le; omega,h.all,h.ends,h.nd.erase c,fun d=>?_⟩
 rw [h.nd.mem_erase_iff,h.mem d]
 constructor
 ·rintro ⟨h1,h2,h3⟩
  refine ⟨h2,fun v g1 g2=>?_⟩
  by_cases z:v=i
  ·rw [z,hg]; exact fun e=>h1 e.symm
  ·exact h3 v g1 (by omega)
 ·rintro ⟨h1,h2⟩
  exact ⟨fun e=>h2 i h.le (by omega) (by rw [hg,e]),h1,fun v g1 g2=>h2 v g1 (by omega)⟩
theorem Lf.next {L T:List Nat} {n s i c:Nat} {lf:List Nat} (nd:L.Nodup) (h:Lf L T n s i lf) (hc:T[i]? = some c) (h0:lf≠[]) (h1:lf.erase c=[]):Lf L T (n+1) (i+1) (i+1) L:=by
 have hi:i < T.length:=(List.getElem?_eq_some_iff.mp hc).1
 have hg:T.getD i 0=c:=by rw [List.getD_eq_getElem?_getD,hc]; rfl
 have g:=h.go hc
 have hcl:c∈lf:=Classical.byContradiction fun z=>h0 (by rw [List.erase_of_not_mem z] at h1; exact h1)
 obtain ⟨cL,cno⟩:=(h.mem c).mp hcl
 have hall:∀ d∈L,0 < nb T s d∧nb T s d≤i+1:=fun d hd=>nb_in (by omega) (Classical.byContradiction fun z=>by
  have:d∈lf.erase c:=(g.mem d).mpr ⟨hd,fun v g1 g2 e=>z ⟨v,g1,g2,e⟩⟩
  rw [h1] at this
  cases this)
 have le:=h.le
 exact Lf.new (h.all.next (by omega) (by omega) hall) (h.ends.next (by omega) ⟨c,cL,nb_at le hi hg cno⟩) nd
theorem Lf.done {L T:List Nat} {n s:Nat} {lf:List Nat} (h:Lf L T n s T.length lf) (h0:lf≠[]):Univ L T n:=by
 obtain ⟨c,hc⟩:=List.exists_mem_of_ne_nil lf h0
 obtain ⟨h1,h2⟩:=(h.mem c).mp hc
 exact Univ.of h.all (h.ends.lack ⟨c,h1,(nb_zero h.le).mpr h2⟩)
inductive spArLI (vs:List V) (H:Hp) (Q:VK):Prop
 | mk (l t:Str) (h1:vs=[.str l,.str t]) (h2:0 < l.length) (h3:l.length≤100) (h4:l.cps.toList.Nodup) (h5:t.length≤100) (h6:∀ n H',Same H H'→Univ l.cps.toList t.cps.toList n→Q (nI n) H'):spArLI vs H Q
def spArL:Sp:=fun vs H Q u3_=>spArLI vs H Q
theorem ok_law_arches {f:Addr} {fd:FuncData} (F:Fun K "_law_arches" "_law_arches" s_law_arches f fd) (Z:Blt mg):FnOk P w K mg base CX0 1 f fd ["_law_letters_here","_law_text"] spArL:=by
 refine F.ok sc_law_arches (fun vs H Q E h=>?_) (fun cdv A outer s H vs Q E hr h=>?_)
 ·obtain ⟨l,t,rfl,_⟩:=h
  rfl
 obtain ⟨l,t,rfl,hl0,hl1,hnd,ht,k⟩:=h
 have htl:=len_list t
 have hll:=len_list l
 refine ⟨_,(pss_cons (ps_set (i:=2) sc_law_arches.nd (by rfl) (Or.inl (by rfl)) pe_int) 
   (pss_cons (ps_set (i:=3) sc_law_arches.nd (by rfl) (Or.inl (by rfl)) (pe_callTy (call_list_text (by rfl)) (by rfl) Z.list bt_list (pa_cons (pv 0) pa_nil))) 
   (pss_cons (ps_for PassesOwn.never (by rfl) (pi_str (pv 1)) (pg_name (i:=4) sc_law_arches.nd (by rfl) (Or.inl (by rfl))) 
    (pss_cut (ps_if (pt_cmpR (op_inK (K:=K)) (pv 4) (pv 3) (by with_unfolding_all rfl)) 
     (pss_one (ps_expr (pe_bmK (K:=K) PySem.F.plainAttrs_list PySem.F.slot_list_remove PySem.F.type_list_remove mt_remove (pv 3) (pa_cons (pv 4) pa_nil)))) pss_nil) 
    (pss_one (ps_if (pt_cmpR op_eq (pe_callB (call_lenK (K:=K)) (by rfl) Z.len bt_len (pa_cons (pv 3) pa_nil)) pe_int (nomark _)) 
     (pss_cons (ps_set (i:=2) sc_law_arches.nd (by rfl) (Or.inl (by rfl)) (pe_op op_add (pv 2) pe_int)) 
     (pss_one (ps_set (i:=3) sc_law_arches.nd (by rfl) (Or.inl (by rfl)) (pe_callTy (call_list_text (by rfl)) (by rfl) Z.list bt_list (pa_cons (pv 0) pa_nil))))) pss_nil)))) 
   (pss_one (ps_ret (pv 2)))))),?_⟩
 refine ⟨_,rfl,l,rfl,line_le (by omega),fun q hq=>?_⟩
 have hne:l.cps.toList≠[]:=fun e=>by rw [e] at hll; simp at hll; omega
 have e1:=same_new hq (.lst (l.cps.toList.map oneS))
 have h1:upd H q (.lst (l.cps.toList.map oneS)) q=some (.lst (l.cps.toList.map oneS)):=upd_same
 generalize upd H q (.lst (l.cps.toList.map oneS))=H1 at e1 h1
 refine ⟨_,rfl,t,rfl,?_⟩
 refine for_str (cs:=t.cps.toList) (fun i σ H2=>∃ (n s:Nat) (lf:List Nat) (q:Addr) (v:Option V),σ=[some (.str l),some (.str t),some (nI n),some (.ref q),v]∧H q=none∧H2 q=some (.lst (lf.map oneS))∧Same H H2∧lf≠[]∧Lf l.cps.toList t.cps.toList n s i lf)
  ⟨0,0,_,q,none,rfl,hq,h1,e1,hne,Lf.new (AllIn.zero _ _) ⟨[],rfl,(fun c hc=>by cases hc),rfl⟩ hnd⟩ ?_ ?_
 ·rintro i c σ H2 hc ⟨n,s',lf,q,v,rfl,hq,h2,e2,h0,g⟩
  refine ⟨fun σ' H'=>σ'=[some (.str l),some (.str t),some (nI n),some (.ref q),some (.str ⟨#[c]⟩)]∧H' q=some (.lst ((lf.erase c).map oneS))∧Same H H',?_,?_⟩
  ·refine ⟨_,rfl,_,rfl,q,_,rfl,.inl (SqL.of h2),rfl,ones_flat lf,_,rfl,?_⟩
   refine ite2 (fun c1=>?_) (fun c1=>?_)
   ·have c2:c∈lf:=of_decide_eq_true ((inV_one c lf).symm.trans c1)
    refine ⟨_,rfl,.inl ⟨rfl,_,SqL.of h2⟩,_,rfl,q,lf,c,rfl,rfl,h2,c2,rfl,upd_same,same_put e2 hq _⟩
   ·have c2:c∉lf:=fun z=>c1 ((inV_one c lf).trans (decide_eq_true z))
    refine ⟨rfl,?_,e2⟩
    rw [List.erase_of_not_mem c2]
    exact h2
  ·rintro σ3 H3 ⟨rfl,h3,e3⟩
   refine ⟨_,rfl,q,_,rfl,.inl (SqL.of h3),rfl,_,rfl,?_⟩
   rw [List.length_map]
   refine ite2 (fun c1=>?_) (fun c1=>?_)
   ·have c2:lf.erase c=[]:=List.eq_nil_of_length_eq_zero (by have:(((lf.erase c).length:Nat):Int)=0:=V.int.inj (of_decide_eq_true c1); omega)
    refine ⟨_,rfl,_,_,rfl,rfl,_,rfl,l,rfl,line_le (by omega),fun q2 hq2=>?_⟩
    exact ⟨n+1,i+1,_,q2,_,rfl,none_of e3 hq2,upd_same,e3.trans (same_new hq2 _),hne,g.next hnd hc h0 c2⟩
   ·have c2:lf.erase c≠[]:=fun z=>c1 (decide_eq_true (by rw [z]; rfl))
    exact ⟨n,s',_,q,_,rfl,hq,h3,e3,c2,g.go hc⟩
 ·rintro σ H2 ⟨n,s',lf,q,v,rfl,hq,h2,e2,h0,g⟩
  exact ⟨_,rfl,k n H2 e2 (g.done h0)⟩
theorem signs_iff (z z':Str):(∀ y,y∈L2.signs z↔y∈L2.signs z')↔∀ c,c∈z.cps.toList↔c∈z'.cps.toList:=by
 have h:∀ (x:Str) (c:Nat),(⟨#[c]⟩:Str)∈L2.signs x↔c∈x.cps.toList:=fun x c=>by
  unfold L2.signs
  rw [List.mem_map]
  constructor
  ·rintro ⟨d,hd,e⟩
   have:d=c:=by injection e with e; simpa using e
   rw [← this]
   exact hd
  ·exact fun q=>⟨c,q,rfl⟩
 constructor
 ·exact fun q c=>by rw [← h z c,← h z' c]; exact q _
 ·intro q y
  constructor
  ·intro hy
   obtain ⟨c,hc,e⟩:=List.mem_map.mp (show y∈z.cps.toList.map fun c=>(⟨#[c]⟩:Str) from hy)
   rw [← e]
   exact (h z' c).mpr ((q c).mp hc)
  ·intro hy
   obtain ⟨c,hc,e⟩:=List.mem_map.mp (show y∈z'.cps.toList.map fun c=>(⟨#[c]⟩:Str) from hy)
   rw [← e]
   exact (h z c).mpr ((q c).mpr hc)
theorem two_sets {W:World} {σ:L2.St} {H:Hp} {Q:VK} {ta tb:TE} {neg:Bool} {z z':Str} (h1:z.length≤1000) (h2:z'.length≤1000) (ha:∀ R:VK,R (.str z) H→ta σ H R) (hb:∀ (H':Hp) (R:VK),Same H H'→R (.str z') H'→tb σ H' R)
  (k:∀ (r:Bool) H',Same H H'→(r=true↔∀ c,c∈z.cps.toList↔c∈z'.cps.toList)→Q (.bl (r ^^ neg)) H'):tOp (rSets neg W) (tCB (rSet W) (tCons ta tNil)) (tCB (rSet W) (tCons tb tNil)) σ H Q:=by
 refine ha _ ⟨z,rfl,by omega,fun a na=>?_⟩
 have e1:=same_new na (setH W a (L2.signs z) z.length)
 have g1:upd H a (setH W a (L2.signs z) z.length) a=some (setH W a (L2.signs z) z.length):=upd_same
 generalize upd H a (setH W a (L2.signs z) z.length)=H1 at e1 g1
 refine hb H1 _ e1 ⟨z',rfl,by omega,fun b nb=>?_⟩
 have e2:=same_new nb (setH W b (L2.signs z') z'.length)
 exact ⟨a,b,_,_,_,_,rfl,rfl,e2 _ _ g1,upd_same,by omega,fun r hr=>k r _ (e1.trans e2) (hr.trans (signs_iff z z'))⟩
theorem join_flat (ps:List (List Nat)):Txt.join (Str.ofString "") (ps.map S)=S ps.flatten:=by
 rw [← S_of (Txt.join _ _),join_nil_list,List.map_map]
 congr 1
 have:(fun y:Str=>y.cps.toList) ∘ S=id:=rfl
 rw [this,List.map_id]
theorem strV_S (ps:List (List Nat)):strV ps=(ps.map S).map V.str:=by
 unfold strV
 rw [List.map_map]
 rfl
theorem sum_S (ps:List (List Nat)):((ps.map S).map (·.length)).sum=ps.flatten.length:=by
 rw [List.length_flatten,List.map_map]
 congr 1
theorem slice_but (z:List Nat):Txt.slice (S z) none (some (-1))=S z.dropLast:=by
 have h:=slice_list (S z) none (some (-1))
 rw [HT.sIx_none] at h
 have e:HT.sIx (S z).length (S z).length (some (-1))=z.length - 1:=by
  rw [S_len]
  show (if (-1:Int) < 0 then ((-1:Int)+(z.length:Int)).toNat else min (-1:Int).toNat z.length)=_
  rw [if_pos (by decide)]
  omega
 rw [e,List.drop_zero,Nat.sub_zero] at h
 rw [← S_of (Txt.slice _ _ _),h,List.dropLast_eq_take]
inductive spPRI (vs:List V) (H:Hp) (Q:VK):Prop
 | mk (l t:Str) (q:Addr) (ini:List (List Nat)) (last:List Nat) (h1:vs=[.str l,.str t,.ref q]) (h2:H q=some (.tup (strV (ini ++ [last])))) (h3:Right l.cps.toList t.cps.toList ini last) (h4:0 < l.length) (h5:l.length≤100) (h6:l.cps.toList.Nodup) (h7:t.length≤100) (h8:(∀ c∈t.cps.toList,c∈l.cps.toList)) (h9:∀ H',Same H H'→Q (.bl true) H'):spPRI vs H Q
def spPR:Sp:=fun vs H Q u3_=>spPRI vs H Q
theorem ok_law_pieces_right {f:Addr} {fd:FuncData} (F:Fun K "_law_pieces_right" "_law_pieces_right" s_law_pieces_right f fd) (Z:Blt mg) (C_law_arches:Cal P w K mg base "_law_arches" 1 ["_law_letters_here","_law_text"] spArL):FnOk P w K mg base CX0 2 f fd ["_law_letters_here","_law_text","_law_told"] spPR:=by
 refine F.ok sc_law_pieces_right (fun vs H Q E h=>?_) (fun cdv A outer s H vs Q E hr h=>?_)
 ·obtain ⟨l,t,q,ini,last,rfl,_⟩:=h
  rfl
 obtain ⟨l,t,q,ini,last,rfl,hq,hR,hl0,hl1,hnd,ht,hin,k⟩:=h
 have htl:=len_list t
 have hll:=len_list l
 refine ⟨_,(pss_cons (ps_if (PW.pt (pw_or (pt_not (pt_truthK (K:=K) (pe_callB (call_isK (K:=K)) (by rfl) Z.isinstance bt_isinstance (pa_cons (pv 2) (pa_cons (pe_bltn (v:=V.ty "tuple") (by rfl) Z.tuple bt_tuple rfl) pa_nil))) (fun _=>rfl))) (pw_or1 (pt_cmpR op_ne (pe_bmK (K:=K) PySem.F.plainAttrs_str PySem.F.slot_str_join PySem.F.type_str_join (mt_joinT (K:=K)) pe_str (pa_cons (pv 2) pa_nil)) (pv 1) (nomark _))))) 
    (pss_one (ps_ret pe_bl)) pss_nil) 
   (pss_cons (ps_for PassesOwn.never (by rfl) (pi_tupK (K:=K) (pe_slice (sl_tupK (K:=K)) (pv 2) po_none (po_some (pe_un un_neg pe_int)))) (pg_name (i:=3) sc_law_pieces_right.nd (by rfl) (Or.inl (by rfl))) 
    (pss_one (ps_if (PW.pt (pw_or (pt_cmpR (op_neSets (hu_lt hr)) (pe_callTy (call_set_s (by rfl)) (by rfl) Z.set bt_set (pa_cons (pv 3) pa_nil)) (pe_callTy (call_set_s (by rfl)) (by rfl) Z.set bt_set (pa_cons (pv 0) pa_nil)) (nomark _)) (pw_or1 (pt_cmpR (op_eqSets (hu_lt hr)) (pe_callTy (call_set_s (by rfl)) (by rfl) Z.set bt_set (pa_cons (pe_slice sl_str (pv 3) po_none (po_some (pe_un un_neg pe_int))) pa_nil)) (pe_callTy (call_set_s (by rfl)) (by rfl) Z.set bt_set (pa_cons (pv 0) pa_nil)) (nomark _))))) 
     (pss_one (ps_ret pe_bl)) pss_nil))) 
   (pss_one (ps_ret (pe_and (pe_cmpR (op_neSets (hu_lt hr)) (pe_callTy (call_set_s (by rfl)) (by rfl) Z.set bt_set (pa_cons (pe_ix (ix_tupK (K:=K)) (pv 2) (pe_un un_neg pe_int) (fun _ _=>rfl)) pa_nil)) (pe_callTy (call_set_s (by rfl)) (by rfl) Z.set bt_set (pa_cons (pv 0) pa_nil)) (nomark _)) (pe_one (pe_cmpR op_eq (pe_callB (call_lenK (K:=K)) (by rfl) Z.len bt_len (pa_cons (pv 2) pa_nil)) (pe_op op_add pe_int (pe_c C_law_arches (hr.mono (by decide)) (pa_cons (pv 0) (pa_cons (pv 1) pa_nil)))) (nomark _)))))))),?_⟩
 have hfl:(ini ++ [last]).flatten=t.cps.toList:=hR.flat
 have hin2:∀ p∈ini ++ [last],(∀ c∈p,c∈l.cps.toList)∧p.length≤100:=fun p hp=>by
  have hs:p.Sublist t.cps.toList:=by rw [← hfl]; exact List.sublist_flatten_of_mem hp
  exact ⟨fun c hc=>hin c (hs.subset hc),by have:=hs.length_le; omega⟩
 have hz0:(Str.ofString "").length=0:=by decide +kernel
 have eLl:l=S l.cps.toList:=(S_of l).symm
 refine ⟨_,rfl,_,_,_,_,rfl,.tup hq,kit_t_t K,_,rfl,iteF ⟨rfl,_,rfl,_,q,(ini ++ [last]).map S,rfl,rfl,?_,?_,?_⟩⟩
 ·rw [← strV_S]
  exact SqT.of hq
 ·rw [sum_S,hfl,hz0]
  omega
 rw [join_flat,hfl,S_of]
 refine ⟨_,rfl,rfl,_,rfl,?_⟩
 rw [show (!decide (V.str t=V.str t))=false by simp]
 refine iteF ?_
 have hcut:cutV (strV (ini ++ [last])) none (some (-1))=strV ini:=by
  unfold cutV
  have e:HT.sIx (strV (ini ++ [last])).length (strV (ini ++ [last])).length (some (-1))=ini.length:=by
   rw [strV_len,List.length_append]
   show (if (-1:Int) < 0 then ((-1:Int)+((ini.length+1:Nat):Int)).toNat else min (-1:Int).toNat (ini.length+1))=_
   rw [if_pos (by decide)]
   omega
  rw [HT.sIx_none,e,List.drop_zero,Nat.sub_zero]
  unfold strV
  rw [List.map_append,List.take_left' (by rw [List.length_map])]
 have hnw:¬ (HT.sIx (strV (ini ++ [last])).length 0 none=0∧HT.sIx (strV (ini ++ [last])).length (strV (ini ++ [last])).length (some (-1))=(strV (ini ++ [last])).length):=by
  rintro ⟨_,z⟩
  rw [strV_len,List.length_append] at z
  have z':(if (-1:Int) < 0 then ((-1:Int)+((ini.length+1:Nat):Int)).toNat else min (-1:Int).toNat (ini.length+1))=ini.length+1:=z
  rw [if_pos (by decide)] at z'
  omega
 refine ⟨_,rfl,_,rfl,_,rfl,q,_,rfl,SqT.of hq,hnw,fun p hp=>?_⟩
 show iTupI _ _ _ _
 rw [show cutV (strV (ini ++ [last])) none (some (-(1:Int)))=strV ini from hcut]
 have e1:=same_new hp (.tup (strV ini))
 have h1:upd H p (.tup (strV ini)) p=some (.tup (strV ini)):=upd_same
 generalize upd H p (.tup (strV ini))=H1 at e1 h1
 refine ⟨p,rfl,⟨_,SqT.of h1⟩,?_⟩
 refine for_tup (a:=p) (xs:=strV ini) (fun i σ H2=>(∃ v,σ=[some (.str l),some (.str t),some (.ref q),v])∧Same H1 H2) ⟨⟨none,rfl⟩,Same.refl _⟩ (fun i σ H2 _ z=>SqT.of (z.2 _ _ h1)) ?_ ?_
 ·rintro i x σ H2 hx ⟨⟨v,rfl⟩,e2⟩
  obtain ⟨u,hu,rfl⟩:=strV_at hx
  have hum:=List.mem_of_getElem? hu
  obtain ⟨hu1,hu2⟩:=hin2 u (List.mem_append_left _ hum)
  obtain ⟨hw1,c0,hw2,hw3⟩:=hR.whole u hum
  have ul:=S_len u
  refine two_sets (z:=S u) (z':=l) (by omega) (by omega) (fun R r=>⟨_,rfl,r⟩) (fun H' R _ r=>⟨_,rfl,r⟩) (fun r H3 e3 hr=>⟨_,rfl,?_⟩)
  have r1:r=true:=hr.mpr fun c=>⟨hu1 c,hw1 c⟩
  subst r1
  refine iteF ?_
  refine two_sets (z:=S u.dropLast) (z':=l) (by rw [S_len,List.length_dropLast]; omega) (by omega) (fun R r=>?_) (fun H' R _ r=>⟨_,rfl,r⟩) (fun r H4 e4 hr=>⟨_,rfl,?_⟩)
  ·refine ⟨_,rfl,_,rfl,_,rfl,S u,rfl,line_le (by omega),?_⟩
   rw [show Txt.slice (S u) none (some (-(1:Int)))=S u.dropLast from slice_but u]
   exact r
  ·have r2:r=false:=by
    cases r with
    | false=>rfl
    | true=>exact absurd ((hr.mp rfl c0).mpr hw2) hw3
   subst r2
   refine iteF ⟨⟨_,rfl⟩,e2.trans (e3.trans e4)⟩
 ·rintro σ H2 ⟨⟨v,rfl⟩,e2⟩
  obtain ⟨hu1,hu2⟩:=hin2 last (List.mem_append_right _ List.mem_cons_self)
  have ul:=S_len last
  have e12:=e1.trans e2
  unfold tRet tAndV
  dsimp only
  refine two_sets (z:=S last) (z':=l) (by omega) (by omega) (fun R r=>?_) (fun H' R _ r=>⟨_,rfl,r⟩) (fun r H3 e3 hr=>⟨_,rfl,?_⟩)
  ·refine ⟨_,rfl,_,rfl,_,_,_,_,rfl,rfl,SqT.of (e12 _ _ hq),?_,r⟩
   rw [← strV_snoc]
   exact atI_last _ _
  ·have r2:r=false:=by
    cases r with
    | false=>rfl
    | true=>
     obtain ⟨c,h1,h2⟩:=hR.lack
     exact absurd ((hr.mp rfl c).mpr h1) h2
   subst r2
   refine iteT ?_
   refine ⟨_,rfl,q,_,rfl,.inr (SqT.of (e3 _ _ (e12 _ _ hq))),_,rfl,_,rfl,l,t,rfl,hl0,hl1,hnd,ht,fun n H4 e4 hn=>⟨_,_,rfl,rfl,rfl,?_⟩⟩
   have:=hn.uniq hR.n
   subst this
   have e5:decide (V.int ((strV (ini ++ [last])).length:Int)=V.int (1+((ini.length:Nat):Int)))=true:=decide_eq_true (by rw [strV_len,List.length_append]; show V.int ((ini.length+1:Nat):Int)=_; rw [show ((ini.length+1:Nat):Int)=1+((ini.length:Nat):Int) by omega])
   rw [e5]
   exact k H4 ((e12.trans e3).trans e4)
theorem pos_drop {T v:List Nat} {s:Nat} (hs:s≤T.length):(pos T v s).isSome=true↔v.Sublist (T.drop s):=by
 rw [pos_gp,gp_some T v s hs,sp_sub]
theorem FirstAbs.len {L T wd:List Nat} {n:Nat} (h:FirstAbs L T wd) (u:Univ L T n):wd.length=n+1:=by
 obtain ⟨h1,h2,h3⟩:=h
 have a:n < wd.length:=Nat.lt_of_not_le fun z=>h2 (u.1 wd z h1)
 rcases Nat.lt_or_ge (n+1) wd.length with z | z
 ·obtain ⟨x,x1,x2,x3⟩:=u.2
  exact absurd (h3 x x2 (.inl (by omega))) x3
 ·omega
theorem take_getD {wd:List Nat} {k:Nat} (hk:k < wd.length):wd.take (k+1)=wd.take k ++ [wd.getD k 0]:=by
 rw [List.take_add_one,List.getElem?_eq_getElem hk,List.getD_eq_getElem?_getD,List.getElem?_eq_getElem hk]
 rfl
theorem FirstAbs.go {L T wd:List Nat} {k a:Nat} (h:FirstAbs L T wd) (hk:k+1 < wd.length) (ha:pos T (wd.take k) 0=some a):∃ j,nx T a (wd.getD k 0)=some j∧pos T (wd.take (k+1)) 0=some (j+1):=by
 obtain ⟨p,hp⟩:=pos_sub.mpr (h.2.2 (wd.take (k+1)) (fun c hc=>h.1 c (List.mem_of_mem_take hc)) (.inl (by rw [List.length_take]; omega)))
 have hp':=hp
 rw [take_getD (by omega),pos_snoc,ha] at hp'
 have hp2:(nx T a (wd.getD k 0)).map (· + 1)=some p:=hp'
 cases e:nx T a (wd.getD k 0) with
 | none=>rw [e] at hp2; cases hp2
 | some j=>
  rw [e] at hp2
  cases hp2
  exact ⟨j,rfl,hp⟩
theorem FirstAbs.turn {L T wd:List Nat} {k a d:Nat} (h:FirstAbs L T wd) (hk:k < wd.length) (ha:pos T (wd.take k) 0=some a) (hd:d∈L) (hlt:d < wd.getD k 0):∃ j,nx T a d=some j∧j+1≤T.length∧∀ m,Univ L (T.drop (j+1)) m→wd.length≤m+1+k:=by
 have hsub:∀ v:List Nat,(∀ c∈v,c∈L)→k+1+v.length≤wd.length→(wd.take k ++ [d] ++ v).Sublist T:=fun v hv hl=>by
  have e1:(wd.take k ++ [d] ++ v).length=k+1+v.length:=by
   rw [List.length_append,List.length_append,List.length_take,Nat.min_eq_left (by omega)]
   rfl
  refine h.2.2 _ (fun c hc=>?_) ?_
  ·rcases List.mem_append.mp hc with z | z
   ·rcases List.mem_append.mp z with z | z
    ·exact h.1 c (List.mem_of_mem_take z)
    ·rw [List.mem_singleton.mp z]; exact hd
   ·exact hv c z
  ·by_cases z:k+1+v.length=wd.length
   ·refine .inr ⟨e1.trans z,?_⟩
    have e2:wd=wd.take k ++ [wd.getD k 0] ++ wd.drop (k+1):=by rw [← take_getD hk,List.take_append_drop]
    have:=(Lx.snoc hlt (wd.take k)).app v (wd.drop (k+1))
    rwa [← e2] at this
   ·exact .inl (by omega)
 have ha0:=pos_le (Nat.zero_le _) ha
 have e0:∀ v:List Nat,pos T (wd.take k ++ [d] ++ v) 0=((nx T a d).map (· + 1)).bind fun p=>pos T v p:=fun v=>by
  rw [pos_app,pos_snoc,ha]
  rfl
 obtain ⟨p,hp⟩:=pos_sub.mpr (hsub [] (fun c hc=>by cases hc) (by show k+1+0≤_; omega))
 rw [e0] at hp
 cases e:nx T a d with
 | none=>rw [e] at hp; cases hp
 | some j=>
  have hj:=((nx_some ha0).mp e).lt
  refine ⟨j,rfl,by omega,fun m hm=>Nat.le_of_not_lt fun z=>?_⟩
  obtain ⟨v,v1,v2,v3⟩:=hm.2
  obtain ⟨p2,hp2⟩:=pos_sub.mpr (hsub v v2 (by omega))
  rw [e0,e] at hp2
  have hp3:pos T v (j+1)=some p2:=hp2
  exact v3 ((pos_drop (by omega)).mp (by rw [hp3]; rfl))
inductive spFAI (vs:List V) (H:Hp) (Q:VK):Prop
 | mk (l t:Str) (w:List Nat) (h1:vs=[.str l,.str t,.str (S w)]) (h2:FirstAbs l.cps.toList t.cps.toList w) (h3:w.length≤t.length+1) (h4:0 < l.length) (h5:l.length≤100) (h6:l.cps.toList.Nodup) (h7:t.length≤90) (h8:∀ H',Same H H'→Q (.bl true) H'):spFAI vs H Q
def spFA:Sp:=fun vs H Q u3_=>spFAI vs H Q
theorem ok_law_first_absent {f:Addr} {fd:FuncData} (F:Fun K "_law_first_absent" "_law_first_absent" s_law_first_absent f fd) (Z:Blt mg) (C_law_arches:Cal P w K mg base "_law_arches" 1 ["_law_letters_here","_law_text"] spArL) (C_law_spread:Cal P w K mg base "_law_spread" 1 ["_law_word_here","_law_text"] spSpread) (C_law_step:Cal P w K mg base "_law_step" 1 ["_law_text","_law_at","_law_letter"] spStep):FnOk P w K mg base CX0 2 f fd ["_law_letters_here","_law_text","_law_word_here"] spFA:=by
 refine F.ok sc_law_first_absent (fun vs H Q E h=>?_) (fun cdv A outer s H vs Q E hr h=>?_)
 ·obtain ⟨l,t,w,rfl,_⟩:=h
  rfl
 obtain ⟨l,t,wd,rfl,hF,hwl,hl0,hl1,hnd,ht,k⟩:=h
 have htl:=len_list t
 have hll:=len_list l
 refine ⟨_,(pss_cons (ps_if (PW.pt (pw_or (pt_cmpR op_ne (pe_callB call_len_str (by rfl) Z.len bt_len (pa_cons (pv 2) pa_nil)) (pe_op op_add pe_int (pe_c C_law_arches (hr.mono (by decide)) (pa_cons (pv 0) (pa_cons (pv 1) pa_nil)))) (nomark _)) (pw_or1 (pt_truthK (K:=K) (pe_c C_law_spread (hr.mono (by decide)) (pa_cons (pv 2) (pa_cons (pv 1) pa_nil))) (fun _=>rfl))))) 
    (pss_one (ps_ret pe_bl)) pss_nil) 
   (pss_cons (ps_set (i:=3) sc_law_first_absent.nd (by rfl) (Or.inl (by rfl)) pe_int) 
   (pss_cons (ps_for PassesOwn.never (by rfl) (pi_range1 (by rfl) Z.range (pa_cons (pe_callB call_len_str (by rfl) Z.len bt_len (pa_cons (pv 2) pa_nil)) pa_nil)) (pg_name (i:=4) sc_law_first_absent.nd (by rfl) (Or.inr (by rfl))) 
    (pss_cons (ps_for PassesOwn.never (by rfl) (pi_listK (K:=K) (pe_comp (sc:=defScope s_law_first_absent) (Nm:=["_law_letters_here","_law_text","_law_word_here","_law_at","_law_k","_law_letter","_law_there"]) (own:=["_law_one"]) (fr:=[2,4]) ⟨rfl,by decide +kernel,by decide +kernel,by decide +kernel,by decide +kernel⟩ (by rfl) (gfr_name (by decide)) (pi_str (pv 0)) (fun d=>(pg_name (i:=0) nd_law_first_absent_0 (by rfl) (Or.inl (by rfl)))) (fun d=>(pts_one (pt_cmpR op_lt_str (pv 0) (pe_ix ix_str (pv 1) (pv 2) (fun _ _=>rfl)) (nomark _)))) (fun d=>(pv 0)))) (pg_name (i:=5) sc_law_first_absent.nd (by rfl) (Or.inl (by rfl))) 
     (pss_cons (ps_set (i:=6) sc_law_first_absent.nd (by rfl) (Or.inl (by rfl)) (pe_c C_law_step (hr.mono (by decide)) (pa_cons (pv 1) (pa_cons (pv 3) (pa_cons (pv 5) pa_nil))))) 
     (pss_one (ps_if (PW.pt (pw_or (pt_cmpR op_isN (pv 6) pe_non (nomark _)) (pw_or1 (pt_cmpR op_lt (pe_c C_law_arches (hr.mono (by decide)) (pa_cons (pv 0) (pa_cons (pe_slice sl_str (pv 1) (po_some (pv 6)) po_none) pa_nil))) (pe_op op_sub (pe_op op_sub (pe_callB call_len_str (by rfl) Z.len bt_len (pa_cons (pv 2) pa_nil)) pe_int) (pv 4)) (nomark _))))) 
      (pss_one (ps_ret pe_bl)) pss_nil)))) 
    (pss_one (ps_set (i:=3) sc_law_first_absent.nd (by rfl) (Or.inl (by rfl)) (pe_orG (K:=K) (pe_c C_law_step (hr.mono (by decide)) (pa_cons (pv 1) (pa_cons (pv 3) (pa_cons (pe_ix ix_str (pv 2) (pv 4) (fun _ _=>rfl)) pa_nil)))) (pe_one (pe_callB call_len_str (by rfl) Z.len bt_len (pa_cons (pv 1) pa_nil)))))))) 
   (pss_one (ps_ret pe_bl))))),?_⟩
 have wl:=S_len wd
 refine ⟨_,rfl,S wd,rfl,line_le (by omega),_,rfl,_,rfl,l,t,rfl,hl0,hl1,hnd,by omega,fun n H1 e1 hn=>⟨_,_,rfl,rfl,rfl,_,rfl,?_⟩⟩
 have hlen:=hF.len hn
 rw [show (!decide (V.int ((S wd).length:Int)=V.int (1+((n:Nat):Int))))=false by rw [wl,hlen,show ((n+1:Nat):Int)=1+((n:Nat):Int) by omega]; simp]
 refine iteF ⟨_,rfl,_,rfl,S wd,t,rfl,by omega,by omega,_,rfl,?_⟩
 have hsp:spB wd t.cps.toList=false:=by
  cases e:spB wd t.cps.toList with
  | false=>rfl
  | true=>exact absurd ((spB_sub _ _).mp e) hF.2.1
 rw [show spB (S wd).cps.toList t.cps.toList=false from hsp]
 refine iteF ?_
 refine ⟨_,rfl,S wd,rfl,line_le (by omega),_,rfl,by omega,by omega,?_⟩
 refine for_range (lo:=0) (n:=(((S wd).length:Nat):Int).toNat) (fun i σ H2=>∃ (a:Nat) (v4 v5 v6:Option V),σ=[some (.str l),some (.str t),some (.str (S wd)),some (nI a),v4,v5,v6]∧Same H1 H2∧a≤t.length∧(i < wd.length→pos t.cps.toList (wd.take i) 0=some a))
  ⟨0,none,none,none,rfl,Same.refl _,Nat.zero_le _,fun _=>by rw [List.take_zero]; rfl⟩ ?_ ?_
 ·rintro i σ H2 hi ⟨a,v4,v5,v6,rfl,e2,ha,hp⟩
  have hi':i < wd.length:=by omega
  have hpa:=hp hi'
  have e0:(0:Int)+(i:Int)=((i:Nat):Int):=by omega
  rw [e0]
  refine ⟨_,rfl,l,rfl,?_⟩
  refine comp_str (cs:=l.cps.toList) (fun j acc H3=>Same H2 H3∧acc=((l.cps.toList.take j).filter fun c=>decide (c < wd.getD i 0)).map oneS) (by rw [hll]; exact small1000 (by omega)) ⟨Same.refl _,rfl⟩
   (fun j acc H3 q=>by rw [q.2,List.length_map]; exact Nat.le_trans (List.length_filter_le _ _) (by rw [List.length_take]; exact Nat.min_le_left _ _)) (fun j acc H3 c hc q=>?_) (fun acc H3 q y hy=>?_)
  ·obtain ⟨e3,rfl⟩:=q
   refine ⟨_,rfl,_,rfl,_,rfl,S wd,_,_,rfl,rfl,line_le (by omega),atI_code hi',_,_,rfl,rfl,_,rfl,?_⟩
   have hlt:decide ((⟨#[c]⟩:Str).cps.toList < (⟨#[wd.getD i 0]⟩:Str).cps.toList)=decide (c < wd.getD i 0):=lt_one _ _
   show if decide ((⟨#[c]⟩:Str).cps.toList < (⟨#[wd.getD i 0]⟩:Str).cps.toList)=true then _ else _
   rw [hlt,List.take_add_one,hc]
   refine ite2 (fun c1=>⟨_,rfl,e3,?_⟩) (fun c1=>⟨e3,?_⟩)
   ·rw [List.filter_append,List.map_append]
    simp only [Option.toList_some,List.filter_cons,c1,if_true,List.filter_nil]
    rfl
   ·rw [List.filter_append,List.map_append]
    simp only [Option.toList_some,List.filter_cons,c1,List.filter_nil]
    simp
  obtain ⟨e3,rfl⟩:=q
  rw [List.take_length]
  generalize hfs:(l.cps.toList.filter fun c=>decide (c < wd.getD i 0))=fs
  have s4:=same_new hy (.lst (fs.map oneS))
  have h4:upd H3 y (.lst (fs.map oneS)) y=some (.lst (fs.map oneS)):=upd_same
  generalize upd H3 y (.lst (fs.map oneS))=H4 at s4 h4
  have e14:=(e2.trans e3).trans s4
  refine ⟨y,rfl,⟨_,SqL.of h4⟩,?_⟩
  refine for_list (K:=K) (a:=y) (xs:=fs.map oneS) (fun j σ H5=>(∃ v5 v6,σ=[some (.str l),some (.str t),some (.str (S wd)),some (nI a),some (nI i),v5,v6])∧Same H4 H5) ⟨⟨v5,v6,rfl⟩,Same.refl _⟩ (fun j σ H5 _ z=>SqL.of (z.2 _ _ h4)) ?_ ?_
  ·rintro j x σ H5 hx ⟨⟨v5,v6,rfl⟩,e5⟩
   obtain ⟨d,hd,rfl⟩:∃ d,d∈fs∧x=oneS d:=by
    obtain ⟨d,h1,h2⟩:=List.mem_map.mp (List.mem_of_getElem? hx)
    exact ⟨d,h1,h2.symm⟩
   rw [← hfs,List.mem_filter] at hd
   obtain ⟨j',hj1,hj2,hj3⟩:=hF.turn hi' hpa hd.1 (of_decide_eq_true hd.2)
   refine ⟨_,rfl,_,rfl,_,rfl,t,a,d,rfl,ha,by omega,?_⟩
   rw [hj1]
   refine ⟨_,rfl,rfl,_,rfl,iteF ?_⟩
   refine ⟨_,rfl,_,rfl,_,rfl,_,rfl,t,rfl,line_le (by omega),?_⟩
   rw [slice_from]
   refine ⟨l,S (t.cps.toList.drop (j'+1)),rfl,hl0,hl1,hnd,by rw [S_len,List.length_drop]; omega,fun m H6 e6 hm=>?_⟩
   have hm2:=hj3 m hm
   refine ⟨_,rfl,S wd,rfl,line_le (by omega),_,_,rfl,rfl,_,rfl,_,_,rfl,rfl,_,_,rfl,rfl,_,rfl,?_⟩
   rw [show decide (((m:Nat):Int) < ((S wd).length:Int) - 1 - ((i:Nat):Int))=false from decide_eq_false (by omega)]
   exact iteF ⟨⟨_,_,rfl⟩,e5.trans e6⟩
  ·rintro σ H5 ⟨⟨v5,v6,rfl⟩,e5⟩
   refine ⟨_,rfl,_,rfl,_,rfl,_,rfl,S wd,_,_,rfl,rfl,line_le (by omega),atI_code hi',t,a,_,rfl,ha,by omega,?_⟩
   have e15:=e14.trans e5
   show ∃ k,TruV K (stV (nx t.cps.toList a (wd.getD i 0))) H5 k∧_
   cases e:nx t.cps.toList a (wd.getD i 0) with
   | none=>
    refine ⟨false,rfl,?_⟩
    rw [if_pos rfl]
    refine ⟨_,rfl,t,rfl,line_le (by omega),t.length,_,_,_,rfl,e15,Nat.le_refl _,fun hlt=>?_⟩
    obtain ⟨j,hj,_⟩:=hF.go hlt hpa
    rw [e] at hj
    cases hj
   | some j=>
    have hj:=((nx_some (by omega)).mp e).lt
    refine ⟨true,?_,?_⟩
    ·show true=((((j+1:Nat):Int)) != 0)
     rw [eq_comm,bne_iff_ne]
     omega
    ·rw [if_neg (by decide)]
     refine ⟨j+1,_,_,_,rfl,e15,by omega,fun hlt=>?_⟩
     obtain ⟨j2,hj2,hj3⟩:=hF.go hlt hpa
     rw [e] at hj2
     cases hj2
     exact hj3
 ·rintro σ H2 ⟨a,v4,v5,v6,rfl,e2,_,_⟩
  exact k H2 (e1.trans e2)
theorem kit_s_s (K:PySem.W.Frag):PySem.W.kitOne K (.type "str") (.type "str")=some true:=by kernel_rfl
theorem whole_is {L T:List Nat} {n:Nat} (h:Univ L T n) (k:Nat):((awl L k).map fun u=>spB u T).all id=decide (((k:Nat):Int) < ((n+1:Nat):Int)):=by
 rw [Bool.eq_iff_iff,decide_eq_true_eq,List.all_eq_true]
 have e:(∀ x∈(awl L k).map fun u=>spB u T,id x=true)↔k≤n:=by
  rw [← h.all k]
  constructor
  ·intro q u hu hc
   exact (spB_sub _ _).mp (q _ (List.mem_map.mpr ⟨u,awl_mem.mpr ⟨hu,hc⟩,rfl⟩))
  ·intro q x hx
   obtain ⟨u,hu,rfl⟩:=List.mem_map.mp hx
   obtain ⟨h1,h2⟩:=awl_mem.mp hu
   exact (spB_sub _ _).mpr (q u h1 h2)
 rw [e]
 omega
theorem cut_in (z:Str) (lo hi:Option Int):(∀ c∈(Txt.slice z lo hi).cps.toList,c∈z.cps.toList)∧(Txt.slice z lo hi).length≤z.length:=by
 refine ⟨fun c hc=>?_,Txt.slice_le z lo hi⟩
 rw [slice_list] at hc
 exact List.mem_of_mem_drop (List.mem_of_mem_take hc)
theorem repl_in {y z:Str} {c:Nat} (h:y=Txt.replace z ⟨#[c]⟩ (Str.ofString "")∨y=z):(∀ d∈y.cps.toList,d∈z.cps.toList)∧y.length≤z.length:=by
 rcases h with e | e
 ·have e0:(Str.ofString "")=⟨#[]⟩:=by decide +kernel
  rw [e0] at e
  have e1:y.cps.toList=z.cps.toList.filter (· != c):=by rw [e]; exact replace_strikes z c
  refine ⟨fun d hd=>?_,?_⟩
  ·rw [e1] at hd
   exact (List.mem_filter.mp hd).1
  ·rw [← len_list,← len_list,e1]
   exact List.length_filter_le _ _
 ·rw [e]
  exact ⟨fun _ h=>h,Nat.le_refl _⟩
theorem abc_iff (c:Nat):c∈abc↔97≤c∧c≤122:=by
 unfold abc
 rw [List.mem_map]
 constructor
 ·rintro ⟨i,hi,rfl⟩
  have:=List.mem_range.mp hi
  omega
 ·exact fun h=>⟨c - 97,List.mem_range.mpr (by omega),by omega⟩
theorem abc_so:abc.Pairwise (· < ·):=by decide +kernel
theorem every_ok (p:Nat→Bool) {l:Str} {n:Nat} (hl:IsLetters l n) (hp:∀ c∈l.cps.toList,p c=true):IsLetters (S (abc.filter p)) (abc.filter p).length∧(abc.filter p).length≤26∧∀ c∈l.cps.toList,c∈(S (abc.filter p)).cps.toList:=by
 refine ⟨⟨rfl,abc_so.sublist List.filter_sublist,fun c hc=>?_⟩,Nat.le_trans (List.length_filter_le _ _) (by decide),fun c hc=>?_⟩
 ·exact (abc_iff c).mp (List.mem_filter.mp hc).1
 ·exact List.mem_filter.mpr ⟨(abc_iff c).mpr (hl.2.2 c hc),hp c hc⟩
def Pair9 (H:Hp) (x:V):Prop:=∃ (a:Addr) (z l:Str) (n:Nat),x=.ref a∧H a=some (.tup [.str z,.str l])∧IsLetters l n∧0 < n∧n≤26∧z.length≤60∧∀ c∈z.cps.toList,c∈l.cps.toList
theorem Pair9.same {H H':Hp} {x:V} (h:Pair9 H x) (e:Same H H'):Pair9 H' x:=by
 obtain ⟨a,z,l,n,h1,h2,h3⟩:=h
 exact ⟨a,z,l,n,h1,e _ _ h2,h3⟩
theorem nodup_lt' {l:List Nat} (h:l.Pairwise (· < ·)):l.Nodup:=h.imp fun {a b} q=>Nat.ne_of_lt q
theorem ok_law {f:Addr} {fd:FuncData} (F:Fun K "law" "law" s_law f fd) (Z:Blt mg) (C_law_flow:Cal P w K mg base "_law_flow" 1 ["_law_script"] (spFlow K)) (C_law_pick:Cal P w K mg base "_law_pick" 1 ["_law_flow_here","_law_many"] spPick) (C_law_letters:Cal P w K mg base "_law_letters" 2 ["_law_flow_here","_law_many"] spLetters)
  (C_law_word:Cal P w K mg base "_law_word" 2 ["_law_flow_here","_law_letters_here","_law_most"] spWord) (C_law_spread:Cal P w K mg base "_law_spread" 1 ["_law_word_here","_law_text"] spSpread) (C_law_all_words:Cal P w K mg base "_law_all_words" 2 ["_law_letters_here","_law_most"] spAllW) (C_arches:Cal P w K mg base "arches" 3 ["letters","text"] spArches) (C_absent:Cal P w K mg base "absent" 2 ["letters","text"] spAbsent)
  (C_law_pieces_right:Cal P w K mg base "_law_pieces_right" 2 ["_law_letters_here","_law_text","_law_told"] spPR) (C_law_first_absent:Cal P w K mg base "_law_first_absent" 2 ["_law_letters_here","_law_text","_law_word_here"] spFA):FnOk P w K mg base CX0 4 f fd ["_law_script"] (spLaw K):=by
 refine F.ok sc_law (fun vs H Q E h=>?_) (fun cdv A outer s H vs Q E hr h=>?_)
 ·obtain ⟨a,ns,rfl,_⟩:=h
  rfl
 obtain ⟨a,ns,rfl,hS,hns,k⟩:=h
 refine ⟨_,(pss_cons (ps_set (i:=1) sc_law.nd (by rfl) (Or.inl (by rfl)) (pe_c C_law_flow (hr.mono (by decide)) (pa_cons (pv 0) pa_nil))) (pss_s (ps_sets (i:=2) sc_law.nd (by rfl) (Or.inl (by rfl)) (pe_cs C_law_pick (hr.mono (by decide)) (pas_cons (pv 1) pas_int))) 
   (pss0_cons (PS.z (ps_set (i:=3) sc_law.nd (by rfl) (Or.inr (by rfl)) (pe_c C_law_letters (hr.mono (by decide)) (pa_cons (pv 1) (pa_cons (pe_op op_add pe_int (pe_c C_law_pick (hr.mono (by decide)) (pa_cons (pv 1) (pa_cons pe_int pa_nil)))) pa_nil))))) 
   (pss0_cons (ps0_setk (i:=4) sc_law.nd (by rfl) (Or.inl (by rfl)) (pk_ix (pv 3) (pe_c C_law_pick (hr.mono (by decide)) (pa_cons (pv 1) (pa_cons (pe_callB call_len_str (by rfl) Z.len bt_len (pa_cons (pv 3) pa_nil)) pa_nil))) (fun _ _=>rfl))) 
   (pss0_cons (PS.z (ps_set (i:=5) sc_law.nd (by rfl) (Or.inr (by rfl)) (pe_ix (ix_listK (K:=K)) (pe_lst (pa_cons pe_str (pa_cons (pe_c C_law_letters (hr.mono (by decide)) (pa_cons (pv 1) (pa_cons pe_int pa_nil))) pa_nil))) (pe_callTy call_int1 (by rfl) Z.int bt_int (pa_cons (pe_cmpR op_lt (pe_callB call_len_str (by rfl) Z.len bt_len (pa_cons (pv 3) pa_nil)) pe_int (nomark _)) pa_nil)) (fun _ _=>rfl)))) 
   (pss0_cons (PS.z (ps_set (i:=6) sc_law.nd (by rfl) (Or.inl (by rfl)) (pe_c C_law_pick (hr.mono (by decide)) (pa_cons (pv 1) (pa_cons pe_int pa_nil))))) 
   (pss0_cons (PS.z (ps_set (i:=7) sc_law.nd (by rfl) (Or.inr (by rfl)) (pe_c C_law_word (hr.mono (by decide)) (pa_cons (pv 1) (pa_cons (pv 3) (pa_cons pe_int pa_nil)))))) 
   (pss0_cut (ps0_if (pt_cmpR op_eq (pv 2) pe_int (nomark _)) (pss0_one (ps0_set (i:=7) sc_law.nd (by rfl) (Or.inr (by rfl)) (pe0_repl (i:=4) (PE.z (pv 7))))) (PSs.z pss_nil)) 
   (pss0_cut (ps0_if (pt_cmpR op_eq (pv 2) pe_int (nomark _)) (pss0_one (ps0_set (i:=7) sc_law.nd (by rfl) (Or.inr (by rfl)) (pe0_op op_add_str (PE.z (pv 7)) (pe0_slice sl_str (pe0_repl (i:=4) (PE.z (pe_revS (pv 7) (pe_un un_neg pe_int)))) po_none (po_some (pe_op op_sub pe_int (pe_callB call_len_str (by rfl) Z.len bt_len (pa_cons (pv 7) pa_nil)))))))) (PSs.z pss_nil)) 
   (pss0_cons (PS.z (ps_set (i:=8) sc_law.nd (by rfl) (Or.inl (by rfl)) (pe_bmK (K:=K) PySem.F.plainAttrs_str PySem.F.slot_str_join PySem.F.type_str_join (mt_joinK (K:=K)) pe_str (pa_cons (pe_comp (sc:=defScope s_law) (Nm:=["_law_script","_law_flow_here","_law_way","_law_letters_here","_law_lacking","_law_more","_law_cut","_law_text","_law_every","_law_some","_law_told","_law_word_here","_law_k","_law_whole"]) (own:=["_law_one"]) (fr:=[3,5]) ⟨rfl,by decide +kernel,by decide +kernel,by decide +kernel,by decide +kernel⟩ (by rfl) (gfr_name (by decide)) (pi_str pe_str) (fun d=>(pg_name (i:=0) nd_law_0 (by rfl) (Or.inl (by rfl)))) (fun d=>(pts_one (PW.pt (pw_or (pt_cmpR op_in_str (pv 0) (pv 1) (by with_unfolding_all rfl)) (pw_or1 (pt_cmpR op_eq (pv 0) (pv 2) (nomark _))))))) (fun d=>(pv 0))) pa_nil)))) 
   (pss0_cons (PS.z (ps_for PassesOwn.never (by rfl) (pi_listK (K:=K) (pe_lst (pa_cons (pe_tup (pa_cons (pv 7) (pa_cons (pv 3) pa_nil))) (pa_cons (pe_tup (pa_cons (pe_slice sl_str (pv 7) (po_some (pv 6)) po_none) (pa_cons (pv 3) pa_nil))) (pa_cons (pe_tup (pa_cons (pv 7) (pa_cons (pv 8) pa_nil))) (pa_cons (pe_tup (pa_cons pe_str (pa_cons (pv 8) pa_nil))) (pa_cons (pe_tup (pa_cons (pv 7) (pa_cons (pv 3) pa_nil))) pa_nil))))))) (pg_tupK (K:=K) (n:=2) (by rfl) (pgs_cons (pg_name (i:=9) sc_law.nd (by rfl) (Or.inl (by rfl))) (pgs_cons (pg_name (i:=10) sc_law.nd (by rfl) (Or.inr (by rfl))) pgs_nil))) 
    (pss_cons (ps_if (pt_not (pt_truthK (K:=K) (pe_c C_law_pieces_right (hr.mono (by decide)) (pa_cons (pv 10) (pa_cons (pv 9) (pa_cons (pe_c C_arches (hr.mono (by decide)) (pa_cons (pv 10) (pa_cons (pv 9) pa_nil))) pa_nil)))) (fun _=>rfl))) 
     (pss_one (ps_ret pe_bl)) pss_nil) 
    (pss_cons (ps_set (i:=11) sc_law.nd (by rfl) (Or.inl (by rfl)) (pe_c C_absent (hr.mono (by decide)) (pa_cons (pv 10) (pa_cons (pv 9) pa_nil)))) 
    (pss_cons (ps_if (PW.pt (pw_or (pt_not (pt_truthK (K:=K) (pe_callB (call_isK (K:=K)) (by rfl) Z.isinstance bt_isinstance (pa_cons (pv 11) (pa_cons (pe_bltn (v:=V.ty "str") (by rfl) Z.str bt_str rfl) pa_nil))) (fun _=>rfl))) (pw_or1 (pt_not (pt_truthK (K:=K) (pe_callB (call_allK (K:=K)) (by rfl) Z.all bt_all (pa_cons (pe_comp (sc:=defScope s_law) (Nm:=["_law_script","_law_flow_here","_law_way","_law_letters_here","_law_lacking","_law_more","_law_cut","_law_text","_law_every","_law_some","_law_told","_law_word_here","_law_k","_law_whole"]) (own:=["_law_letter"]) (fr:=[10]) ⟨rfl,by decide +kernel,by decide +kernel,by decide +kernel,by decide +kernel⟩ (by rfl) (gfr_name (by decide)) (pi_str (pv 11)) (fun d=>(pg_name (i:=0) nd_law_1 (by rfl) (Or.inl (by rfl)))) (fun d=>pts_nil) (fun d=>(pe_cmpR op_in_str (pv 0) (pv 1) (by with_unfolding_all rfl)))) pa_nil)) (fun _=>rfl)))))) 
     (pss_one (ps_ret pe_bl)) pss_nil) 
    (pss_one (ps_if (pt_not (pt_truthK (K:=K) (pe_c C_law_first_absent (hr.mono (by decide)) (pa_cons (pv 10) (pa_cons (pv 9) (pa_cons (pv 11) pa_nil)))) (fun _=>rfl))) 
     (pss_one (ps_ret pe_bl)) pss_nil))))))) 
   (pss0_cons (PS.z (ps_set (i:=12) sc_law.nd (by rfl) (Or.inl (by rfl)) (pe_c C_law_pick (hr.mono (by decide)) (pa_cons (pv 1) (pa_cons pe_int pa_nil))))) 
   (pss0_cons (PS.z (ps_set (i:=13) sc_law.nd (by rfl) (Or.inl (by rfl)) (pe_callB (call_allK (K:=K)) (by rfl) Z.all bt_all (pa_cons (pe_comp (sc:=defScope s_law) (Nm:=["_law_script","_law_flow_here","_law_way","_law_letters_here","_law_lacking","_law_more","_law_cut","_law_text","_law_every","_law_some","_law_told","_law_word_here","_law_k","_law_whole"]) (own:=["_law_word_here"]) (fr:=[7]) ⟨rfl,by decide +kernel,by decide +kernel,by decide +kernel,by decide +kernel⟩ (by rfl) (gfr_name (by decide)) (pi_listK (K:=K) (pe_c C_law_all_words (hr.mono (by decide)) (pa_cons (pv 3) (pa_cons (pv 12) pa_nil)))) (fun d=>(pg_name (i:=0) nd_law_2 (by rfl) (Or.inl (by rfl)))) (fun d=>pts_nil) (fun d=>(pe_c C_law_spread (hr.mono (by decide)) (pa_cons (pv 0) (pa_cons (pv 1) pa_nil))))) pa_nil)))) (pss0_one (PS.z (ps_ret (pe_cmpR op_eq (pv 13) (pe_cmpR op_gt (pe_callB (call_lenK (K:=K)) (by rfl) Z.len bt_len (pa_cons (pe_c C_arches (hr.mono (by decide)) (pa_cons (pv 3) (pa_cons (pv 7) pa_nil))) pa_nil)) (pv 12) (nomark _)) (nomark _)))))))))))))))))),?_⟩
 refine ⟨_,rfl,a,ns,rfl,hS,fun p sc H1 hp e1 FA=>?_⟩
 refine ⟨_,rfl,p,sc,4,rfl,by decide,by decide,FA,fun way xs0 _ _ hx0=>?_⟩
 have FA2:=FA.go hx0
 refine ⟨_,rfl,_,rfl,p,sc,3,rfl,by decide,by decide,FA2,fun r0 xs1 h00 h01 hx1=>⟨_,_,rfl,rfl,?_⟩⟩
 have FA3:=FA2.go hx1
 refine ⟨p,sc,1+r0,rfl,by omega,by omega,FA3,fun l H4 hl dr4 FA4=>?_⟩
 have hll:=len_list l
 have hln:=hl.1
 have hl0:0 < l.length:=by omega
 have hl1:l.length≤3:=by omega
 refine ⟨_,rfl,_,rfl,_,rfl,l,rfl,line_le (by omega),p,sc,_,rfl,by omega,by omega,FA4,fun r1 xs2 h10 h11 hx2=>?_⟩
 obtain ⟨lc,hlc,hat⟩:=atI_sign h10 h11
 have FA5:=FA4.go hx2
 refine ⟨l,r1,lc,rfl,rfl,line_le (by omega),hat,?_⟩
 refine ⟨_,rfl,p,sc,1,rfl,by decide,by decide,FA5,fun mo H6 hmo dr6 FA6=>⟨(by show 2≤sizeLine; decide),fun x hx=>?_⟩⟩
 refine ⟨_,rfl,l,rfl,line_le (by omega),_,_,rfl,rfl,.inr ⟨_,rfl,?_⟩⟩
 obtain ⟨more,hmore⟩:∃ more:Str,atI [V.str (Str.ofString ""),V.str mo] (if decide ((l.length:Int) < 3)=true then 1 else 0)=some (.str more):=by
  by_cases c:decide ((l.length:Int) < 3)=true
  ·rw [if_pos c]; exact ⟨_,atI_nat (j:=1) rfl⟩
  ·rw [if_neg c]; exact ⟨_,atI_nat (j:=0) rfl⟩
 refine ⟨x,_,_,_,rfl,rfl,SqL.of upd_same,hmore,?_⟩
 have FA7:=FA6.same (same_new hx (.lst [V.str (Str.ofString ""),V.str mo]))
 generalize upd H6 x (.lst [V.str (Str.ofString ""),V.str mo])=H7 at FA7
 refine ⟨_,rfl,p,sc,31,rfl,by decide,by decide,FA7,fun cut xs3 hc0 hc1 hx3=>?_⟩
 have FA8:=FA7.go hx3
 refine ⟨_,rfl,_,rfl,p,sc,l,30,rfl,hl0,by omega,by decide,by decide,FA8,fun z0 H9 hz0 hzc0 dr9 FA9=>?_⟩
 refine ⟨fun σ' H'=>∃ z:Str,σ'=[some (.ref a),some (.ref p),some (.int way),some (.str l),some (.str ⟨#[lc]⟩),some (.str more),some (.int cut),some (.str z),none,none,none,none,none,none]∧H'=H9∧z.length≤30∧∀ c∈z.cps.toList,c∈l.cps.toList,?_,?_⟩
 ·have hz1:z0.length≤30:=by have:=len_list z0; omega
  refine ⟨_,rfl,rfl,_,rfl,?_⟩
  refine ite2 (fun _=>?_) (fun _=>⟨z0,rfl,rfl,hz1,hzc0⟩)
  refine ⟨_,rfl,z0,⟨#[lc]⟩,rfl,rfl,rfl,by omega,fun y hy=>?_⟩
  obtain ⟨y1,y2⟩:=repl_in hy
  exact ⟨y,rfl,rfl,by omega,fun c hc=>hzc0 c (y1 c hc)⟩
 clear hz0 hzc0 z0
 rintro σ1 H10 ⟨z1,rfl,rfl,hz1,hzc1⟩
 refine ⟨fun σ' H'=>∃ z:Str,σ'=[some (.ref a),some (.ref p),some (.int way),some (.str l),some (.str ⟨#[lc]⟩),some (.str more),some (.int cut),some (.str z),none,none,none,none,none,none]∧H'=H10∧z.length≤60∧∀ c∈z.cps.toList,c∈l.cps.toList,?_,?_⟩
 ·refine ⟨_,rfl,rfl,_,rfl,?_⟩
  refine ite2 (fun _=>?_) (fun _=>⟨z1,rfl,rfl,by omega,hzc1⟩)
  have rl:=revS_len z1
  refine ⟨_,rfl,_,rfl,_,rfl,rfl,z1,rfl,line_le (by omega),revS z1,⟨#[lc]⟩,rfl,rfl,rfl,by omega,fun y hy=>?_⟩
  obtain ⟨y1,y2⟩:=repl_in hy
  refine ⟨_,rfl,z1,rfl,line_le (by omega),_,_,rfl,rfl,_,rfl,y,rfl,line_le (by omega),?_⟩
  obtain ⟨u1,u2⟩:=cut_in y none (some (30 - (z1.length:Int)))
  generalize Txt.slice y none (some (30 - (z1.length:Int)))=y3 at u1 u2
  refine ⟨_,_,rfl,rfl,line_le (by omega),z1 ++ y3,rfl,rfl,?_,fun c hc=>?_⟩
  ·have:(z1 ++ y3).length=z1.length+y3.length:=by
    rw [← len_list,← len_list,← len_list]
    show (z1.cps ++ y3.cps).toList.length=_
    rw [Array.toList_append,List.length_append]
   omega
  ·have hc':c∈(z1.cps ++ y3.cps).toList:=hc
   rw [Array.toList_append] at hc'
   rcases List.mem_append.mp hc' with q | q
   ·exact hzc1 c q
   ·have:=y1 c (u1 c q)
    exact hzc1 c (by simpa [revS] using this)
 clear hz1 hzc1 z1
 rintro σ2 H11 ⟨z,rfl,rfl,hz,hzc⟩
 have hzl:=len_list z
 let pv:Nat→Bool:=fun c=>decide (c∈l.cps.toList) || decide (V.str ⟨#[c]⟩=V.str more)
 have hpv:∀ c∈l.cps.toList,pv c=true:=fun c hc=>by
  show (decide (c∈l.cps.toList) || _)=true
  rw [decide_eq_true hc]
  rfl
 refine ⟨rfl,_,rfl,?_⟩
 rw [show (Str.ofString "abcdefghijklmnopqrstuvwxyz")=S abc from by rw [← abc_is,S_of]]
 refine comp_str (cs:=abc) (fun j acc H3=>Same H11 H3∧acc=((abc.take j).filter pv).map oneS) (by decide +kernel) ⟨Same.refl _,rfl⟩
  (fun j acc H3 q=>by rw [q.2,List.length_map]; exact Nat.le_trans (List.length_filter_le _ _) (by rw [List.length_take]; exact Nat.min_le_left _ _)) (fun j acc H3 c hc q=>?_) (fun acc H3 q y hy=>?_)
 ·obtain ⟨e3,rfl⟩:=q
  refine ⟨_,rfl,_,rfl,_,_,rfl,rfl,_,rfl,?_⟩
  have hf:(!(Builtin.Str.occurrences l ⟨#[c]⟩ 0 l.length 1).isEmpty)=decide (c∈l.cps.toList):=StrLaws.found_one l c
  show if (!(Builtin.Str.occurrences l ⟨#[c]⟩ 0 l.length 1).isEmpty)=true then _ else _
  have hy1:pv c=true→((abc.take j).filter pv).map oneS ++ [oneS c]=((abc.take (j+1)).filter pv).map oneS:=fun q=>by
   rw [List.take_add_one,hc,List.filter_append,List.map_append]
   simp only [Option.toList_some,List.filter_cons,q,if_true,List.filter_nil]
   rfl
  have hy0:pv c=false→((abc.take j).filter pv).map oneS=((abc.take (j+1)).filter pv).map oneS:=fun q=>by
   rw [List.take_add_one,hc,List.filter_append,List.map_append]
   simp [q]
  rw [hf]
  refine ite2 (fun c1=>iteT ⟨_,rfl,e3,hy1 ?_⟩) (fun c1=>?_)
  ·show (decide (c∈l.cps.toList) || _)=true
   rw [c1]
   rfl
  ·refine ⟨_,rfl,_,rfl,rfl,_,rfl,?_⟩
   refine ite2 (fun c2=>⟨_,rfl,e3,hy1 ?_⟩) (fun c2=>⟨e3,hy0 ?_⟩)
   ·show (decide (c∈l.cps.toList) || decide (V.str ⟨#[c]⟩=V.str more))=true
    rw [c2,Bool.or_true]
   ·show (decide (c∈l.cps.toList) || decide (V.str ⟨#[c]⟩=V.str more))=false
    rw [Bool.not_eq_true] at c1 c2
    rw [c1,c2]
    rfl
 obtain ⟨e3,rfl⟩:=q
 rw [List.take_length]
 obtain ⟨ho1,ho2,ho3⟩:=every_ok pv hl hpv
 generalize abc.filter pv=ES at ho1 ho2 ho3
 have e4:=e3.trans (same_new hy (.lst (ES.map oneS)))
 have h4:upd H3 y (.lst (ES.map oneS)) y=some (.lst (ES.map oneS)):=upd_same
 generalize upd H3 y (.lst (ES.map oneS))=H12 at e4 h4
 refine ⟨_,y,ES.map one,rfl,rfl,SqL.of (by rw [h4,oneS_map]),join_ones_len ES (by omega),?_⟩
 have hev:Txt.join (Str.ofString "") (ES.map one)=S ES:=by rw [← S_of (Txt.join _ _),join_ones]
 rw [hev]
 have hE0:0 < ES.length:=by
  have:lc∈(S ES).cps.toList:=ho3 lc hlc
  exact List.length_pos_of_mem (a:=lc) this
 have hEz:∀ c∈z.cps.toList,c∈(S ES).cps.toList:=fun c hc=>ho3 c (hzc c hc)
 refine ⟨_,rfl,_,rfl,(by show 2≤sizeLine; decide),fun t1 n1=>?_⟩
 have s1:=same_new n1 (.tup [.str z,.str l])
 have p1:Pair9 (upd H12 t1 (.tup [.str z,.str l])) (.ref t1):=⟨t1,z,l,_,rfl,upd_same,hl,by omega,by omega,hz,hzc⟩
 generalize upd H12 t1 (.tup [.str z,.str l])=H13 at s1 p1
 refine ⟨_,rfl,_,rfl,_,rfl,z,rfl,line_le (by omega),_,rfl,(by show 2≤sizeLine; decide),fun t2 n2=>?_⟩
 obtain ⟨u1,u2⟩:=cut_in z (some cut) none
 have s2:=same_new n2 (.tup [.str (Txt.slice z (some cut) none),.str l])
 have p2:Pair9 (upd H13 t2 (.tup [.str (Txt.slice z (some cut) none),.str l])) (.ref t2):=⟨t2,_,l,_,rfl,upd_same,hl,by omega,by omega,by omega,fun c hc=>hzc c (u1 c hc)⟩
 generalize upd H13 t2 (.tup [.str (Txt.slice z (some cut) none),.str l])=H14 at s2 p2
 refine ⟨_,rfl,_,rfl,(by show 2≤sizeLine; decide),fun t3 n3=>?_⟩
 have s3:=same_new n3 (.tup [.str z,.str (S ES)])
 have p3:Pair9 (upd H14 t3 (.tup [.str z,.str (S ES)])) (.ref t3):=⟨t3,z,S ES,_,rfl,upd_same,ho1,hE0,ho2,hz,hEz⟩
 generalize upd H14 t3 (.tup [.str z,.str (S ES)])=H15 at s3 p3
 refine ⟨_,rfl,(by show 2≤sizeLine; decide),fun t4 n4=>?_⟩
 have s4:=same_new n4 (.tup [.str (Str.ofString ""),.str (S ES)])
 have p4:Pair9 (upd H15 t4 (.tup [.str (Str.ofString ""),.str (S ES)])) (.ref t4):=⟨t4,_,S ES,_,rfl,upd_same,ho1,hE0,ho2,by decide +kernel,fun c hc=>by rw [S_nil] at hc; cases hc⟩
 generalize upd H15 t4 (.tup [.str (Str.ofString ""),.str (S ES)])=H16 at s4 p4
 refine ⟨_,rfl,_,rfl,(by show 2≤sizeLine; decide),fun t5 n5=>?_⟩
 have s5:=same_new n5 (.tup [.str z,.str l])
 have p5:Pair9 (upd H16 t5 (.tup [.str z,.str l])) (.ref t5):=⟨t5,z,l,_,rfl,upd_same,hl,by omega,by omega,hz,hzc⟩
 generalize upd H16 t5 (.tup [.str z,.str l])=H17 at s5 p5
 refine ⟨(by show 5≤sizeLine; decide),fun q5 n6=>?_⟩
 have s6:=same_new n6 (.lst [.ref t1,.ref t2,.ref t3,.ref t4,.ref t5])
 have h18:upd H17 q5 (.lst [.ref t1,.ref t2,.ref t3,.ref t4,.ref t5]) q5=some (.lst [.ref t1,.ref t2,.ref t3,.ref t4,.ref t5]):=upd_same
 have s12:Same H12 (upd H17 q5 (.lst [.ref t1,.ref t2,.ref t3,.ref t4,.ref t5])):=s1.trans (s2.trans (s3.trans (s4.trans (s5.trans s6))))
 have hall:∀ x∈[V.ref t1,V.ref t2,V.ref t3,V.ref t4,V.ref t5],Pair9 (upd H17 q5 (.lst [.ref t1,.ref t2,.ref t3,.ref t4,.ref t5])) x:=by
  intro x hx
  simp only [List.mem_cons,List.not_mem_nil,or_false] at hx
  rcases hx with e | e | e | e | e
  ·rw [e]; exact p1.same (s2.trans (s3.trans (s4.trans (s5.trans s6))))
  ·rw [e]; exact p2.same (s3.trans (s4.trans (s5.trans s6)))
  ·rw [e]; exact p3.same (s4.trans (s5.trans s6))
  ·rw [e]; exact p4.same (s5.trans s6)
  ·rw [e]; exact p5.same s6
 clear p1 p2 p3 p4 p5
 have FA18:=FA9.same (e4.trans s12)
 generalize upd H17 q5 (.lst [.ref t1,.ref t2,.ref t3,.ref t4,.ref t5])=H18 at h18 hall FA18 s12 s6
 clear s12 s6 s1 s2 s3 s4 s5
 refine ⟨q5,rfl,⟨_,SqL.of h18⟩,?_⟩
 generalize [V.ref t1,V.ref t2,V.ref t3,V.ref t4,V.ref t5]=xs5 at h18 hall
 refine for_list (K:=K) (a:=q5) (xs:=xs5) (fun j σ H19=>(∃ v9 v10 v11,σ=[some (.ref a),some (.ref p),some (.int way),some (.str l),some (.str ⟨#[lc]⟩),some (.str more),some (.int cut),some (.str z),some (.str (S ES)),v9,v10,v11,none,none])∧Same H18 H19) ⟨⟨none,none,none,rfl⟩,Same.refl _⟩ (fun j σ H19 _ q=>SqL.of (q.2 _ _ h18)) ?_ ?_
 ·rintro j x σ H19 hx ⟨⟨v9,v10,v11,rfl⟩,e19⟩
  obtain ⟨ta,zt,lt,n,rfl,hta,hlt,hn0,hn1,hzt,hztc⟩:=(hall x (List.mem_of_getElem? hx)).same e19
  have ltl:=len_list lt
  have ltn:=hlt.1
  have ztl:=len_list zt
  have lnd:=nodup_lt' hlt.2.1
  refine ⟨ta,_,rfl,SqT.of hta,rfl,_,_,rfl,_,_,rfl,rfl,?_⟩
  refine ⟨_,rfl,_,rfl,_,rfl,_,rfl,lt,zt,rfl,by omega,by omega,by omega,fun q ini last H20 e20 hq hR=>?_⟩
  refine ⟨lt,zt,q,ini,last,rfl,hq,hR,by omega,by omega,lnd,by omega,hztc,fun H21 e21=>⟨_,rfl,iteF ?_⟩⟩
  refine ⟨_,rfl,_,rfl,lt,zt,n,rfl,hlt,hn0,hn1,by omega,fun wd H22 hF hwl e22=>?_⟩
  have wl:=S_len wd
  refine ⟨_,rfl,_,_,_,_,rfl,.str _,kit_s_s K,_,rfl,iteF ?_⟩
  refine ⟨_,rfl,S wd,rfl,?_⟩
  refine comp_str (cs:=wd) (fun j acc H23=>Same H22 H23∧acc=(List.replicate j true).map V.bl) (small1000 (by omega)) ⟨Same.refl _,rfl⟩ (fun j acc H23 q=>by rw [q.2,List.length_map,List.length_replicate]; exact Nat.le_refl _) (fun j acc H23 c hc q=>cyes ?_) (fun acc H23 q y hy=>?_)
  ·obtain ⟨e23,rfl⟩:=q
   refine ⟨_,rfl,_,rfl,_,_,rfl,rfl,e23,?_⟩
   have hf:(!(Builtin.Str.occurrences lt ⟨#[c]⟩ 0 lt.length 1).isEmpty)=decide (c∈lt.cps.toList):=StrLaws.found_one lt c
   rw [hf,decide_eq_true (hF.1 c (List.mem_of_getElem? hc)),List.replicate_succ',List.map_append]
   rfl
  obtain ⟨e23,rfl⟩:=q
  have e24:=e23.trans (same_new hy (.lst ((List.replicate wd.length true).map V.bl)))
  have h24:upd H23 y (.lst ((List.replicate wd.length true).map V.bl)) y=some (.lst ((List.replicate wd.length true).map V.bl)):=upd_same
  generalize upd H23 y (.lst ((List.replicate wd.length true).map V.bl))=H24 at e24 h24
  refine ⟨y,List.replicate wd.length true,rfl,SqL.of h24,_,rfl,?_⟩
  rw [show (List.replicate wd.length true).all id=true from List.all_eq_true.mpr fun b hb=>(List.mem_replicate.mp hb).2]
  refine iteF ?_
  refine ⟨_,rfl,_,rfl,_,rfl,lt,zt,wd,rfl,hF,by omega,by omega,by omega,lnd,by omega,fun H25 e25=>⟨_,rfl,iteF ?_⟩⟩
  exact ⟨⟨_,_,_,rfl⟩,e19.trans (e20.trans (e21.trans (e22.trans (e24.trans e25))))⟩
 ·rintro σ H19 ⟨⟨v9,v10,v11,rfl⟩,e19⟩
  have FA19:=FA18.same e19
  refine ⟨_,rfl,p,sc,4,rfl,by decide,by decide,FA19,fun rk xs4 hk0 hk1 hx4=>?_⟩
  obtain ⟨kn,rfl⟩:∃ kn:Nat,rk=(kn:Int):=⟨rk.toNat,by omega⟩
  refine ⟨_,rfl,_,rfl,l,kn,rfl,hl1,by omega,fun q H21 _ _ h21=>?_⟩
  refine ⟨q,rfl,⟨_,SqL.of h21⟩,?_⟩
  have wn:=awl_len (L:=l.cps.toList) (by omega) kn (by omega)
  refine comp_list (K:=K) (a:=q) (xs:=strV (awl l.cps.toList kn)) (fun j acc H22=>Same H21 H22∧acc=(((awl l.cps.toList kn).take j).map fun u=>spB u z.cps.toList).map V.bl) (small1000 (by rw [strV_len]; omega)) ⟨Same.refl _,rfl⟩ (fun j acc H22 q=>by rw [q.2,List.length_map,List.length_map,List.length_take]; exact Nat.min_le_left _ _)
   (fun j acc H22 q=>SqL.of (q.1 _ _ h21)) (fun j acc H22 x hx q=>?_) (fun acc H22 q y hy=>?_)
  ·obtain ⟨e22,rfl⟩:=q
   obtain ⟨u,hu,rfl⟩:=strV_at hx
   have hul:=(awl_mem.mp (List.mem_of_getElem? hu)).1
   refine cyes ⟨_,rfl,_,rfl,S u,z,rfl,by rw [S_len]; omega,by omega,e22,?_⟩
   rw [List.take_add_one,hu,List.map_append,List.map_append]
   rfl
  obtain ⟨e22,rfl⟩:=q
  rw [strV_len,List.take_length]
  have h23:upd H22 y (.lst (((awl l.cps.toList kn).map fun u=>spB u z.cps.toList).map V.bl)) y=some (.lst (((awl l.cps.toList kn).map fun u=>spB u z.cps.toList).map V.bl)):=upd_same
  generalize upd H22 y (.lst (((awl l.cps.toList kn).map fun u=>spB u z.cps.toList).map V.bl))=H23 at h23
  refine ⟨y,(awl l.cps.toList kn).map fun u=>spB u z.cps.toList,rfl,SqL.of h23,?_⟩
  refine ⟨_,rfl,_,rfl,_,rfl,l,z,rfl,hl0,by omega,by omega,fun q ini last H24 _ hq hR=>?_⟩
  refine ⟨q,_,rfl,.inr (SqT.of hq),_,rfl,_,_,rfl,rfl,rfl,?_⟩
  rw [whole_is hR.n kn,show (strV (ini ++ [last])).length=ini.length+1 by rw [strV_len,List.length_append]; rfl]
  rw [decide_eq_true (rfl:V.bl (decide (((kn:Nat):Int) < ((ini.length+1:Nat):Int)))=_)]
  exact k H24
end
theorem all_mk {l:PySem.W.OpenLaw} {w:World} {K:PySem.W.Frag} {h:Heap} {mg:Str→Option Value} {fa:Addr} (X:K.In h) (G:h.Ns mainGlobals mg) (hfa:mg "law" = some (.ref fa))
  {f1:Addr} {od1 an1:Option Addr} {sl1:Array (Option Value)} {oc1 kV1 dc1 pm1 cd1 ct1:Value}
  (a1:PySem.W.nsIn K mainGlobals "left_behind" = some (some (.ref f1))) (l1:K.lookup f1=some ⟨oc1,od1,.func (PySem.W.fnOf "left_behind" "left_behind" (defArgs s_left_behind) (defBody s_left_behind) (defScope s_left_behind) .none kV1 dc1 pm1 an1 cd1 ct1),sl1⟩) (c1:PySem.W.codeIn K cd1 "left_behind" = true) (k1:PySem.W.keepIn K (.ref f1)=true)
  {f2:Addr} {od2 an2:Option Addr} {sl2:Array (Option Value)} {oc2 kV2 dc2 pm2 cd2 ct2:Value}
  (a2:PySem.W.nsIn K mainGlobals "arch_end" = some (some (.ref f2))) (l2:K.lookup f2=some ⟨oc2,od2,.func (PySem.W.fnOf "arch_end" "arch_end" (defArgs s_arch_end) (defBody s_arch_end) (defScope s_arch_end) .none kV2 dc2 pm2 an2 cd2 ct2),sl2⟩) (c2:PySem.W.codeIn K cd2 "arch_end" = true) (k2:PySem.W.keepIn K (.ref f2)=true)
  {f3:Addr} {od3 an3:Option Addr} {sl3:Array (Option Value)} {oc3 kV3 dc3 pm3 cd3 ct3:Value}
  (a3:PySem.W.nsIn K mainGlobals "arches" = some (some (.ref f3))) (l3:K.lookup f3=some ⟨oc3,od3,.func (PySem.W.fnOf "arches" "arches" (defArgs s_arches) (defBody s_arches) (defScope s_arches) .none kV3 dc3 pm3 an3 cd3 ct3),sl3⟩) (c3:PySem.W.codeIn K cd3 "arches" = true) (k3:PySem.W.keepIn K (.ref f3)=true)
  {f4:Addr} {od4 an4:Option Addr} {sl4:Array (Option Value)} {oc4 kV4 dc4 pm4 cd4 ct4:Value}
  (a4:PySem.W.nsIn K mainGlobals "absent" = some (some (.ref f4))) (l4:K.lookup f4=some ⟨oc4,od4,.func (PySem.W.fnOf "absent" "absent" (defArgs s_absent) (defBody s_absent) (defScope s_absent) .none kV4 dc4 pm4 an4 cd4 ct4),sl4⟩) (c4:PySem.W.codeIn K cd4 "absent" = true) (k4:PySem.W.keepIn K (.ref f4)=true)
  {f5:Addr} {od5 an5:Option Addr} {sl5:Array (Option Value)} {oc5 kV5 dc5 pm5 cd5 ct5:Value}
  (a5:PySem.W.nsIn K mainGlobals "_law_flow" = some (some (.ref f5))) (l5:K.lookup f5=some ⟨oc5,od5,.func (PySem.W.fnOf "_law_flow" "_law_flow" (defArgs s_law_flow) (defBody s_law_flow) (defScope s_law_flow) .none kV5 dc5 pm5 an5 cd5 ct5),sl5⟩) (c5:PySem.W.codeIn K cd5 "_law_flow" = true) (k5:PySem.W.keepIn K (.ref f5)=true)
  {f6:Addr} {od6 an6:Option Addr} {sl6:Array (Option Value)} {oc6 kV6 dc6 pm6 cd6 ct6:Value}
  (a6:PySem.W.nsIn K mainGlobals "_law_pick" = some (some (.ref f6))) (l6:K.lookup f6=some ⟨oc6,od6,.func (PySem.W.fnOf "_law_pick" "_law_pick" (defArgs s_law_pick) (defBody s_law_pick) (defScope s_law_pick) .none kV6 dc6 pm6 an6 cd6 ct6),sl6⟩) (c6:PySem.W.codeIn K cd6 "_law_pick" = true) (k6:PySem.W.keepIn K (.ref f6)=true)
  {f7:Addr} {od7 an7:Option Addr} {sl7:Array (Option Value)} {oc7 kV7 dc7 pm7 cd7 ct7:Value}
  (a7:PySem.W.nsIn K mainGlobals "_law_letters" = some (some (.ref f7))) (l7:K.lookup f7=some ⟨oc7,od7,.func (PySem.W.fnOf "_law_letters" "_law_letters" (defArgs s_law_letters) (defBody s_law_letters) (defScope s_law_letters) .none kV7 dc7 pm7 an7 cd7 ct7),sl7⟩) (c7:PySem.W.codeIn K cd7 "_law_letters" = true) (k7:PySem.W.keepIn K (.ref f7)=true)
  {f8:Addr} {od8 an8:Option Addr} {sl8:Array (Option Value)} {oc8 kV8 dc8 pm8 cd8 ct8:Value}
  (a8:PySem.W.nsIn K mainGlobals "_law_word" = some (some (.ref f8))) (l8:K.lookup f8=some ⟨oc8,od8,.func (PySem.W.fnOf "_law_word" "_law_word" (defArgs s_law_word) (defBody s_law_word) (defScope s_law_word) .none kV8 dc8 pm8 an8 cd8 ct8),sl8⟩) (c8:PySem.W.codeIn K cd8 "_law_word" = true) (k8:PySem.W.keepIn K (.ref f8)=true)
  {f9:Addr} {od9 an9:Option Addr} {sl9:Array (Option Value)} {oc9 kV9 dc9 pm9 cd9 ct9:Value}
  (a9:PySem.W.nsIn K mainGlobals "_law_spread" = some (some (.ref f9))) (l9:K.lookup f9=some ⟨oc9,od9,.func (PySem.W.fnOf "_law_spread" "_law_spread" (defArgs s_law_spread) (defBody s_law_spread) (defScope s_law_spread) .none kV9 dc9 pm9 an9 cd9 ct9),sl9⟩) (c9:PySem.W.codeIn K cd9 "_law_spread" = true) (k9:PySem.W.keepIn K (.ref f9)=true)
  {f10:Addr} {od10 an10:Option Addr} {sl10:Array (Option Value)} {oc10 kV10 dc10 pm10 cd10 ct10:Value}
  (a10:PySem.W.nsIn K mainGlobals "_law_all_words" = some (some (.ref f10))) (l10:K.lookup f10=some ⟨oc10,od10,.func (PySem.W.fnOf "_law_all_words" "_law_all_words" (defArgs s_law_all_words) (defBody s_law_all_words) (defScope s_law_all_words) .none kV10 dc10 pm10 an10 cd10 ct10),sl10⟩) (c10:PySem.W.codeIn K cd10 "_law_all_words" = true) (k10:PySem.W.keepIn K (.ref f10)=true)
  {f11:Addr} {od11 an11:Option Addr} {sl11:Array (Option Value)} {oc11 kV11 dc11 pm11 cd11 ct11:Value}
  (a11:PySem.W.nsIn K mainGlobals "_law_pairs" = some (some (.ref f11))) (l11:K.lookup f11=some ⟨oc11,od11,.func (PySem.W.fnOf "_law_pairs" "_law_pairs" (defArgs s_law_pairs) (defBody s_law_pairs) (defScope s_law_pairs) .none kV11 dc11 pm11 an11 cd11 ct11),sl11⟩) (c11:PySem.W.codeIn K cd11 "_law_pairs" = true) (k11:PySem.W.keepIn K (.ref f11)=true)
  {f12:Addr} {od12 an12:Option Addr} {sl12:Array (Option Value)} {oc12 kV12 dc12 pm12 cd12 ct12:Value}
  (a12:PySem.W.nsIn K mainGlobals "_law_step" = some (some (.ref f12))) (l12:K.lookup f12=some ⟨oc12,od12,.func (PySem.W.fnOf "_law_step" "_law_step" (defArgs s_law_step) (defBody s_law_step) (defScope s_law_step) .none kV12 dc12 pm12 an12 cd12 ct12),sl12⟩) (c12:PySem.W.codeIn K cd12 "_law_step" = true) (k12:PySem.W.keepIn K (.ref f12)=true)
  {f13:Addr} {od13 an13:Option Addr} {sl13:Array (Option Value)} {oc13 kV13 dc13 pm13 cd13 ct13:Value}
  (a13:PySem.W.nsIn K mainGlobals "_law_arches" = some (some (.ref f13))) (l13:K.lookup f13=some ⟨oc13,od13,.func (PySem.W.fnOf "_law_arches" "_law_arches" (defArgs s_law_arches) (defBody s_law_arches) (defScope s_law_arches) .none kV13 dc13 pm13 an13 cd13 ct13),sl13⟩) (c13:PySem.W.codeIn K cd13 "_law_arches" = true) (k13:PySem.W.keepIn K (.ref f13)=true)
  {f14:Addr} {od14 an14:Option Addr} {sl14:Array (Option Value)} {oc14 kV14 dc14 pm14 cd14 ct14:Value}
  (a14:PySem.W.nsIn K mainGlobals "_law_pieces_right" = some (some (.ref f14))) (l14:K.lookup f14=some ⟨oc14,od14,.func (PySem.W.fnOf "_law_pieces_right" "_law_pieces_right" (defArgs s_law_pieces_right) (defBody s_law_pieces_right) (defScope s_law_pieces_right) .none kV14 dc14 pm14 an14 cd14 ct14),sl14⟩) (c14:PySem.W.codeIn K cd14 "_law_pieces_right" = true) (k14:PySem.W.keepIn K (.ref f14)=true)
  {f15:Addr} {od15 an15:Option Addr} {sl15:Array (Option Value)} {oc15 kV15 dc15 pm15 cd15 ct15:Value}
  (a15:PySem.W.nsIn K mainGlobals "_law_first_absent" = some (some (.ref f15))) (l15:K.lookup f15=some ⟨oc15,od15,.func (PySem.W.fnOf "_law_first_absent" "_law_first_absent" (defArgs s_law_first_absent) (defBody s_law_first_absent) (defScope s_law_first_absent) .none kV15 dc15 pm15 an15 cd15 ct15),sl15⟩) (c15:PySem.W.codeIn K cd15 "_law_first_absent" = true) (k15:PySem.W.keepIn K (.ref f15)=true)
  {f16:Addr} {od16 an16:Option Addr} {sl16:Array (Option Value)} {oc16 kV16 dc16 pm16 cd16 ct16:Value}
  (a16:PySem.W.nsIn K mainGlobals "law" = some (some (.ref f16))) (l16:K.lookup f16=some ⟨oc16,od16,.func (PySem.W.fnOf "law" "law" (defArgs s_law) (defBody s_law) (defScope s_law) .none kV16 dc16 pm16 an16 cd16 ct16),sl16⟩) (c16:PySem.W.codeIn K cd16 "law" = true) (k16:PySem.W.keepIn K (.ref f16)=true)
  (z_all:PySem.W.nsIn K mainGlobals "all" = some none)
  (z_int:PySem.W.nsIn K mainGlobals "int" = some none)
  (z_isinstance:PySem.W.nsIn K mainGlobals "isinstance" = some none)
  (z_len:PySem.W.nsIn K mainGlobals "len" = some none)
  (z_list:PySem.W.nsIn K mainGlobals "list" = some none)
  (z_max:PySem.W.nsIn K mainGlobals "max" = some none)
  (z_range:PySem.W.nsIn K mainGlobals "range" = some none)
  (z_set:PySem.W.nsIn K mainGlobals "set" = some none)
  (z_sorted:PySem.W.nsIn K mainGlobals "sorted" = some none)
  (z_str:PySem.W.nsIn K mainGlobals "str" = some none)
  (z_tuple:PySem.W.nsIn K mainGlobals "tuple" = some none)
  : ∃ fd:FuncData,(∀ (s:Shared) (v:Value),BindsTo s fd ⟨[v],[]⟩ [("_law_script",v)])∧∀ base:Heap,K.In base→base.Ns mainGlobals mg→FnOk l.prog w K mg base CX0 4 fa fd ["_law_script"] (spLaw K):=by
 have e:=hfa.symm.trans (PySem.W.mg_of X G a16)
 cases e
 have F_left_behind:=fun_mk (st:=s_left_behind) l1 c1 k1
 have b_left_behind:=F_left_behind.binds (ps:=["text","start","letter"]) fun _ _ _ _ _ _ us hl=>match us,hl with | [_,_,_],_=>rfl
 have m_left_behind:=PySem.W.mg_of X G a1
 have F_arch_end:=fun_mk (st:=s_arch_end) l2 c2 k2
 have b_arch_end:=F_arch_end.binds (ps:=["letters","text","start"]) fun _ _ _ _ _ _ us hl=>match us,hl with | [_,_,_],_=>rfl
 have m_arch_end:=PySem.W.mg_of X G a2
 have F_arches:=fun_mk (st:=s_arches) l3 c3 k3
 have b_arches:=F_arches.binds (ps:=["letters","text"]) fun _ _ _ _ _ _ us hl=>match us,hl with | [_,_],_=>rfl
 have m_arches:=PySem.W.mg_of X G a3
 have F_absent:=fun_mk (st:=s_absent) l4 c4 k4
 have b_absent:=F_absent.binds (ps:=["letters","text"]) fun _ _ _ _ _ _ us hl=>match us,hl with | [_,_],_=>rfl
 have m_absent:=PySem.W.mg_of X G a4
 have F_law_flow:=fun_mk (st:=s_law_flow) l5 c5 k5
 have b_law_flow:=F_law_flow.binds (ps:=["_law_script"]) fun _ _ _ _ _ _ us hl=>match us,hl with | [_],_=>rfl
 have m_law_flow:=PySem.W.mg_of X G a5
 have F_law_pick:=fun_mk (st:=s_law_pick) l6 c6 k6
 have b_law_pick:=F_law_pick.binds (ps:=["_law_flow_here","_law_many"]) fun _ _ _ _ _ _ us hl=>match us,hl with | [_,_],_=>rfl
 have m_law_pick:=PySem.W.mg_of X G a6
 have F_law_letters:=fun_mk (st:=s_law_letters) l7 c7 k7
 have b_law_letters:=F_law_letters.binds (ps:=["_law_flow_here","_law_many"]) fun _ _ _ _ _ _ us hl=>match us,hl with | [_,_],_=>rfl
 have m_law_letters:=PySem.W.mg_of X G a7
 have F_law_word:=fun_mk (st:=s_law_word) l8 c8 k8
 have b_law_word:=F_law_word.binds (ps:=["_law_flow_here","_law_letters_here","_law_most"]) fun _ _ _ _ _ _ us hl=>match us,hl with | [_,_,_],_=>rfl
 have m_law_word:=PySem.W.mg_of X G a8
 have F_law_spread:=fun_mk (st:=s_law_spread) l9 c9 k9
 have b_law_spread:=F_law_spread.binds (ps:=["_law_word_here","_law_text"]) fun _ _ _ _ _ _ us hl=>match us,hl with | [_,_],_=>rfl
 have m_law_spread:=PySem.W.mg_of X G a9
 have F_law_all_words:=fun_mk (st:=s_law_all_words) l10 c10 k10
 have b_law_all_words:=F_law_all_words.binds (ps:=["_law_letters_here","_law_most"]) fun _ _ _ _ _ _ us hl=>match us,hl with | [_,_],_=>rfl
 have m_law_all_words:=PySem.W.mg_of X G a10
 have F_law_pairs:=fun_mk (st:=s_law_pairs) l11 c11 k11
 have b_law_pairs:=F_law_pairs.binds (ps:=["_law_words","_law_letters_here"]) fun _ _ _ _ _ _ us hl=>match us,hl with | [_,_],_=>rfl
 have m_law_pairs:=PySem.W.mg_of X G a11
 have F_law_step:=fun_mk (st:=s_law_step) l12 c12 k12
 have b_law_step:=F_law_step.binds (ps:=["_law_text","_law_at","_law_letter"]) fun _ _ _ _ _ _ us hl=>match us,hl with | [_,_,_],_=>rfl
 have m_law_step:=PySem.W.mg_of X G a12
 have F_law_arches:=fun_mk (st:=s_law_arches) l13 c13 k13
 have b_law_arches:=F_law_arches.binds (ps:=["_law_letters_here","_law_text"]) fun _ _ _ _ _ _ us hl=>match us,hl with | [_,_],_=>rfl
 have m_law_arches:=PySem.W.mg_of X G a13
 have F_law_pieces_right:=fun_mk (st:=s_law_pieces_right) l14 c14 k14
 have b_law_pieces_right:=F_law_pieces_right.binds (ps:=["_law_letters_here","_law_text","_law_told"]) fun _ _ _ _ _ _ us hl=>match us,hl with | [_,_,_],_=>rfl
 have m_law_pieces_right:=PySem.W.mg_of X G a14
 have F_law_first_absent:=fun_mk (st:=s_law_first_absent) l15 c15 k15
 have b_law_first_absent:=F_law_first_absent.binds (ps:=["_law_letters_here","_law_text","_law_word_here"]) fun _ _ _ _ _ _ us hl=>match us,hl with | [_,_,_],_=>rfl
 have m_law_first_absent:=PySem.W.mg_of X G a15
 have F_law:=fun_mk (st:=s_law) l16 c16 k16
 have b_law:=F_law.binds (ps:=["_law_script"]) fun _ _ _ _ _ _ us hl=>match us,hl with | [_],_=>rfl
 have m_law:=PySem.W.mg_of X G a16
 have Z:Blt mg:=⟨PySem.W.mg_none_of X G z_all,PySem.W.mg_none_of X G z_int,PySem.W.mg_none_of X G z_isinstance,PySem.W.mg_none_of X G z_len,PySem.W.mg_none_of X G z_list,PySem.W.mg_none_of X G z_max,PySem.W.mg_none_of X G z_range,PySem.W.mg_none_of X G z_set,PySem.W.mg_none_of X G z_sorted,PySem.W.mg_none_of X G z_str,PySem.W.mg_none_of X G z_tuple⟩
 refine ⟨PySem.W.fnOf "law" "law" (defArgs s_law) (defBody s_law) (defScope s_law) .none kV16 dc16 pm16 an16 cd16 ct16,fun s v=>.of_eq rfl,fun base _ _=>?_⟩
 have C_law_pick:Cal l.prog w K mg base "_law_pick" 1 _ spPick:=⟨_,_,ok_law_pick F_law_pick Z,m_law_pick,F_law_pick.kp,b_law_pick⟩
 have C_law_flow:Cal l.prog w K mg base "_law_flow" 1 _ (spFlow K):=⟨_,_,ok_law_flow F_law_flow Z,m_law_flow,F_law_flow.kp,b_law_flow⟩
 have C_law_letters:Cal l.prog w K mg base "_law_letters" 2 _ spLetters:=⟨_,_,ok_law_letters F_law_letters Z C_law_pick,m_law_letters,F_law_letters.kp,b_law_letters⟩
 have C_law_word:Cal l.prog w K mg base "_law_word" 2 _ spWord:=⟨_,_,ok_law_word F_law_word Z C_law_pick,m_law_word,F_law_word.kp,b_law_word⟩
 have C_law_spread:Cal l.prog w K mg base "_law_spread" 1 _ spSpread:=⟨_,_,ok_law_spread F_law_spread Z,m_law_spread,F_law_spread.kp,b_law_spread⟩
 have C_left_behind:Cal l.prog w K mg base "left_behind" 1 _ spLB:=⟨_,_,ok_left_behind F_left_behind Z,m_left_behind,F_left_behind.kp,b_left_behind⟩
 have C_law_pairs:Cal l.prog w K mg base "_law_pairs" 1 _ spPairs:=⟨_,_,ok_law_pairs F_law_pairs Z,m_law_pairs,F_law_pairs.kp,b_law_pairs⟩
 have C_law_all_words:Cal l.prog w K mg base "_law_all_words" 2 _ spAllW:=⟨_,_,ok_law_all_words F_law_all_words Z C_law_pairs,m_law_all_words,F_law_all_words.kp,b_law_all_words⟩
 have C_arch_end:Cal l.prog w K mg base "arch_end" 2 _ spArchEnd:=⟨_,_,ok_arch_end F_arch_end Z C_left_behind,m_arch_end,F_arch_end.kp,b_arch_end⟩
 have C_arches:Cal l.prog w K mg base "arches" 3 _ spArches:=⟨_,_,ok_arches F_arches Z C_arch_end,m_arches,F_arches.kp,b_arches⟩
 have C_absent:Cal l.prog w K mg base "absent" 2 _ spAbsent:=⟨_,_,ok_absent F_absent Z C_left_behind,m_absent,F_absent.kp,b_absent⟩
 have C_law_step:Cal l.prog w K mg base "_law_step" 1 _ spStep:=⟨_,_,ok_law_step F_law_step Z,m_law_step,F_law_step.kp,b_law_step⟩
 have C_law_arches:Cal l.prog w K mg base "_law_arches" 1 _ spArL:=⟨_,_,ok_law_arches F_law_arches Z,m_law_arches,F_law_arches.kp,b_law_arches⟩
 have C_law_pieces_right:Cal l.prog w K mg base "_law_pieces_right" 2 _ spPR:=⟨_,_,ok_law_pieces_right F_law_pieces_right Z C_law_arches,m_law_pieces_right,F_law_pieces_right.kp,b_law_pieces_right⟩
 have C_law_first_absent:Cal l.prog w K mg base "_law_first_absent" 2 _ spFA:=⟨_,_,ok_law_first_absent F_law_first_absent Z C_law_arches C_law_spread C_law_step,m_law_first_absent,F_law_first_absent.kp,b_law_first_absent⟩
 exact ok_law F_law Z C_law_flow C_law_pick C_law_letters C_law_word C_law_spread C_law_all_words C_arches C_absent C_law_pieces_right C_law_first_absent
theorem walk {l:PySem.W.OpenLaw} {q:Program} {loose:List Str} {XP:(Str→Option Value)→Heap→Prop} {YP:World→Heap→Prop} {d:DefRec} {K:Params→PySem.W.Frag} (hn:l.most=some 63) (hdf:d.params.defaults=[])
  (hY:∀ (w:World) (h:Heap),YP w h→(K w.params).In h)
  (F:∀ (w:World) (mg:Str→Option Value) (fa:Addr) (h:Heap),(K w.params).In h→h.Ns mainGlobals mg→mg d.name=some (.ref fa)→
   ∃ fd:FuncData,(∀ (s:Shared) (u:Value),BindsTo s fd ⟨[u],[]⟩ [("_law_script",u)])∧∀ base:Heap,(K w.params).In base→base.Ns mainGlobals mg→FnOk l.prog w (K w.params) mg base CX0 4 fa fd ["_law_script"] (spLaw (K w.params))) :
  PySem.W.WalkO q loose XP YP l.row.toRowW d [] (fun f vs=>PySem.call f vs):=
 L2.walk_of (n:=63) (k:=4) (x:="_law_script") (CX:=fun _=>CX0) (sp:=fun w=>spLaw (K w.params)) hn (by decide) hdf ⟨rfl,by decide,by decide⟩ hY F (fun _ _ a ns hl _ hS=>⟨a,ns,rfl,hS,hl,fun _=>rfl⟩) fun _ _ _ _ _ z=>z
end My
open PySem PySem.W PyProof.Rows
set_option maxRecDepth 100000 in
set_option maxHeartbeats 0 in
theorem PySem.Challenge.cw_spreadwords_k09_arches_and_absent_words_holds : PySem.Challenge.rw_spreadwords_k09_arches_and_absent_words.Holds := by
 w_on; o_law; k_head; (case hw=>w_witness2)
 k_fill
 refine My.walk (l:=PySem.Challenge.rw_spreadwords_k09_arches_and_absent_words) rfl rfl (fun w h Y=>PySem.W.kIn_of Y) ?F
 case F=>
  intro w mg fa h KX G hmg
  refine' My.all_mk KX G hmg ?a1 ?l1 ?c1 ?k1 ?a2 ?l2 ?c2 ?k2 ?a3 ?l3 ?c3 ?k3 ?a4 ?l4 ?c4 ?k4 ?a5 ?l5 ?c5 ?k5 ?a6 ?l6 ?c6 ?k6 ?a7 ?l7 ?c7 ?k7 ?a8 ?l8 ?c8 ?k8 ?a9 ?l9 ?c9 ?k9 ?a10 ?l10 ?c10 ?k10 ?a11 ?l11 ?c11 ?k11 ?a12 ?l12 ?c12 ?k12 ?a13 ?l13 ?c13 ?k13 ?a14 ?l14 ?c14 ?k14 ?a15 ?l15 ?c15 ?k15 ?a16 ?l16 ?c16 ?k16 ?z_all ?z_int ?z_isinstance ?z_len ?z_list ?z_max ?z_range ?z_set ?z_sorted ?z_str ?z_tuple
  (case a1=>k_is)
  (case l1=>k_is)
  (case c1=>k_is)
  (case k1=>k_is)
  (case a2=>k_is)
  (case l2=>k_is)
  (case c2=>k_is)
  (case k2=>k_is)
  (case a3=>k_is)
  (case l3=>k_is)
  (case c3=>k_is)
  (case k3=>k_is)
  (case a4=>k_is)
  (case l4=>k_is)
  (case c4=>k_is)
  (case k4=>k_is)
  (case a5=>k_is)
  (case l5=>k_is)
  (case c5=>k_is)
  (case k5=>k_is)
  (case a6=>k_is)
  (case l6=>k_is)
  (case c6=>k_is)
  (case k6=>k_is)
  (case a7=>k_is)
  (case l7=>k_is)
  (case c7=>k_is)
  (case k7=>k_is)
  (case a8=>k_is)
  (case l8=>k_is)
  (case c8=>k_is)
  (case k8=>k_is)
  (case a9=>k_is)
  (case l9=>k_is)
  (case c9=>k_is)
  (case k9=>k_is)
  (case a10=>k_is)
  (case l10=>k_is)
  (case c10=>k_is)
  (case k10=>k_is)
  (case a11=>k_is)
  (case l11=>k_is)
  (case c11=>k_is)
  (case k11=>k_is)
  (case a12=>k_is)
  (case l12=>k_is)
  (case c12=>k_is)
  (case k12=>k_is)
  (case a13=>k_is)
  (case l13=>k_is)
  (case c13=>k_is)
  (case k13=>k_is)
  (case a14=>k_is)
  (case l14=>k_is)
  (case c14=>k_is)
  (case k14=>k_is)
  (case a15=>k_is)
  (case l15=>k_is)
  (case c15=>k_is)
  (case k15=>k_is)
  (case a16=>k_is)
  (case l16=>k_is)
  (case c16=>k_is)
  (case k16=>k_is)
  (case z_all=>k_is)
  (case z_int=>k_is)
  (case z_isinstance=>k_is)
  (case z_len=>k_is)
  (case z_list=>k_is)
  (case z_max=>k_is)
  (case z_range=>k_is)
  (case z_set=>k_is)
  (case z_sorted=>k_is)
  (case z_str=>k_is)
  (case z_tuple=>k_is)
