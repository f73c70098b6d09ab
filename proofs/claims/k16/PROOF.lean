import PyProof.Rows.All
import Wide.All
import OpenK.AllK
import Wide.FinOn
import KE.KTryMore
import PyProof.NsDelKeeps
import PyProof.ListRange
import PyProof.Draws
import PyProof.EnumMake
import KE.KUnpack
import KE.KLam
import KE.KRevIter
import KE.KDictOf
import PyProof.AttrMissSeq
import KE.KDictList
import KE.LcSums
import KE.KSortTup
import KE.KIntText
import PyProof.StrLawsTight
import PyProof.StrLawsChain
import PyProof.Rows.StrItems
import PyProof.NeKinds
import PyProof.Rows.SetFrom
import PyProof.DictFindH
import Lean
import PyProof.EqAt
import PyProof.EqKinds
import PyProof.TupleCall
import PyProof.ListStr
import KE.KRevSl
import PyProof.Rows.Range3
import PySem.Challenge.RW_spreadwords_k16_machines_looked_at
set_option Elab.async false
set_option linter.all false
set_option maxRecDepth 100000
set_option maxHeartbeats 4000000
namespace L2
open PySem PySem.Spec PyProof.Rows
abbrev Key:=Sum Int Str
def keyIs:Key→Value→Bool
 | .inl k,v=>Value.isInt k v
 | .inr x,v=>Value.isStrOf x v
def keyH (w:World):Key→Int
 | .inl k=>hashInt k
 | .inr x=>hashStr w x
theorem keyIs_shape:∀ {k:Key} {v:Value},keyIs k v=true→(∃ i t,k=Sum.inl i∧v=Value.int i t)∨(∃ x t,k=Sum.inr x∧v=Value.str x t)
 | .inl i,v,h=>by
  obtain ⟨t,e⟩:=Value.isInt_shape (k:=i) (v:=v) h
  exact .inl ⟨i,t,rfl,e⟩
 | .inr x,v,h=>by
  obtain ⟨t,e⟩:=Value.isStrOf_shape (x:=x) (v:=v) h
  exact .inr ⟨x,t,rfl,e⟩
theorem key_ll (a b:Int):decide ((Sum.inl a:Key)=Sum.inl b)=(a==b):=by
 by_cases e:a=b
 ·subst e; simp
 ·have h:¬ (Sum.inl a:Key)=Sum.inl b:=fun q=>e (Sum.inl.inj q)
  rw [decide_eq_false h]
  exact (beq_eq_false_iff_ne.mpr e).symm
theorem key_rr (a b:Str):decide ((Sum.inr a:Key)=Sum.inr b)=decide (a=b):=by
 by_cases e:a=b
 ·subst e; simp
 ·have h:¬ (Sum.inr a:Key)=Sum.inr b:=fun q=>e (Sum.inr.inj q)
  rw [decide_eq_false h,decide_eq_false e]
theorem key_lr (a:Int) (b:Str):decide ((Sum.inl a:Key)=Sum.inr b)=false:=decide_eq_false (fun q=>nomatch q)
theorem key_rl (a:Str) (b:Int):decide ((Sum.inr a:Key)=Sum.inl b)=false:=decide_eq_false (fun q=>nomatch q)
def mixKind (prog:Program) (w:World):PySem.KeyKind prog w Key where
 is:=keyIs
 hash:=keyH w
 inj:=fun v a b ha hb=>by
  rcases keyIs_shape ha with ⟨i,t,rfl,rfl⟩ | ⟨x,t,rfl,rfl⟩
  ·rcases keyIs_shape hb with ⟨j,u,rfl,e⟩ | ⟨y,u,rfl,e⟩
   ·injection e with e1 _; rw [e1]
   ·exact nomatch e
  ·rcases keyIs_shape hb with ⟨j,u,rfl,e⟩ | ⟨y,u,rfl,e⟩
   ·exact nomatch e
   ·injection e with e1 _; rw [e1]
 byValue:=fun k v h=>by
  rcases keyIs_shape h with ⟨i,t,rfl,rfl⟩ | ⟨x,t,rfl,rfl⟩ <;> rfl
 pyHash:=fun hv h=>by
  rcases keyIs_shape hv with ⟨i,t,rfl,rfl⟩ | ⟨x,t,rfl,rfl⟩
  ·exact wpAny_pyHash_int h
  ·exact wpAny_pyHash_str h
 eqBool:=fun hu hv h=>by
  rcases keyIs_shape hu with ⟨i,t,rfl,rfl⟩ | ⟨x,t,rfl,rfl⟩
  ·rcases keyIs_shape hv with ⟨j,u,rfl,rfl⟩ | ⟨y,u,rfl,rfl⟩
   ·rw [key_ll] at h; exact wpAny_eqBool_int h
   ·rw [key_lr] at h; exact SeqAt.EqAt.int_str i t y u _ _ _ _ h
  ·rcases keyIs_shape hv with ⟨j,u,rfl,rfl⟩ | ⟨y,u,rfl,rfl⟩
   ·rw [key_rl] at h; exact SeqAt.EqAt.str_int x t j u _ _ _ _ h
   ·rw [key_rr] at h; exact wpAny_eqBool_str h
 «strs»:=fun k x t v h=>by
  rcases keyIs_shape h with ⟨i,u,rfl,e⟩ | ⟨y,u,rfl,e⟩
  ·exact nomatch e
  ·injection e with e1 _
   subst e1
   cases v <;> rfl
end L2
namespace L2
open PySem PySem.Spec PyProof.Rows
inductive V where
 | non | bl (b:Bool) | int (i:Int) | str (x:Str) | byt (b:Array UInt8) | flt (b:UInt64) | ref (a:Addr) | ty (n:String)
 deriving DecidableEq
def RelV:V→Value→Prop
 | .non,u=>u=Value.none
 | .bl b,u=>u=Value.bool b
 | .int i,u=>∃ t,u=Value.int i t
 | .str x,u=>∃ t,u=Value.str x t
 | .byt b,u=>∃ t,u=Value.bytes b t
 | .flt b,u=>∃ t,u=Value.float b t
 | .ref a,u=>u=Value.ref a
 | .ty n,u=>u=Value.type n
abbrev Vals:List V→List Value→Prop:=Paired RelV
theorem Vals.length {xs:List V} {us:List Value} (r:Vals xs us):xs.length=us.length:=Paired.length r
theorem Vals.get:∀ {xs:List V} {us:List Value} {i:Nat} {x:V},Vals xs us→xs[i]? = some x→∃ u,us[i]? = some u∧RelV x u
 | _,_,_,_,.nil,e=>by simp at e
 | _,_,0,_,.cons r _,e=>by simp at e; subst e; exact ⟨_,rfl,r⟩
 | _,_,i+1,x,.cons _ t,e=>by
  obtain ⟨u,h1,h2⟩:=Vals.get (i:=i) (x:=x) t (by simpa using e)
  exact ⟨u,by simpa using h1,h2⟩
theorem Vals.set {x:V} {u:Value} (r:RelV x u):∀ {xs:List V} {us:List Value} (i:Nat),Vals xs us→Vals (xs.set i x) (us.set i u)
 | _,_,_,.nil=>.nil
 | _,_,0,.cons _ t=>.cons r t
 | _,_,i+1,.cons q t=>.cons q (Vals.set r i t)
theorem Vals.append:∀ {xs ys:List V} {us ws:List Value},Vals xs us→Vals ys ws→Vals (xs ++ ys) (us ++ ws)
 | _,_,_,_,.nil,s=>s
 | _,_,_,_,.cons r t,s=>.cons r (Vals.append t s)
theorem Vals.take:∀ {xs:List V} {us:List Value} (n:Nat),Vals xs us→Vals (xs.take n) (us.take n)
 | _,_,0,_=>.nil
 | _,_,_+1,.nil=>.nil
 | _,_,n+1,.cons r t=>.cons r (Vals.take n t)
theorem Vals.drop:∀ {xs:List V} {us:List Value} (n:Nat),Vals xs us→Vals (xs.drop n) (us.drop n)
 | _,_,0,r=>r
 | _,_,_+1,.nil=>.nil
 | _,_,n+1,.cons _ t=>Vals.drop n t
theorem Vals.none_of:∀ {xs:List V} {us:List Value} {i:Nat},Vals xs us→xs[i]? = none→us[i]? = none:=fun {xs us i} r e=>by
 have h1:=r.length
 have h2:xs.length≤i:=List.getElem?_eq_none_iff.mp e
 exact List.getElem?_eq_none_iff.mpr (by omega)
def RelO:Option V→Option Value→Prop
 | some v,some u=>RelV v u
 | none,none=>True
 | _,_=>False
def KV {κ:Type}:List (κ × V)→List (κ × Value)→Prop:=Paired fun (p:κ × V) (q:κ × Value)=>p.1=q.1∧RelV p.2 q.2
def kV:Key→V
 | .inl i=>.int i
 | .inr x=>.str x
inductive HO where
  | lst (xs:List V)
  | tup (xs:List V)
  | dK (kvs:List (Key × V)) | dT (kvs:List (List Key × V))
  | set (S:Int→Bool) (n:Nat)
  | ins (C dx:Addr) (fs:List (Str × V))
  | own (x:Addr)
  | xd (fs:List (Str × V))
  | met (f x:Addr)
  | rng (lo hi:Int)
  | frz (o:Obj) (u:HO)
  | tbl (ps:Array Value)
  | ext (φ:Heap→Prop)
abbrev Hp:=Addr→Option HO
def upd (H:Hp) (a:Addr) (o:HO):Hp:=fun b=>if b=a then some o else H b
theorem upd_same {H:Hp} {a:Addr} {o:HO}:upd H a o a=some o:=by unfold upd; rw [if_pos rfl]
theorem upd_ne {H:Hp} {a b:Addr} {o:HO} (h:b≠a):upd H a o b=H b:=by unfold upd; rw [if_neg h]
theorem upd_upd {H:Hp} {a:Addr} {o u:HO}:upd (upd H a o) a u=upd H a u:=by
 funext b; unfold upd; split <;> rfl
theorem ne_of {H:Hp} {a b:Addr} {o u:HO} (h:H a=some o) (h':H b=some u) (d:o≠u):a≠b:=by
 intro e; subst e; rw [h] at h'; exact d (Option.some.inj h')
theorem ne_of_none {H:Hp} {a b:Addr} {o:HO} (h:H a=some o) (h':H b=none):a≠b:=by
 intro e; subst e; rw [h] at h'; cases h'
section
variable (P:Program) (w:World)
def ObjOk (H:Hp) (h:Heap) (a:Addr):HO→Prop
 | .lst xs=>xs.length≤sizeLine∧∃ (its:List Value) (n:Nat),Vals xs its∧h.get? a=some { cls:=.type "list",data:=.seq its.toArray n }
 | .tup xs=>xs.length≤sizeLine∧∃ its:List Value,Vals xs its∧IsTup h a its.toArray
 | .dK kvs=>kvs.length≤sizeLine∧(a==sysModules)=false∧∃ vs,KV kvs vs∧h.DictOf (mixKind P w) a vs
 | .dT kvs=>kvs.length≤sizeLine∧(a==sysModules)=false∧∃ xs:List (List Key × Addr × Value),
   Paired (fun (p:List Key × V) (q:List Key × Addr × Value)=>p.1=q.1∧H q.2.1=some (.tup (p.1.map kV))∧RelV p.2 q.2.2) kvs xs∧
   ∃ o es ep,h.get? a=some o∧o.ExactDict∧o.data=.dict es ep∧es.toList=xs.map (entryOfKey (tupleKind (mixKind P w)))∧(xs.map (·.1)).Nodup
 | .set S n=>h.SetOf (intKind P w) a S n
 | .ins C dx fs=>H dx=some (.own a)∧fs.length≤1000∧dx≠a∧h.get? a=some (PySem.W.instObj C dx)∧
   ∃ mA,h.Ns1 dx mA∧(∀ f,RelO (fs.lookup f) (mA f))∧PySem.Within mA (fs.map (·.1))
 | .own _=>∃ o,h.get? a=some o
 | .xd fs=>∃ mA,h.Ns1 a mA∧∀ f,RelO (fs.lookup f) (mA f)
 | .rng lo hi=>∃ t u v,h.get? a=some { cls:=.type "range",data:=.fields #[.int lo t,.int hi u,.int 1 v] }
 | .frz o u=>h.get? a=some o∧ObjOk H h a u
 | .tbl ps=>h.get? a=some { cls:=.none,data:=.fields ps }
 | .met f x=>h.get? a=some (PySem.W.methodObj (.ref f) (.ref x))
 | .ext φ=>φ h∧(∃ o,h.get? a=some o)∧∀ h1 h2:Heap,φ h1→(∀ o,h1.get? a=some o→h2.get? a=some o)→φ h2
def HOk (H:Hp) (h:Heap):Prop:=∀ a o,H a=some o→ObjOk P w H h a o
end
section
variable {P:Program} {w:World} {H H':Hp} {h h':Heap} {a:Addr} {o:HO}
theorem ObjOk.lt (x:ObjOk P w H h a o):a < h.objs.size:=by
 cases o with
 | lst xs=>obtain ⟨_,_,_,_,e⟩:=x; exact Heap.lt_size e
 | tup xs=>obtain ⟨_,_,_,p⟩:=x; exact p.lt
 | dK kvs=>obtain ⟨_,_,_,_,o,_,_,e,_⟩:=x; exact Heap.lt_size e
 | dT kvs=>obtain ⟨_,_,_,_,o,_,_,e,_⟩:=x; exact Heap.lt_size e
 | set S n=>obtain ⟨o,_,_,_,e,_⟩:=x; exact Heap.lt_size e
 | ins C dx fs=>obtain ⟨_,_,_,e,_⟩:=x; exact Heap.lt_size e
 | own y=>obtain ⟨_,e⟩:=x; exact Heap.lt_size e
 | xd fs=>obtain ⟨_,⟨_,_,_,e,_⟩,_⟩:=x; exact Heap.lt_size e
 | rng lo hi=>obtain ⟨_,_,_,e⟩:=x; exact Heap.lt_size e
 | frz ob u=>obtain ⟨e,_⟩:=x; exact Heap.lt_size e
 | tbl ps=>exact Heap.lt_size (show h.get? a=some _ from x)
 | met f y=>exact Heap.lt_size (show h.get? a=some _ from x)
 | ext φ=>obtain ⟨_,⟨_,e⟩,_⟩:=x; exact Heap.lt_size e
theorem Paired.mapP {α β:Type} {F G:α→β→Prop}:∀ {l₁:List α} {l₂:List β},Paired F l₁ l₂→(∀ a b,F a b→G a b)→Paired G l₁ l₂
 | _,_,.nil,_=>.nil
 | _,_,.cons r t,f=>.cons (f _ _ r) (Paired.mapP t f)
theorem ObjOk.stay (x:ObjOk P w H h a o) (k:∀ b u,(b=a∨H b=some (.own a))→h.get? b=some u→h'.get? b=some u)
  (ho:∀ b,H b=some (.own a)→H' b=some (.own a)) (ht:∀ b xs,H b=some (.tup xs)→H' b=some (.tup xs)):ObjOk P w H' h' a o:=by
 induction o with
 | lst xs=>obtain ⟨z,its,n,r,e⟩:=x; exact ⟨z,its,n,r,k _ _ (.inl rfl) e⟩
 | tup xs=>obtain ⟨z,its,r,ob,e,c⟩:=x; exact ⟨z,its,r,ob,k _ _ (.inl rfl) e,c⟩
 | dK kvs=>obtain ⟨z,y,vs,r,ob,es,ep,e,c⟩:=x; exact ⟨z,y,vs,r,ob,es,ep,k _ _ (.inl rfl) e,c⟩
 | dT kvs=>
  obtain ⟨z,y,xs,r,ob,es,ep,e,c⟩:=x
  exact ⟨z,y,xs,Paired.mapP r fun p q z=>⟨z.1,ht _ _ z.2.1,z.2.2⟩,ob,es,ep,k _ _ (.inl rfl) e,c⟩
 | set S n=>obtain ⟨ob,es,ep,t,e,c⟩:=x; exact ⟨ob,es,ep,t,k _ _ (.inl rfl) e,c⟩
 | ins C dx fs=>
  obtain ⟨d,z,ne,e,mA,⟨od,es,ep,e2,c⟩,r⟩:=x
  exact ⟨ho _ d,z,ne,k _ _ (.inl rfl) e,mA,⟨od,es,ep,k _ _ (.inr d) e2,c⟩,r⟩
 | own y=>obtain ⟨ob,e⟩:=x; exact ⟨ob,k _ _ (.inl rfl) e⟩
 | xd fs=>obtain ⟨mA,⟨od,es,ep,e,c⟩,r⟩:=x; exact ⟨mA,⟨od,es,ep,k _ _ (.inl rfl) e,c⟩,r⟩
 | rng lo hi=>obtain ⟨t,u,v,e⟩:=x; exact ⟨t,u,v,k _ _ (.inl rfl) e⟩
 | frz ob u ih=>obtain ⟨e,q⟩:=x; exact ⟨k _ _ (.inl rfl) e,ih q⟩
 | tbl ps=>
  have e:h.get? a=some { cls:=.none,data:=.fields ps }:=x
  show h'.get? a=some { cls:=.none,data:=.fields ps }
  exact k a _ (.inl rfl) e
 | met f y=>
  have e:h.get? a=some (PySem.W.methodObj (.ref f) (.ref y)):=x
  show h'.get? a=some (PySem.W.methodObj (.ref f) (.ref y))
  exact k a _ (.inl rfl) e
 | ext φ=>obtain ⟨p,⟨o,e⟩,st⟩:=x; exact ⟨st _ _ p fun o q=>k _ _ (.inl rfl) q,⟨o,k _ _ (.inl rfl) e⟩,st⟩
theorem HOk.lt (x:HOk P w H h) (e:H a=some o):a < h.objs.size:=(x a o e).lt
theorem HOk.fresh (x:HOk P w H h) (e:h.objs.size≤a):H a=none:=by
 cases q:H a with
 | none=>rfl
 | some u=>exact absurd (Nat.lt_of_lt_of_le (x.lt q) e) (Nat.lt_irrefl _)
theorem HOk.kept (x:HOk P w H h) (k:∀ b u,h.get? b=some u→h'.get? b=some u):HOk P w H h':=fun a o e=>
 (x a o e).stay (fun b u _ q=>k b u q) (fun _ q=>q) fun _ _ q=>q
theorem HOk.laid (x:HOk P w H h) (k:∀ b u,h.get? b=some u→h'.get? b=some u) (hp:h.objs.size≤a) (new:ObjOk P w (upd H a o) h' a o):HOk P w (upd H a o) h':=fun b u e=>by
 have hn:=x.fresh hp
 by_cases hb:b=a
 ·subst hb; rw [upd_same] at e; cases e; exact new
 ·rw [upd_ne hb] at e
  exact (x b u e).stay (fun c v _ q=>k c v q) (fun c q=>by rw [upd_ne (ne_of_none q hn)]; exact q) fun c xs q=>by rw [upd_ne (ne_of_none q hn)]; exact q
end
def Rd (H:Hp) (a:Addr) (u:HO):Prop:=H a=some u∨∃ o,H a=some (.frz o u)
theorem Rd.ok {P:Program} {w:World} {H:Hp} {h:Heap} {a:Addr} {u:HO} (r:Rd H a u) (x:HOk P w H h):ObjOk P w H h a u:=by
 rcases r with r | ⟨o,r⟩
 ·exact x a u r
 ·obtain ⟨_,q⟩:=x a _ r
  exact q
def Mut:Option HO→Prop
 | some (.lst _)=>True
 | some (.dK _)=>True
 | some (.dT _)=>True
 | some (.set _ _)=>True
 | some (.ins _ _ _)=>True
 | some (.ext _)=>True
 | _=>False
section
variable {P:Program} {w:World} {H:Hp} {h h':Heap} {x e:Addr} {o':HO}
theorem HOk.write (ok:HOk P w H h) (mu:Mut (H x)) (he:e=x∨H e=some (.own x)) (k:∀ b u,b≠e→h.get? b=some u→h'.get? b=some u) (heo:∃ u,h'.get? e=some u)
  (new:ObjOk P w (upd H x o') h' x o'):HOk P w (upd H x o') h':=fun b u q=>by
 have nown:∀ c y,H c=some (.own y)→c≠x:=fun c y r z=>by subst z; rw [r] at mu; exact mu
 have ntup:∀ c xs,H c=some (.tup xs)→c≠x:=fun c xs r z=>by subst z; rw [r] at mu; exact mu
 by_cases hb:b=x
 ·subst hb; rw [upd_same] at q; cases q; exact new
 ·rw [upd_ne hb] at q
  by_cases hbe:b=e
  ·have q':H b=some (.own x):=by
    rcases he with z | z
    ·exact absurd (hbe.trans z) hb
    ·rw [hbe]; exact z
   rw [q] at q'; cases q'
   obtain ⟨v,hv⟩:=heo
   exact ⟨v,by rw [hbe]; exact hv⟩
  ·refine (ok b u q).stay (fun c v hc r=>k c v ?_ r) (fun c r=>by rw [upd_ne (nown c b r)]; exact r) fun c xs r=>by rw [upd_ne (ntup c xs r)]; exact r
   rcases hc with rfl | hc
   ·exact hbe
   ·rintro rfl
    rcases he with z | z
    ·exact nown c b hc z
    ·rw [hc] at z; cases z; exact hb rfl
end
structure Un (fs ex:List Addr) (H H':Hp) (h h':Heap):Prop where
 keep:∀ b o,h.get? b=some o→H b=none→b∉fs→b∉ex→h'.get? b=some o
 slot:∀ b o,h.get? b=some o→H b=none→b∈fs→b∉ex→∃ sl,h'.get? b=some { o with slots:=sl }
 free:∀ b o,h.get? b=some o→H b=none→b∉ex→H' b=none
 there:∀ b o,h.get? b=some o→b∉ex→∃ o',h'.get? b=some o'
 tups:∀ b xs,H b=some (.tup xs)→H' b=some (.tup xs)
 frzs:∀ b o u,H b=some (.frz o u)→H' b=some (.frz o u)
 tbls:∀ b ps,H b=some (.tbl ps)→∃ more,H' b=some (.tbl (ps ++ more))
section
variable {fs fs' ex ex':List Addr} {H H1 H2:Hp} {h h1 h2 h':Heap} {a x e:Addr} {o:HO}
theorem Un.any (u:Un fs ex H H1 h h1) {b:Addr} {ob:Obj} (q:h.get? b=some ob) (n:H b=none) (hx:b∉ex):∃ sl,h1.get? b=some { ob with slots:=sl }:=by
 by_cases hb:b∈fs
 ·exact u.slot b ob q n hb hx
 ·exact ⟨ob.slots,u.keep b ob q n hb hx⟩
theorem Un.kept (k:∀ b u,h.get? b=some u→h'.get? b=some u):Un fs ex H H h h':=
 ⟨fun b ob q _ _ _=>k b ob q,fun b ob q _ _ _=>⟨ob.slots,k b ob q⟩,fun _ _ _ n _=>n,fun b ob q _=>⟨ob,k b ob q⟩,fun _ _ q=>q,fun _ _ _ q=>q,fun _ ps q=>⟨#[],by rw [q]; simp⟩⟩
theorem Un.refl:Un fs ex H H h h:=Un.kept fun _ _ q=>q
theorem Un.laid (k:∀ b u,h.get? b=some u→h'.get? b=some u) (hp:h.objs.size≤a) (hn:H a=none):Un fs ex H (upd H a o) h h' where
 keep:=fun b u q _ _ _=>k b u q
 slot:=fun b u q _ _ _=>⟨u.slots,k b u q⟩
 free:=fun b u q n _=>by rw [upd_ne (Nat.ne_of_lt (Nat.lt_of_lt_of_le (Heap.lt_size q) hp))]; exact n
 there:=fun b u q _=>⟨u,k b u q⟩
 tups:=fun b xs q=>by rw [upd_ne (ne_of_none q hn)]; exact q
 frzs:=fun b u xs q=>by rw [upd_ne (ne_of_none q hn)]; exact q
 tbls:=fun b ps q=>⟨#[],by rw [upd_ne (ne_of_none q hn),q]; simp⟩
theorem Un.write (mu:Mut (H x)) (he:e=x∨H e=some (.own x)) (k:∀ b u,b≠e→h.get? b=some u→h'.get? b=some u) (heo:∃ u,h'.get? e=some u):Un fs ex H (upd H x o) h h':=by
 have hx:∀ b,H b=none→b≠x:=fun b n z=>by subst z; rw [n] at mu; exact mu
 have hb:∀ b,H b=none→b≠e:=fun b n z=>by
  subst z
  rcases he with r | r
  ·exact hx b n r
  ·rw [n] at r; cases r
 have hm:∀ b u,H b=some u→¬ Mut (some u)→b≠x:=fun b u q nm z=>by subst z; rw [q] at mu; exact nm mu
 refine ⟨fun b u q n _ _=>k b u (hb b n) q,fun b u q n _ _=>⟨u.slots,k b u (hb b n) q⟩,fun b u q n _=>by rw [upd_ne (hx b n)]; exact n,fun b u q _=>?_,
  fun b xs q=>by rw [upd_ne (hm b _ q fun z=>z)]; exact q,fun b u xs q=>by rw [upd_ne (hm b _ q fun z=>z)]; exact q,fun b ps q=>⟨#[],by rw [upd_ne (hm b _ q fun z=>z),q]; simp⟩⟩
 by_cases hbe:b=e
 ·subst hbe; exact heo
 ·exact ⟨u,k b u hbe q⟩
end
def trk (h:Heap) (H:Hp):List Addr:=(List.range h.objs.size).filter fun a=>(H a).isSome
def hidT (h:Heap) (H:Hp):Heap:=PySem.W.hideAll h (trk h H)
theorem hidT_size (h:Heap) (H:Hp):(hidT h H).objs.size=h.objs.size:=PySem.W.hideAll_size _ _
theorem hidT_get {h:Heap} {H:Hp} {b:Addr} {o:Obj} (e:h.get? b=some o) (n:H b=none):(hidT h H).get? b=some o:=
 PySem.W.hideAll_get _ e fun hm=>by
  have q:(H b).isSome=true:=(List.mem_filter.mp hm).2
  rw [n] at q; simp at q
theorem of_hidT {h:Heap} {H:Hp} {b:Addr} {o:Obj} (e:(hidT h H).get? b=some o):h.get? b=some o∧H b=none:=by
 have e':h.get? b=some o:=PySem.W.of_hideAll (trk h H) e
 refine ⟨e',?_⟩
 cases q:H b with
 | none=>rfl
 | some x=>
  have hm:b∈trk h H:=List.mem_filter.mpr ⟨List.mem_range.mpr (Heap.lt_size e'),by simp [q]⟩
  have z:(hidT h H).get? b=none:=PySem.W.hideAll_none (trk h H) hm
  rw [z] at e; cases e
def allNews (g h:Heap) (L:Addr):List (Addr × Obj):=(List.range h.objs.size).filterMap fun a=>if a=L∨(g.get? a).isSome=true then none else (h.get? a).map fun o=>(a,o)
def rest (g h:Heap) (L d:Addr):List (Addr × Obj):=(allNews g h L).filter fun p=>decide (p.1≠d)
end L2
namespace L2
open PySem PySem.Spec PyProof.Rows
structure Mod (K:PySem.W.Frag) (mg:Str→Option Value) (base:Heap):Prop where
 kin:K.In base
 glob:base.Ns mainGlobals mg
 blt:∃ mb,base.Ns builtinsNs mb∧∀ x:Str,x≠"__name__"→mb x=bootBuiltins x
 nolimit:base.NoLimit
structure Cx where
 prog:Program
 w:World
 K:PySem.W.Frag
 mg:Str→Option Value
 base:Heap
 A:Around
 N:List Str
 s₀:Shared
 H₀:Hp
 env:Env
 outer:List Env
 stack:List Env
 ex:List Addr
 fn:Str→Bool
 calm:Bool
 pn:List (Addr × Obj)
 xe:Value→Shared→Prop
def frs (l:List Env):List Addr:=l.filterMap (·.frame)
abbrev Cx.fs (X:Cx):List Addr:=frs X.outer
def Vis (sc:Scope) (x:Str):Prop:=sc.names.lookup x=some .local∨sc.names.lookup x=some .cell∨sc.names.lookup x=some .free
def Loc (sc:Scope) (x:Str):Prop:=sc.names.lookup x=some .local∨sc.names.lookup x=some .cell
def Look (env:Env) (h:Heap) (m:Str→Option Value) (x:Str) (u:Value):Prop:=
 (env.kindOf x=some .local∧m x=some u)∨((env.kindOf x=some .cell∨env.kindOf x=some .free)∧∃ c,env.cells.lookup x=some c∧h.IsCell c (some u))
structure Cx.Ok (X:Cx):Prop where
 mod:Mod X.K X.mg X.base
 kind:X.env.scope.kind=.function
 glob:X.env.globals=mainGlobals
 blt:X.env.builtins=builtinsNs
 above:X.s₀.heap.objs.size≤X.env.locals
 inj:∀ x y c,X.env.cells.lookup x=some c→X.env.cells.lookup y=some c→x=y
 has:∀ x,(X.env.kindOf x=some .cell∨X.env.kindOf x=some .free)→∃ c,X.env.cells.lookup x=some c
 cab:∀ x c,X.fn x=true→X.env.cells.lookup x=some c→X.s₀.heap.objs.size≤c
 hd:X.calm=true→X.A.handled=none
 frames:X.A.frames=some X.stack
 stk:X.stack=X.outer∨(X.stack=X.env :: X.outer∧X.env.frame=some X.env.locals)
 exf:∀ b∈X.ex,b≠X.env.locals∧∀ x c,X.env.cells.lookup x=some c→c≠b
 bs:∀ b o,X.base.get? b=some o→X.s₀.heap.get? b=some o∧X.H₀ b=none
 bsz:X.base.objs.size≤X.s₀.heap.objs.size
 noex:∀ b o,X.base.get? b=some o→b∉X.ex
 exfs:∀ b∈X.ex,b∉X.fs
 funs:X.s₀.heap.FunFrames X.base X.outer
 frf:∀ b∈X.fs,X.H₀ b=none
structure Inv (X:Cx) (pins:List (Addr × Obj)) (σ:List (Option V)) (H:Hp) (s:Shared):Prop where
 ok:X.Ok
 os:s.os=X.s₀.os
 bare:AllBare s.gens
 base:Un X.fs X.ex X.H₀ H X.s₀.heap s.heap
 loc:∃ m,s.heap.Ns X.env.locals m∧∀ (i:Nat) (x:Str) (v:V),X.N[i]? = some x→σ[i]? = some (some v)→Vis X.env.scope x→∃ u,RelV v u∧Look X.env s.heap m x u
 cell:∀ x c,X.env.cells.lookup x=some c→∃ v,s.heap.IsCell c v
 free:H X.env.locals=none
 freeC:∀ x c,X.env.cells.lookup x=some c→H c=none
 pin:∀ p∈X.pn ++ pins,s.heap.get? p.1=some p.2∧H p.1=none∧p.1≠X.env.locals∧p.1∉X.fs∧∀ v,p.2.data≠.cell v
 hok:HOk X.prog X.w H s.heap
 len:σ.length=X.N.length
section
variable {X:Cx} {pins:List (Addr × Obj)} {σ:List (Option V)} {H H':Hp} {s:Shared} {h':Heap}
theorem Cx.Ok.nofr (ok:X.Ok) {b:Addr} {o:Obj} (e:X.base.get? b=some o):b∉X.fs:=fun hb=>by
 have:=(ok.funs.mem hb).1
 rw [e] at this; cases this
theorem Inv.bs (I:Inv X pins σ H s):∀ b o,X.base.get? b=some o→s.heap.get? b=some o∧H b=none:=fun b o e=>
 ⟨I.base.keep b o (I.ok.bs b o e).1 (I.ok.bs b o e).2 (I.ok.nofr e) (I.ok.noex b o e),I.base.free b o (I.ok.bs b o e).1 (I.ok.bs b o e).2 (I.ok.noex b o e)⟩
theorem Inv.bk (I:Inv X pins σ H s):∀ b o,X.base.get? b=some o→s.heap.get? b=some o:=fun b o e=>(I.bs b o e).1
theorem Inv.mod (I:Inv X pins σ H s):Mod X.K X.mg X.base:=I.ok.mod
theorem Inv.kIn (I:Inv X pins σ H s):X.K.In s.heap:=I.ok.mod.kin.keeps I.bk
theorem Inv.nolimit (I:Inv X pins σ H s):s.heap.NoLimit:=I.ok.mod.nolimit.keeps I.bk
theorem Inv.fr (I:Inv X pins σ H s):∃ m,Fr X.base X.env.locals s.heap m:=
 let ⟨m,hn,_⟩:=I.loc
 ⟨m,hn,I.bk,Nat.le_trans I.ok.bsz I.ok.above⟩
theorem Inv.lt (I:Inv X pins σ H s):X.env.locals < s.heap.objs.size:=let ⟨_,hn,_⟩:=I.loc; hn.lt
theorem Inv.sz (I:Inv X pins σ H s):X.s₀.heap.objs.size≤s.heap.objs.size:=Nat.le_trans I.ok.above (Nat.le_of_lt I.lt)
theorem Inv.nofs (I:Inv X pins σ H s) {a:Addr} (h:s.heap.objs.size≤a):a∉X.fs:=fun hb=>by
 obtain ⟨_,o,ho,_⟩:=I.ok.funs.mem hb
 exact absurd (Nat.lt_of_lt_of_le (Heap.lt_size ho) (Nat.le_trans I.sz h)) (Nat.lt_irrefl _)
theorem Inv.cne (I:Inv X pins σ H s):∀ x c,X.env.cells.lookup x=some c→c≠X.env.locals:=fun x c e z=>by
 obtain ⟨v,o,ho,hd⟩:=I.cell x c e
 obtain ⟨m,⟨o',es,ep,ho',hd',_⟩,_⟩:=I.loc
 rw [z,ho'] at ho; cases ho; rw [hd'] at hd; cases hd
theorem Inv.funs (I:Inv X pins σ H s):s.heap.FunFrames X.base X.outer:=by
 have all:∀ (l:List Env),(∀ b∈frs l,b∈X.fs)→X.s₀.heap.FunFrames X.base l→s.heap.FunFrames X.base l:=by
  intro l
  induction l with
  | nil=>intro _ _; trivial
  | cons env r ih=>
   intro hs hl
   obtain ⟨hk,⟨L,o,hf,hn,ho,hd⟩,hr⟩:=hl
   have hL:L∈X.fs:=hs L (by unfold frs; rw [List.filterMap_cons,hf]; exact List.mem_cons_self)
   obtain ⟨sl,e⟩:=I.base.slot L o ho (I.ok.frf L hL) hL fun z=>I.ok.exfs L z hL
   exact ⟨hk,⟨L,_,hf,hn,e,hd⟩,ih (fun b hb=>hs b (by unfold frs; rw [List.filterMap_cons,hf]; exact List.mem_cons_of_mem _ hb)) hr⟩
 exact all X.outer (fun _ hb=>hb) I.ok.funs
theorem Inv.stack (I:Inv X pins σ H s):s.heap.FunFrames X.base X.stack:=by
 rcases I.ok.stk with e | ⟨e,hf⟩
 ·rw [e]; exact I.funs
 ·rw [e]
  obtain ⟨m,hn,_⟩:=I.loc
  refine .cons (by rw [I.ok.kind]; decide) hf hn ?_ I.funs
  exact Heap.get?_none_of_le (Nat.le_trans I.ok.bsz I.ok.above)
theorem Inv.stkSub (I:Inv X pins σ H s):∀ b∈frs X.stack,b∈X.env.locals :: X.fs:=fun b hb=>by
 rcases I.ok.stk with e | ⟨e,hf⟩
 ·rw [e] at hb; exact List.mem_cons_of_mem _ hb
 ·rw [e] at hb
  unfold frs at hb
  rw [List.filterMap_cons,hf] at hb
  exact hb
theorem Inv.stkFree (I:Inv X pins σ H s):∀ b∈frs X.stack,H b=none:=fun b hb=>by
 rcases List.mem_cons.mp (I.stkSub b hb) with e | hb
 ·rw [e]; exact I.free
 ·obtain ⟨_,o,ho,_⟩:=I.ok.funs.mem hb
  exact I.base.free b o ho (I.ok.frf b hb) fun z=>I.ok.exfs b z hb
theorem Inv.step {g':Array GenState} {t':Nat} {d':Drawn} {ch:List Addr} (I:Inv X pins σ H s)
  (hch:∀ b∈ch,(b∈X.ex∨X.s₀.heap.objs.size≤b)∧b≠X.env.locals∧(∀ x c,X.env.cells.lookup x=some c→c≠b)∧∀ p∈X.pn ++ pins,p.1≠b)
  (keep:∀ b o,b≠X.env.locals→b∉X.fs→b∉ch→s.heap.get? b=some o→H b=none→h'.get? b=some o)
  (slot:∀ b o,b≠X.env.locals→b∈X.fs→b∉ch→s.heap.get? b=some o→H b=none→∃ sl,h'.get? b=some { o with slots:=sl }) (free:∀ b o,b∉ch→s.heap.get? b=some o→H b=none→H' b=none)
  (there:∀ b o,b∉ch→s.heap.get? b=some o→∃ o',h'.get? b=some o')
  (tups:∀ b xs,H b=some (.tup xs)→H' b=some (.tup xs)) (frzs:∀ b o u,H b=some (.frz o u)→H' b=some (.frz o u)) (tbls:∀ b ps,H b=some (.tbl ps)→∃ more,H' b=some (.tbl (ps ++ more)))
  (ns:∀ m,s.heap.Ns X.env.locals m→h'.Ns X.env.locals m) (hok:HOk X.prog X.w H' h') (hg:AllBare g') :
  Inv X pins σ H' { s with heap:=h',gens:=g',drawn:=d',toks:=t' }:=by
 have neL:∀ b o,X.s₀.heap.get? b=some o→b≠X.env.locals:=fun b o e=>Nat.ne_of_lt (Nat.lt_of_lt_of_le (Heap.lt_size e) I.ok.above)
 have neC:∀ b o,X.s₀.heap.get? b=some o→b∉X.ex→b∉ch:=fun b o e hx hb=>by
  rcases (hch b hb).1 with z | z
  ·exact hx z
  ·exact absurd (Nat.lt_of_lt_of_le (Heap.lt_size e) z) (Nat.lt_irrefl _)
 have cellK:∀ x c,X.env.cells.lookup x=some c→∀ v,s.heap.IsCell c v→h'.IsCell c v:=fun x c e v ⟨o,ho,hd⟩=>by
  have nch:c∉ch:=fun z=>(hch c z).2.2.1 x c e rfl
  by_cases hc:c∈X.fs
  ·obtain ⟨sl,q⟩:=slot c o (I.cne x c e) hc nch ho (I.freeC x c e)
   exact ⟨_,q,hd⟩
  ·exact ⟨o,keep c o (I.cne x c e) hc nch ho (I.freeC x c e),hd⟩
 refine ⟨I.ok,I.os,hg,⟨fun b o e n hb hx=>?_,fun b o e n hb hx=>?_,fun b o e n hx=>?_,fun b o e hx=>?_,fun b xs e=>tups b xs (I.base.tups b xs e),fun b o xs e=>frzs b o xs (I.base.frzs b o xs e),fun b ps e=>?_⟩,?_,fun x c e=>?_,?_,fun x c e=>?_,fun p hp=>?_,hok,I.len⟩
 ·exact keep b o (neL b o e) hb (neC b o e hx) (I.base.keep b o e n hb hx) (I.base.free b o e n hx)
 ·obtain ⟨sl,e1⟩:=I.base.slot b o e n hb hx
  obtain ⟨sl',e2⟩:=slot b _ (neL b o e) hb (neC b o e hx) e1 (I.base.free b o e n hx)
  exact ⟨sl',e2⟩
 ·obtain ⟨o',e1⟩:=I.base.there b o e hx
  exact free b o' (neC b o e hx) e1 (I.base.free b o e n hx)
 ·obtain ⟨o',e1⟩:=I.base.there b o e hx
  exact there b o' (neC b o e hx) e1
 ·obtain ⟨m1,e1⟩:=I.base.tbls b ps e
  obtain ⟨m2,e2⟩:=tbls b _ e1
  exact ⟨m1 ++ m2,by rw [e2,Array.append_assoc]⟩
 ·obtain ⟨m,hn,hl⟩:=I.loc
  refine ⟨m,ns m hn,fun i x v e1 e2 e3=>?_⟩
  obtain ⟨u,r,l⟩:=hl i x v e1 e2 e3
  refine ⟨u,r,?_⟩
  rcases l with l | ⟨k,c,e,z⟩
  ·exact .inl l
  ·exact .inr ⟨k,c,e,cellK x c e _ z⟩
 ·obtain ⟨v,z⟩:=I.cell x c e
  exact ⟨v,cellK x c e v z⟩
 ·obtain ⟨m,⟨o,_,_,ho,_⟩,_⟩:=I.loc
  exact free _ o (fun z=>(hch _ z).2.1 rfl) ho I.free
 ·obtain ⟨v,o,ho,hd⟩:=I.cell x c e
  exact free c o (fun z=>(hch c z).2.2.1 x c e rfl) ho (I.freeC x c e)
 ·obtain ⟨e,n,ne,nf,d⟩:=I.pin p hp
  have nch:p.1∉ch:=fun z=>(hch p.1 z).2.2.2 p hp rfl
  exact ⟨keep p.1 p.2 ne nf nch e n,free p.1 p.2 nch e n,ne,nf,d⟩
theorem Inv.un {t':Nat} (I:Inv X pins σ H s) (u:Un X.fs [] H H' s.heap h') (hok:HOk X.prog X.w H' h'):Inv X pins σ H' { s with heap:=h',toks:=t' }:=by
 obtain ⟨m,⟨o,es,ep,ho,r⟩,_⟩:=id I.loc
 obtain ⟨sl,hL⟩:=u.any ho I.free (by simp)
 exact I.step (g':=s.gens) (d':=s.drawn) (ch:=[]) (fun _ z=>nomatch z) (fun b o _ hb _ e n=>u.keep b o e n hb (by simp)) (fun b o _ hb _ e n=>u.slot b o e n hb (by simp)) (fun b o _ e n=>u.free b o e n (by simp)) (fun b o _ e=>u.there b o e (by simp)) u.tups u.frzs u.tbls (fun m' hm=>by
  obtain ⟨o',es',ep',ho',r'⟩:=hm
  rw [ho] at ho'; cases ho'
  exact ⟨_,es',ep',hL,r'⟩) hok I.bare
theorem Inv.call {g':Array GenState} {t':Nat} {d':Drawn} {ch:List Addr} (I:Inv X pins σ H s) (u:Un (frs X.stack) ch H H' s.heap h') (hok:HOk X.prog X.w H' h') (hg:AllBare g')
  (hch:∀ b∈ch,(b∈X.ex∨X.s₀.heap.objs.size≤b)∧b≠X.env.locals∧(∀ x c,X.env.cells.lookup x=some c→c≠b)∧∀ p∈X.pn ++ pins,p.1≠b) :
  Inv X pins σ H' { s with heap:=h',gens:=g',drawn:=d',toks:=t' }:=by
 obtain ⟨m,⟨o,es,ep,ho,r⟩,_⟩:=id I.loc
 obtain ⟨sl,hL⟩:=u.any ho I.free fun z=>(hch _ z).2.1 rfl
 exact I.step (ch:=ch) hch (fun b o hL hb hc e n=>u.keep b o e n (fun z=>(List.mem_cons.mp (I.stkSub b z)).elim hL hb) hc) (fun b o _ _ hc e n=>u.any e n hc) (fun b o hc e n=>u.free b o e n hc) (fun b o hc e=>u.there b o e hc) u.tups u.frzs u.tbls (fun m' hm=>by
  obtain ⟨o',es',ep',ho',r'⟩:=hm
  rw [ho] at ho'; cases ho'
  exact ⟨_,es',ep',hL,r'⟩) hok hg
theorem Inv.turned {t':Nat} {it:Addr} (I:Inv X pins σ H s) (k:∀ b o,b≠it→s.heap.get? b=some o→h'.get? b=some o) (hn:H it=none) (hL:it≠X.env.locals)
  (h1:it∈X.ex∨X.s₀.heap.objs.size≤it) (h2:∀ x c,X.env.cells.lookup x=some c→c≠it) (h3:∀ p∈X.pn ++ pins,p.1≠it):Inv X pins σ H { s with heap:=h',toks:=t' }:=by
 have nit:∀ b u,H b=some u→b≠it:=fun b u e z=>by rw [z,hn] at e; cases e
 refine I.step (g':=s.gens) (d':=s.drawn) (ch:=[it]) (fun b hb=>?_) (fun b o _ _ hc e _=>k b o (fun z=>hc (by simp [z])) e) (fun b o _ _ hc e _=>⟨o.slots,k b o (fun z=>hc (by simp [z])) e⟩) (fun _ _ _ _ n=>n)
  (fun b o hc e=>⟨o,k b o (fun z=>hc (by simp [z])) e⟩) (fun _ _ e=>e) (fun _ _ _ e=>e) (fun b ps e=>⟨#[],by rw [e]; simp⟩) (fun m hm=>?_) (fun b u e=>?_) I.bare
 ·have e:b=it:=by simpa using hb
  subst e
  exact ⟨h1,hL,h2,h3⟩
 ·obtain ⟨o,es,ep,ho,r⟩:=hm
  exact ⟨o,es,ep,k _ o (Ne.symm hL) ho,r⟩
 ·refine (I.hok b u e).stay (fun c v hc q=>k c v ?_ q) (fun _ q=>q) fun _ _ q=>q
  rcases hc with z | z
  ·rw [z]; exact nit b u e
  ·exact nit c _ z
theorem Inv.tok (I:Inv X pins σ H s) (t:Nat):Inv X pins σ H { s with toks:=t }:=I.un (h':=s.heap) (t':=t) Un.refl I.hok
theorem Inv.kept {t':Nat} (I:Inv X pins σ H s) (k:∀ b u,s.heap.get? b=some u→h'.get? b=some u):Inv X pins σ H { s with heap:=h',toks:=t' }:=I.un (Un.kept k) (I.hok.kept k)
theorem Inv.laid {a:Addr} {o:HO} {t':Nat} (I:Inv X pins σ H s) (k:∀ b u,s.heap.get? b=some u→h'.get? b=some u) (hp:s.heap.objs.size≤a) (new:ObjOk X.prog X.w (upd H a o) h' a o) :
  Inv X pins σ (upd H a o) { s with heap:=h',toks:=t' }:=I.un (Un.laid k hp (I.hok.fresh hp)) (I.hok.laid k hp new)
theorem Inv.write {x e:Addr} {o:HO} {t':Nat} (I:Inv X pins σ H s) (mu:Mut (H x)) (he:e=x∨H e=some (.own x)) (k:∀ b u,b≠e→s.heap.get? b=some u→h'.get? b=some u) (heo:∃ u,h'.get? e=some u)
  (new:ObjOk X.prog X.w (upd H x o) h' x o):Inv X pins σ (upd H x o) { s with heap:=h',toks:=t' }:=I.un (Un.write mu he k heo) (I.hok.write mu he k heo new)
theorem Inv.weak {σ':List (Option V)} (I:Inv X pins σ H s) (hl:σ'.length=σ.length) (w:∀ (i:Nat) v,σ'[i]? = some (some v)→σ[i]? = some (some v)):Inv X pins σ' H s:=
 ⟨I.ok,I.os,I.bare,I.base,let ⟨m,hn,hl'⟩:=I.loc; ⟨m,hn,fun i x v e1 e2 e3=>hl' i x v e1 (w i v e2) e3⟩,I.cell,I.free,I.freeC,I.pin,I.hok,hl.trans I.len⟩
theorem Inv.pins_of {pins':List (Addr × Obj)} (I:Inv X pins σ H s) (h:∀ p∈pins',s.heap.get? p.1=some p.2∧H p.1=none∧p.1≠X.env.locals∧p.1∉X.fs∧∀ v,p.2.data≠.cell v):Inv X pins' σ H s:=
 ⟨I.ok,I.os,I.bare,I.base,I.loc,I.cell,I.free,I.freeC,fun p hp=>(List.mem_append.mp hp).elim (fun z=>I.pin p (List.mem_append_left _ z)) (h p),I.hok,I.len⟩
theorem nodup_ix {N:List Str} (hN:N.Nodup) {i j:Nat} {x:Str} (a:N[i]? = some x) (b:N[j]? = some x):i=j:=by
 obtain ⟨h1,e1⟩:=List.getElem?_eq_some_iff.mp a
 obtain ⟨h2,e2⟩:=List.getElem?_eq_some_iff.mp b
 exact (List.getElem_inj hN).mp (e1.trans e2.symm)
theorem store_ok2 {M:Model} {A:Around} {E:Value→Shared→Prop} {i:Nat} {x:Str} {v:V} {u:Value} {Q:Unit→Shared→Prop} (I:Inv X pins σ H s) (hN:X.N.Nodup) (hi:X.N[i]? = some x) (hx:Loc X.env.scope x) (r:RelV v u)
  (h:∀ s',Inv X pins (σ.set i (some v)) H s'→(∃ a,Heap.SameBut a s.heap s'.heap∧(a=X.env.locals∨X.env.cells.lookup x=some a))→Q () s') (hf:X.fn x=true∨X.env.scope.names.lookup x=some .local:=by first | exact .inl rfl | exact .inr rfl | assumption):wpAny M A (storeName X.env x u) Q E s:=by
 obtain ⟨m,hn,hl⟩:=id I.loc
 have hcls:(X.env.scope.kind==.class || (X.env.scope.kind==.module && X.env.locals != X.env.globals))=false:=by rw [I.ok.kind]; rfl
 have hiσ:i < σ.length:=by rw [I.len]; exact (List.getElem?_eq_some_iff.mp hi).1
 have cne:=I.cne
 have tracked:∀ {a:Addr} {h':Heap},(∃ o,s.heap.get? a=some o∧H a=none)→Heap.SameBut a s.heap h'→HOk X.prog X.w H h':=fun {a h'} ha hs b ob e=>by
  obtain ⟨_,_,hfree⟩:=ha
  refine (I.hok b ob e).stay (fun c w' hc q=>(hs.2 c ?_).trans q) (fun _ q=>q) fun _ _ q=>q
  rintro rfl
  rcases hc with rfl | hc
  ·rw [hfree] at e; cases e
  ·rw [hfree] at hc; cases hc
 rcases hx with hk | hk
 ·refine wpAny_storeName_local hk hn (fun h' hn' hs=>?_) hcls
  obtain ⟨oL,_,_,hoL,_⟩:=id hn
  refine h _ ⟨I.ok,I.os,I.bare,⟨fun b o e n hb hx=>?_,fun b o e n hb hx=>?_,I.base.free,fun b o e hx=>?_,I.base.tups,I.base.frzs,I.base.tbls⟩,⟨_,hn',fun j y v' e1 e2 e3=>?_⟩,fun y c e=>?_,I.free,I.freeC,fun p hp=>?_,tracked ⟨oL,hoL,I.free⟩ hs,by simpa using I.len⟩ ⟨_,hs,.inl rfl⟩
  ·exact (hs.2 b (Nat.ne_of_lt (Nat.lt_of_lt_of_le (Heap.lt_size e) I.ok.above))).trans (I.base.keep b o e n hb hx)
  ·obtain ⟨sl,e1⟩:=I.base.slot b o e n hb hx
   exact ⟨sl,(hs.2 b (Nat.ne_of_lt (Nat.lt_of_lt_of_le (Heap.lt_size e) I.ok.above))).trans e1⟩
  ·obtain ⟨o',e1⟩:=I.base.there b o e hx
   exact ⟨o',(hs.2 b (Nat.ne_of_lt (Nat.lt_of_lt_of_le (Heap.lt_size e) I.ok.above))).trans e1⟩
  ·by_cases hj:j=i
   ·subst hj
    rw [hi] at e1; cases e1
    rw [List.getElem?_set_self hiσ] at e2
    cases e2
    exact ⟨u,r,.inl ⟨hk,by simp⟩⟩
   ·rw [List.getElem?_set_ne (Ne.symm hj)] at e2
    obtain ⟨u',r',q⟩:=hl j y v' e1 e2 e3
    refine ⟨u',r',?_⟩
    rcases q with ⟨k,e⟩ | ⟨k,c,e,z⟩
    ·refine .inl ⟨k,?_⟩
     have:y≠x:=fun e=>hj (nodup_ix hN e1 (e▸hi))
     simp [this,e]
    ·exact .inr ⟨k,c,e,z.sameBut hs (cne y c e)⟩
  ·obtain ⟨w',z⟩:=I.cell y c e
   exact ⟨w',z.sameBut hs (cne y c e)⟩
  ·obtain ⟨e,n,ne,nf,d⟩:=I.pin p hp
   exact ⟨(hs.2 p.1 ne).trans e,n,ne,nf,d⟩
 ·have hfn:X.fn x=true:=by
   rcases hf with z | z
   ·exact z
   ·rw [z] at hk; cases hk
  obtain ⟨c,hc⟩:=I.ok.has x (.inl hk)
  obtain ⟨w',z⟩:=I.cell x c hc
  refine wpAny_storeName_cell I.ok.kind hk hc z (fun h' hc' hs=>?_)
  obtain ⟨oc,hoc,hocd⟩:=id z
  refine h { s with heap:=h' } ⟨I.ok,I.os,I.bare,⟨fun b o e n hb hx=>?_,fun b o e n hb hx=>?_,I.base.free,fun b o e hx=>?_,I.base.tups,I.base.frzs,I.base.tbls⟩,⟨m,hn.sameBut hs (Ne.symm (cne x c hc)),fun j y v' e1 e2 e3=>?_⟩,fun y c' e=>?_,I.free,I.freeC,fun p hp=>?_,tracked ⟨oc,hoc,I.freeC x c hc⟩ hs,by simpa using I.len⟩ ⟨c,hs,.inr hc⟩
  ·exact (hs.2 b (Nat.ne_of_lt (Nat.lt_of_lt_of_le (Heap.lt_size e) (I.ok.cab x c hfn hc)))).trans (I.base.keep b o e n hb hx)
  ·obtain ⟨sl,e1⟩:=I.base.slot b o e n hb hx
   exact ⟨sl,(hs.2 b (Nat.ne_of_lt (Nat.lt_of_lt_of_le (Heap.lt_size e) (I.ok.cab x c hfn hc)))).trans e1⟩
  ·obtain ⟨o',e1⟩:=I.base.there b o e hx
   exact ⟨o',(hs.2 b (Nat.ne_of_lt (Nat.lt_of_lt_of_le (Heap.lt_size e) (I.ok.cab x c hfn hc)))).trans e1⟩
  ·by_cases hj:j=i
   ·subst hj
    rw [hi] at e1; cases e1
    rw [List.getElem?_set_self hiσ] at e2
    cases e2
    exact ⟨u,r,.inr ⟨.inl hk,c,hc,hc'⟩⟩
   ·rw [List.getElem?_set_ne (Ne.symm hj)] at e2
    obtain ⟨u',r',q⟩:=hl j y v' e1 e2 e3
    refine ⟨u',r',?_⟩
    rcases q with q | ⟨k,c',e,z'⟩
    ·exact .inl q
    ·refine .inr ⟨k,c',e,z'.sameBut hs ?_⟩
     rintro rfl
     exact hj (nodup_ix hN e1 (I.ok.inj _ _ _ e hc▸hi))
  ·by_cases hcc:c'=c
   ·subst hcc; exact ⟨_,hc'⟩
   ·obtain ⟨w2,z2⟩:=I.cell y c' e
    exact ⟨w2,z2.sameBut hs hcc⟩
  ·obtain ⟨e,n,ne,nf,d⟩:=I.pin p hp
   refine ⟨(hs.2 p.1 ?_).trans e,n,ne,nf,d⟩
   intro q
   rw [q,hoc] at e
   have q':oc=p.2:=Option.some.inj e
   exact d w' (by rw [← q']; exact hocd)
theorem store_ok {M:Model} {A:Around} {E:Value→Shared→Prop} {i:Nat} {x:Str} {v:V} {u:Value} {Q:Unit→Shared→Prop} (I:Inv X pins σ H s) (hN:X.N.Nodup) (hi:X.N[i]? = some x) (hx:Loc X.env.scope x) (r:RelV v u)
  (h:∀ s',Inv X pins (σ.set i (some v)) H s'→Q () s') (hf:X.fn x=true∨X.env.scope.names.lookup x=some .local:=by first | exact .inl rfl | exact .inr rfl | assumption):wpAny M A (storeName X.env x u) Q E s:=
 store_ok2 I hN hi hx r (fun s' I' _=>h s' I') hf
theorem Inv.call' {s':Shared} {ch:List Addr} (I:Inv X pins σ H s) (ho:s'.os=s.os) (u:Un (frs X.stack) ch H H' s.heap s'.heap) (hok:HOk X.prog X.w H' s'.heap) (hg:AllBare s'.gens)
  (hch:∀ b∈ch,(b∈X.ex∨X.s₀.heap.objs.size≤b)∧b≠X.env.locals∧(∀ x c,X.env.cells.lookup x=some c→c≠b)∧∀ p∈X.pn ++ pins,p.1≠b):Inv X pins σ H' s':=by
 obtain ⟨h',g',d',t',o'⟩:=s'
 have e:o'=s.os:=ho
 subst e
 exact I.call (g':=g') (t':=t') (d':=d') u hok hg hch
end
abbrev XK:=Value→Option Addr→Hp→Prop
abbrev St:=List (Option V)
abbrev VK:=V→Hp→Prop
abbrev TE:=St→Hp→VK→Prop
abbrev TT:=St→Hp→(Bool→Hp→Prop)→Prop
abbrev TA:=St→Hp→(List V→Hp→Prop)→Prop
structure Ends where
 nx:St→Hp→Prop
 rt:VK
 bk:St→Hp→Prop:=fun _ _=>False
 ct:St→Hp→Prop:=fun _ _=>False
abbrev TS:=Ends→St→Hp→Prop
def EP (X:Cx) (pins:List (Addr × Obj)) (σ:St) (Q:VK) (u:Value) (s':Shared):Prop:=∃ v H',Inv X pins σ H' s'∧RelV v u∧Q v H'
def TP (X:Cx) (pins:List (Addr × Obj)) (σ:St) (Q:Bool→Hp→Prop) (b:Bool) (s':Shared):Prop:=∃ H',Inv X pins σ H' s'∧Q b H'
def AP (X:Cx) (pins:List (Addr × Obj)) (σ:St) (Q:List V→Hp→Prop) (us:List Value) (s':Shared):Prop:=∃ vs H',Inv X pins σ H' s'∧Vals vs us∧Q vs H'
def SP (X:Cx) (pins:List (Addr × Obj)) (D:Ends) (f:Flow) (s':Shared):Prop:=
 match f with
 | .next=>∃ σ' H',Inv X pins σ' H' s'∧D.nx σ' H'
 | .brk=>∃ σ' H',Inv X pins σ' H' s'∧D.bk σ' H'
 | .cont=>∃ σ' H',Inv X pins σ' H' s'∧D.ct σ' H'
 | .ret u=>∃ v σ' H',Inv X pins σ' H' s'∧RelV v u∧D.rt v H'
def PE (X:Cx) (e:Expr) (t:TE):Prop:=
 ∀ (pins:List (Addr × Obj)) (s:Shared) (σ:St) (H:Hp) (Q:VK),Inv X pins σ H s→t σ H Q→wpAny (model X.prog X.w) X.A (eval e X.env) (EP X pins σ Q) X.xe s
def PT (X:Cx) (e:Expr) (t:TT):Prop:=
 ∀ (pins:List (Addr × Obj)) (s:Shared) (σ:St) (H:Hp) (Q:Bool→Hp→Prop),Inv X pins σ H s→t σ H Q→wpAny (model X.prog X.w) X.A (isTrue e X.env (eval e X.env)) (TP X pins σ Q) X.xe s
def PW (X:Cx) (e:Expr) (t:TT):Prop:=
 ∀ (whole:Sem Value) (pins:List (Addr × Obj)) (s:Shared) (σ:St) (H:Hp) (Q:Bool→Hp→Prop),Inv X pins σ H s→t σ H Q→wpAny (model X.prog X.w) X.A (isTrue e X.env whole) (TP X pins σ Q) X.xe s
theorem PW.pt {X:Cx} {e:Expr} {t:TT} (h:PW X e t):PT X e t:=h _
def PA (X:Cx) (es:List Expr) (t:TA):Prop:=
 ∀ (pos:Pos) (pins:List (Addr × Obj)) (s:Shared) (σ:St) (H:Hp) (Q:List V→Hp→Prop),Inv X pins σ H s→t σ H Q→wpAny (model X.prog X.w) X.A (spliced (backTo pos (starEach es X.env))) (AP X pins σ Q) X.xe s
def PS (X:Cx) (st:Stmt) (t:TS):Prop:=
 ∀ (pins:List (Addr × Obj)) (s:Shared) (σ:St) (H:Hp) (D:Ends),Inv X pins σ H s→t D σ H→wpAny (model X.prog X.w) X.A (exec st X.env) (SP X pins D) X.xe s
def PSs (X:Cx) (st:List Stmt) (t:TS):Prop:=
 ∀ (pins:List (Addr × Obj)) (s:Shared) (σ:St) (H:Hp) (D:Ends),Inv X pins σ H s→t D σ H→wpAny (model X.prog X.w) X.A (execs st X.env) (SP X pins D) X.xe s
theorem thn {α:Type} {t:Sem α} {Q Q':α→Shared→Prop} {M:Model} {A:Around} {E:Value→Shared→Prop} {s:Shared} (h:wpAny M A t Q E s) (hQ:∀ a s,Q a s→Q' a s):wpAny M A t Q' E s:=wpAny_mono h hQ fun _ _ x=>x
end L2
namespace L2
open PySem PySem.Spec PyProof.Rows
section
variable {X:Cx}
def tVar (i:Nat):TE:=fun σ H Q=>∃ v,σ[i]? = some (some v)∧Q v H
def tC (v:V):TE:=fun _ H Q=>Q v H
theorem pe_var {i:Nat} {x:Str} {pos:Pos} (hN:X.N[i]? = some x) (hv:Vis X.env.scope x) (hd:(x==("__debug__" : Str))=false:=by decide) (hcd:(x==("__classdict__" : Str))=false:=by decide):PE X (.Name x pos) (tVar i):=by
 intro pins s σ H Q I h
 obtain ⟨v,e,h⟩:=h
 obtain ⟨m,hn,hl⟩:=I.loc
 obtain ⟨u,r,l⟩:=hl i x v hN e hv
 have fin:EP X pins σ Q u s:=⟨v,H,I,r,h⟩
 rcases l with ⟨hk,hm⟩ | ⟨hk,c,hc,hcell⟩
 ·exact wpAny_Name (wpAny_loadName_local I.ok.kind hk hn hm fin) hd
 ·rcases hk with hk | hk
  ·exact wpAny_Name (wpAny_loadName_cell I.ok.kind hk hc hcell fin) hd
  ·exact wpAny_Name (wpAny_loadName_free I.ok.kind hk hc hcell fin hcd) hd
theorem pe_int {i j pos}:PE X (.Constant (.int i) j pos) (tC (.int i)):=fun _ _ _ H _ I h=>wpAny_Constant_int ⟨.int i,H,I.tok _,⟨_,rfl⟩,h⟩
theorem pe_bl {b j pos}:PE X (.Constant (.bool b) j pos) (tC (.bl b)):=fun _ _ _ H _ I h=>Constant_bool ⟨.bl b,H,I,rfl,h⟩
theorem pe_non {j pos}:PE X (.Constant .none j pos) (tC .non):=fun _ _ _ H _ I h=>Constant_none ⟨.non,H,I,rfl,h⟩
theorem pe_str {x j pos}:PE X (.Constant (.str x) j pos) (tC (.str x)):=fun _ _ _ H _ I h=>Calls.Constant_str ⟨.str x,H,I.tok _,⟨_,rfl⟩,h⟩
def Gl (X:Cx) (x:Str):Prop:=X.env.kindOf x=some .globalImplicit
theorem ld_glob {E:Value→Shared→Prop} {pins:List (Addr × Obj)} {s:Shared} {σ:St} {H:Hp} {x:Str} {u:Value} {pos:Pos} {Q:Value→Shared→Prop} (I:Inv X pins σ H s) (hg:Gl X x) (hm:X.mg x=some u) (h:Q u s)
  (hd:(x==("__debug__" : Str))=false:=by decide):wpAny (model X.prog X.w) X.A (eval (.Name x pos) X.env) Q E s:=
 Calls.Name_function_global I.ok.kind hg (Calls.loadGlobal_global (by rw [I.ok.glob]; exact I.mod.glob.keeps I.bk) hm h) hd
theorem ld_blt {E:Value→Shared→Prop} {pins:List (Addr × Obj)} {s:Shared} {σ:St} {H:Hp} {x:Str} {u:Value} {pos:Pos} {Q:Value→Shared→Prop} (I:Inv X pins σ H s) (hg:Gl X x) (hm:X.mg x=none) (hv:bootBuiltins x=some u) (h:Q u s)
  (hn:x≠"__name__":=by decide) (hd:(x==("__debug__" : Str))=false:=by decide):wpAny (model X.prog X.w) X.A (eval (.Name x pos) X.env) Q E s:=by
 obtain ⟨mb,h1,h2⟩:=I.mod.blt
 exact Calls.Name_function_global I.ok.kind hg (Calls.loadGlobal_builtin (by rw [I.ok.glob]; exact I.mod.glob.keeps I.bk) hm (by rw [I.ok.blt]; exact h1.keeps I.bk) ((h2 x hn).trans hv) h) hd
theorem pe_glob {x:Str} {v:V} {u:Value} {pos:Pos} (hg:Gl X x) (hm:X.mg x=some u) (r:RelV v u) (hd:(x==("__debug__" : Str))=false:=by decide):PE X (.Name x pos) (tC v):=
 fun _ _ _ H _ I h=>ld_glob I hg hm ⟨v,H,I,r,h⟩ hd
theorem pe_bltn {x:Str} {v:V} {u:Value} {pos:Pos} (hg:Gl X x) (hm:X.mg x=none) (hv:bootBuiltins x=some u) (r:RelV v u) (hn:x≠"__name__":=by decide) (hd:(x==("__debug__" : Str))=false:=by decide):PE X (.Name x pos) (tC v):=
 fun _ _ _ H _ I h=>ld_blt I hg hm hv ⟨v,H,I,r,h⟩ hn hd
variable {a b:Expr} {ta tb:TE} {pos:Pos}
variable {tA tB':TT} {rest:List Expr}
def tAnd (t u:TT):TT:=fun σ H Q=>t σ H fun c H1=>if c=true then u σ H1 Q else Q false H1
def tOr (t u:TT):TT:=fun σ H Q=>t σ H fun c H1=>if c=true then Q true H1 else u σ H1 Q
def tNot (t:TT):TT:=fun σ H Q=>t σ H fun c H1=>Q (!c) H1
theorem pw_and1 (ha:PT X a tA):PW X (.BoolOp .And [a] pos) tA:=by
 intro wh pins s σ H Q I h
 refine isTrue_and (thn (ha pins s σ H Q I h) fun c s1 e=>?_)
 cases c with
 | true=>exact isTrue_and_nil e
 | false=>exact e
theorem pw_or1 (ha:PT X a tA):PW X (.BoolOp .Or [a] pos) tA:=by
 intro wh pins s σ H Q I h
 refine isTrue_or (thn (ha pins s σ H Q I h) fun c s1 e=>?_)
 cases c with
 | false=>exact isTrue_or_nil e
 | true=>exact e
theorem pw_and (ha:PT X a tA) (hb:PW X (.BoolOp .And (b :: rest) pos) tB'):PW X (.BoolOp .And (a :: b :: rest) pos) (tAnd tA tB'):=by
 intro wh pins s σ H Q I h
 refine isTrue_and (thn (ha pins s σ H _ I h) fun c s1 ⟨H1,I1,q1⟩=>?_)
 cases c with
 | true=>exact hb wh pins s1 σ H1 Q I1 q1
 | false=>exact ⟨H1,I1,q1⟩
theorem pw_or (ha:PT X a tA) (hb:PW X (.BoolOp .Or (b :: rest) pos) tB'):PW X (.BoolOp .Or (a :: b :: rest) pos) (tOr tA tB'):=by
 intro wh pins s σ H Q I h
 refine isTrue_or (thn (ha pins s σ H _ I h) fun c s1 ⟨H1,I1,q1⟩=>?_)
 cases c with
 | true=>exact ⟨H1,I1,q1⟩
 | false=>exact hb wh pins s1 σ H1 Q I1 q1
theorem pt_not (ha:PT X a tA):PT X (.UnaryOp .Not a pos) (tNot tA):=by
 intro pins s σ H Q I h
 exact isTrue_not (ha pins s σ H (fun c H1=>Q (!c) H1) I h)
def tAndV (ta tb:TE):TE:=fun σ H Q=>ta σ H fun x H1=>∃ c,x=.bl c∧if c=true then tb σ H1 Q else Q (.bl false) H1
theorem pe_one {op} {t:TE} (h:PE X a t):PE X (.BoolOp op [a] pos) t:=fun pins s σ H Q I hw=>BoolOp_one (h pins s σ H Q I hw)
theorem pe_and (ha:PE X a ta) (hb:PE X (.BoolOp .And (b :: rest) pos) tb):PE X (.BoolOp .And (a :: b :: rest) pos) (tAndV ta tb):=by
 intro pins s σ H Q I h
 refine BoolOp_and (thn (ha pins s σ H _ I h) fun v s1 ⟨x,H1,I1,r1,q1⟩=>?_)
 obtain ⟨c,rfl,q1⟩:=q1
 cases r1
 refine wpAny_truthy_bool ?_
 cases c with
 | true=>exact hb pins s1 σ H1 Q I1 q1
 | false=>exact ⟨.bl false,H1,I1,rfl,q1⟩
end
end L2
namespace L2
open PySem PySem.Spec PyProof.Rows
def SqL (K:PySem.W.Frag) (H:Hp) (a:Addr) (xs:List V):Prop:=
 Rd H a (.lst xs)∨
  ∃ (o:Obj) (its:Array Value) (n:Nat),K.lookup a=some o∧o.cls=.type "list"∧o.dict=none∧o.data=.seq its n∧its.size≤sizeLine∧Vals xs its.toList
def SqT (K:PySem.W.Frag) (H:Hp) (a:Addr) (xs:List V):Prop:=
 Rd H a (.tup xs)∨
  ∃ (o:Obj) (its:Array Value) (n:Nat),K.lookup a=some o∧o.cls=.type "tuple"∧o.data=.seq its n∧its.size≤sizeLine∧Vals xs its.toList
def absV:Value→Option V
 | .none=>some .non
 | .bool b=>some (.bl b)
 | .int i _=>some (.int i)
 | .str x _=>some (.str x)
 | .bytes b _=>some (.byt b)
 | .float b _=>some (.flt b)
 | .ref a=>some (.ref a)
 | .type n=>some (.ty n)
 | _=>none
theorem RelV.abs {x:V} {u:Value} (r:RelV x u):absV u=some x:=by
 cases x with
 | non=>cases r; rfl
 | bl _=>cases r; rfl
 | int _=>obtain ⟨t,rfl⟩:=r; rfl
 | str _=>obtain ⟨t,rfl⟩:=r; rfl
 | byt _=>obtain ⟨t,rfl⟩:=r; rfl
 | flt _=>obtain ⟨t,rfl⟩:=r; rfl
 | ref _=>cases r; rfl
 | ty _=>cases r; rfl
theorem RelV.inj {x y:V} {u:Value} (r:RelV x u) (q:RelV y u):x=y:=Option.some.inj (r.abs.symm.trans q.abs)
theorem Vals.inj:∀ {xs ys:List V} {us:List Value},Vals xs us→Vals ys us→xs=ys
 | _,_,_,.nil,.nil=>rfl
 | _,_,_,.cons r t,.cons r' t'=>by rw [r.inj r',Vals.inj t t']
section
variable {X:Cx} {pins:List (Addr × Obj)} {σ:St} {H:Hp} {s:Shared} {a:Addr} {xs ys:List V}
theorem SqL.of {K:PySem.W.Frag} (h:H a=some (.lst xs)):SqL K H a xs:=.inl (.inl h)
theorem SqT.of {K:PySem.W.Frag} (h:H a=some (.tup xs)):SqT K H a xs:=.inl (.inl h)
theorem Inv.list (I:Inv X pins σ H s) (h:SqL X.K H a xs):∃ its:List Value,Vals xs its∧PlainL s.heap a its.toArray∧xs.length≤sizeLine:=by
 rcases h with h | ⟨o,its,n,hk,hc,hd,hs,hz,r⟩
 ·obtain ⟨z,its,n,r,e⟩:=h.ok I.hok
  exact ⟨its,r,⟨_,n,e,rfl,rfl,rfl⟩,z⟩
 ·refine ⟨its.toList,r,⟨o,n,I.kIn a o hk,hc,hd,by simpa using hs⟩,?_⟩
  have e:=r.length
  simp only [Array.length_toList] at e
  omega
theorem Inv.tuple (I:Inv X pins σ H s) (h:SqT X.K H a xs):∃ its:List Value,Vals xs its∧IsTup s.heap a its.toArray∧xs.length≤sizeLine:=by
 rcases h with h | ⟨o,its,n,hk,hc,hs,hz,r⟩
 ·obtain ⟨z,its,r,p⟩:=h.ok I.hok
  exact ⟨its,r,p,z⟩
 ·refine ⟨its.toList,r,⟨o,I.kIn a o hk,hc,n,by simpa using hs⟩,?_⟩
  have e:=r.length
  simp only [Array.length_toList] at e
  omega
theorem Inv.list_inj (I:Inv X pins σ H s) (h:SqL X.K H a xs) (h':SqL X.K H a ys):xs=ys:=by
 obtain ⟨its,r,⟨o,n,e,_,_,d⟩,_⟩:=I.list h
 obtain ⟨its',r',⟨o',n',e',_,_,d'⟩,_⟩:=I.list h'
 rw [e] at e'; cases e'
 rw [d] at d'
 injection d' with d1 _
 have:its=its':=by simpa using congrArg Array.toList d1
 subst this
 exact r.inj r'
theorem Inv.tuple_inj (I:Inv X pins σ H s) (h:SqT X.K H a xs) (h':SqT X.K H a ys):xs=ys:=by
 obtain ⟨its,r,⟨o,e,_,n,d⟩,_⟩:=I.tuple h
 obtain ⟨its',r',⟨o',e',_,n',d'⟩,_⟩:=I.tuple h'
 rw [e] at e'; cases e'
 rw [d] at d'
 injection d' with d1 _
 have:its=its':=by simpa using congrArg Array.toList d1
 subst this
 exact r.inj r'
end
abbrev Cx.wish (X:Cx) (E:Value→Shared→Prop):Cx:={ X with xe:=E }
abbrev Cx.nox (X:Cx):Cx:=X.wish fun _ _=>False
theorem Cx.Ok.wish {X:Cx} (ok:X.Ok) (E:Value→Shared→Prop):(X.wish E).Ok:=
 ⟨ok.mod,ok.kind,ok.glob,ok.blt,ok.above,ok.inj,ok.has,ok.cab,ok.hd,ok.frames,ok.stk,ok.exf,ok.bs,ok.bsz,ok.noex,ok.exfs,ok.funs,ok.frf⟩
theorem Cx.Ok.unwish {X:Cx} {E:Value→Shared→Prop} (ok:(X.wish E).Ok):X.Ok:=
 ⟨ok.mod,ok.kind,ok.glob,ok.blt,ok.above,ok.inj,ok.has,ok.cab,ok.hd,ok.frames,ok.stk,ok.exf,ok.bs,ok.bsz,ok.noex,ok.exfs,ok.funs,ok.frf⟩
section
variable {X:Cx} {pins:List (Addr × Obj)} {σ:St} {H:Hp} {s:Shared} {E:Value→Shared→Prop}
theorem Inv.wish (I:Inv X pins σ H s) (E:Value→Shared→Prop):Inv (X.wish E) pins σ H s:=⟨I.ok.wish E,I.os,I.bare,I.base,I.loc,I.cell,I.free,I.freeC,I.pin,I.hok,I.len⟩
theorem Inv.unwish (I:Inv (X.wish E) pins σ H s):Inv X pins σ H s:=⟨I.ok.unwish,I.os,I.bare,I.base,I.loc,I.cell,I.free,I.freeC,I.pin,I.hok,I.len⟩
theorem SP.unwish {D:Ends} {f:Flow} {s':Shared} (h:SP (X.wish E) pins D f s'):SP X pins D f s':=by
 cases f with
 | next=>obtain ⟨σ',H',I,q⟩:=h; exact ⟨σ',H',I.unwish,q⟩
 | brk=>obtain ⟨σ',H',I,q⟩:=h; exact ⟨σ',H',I.unwish,q⟩
 | cont=>obtain ⟨σ',H',I,q⟩:=h; exact ⟨σ',H',I.unwish,q⟩
 | ret u=>obtain ⟨v,σ',H',I,r,q⟩:=h; exact ⟨v,σ',H',I.unwish,r,q⟩
theorem PSs.nox {st:List Stmt} {t:TS} (h:PSs X.nox st t):PSs X st t:=fun pins s σ H D I hw=>
 wpAny_mono (h pins s σ H D (I.wish _) hw) (fun _ _ q=>q.unwish) fun _ _ z=>False.elim z
end
section
variable {X:Cx} {st:Stmt} {rest:List Stmt} {t u:TS} {e:Expr} {te:TE} {pos:Pos}
def tNext:TS:=fun D σ H=>D.nx σ H
def tSeq (t u:TS):TS:=fun D σ H=>t { D with nx:=u D } σ H
theorem pss_nil:PSs X [] tNext:=fun _ _ σ H _ I h=>wpAny_execs_nil ⟨σ,H,I,h⟩
theorem pss_cons (h1:PS X st t) (h2:PSs X rest u):PSs X (st :: rest) (tSeq t u):=by
 intro pins s σ H D I h
 refine wpAny_execs_cons (thn (h1 pins s σ H { D with nx:=u D } I h) fun f s1 q=>?_)
 cases f with
 | next=>
  obtain ⟨σ',H',I',q⟩:=q
  exact h2 pins s1 σ' H' D I' q
 | ret v=>exact q
 | brk=>exact q
 | cont=>exact q
theorem pss_one (h1:PS X st t):PSs X [st] t:=by
 intro pins s σ H D I h
 refine wpAny_execs_cons (thn (h1 pins s σ H D I h) fun f s1 q=>?_)
 cases f with
 | next=>exact wpAny_execs_nil q
 | ret v=>exact q
 | brk=>exact q
 | cont=>exact q
theorem Inv.quiet {pins:List (Addr × Obj)} {σ:St} {H:Hp} {s:Shared} (I:Inv X pins σ H s):interactive X.env=false:=by simp [interactive,I.ok.kind]
def tDrop (te:TE):TS:=fun D σ H=>te σ H fun _ H1=>D.nx σ H1
theorem ps_expr (he:PE X e te) (hs:swapsWith e none pos.line X.env=pure false:=by rfl):PS X (.Expr e pos) (tDrop te):=by
 intro pins s σ H D I h
 exact wpAny_Expr_any (thn (he pins s σ H _ I h) fun v s1 ⟨x,H1,I1,r1,q1⟩=>⟨σ,H1,I1,q1⟩) I.quiet hs
def tRet (te:TE):TS:=fun D σ H=>te σ H D.rt
theorem ps_ret (he:PE X e te):PS X (.Return (some e) pos) (tRet te):=by
 intro pins s σ H D I h
 exact wpAny_Return_some (thn (he pins s σ H _ I h) fun v s1 ⟨x,H1,I1,r1,q1⟩=>⟨x,σ,H1,I1,r1,q1⟩)
def tIfS (c:TT) (t u:TS):TS:=fun D σ H=>c σ H fun b H1=>if b=true then t D σ H1 else u D σ H1
theorem ps_if {c:Expr} {a b:List Stmt} {tc:TT} (hc:PT X c tc) (ha:PSs X a t) (hb:PSs X b u):PS X (.If c a b pos) (tIfS tc t u):=by
 intro pins s σ H D I h
 refine wpAny_If (thn (hc pins s σ H _ I h) fun d s1 ⟨H1,I1,q1⟩=>?_)
 cases d with
 | true=>exact ha pins s1 σ H1 D I1 q1
 | false=>exact hb pins s1 σ H1 D I1 q1
end
abbrev TG:=V→St→Hp→(St→Hp→Prop)→Prop
abbrev TGs:=List V→St→Hp→(St→Hp→Prop)→Prop
def PG (X:Cx) (target:Expr) (t:TG):Prop:=
 ∀ (pins:List (Addr × Obj)) (s:Shared) (σ:St) (H:Hp) (v:V) (u:Value) (Q:St→Hp→Prop),Inv X pins σ H s→RelV v u→t v σ H Q→
  wpAny (model X.prog X.w) X.A (assign target X.env u) (fun _ s'=>∃ σ' H',Inv X pins σ' H' s'∧Q σ' H') X.xe s
def PGs (X:Cx) (ts:List Expr) (t:TGs):Prop:=
 ∀ (pins:List (Addr × Obj)) (s:Shared) (σ:St) (H:Hp) (vs:List V) (us:List Value) (Q:St→Hp→Prop),Inv X pins σ H s→Vals vs us→t vs σ H Q→
  wpAny (model X.prog X.w) X.A (assignInOrder ((assignEach ts X.env).map (·.2)) us) (fun _ s'=>∃ σ' H',Inv X pins σ' H' s'∧Q σ' H') X.xe s
abbrev TSet:=V→V→V→Hp→(Hp→Prop)→Prop
def PSet (X:Cx) (t:TSet):Prop:=
 ∀ (pins:List (Addr × Obj)) (s:Shared) (σ:St) (H:Hp) (o i v:V) (ov iv u:Value) (Q:Hp→Prop),Inv X pins σ H s→RelV o ov→RelV i iv→RelV v u→t o i v H Q→
  wpAny (model X.prog X.w) X.A (setItem ov iv u) (fun _ s'=>∃ H',Inv X pins σ H' s'∧Q H') X.xe s
section
variable {X:Cx} {pos:Pos}
def gName (i:Nat):TG:=fun v σ H Q=>Q (σ.set i (some v)) H
theorem pg_name {i:Nat} {x:Str} (hN:X.N.Nodup) (hi:X.N[i]? = some x) (hx:Loc X.env.scope x) (hf:X.fn x=true∨X.env.scope.names.lookup x=some .local:=by first | exact .inl rfl | exact .inr rfl | assumption):PG X (.Name x pos) (gName i):=by
 intro pins s σ H v u Q I r h
 exact wpAny_assign_Name (store_ok I hN hi hx r (fun s' I'=>⟨_,H,I',h⟩) hf)
def gNil:TGs:=fun vs σ H Q=>vs=[]∧Q σ H
def gCons (t:TG) (u:TGs):TGs:=fun vs σ H Q=>∃ v r,vs=v :: r∧t v σ H fun σ' H'=>u r σ' H' Q
theorem pgs_nil:PGs X [] gNil:=by
 intro pins s σ H vs us Q I r h
 obtain ⟨e,h⟩:=h
 subst e
 cases r
 exact assignInOrder_nil ⟨σ,H,I,h⟩
theorem pgs_cons {e:Expr} {es:List Expr} {t:TG} {u:TGs} (h1:PG X e t) (h2:PGs X es u)
  (hs:(assignEach (e :: es) X.env).map (·.2)=assign e X.env :: (assignEach es X.env).map (·.2):=by rfl):PGs X (e :: es) (gCons t u):=by
 intro pins s σ H vs us Q I r h
 obtain ⟨v,vr,e1,h⟩:=h
 subst e1
 cases r with
 | cons r rr=>
  rw [hs]
  refine assignInOrder_cons (thn (h1 pins s σ H _ _ _ I r h) fun _ s1 ⟨σ1,H1,I1,q1⟩=>?_)
  exact h2 pins s1 σ1 H1 _ _ Q I1 rr q1
def gTup (K:PySem.W.Frag) (n:Nat) (t:TGs):TG:=fun v σ H Q=>∃ a xs,v=.ref a∧SqT K H a xs∧xs.length=n∧t xs σ H Q
theorem pg_tup {es:List Expr} {k:Nat} {t:TGs} {n:Nat} (hc:X.calm=true) (h:PGs X es t)
  (hn:(assignEach es X.env).length=n:=by rfl) (hst:(assignEach es X.env).findIdx? (·.1)=none:=by rfl):PG X (.Tuple es k pos) (gTup X.K n t):=by
 intro pins s σ H v u Q I r hw
 obtain ⟨a,xs,e1,hq,hl,hw⟩:=hw
 subst e1
 cases r
 obtain ⟨its,rv,ht,hz⟩:=I.tuple hq
 refine assign_Tuple_tuple (I.ok.hd hc) ht (by simp [hn,← hl,rv.length]) hst fun h' hx=>?_
 have I1:Inv X pins σ H { s with heap:=h' }:=I.kept (t':=s.toks) fun b o e=>hx b o (Nat.ne_of_lt (Heap.lt_size e)) e
 exact h pins _ σ H xs _ Q I1 (by simpa using rv) hw
def gSub (to ti:TE) (t:TSet):TG:=fun v σ H Q=>to σ H fun o H1=>ti σ H1 fun i H2=>t o i v H2 fun H3=>Q σ H3
theorem pg_sub {o i:Expr} {to ti:TE} {t:TSet} (ho:PE X o to) (hi:PE X i ti) (hs:PSet X t)
  (ha:∀ v,assign (.Subscript o i pos) X.env v=(do
   let ov ← holding [v] (eval o X.env)
   let iv ← holding [v,ov] (eval i X.env)
   standAt pos
   holding [v,ov,iv] (setItem ov iv v)
   release [v,ov,iv] []):=by intro _; rfl):PG X (.Subscript o i pos) (gSub to ti t):=by
 intro pins s σ H v u Q I r h
 rw [ha]
 refine wpAny_bind (wpAny_holding (thn (ho pins s σ H _ I h) fun ov s1 ⟨x,H1,I1,r1,q1⟩=>?_))
 refine wpAny_bind (wpAny_holding (thn (hi pins s1 σ H1 _ I1 q1) fun iv s2 ⟨y,H2,I2,r2,q2⟩=>?_))
 refine wpAny_bind (wpAny_standAt (wpAny_bind (wpAny_holding (thn (hs pins s2 σ H2 x y v ov iv u _ I2 r1 r2 r q2) fun _ s3 ⟨H3,I3,q3⟩=>?_))))
 exact wpAny_release ⟨σ,H3,I3,q3⟩
def tAsg (te:TE) (g:TG):TS:=fun D σ H=>te σ H fun x H1=>g x σ H1 D.nx
theorem ps_asg {tg e:Expr} {te:TE} {g:TG} (he:PE X e te) (hg:PG X tg g) (hs:swapsWithSole [tg] e pos.line X.env=pure false:=by rfl) (hw:swappedStores [tg] e X.env=pure none:=by rfl)
  (h1:(assignEach [tg] X.env).map (·.2)=[assign tg X.env]:=by rfl):PS X (.Assign [tg] e pos) (tAsg te g):=by
 intro pins s σ H D I h
 refine wpAny_Assign_stores (thn (he pins s σ H _ I h) fun v s1 ⟨x,H1,I1,r1,q1⟩=>?_) hs hw
 rw [h1]
 exact thn (hg pins s1 σ H1 x v _ I1 r1 q1) fun _ s2 q=>q
theorem ps_set {i:Nat} {x:Str} {e:Expr} {te:TE} {pos':Pos} (hN:X.N.Nodup) (hi:X.N[i]? = some x) (hx:Loc X.env.scope x) (he:PE X e te) (hs:swapsWith e (some (.Name x pos')) pos.line X.env=pure false:=by rfl) (hf:X.fn x=true∨X.env.scope.names.lookup x=some .local:=by first | exact .inl rfl | exact .inr rfl | assumption) :
  PS X (.Assign [.Name x pos'] e pos) (tAsg te (gName i)):=by
 intro pins s σ H D I h
 refine wpAny_Assign_Name (thn (he pins s σ H _ I h) fun v s1 ⟨y,H1,I1,r1,q1⟩=>?_) hs
 exact store_ok I1 hN hi hx r1 (fun s2 I2=>⟨_,H1,I2,q1⟩) hf
end
section
variable {X:Cx} {pos:Pos}
end
structure It where
 go:Nat→Hp→Prop
 yld:Nat→Hp→V→Hp→Prop
 stop:Nat→Hp→Prop
def FpOk (X:Cx) (pins:List (Addr × Obj)) (H:Hp) (b:Addr):Prop:=
 H b=none∧b≠X.env.locals∧b∉X.fs∧(b∈X.ex∨X.s₀.heap.objs.size≤b)∧(∀ x c,X.env.cells.lookup x=some c→c≠b)∧∀ p∈X.pn ++ pins,p.1≠b
theorem Inv.fpOk {X:Cx} {pins:List (Addr × Obj)} {σ:St} {H H':Hp} {s:Shared} {b:Addr} (I:Inv X pins σ H s) (hb:s.heap.objs.size≤b) (hn:H' b=none):FpOk X pins H' b:=by
 refine ⟨hn,Nat.ne_of_gt (Nat.lt_of_lt_of_le I.lt hb),I.nofs hb,.inr (Nat.le_trans I.sz hb),fun x c e z=>?_,fun p hp z=>?_⟩
 ·obtain ⟨v,q⟩:=I.cell x c e
  exact absurd (Nat.lt_of_lt_of_le q.lt (by rw [z]; exact hb)) (Nat.lt_irrefl _)
 ·exact absurd (Nat.lt_of_lt_of_le (Heap.lt_size (I.pin p hp).1) (by rw [z]; exact hb)) (Nat.lt_irrefl _)
structure Turn (P:Program) (w:World) (K:PySem.W.Frag) (tg:Expr) (J:It) (fp:List Addr) (it:Addr) (tn:Nat→Heap→Prop):Prop where
 mem:it∈fp
 obj:∀ i h,tn i h→∀ b∈fp,∃ o,h.get? b=some o∧∀ v,o.data≠.cell v
 keep:∀ i h h',tn i h→(∀ b∈fp,∀ o,h.get? b=some o→h'.get? b=some o)→tn i h'
 item:∀ (X:Cx),X.prog=P→X.w=w→X.K=K→X.calm=true→∀ (i:Nat) (pins:List (Addr × Obj)) (s:Shared) (σ:St) (H:Hp) (E:Value→Shared→Prop),Inv X pins σ H s→(∀ b∈fp,FpOk X pins H b)→tn i s.heap→J.go i H→
  wpAny (model P w) X.A (pyNext (.ref it)) (fun r s1=>∃ u,r=some u∧
   wpAny (model P w) X.A (letOwnedTupleGo tg (.ref it) u) (fun _ s2=>∃ x H',Inv X pins σ H' s2∧RelV x u∧J.yld i H x H'∧tn (i+1) s2.heap∧∀ b∈fp,H' b=none) E s1) E s
 done:∀ (X:Cx),X.prog=P→X.w=w→X.K=K→X.calm=true→∀ (i:Nat) (pins:List (Addr × Obj)) (s:Shared) (σ:St) (H:Hp) (E:Value→Shared→Prop),Inv X pins σ H s→(∀ b∈fp,FpOk X pins H b)→tn i s.heap→J.stop i H→
  wpAny (model P w) X.A (pyNext (.ref it)) (fun r s1=>r=none∧Inv X pins σ H s1) E s
 self:∀ (A:Around) (i:Nat) (s:Shared) (Q:Value→Shared→Prop) (E:Value→Shared→Prop),tn i s.heap→Q (.ref it) s→wpAny (model P w) A (pyIter (.ref it)) Q E s
abbrev TI:=St→Hp→(It→Hp→Prop)→Prop
def PIE (X:Cx) (pins:List (Addr × Obj)) (σ:St) (tg:Expr) (R:It→Hp→Prop) (itv:Value) (s2:Shared):Prop:=
 ∃ (it:Addr) (fp:List Addr) (tn:Nat→Heap→Prop) (J:It) (H':Hp),itv=.ref it∧Inv X pins σ H' s2∧Turn X.prog X.w X.K tg J fp it tn∧tn 0 s2.heap∧(∀ b∈fp,FpOk X pins H' b)∧R J H'
def PI (X:Cx) (tg iter:Expr) (wi:TI):Prop:=
 ∀ (pins:List (Addr × Obj)) (s:Shared) (σ:St) (H:Hp) (R:It→Hp→Prop),Inv X pins σ H s→wi σ H R→
  wpAny (model X.prog X.w) X.A (eval iter X.env) (fun v s1=>wpAny (model X.prog X.w) X.A (pyIter v) (PIE X pins σ tg R) X.xe s1) X.xe s
theorem go_of {M:Model} {A:Around} {E:Value→Shared→Prop} {s:Shared} {tg:Expr} {it:Addr} {u:Value} {o:Obj} {n:String} {vs:Array Value} {Q:Unit→Shared→Prop} (ho:s.heap.get? it=some o) (hc:o.cls=.type n) (hd:o.data=.fields vs)
  (hn:["enumerate","zip","dict_itemiterator","dict_reverseitemiterator","odict_iterator","itertools.zip_longest","itertools.pairwise"].contains n=false) (hQ:Q () s):wpAny M A (letOwnedTupleGo tg (.ref it) u) Q E s:=by
 unfold letOwnedTupleGo
 cases tg <;> first
  | exact wpAny_pure hQ
  | (cases u <;> first
    | exact wpAny_pure hQ
    | (refine wpAny_bind (wpAny_load ho ?_)
       rw [hc,hd]
       show wpAny M A (if (["enumerate","zip","dict_itemiterator","dict_reverseitemiterator","odict_iterator","itertools.zip_longest","itertools.pairwise"].contains n && vs[0]? == some (rawInt _))=true then _ else _) Q E s
       rw [if_neg (by intro h; rw [hn,Bool.false_and] at h; cases h)]
       exact wpAny_pure hQ))
def Itl (K:PySem.W.Frag) (a:Addr):It:=
 ⟨fun i H=>∃ xs x,SqL K H a xs∧xs[i]? = some x,fun i H x H'=>H'=H∧∀ xs,SqL K H a xs→xs[i]? = some x,fun i H=>∃ xs,SqL K H a xs∧xs.length≤i⟩
def Itt (K:PySem.W.Frag) (a:Addr):It:=
 ⟨fun i H=>∃ xs x,SqT K H a xs∧xs[i]? = some x,fun i H x H'=>H'=H∧∀ xs,SqT K H a xs→xs[i]? = some x,fun i H=>∃ xs,SqT K H a xs∧xs.length≤i⟩
def Itr (lo:Int) (n:Nat):It:=⟨fun i _=>i < n,fun i H x H'=>H'=H∧x=.int (lo+i),fun i _=>n≤i⟩
theorem turn_list {P:Program} {w:World} {K:PySem.W.Frag} {tg:Expr} (a it:Addr):Turn P w K tg (Itl K a) [it] it (fun i h=>h.IsListIter it a i) where
 mem:=by simp
 obj:=fun i h st b hb=>by
  have e:b=it:=by simpa using hb
  subst e
  obtain ⟨o,e,c,d⟩:=st
  exact ⟨o,e,fun v z=>by rw [d] at z; cases z⟩
 keep:=fun i h h' st k=>st.at fun o e=>k it (by simp) o e
 item:=by
  intro X hP hw hK hc i pins s σ H E I hf st hg
  subst hP hw hK
  obtain ⟨xs,x,hq,hx⟩:=hg
  obtain ⟨its,rv,p,hz⟩:=I.list hq
  obtain ⟨u,hu,ru⟩:=rv.get hx
  obtain ⟨f0,f1,f2,f3,f4,f5⟩:=hf it (by simp)
  refine wpAny_pyNext_list_item st p.isList (x:=u) (by simpa using hu) fun h' st' sb=>?_
  have I1:Inv X pins σ H { s with heap:=h' }:=I.turned (t':=s.toks) (fun b o hb e=>(sb.2 b hb).trans e) f0 f1 f3 f4 f5
  obtain ⟨o,e,c,d⟩:=id st'
  exact ⟨u,rfl,go_of (s:={ s with heap:=h' }) e c d (by decide) ⟨x,H,I1,ru,⟨rfl,fun ys hy=>by rw [I.list_inj hy hq]; exact hx⟩,st',fun b hb=>(hf b hb).1⟩⟩
 done:=by
  intro X hP hw hK hc i pins s σ H E I hf st hg
  subst hP hw hK
  obtain ⟨xs,hq,hx⟩:=hg
  obtain ⟨its,rv,p,hz⟩:=I.list hq
  obtain ⟨f0,f1,f2,f3,f4,f5⟩:=hf it (by simp)
  have hl:=rv.length
  exact wpAny_pyNext_list_end (I.ok.hd hc) st p.isList (by simp; omega) fun h' eb=>⟨rfl,I.turned (t':=s.toks) (fun b o hb e=>eb b o hb e) f0 f1 f3 f4 f5⟩
 self:=fun _ _ _ _ _ st h=>wpAny_pyIter_listiter st h
theorem turn_tuple {P:Program} {w:World} {K:PySem.W.Frag} {tg:Expr} (a it:Addr):Turn P w K tg (Itt K a) [it] it (fun i h=>h.IsTupleIter it a i) where
 mem:=by simp
 obj:=fun i h st b hb=>by
  have e:b=it:=by simpa using hb
  subst e
  obtain ⟨o,e,c,d⟩:=st
  exact ⟨o,e,fun v z=>by rw [d] at z; cases z⟩
 keep:=fun i h h' st k=>st.at fun o e=>k it (by simp) o e
 item:=by
  intro X hP hw hK hc i pins s σ H E I hf st hg
  subst hP hw hK
  obtain ⟨xs,x,hq,hx⟩:=hg
  obtain ⟨its,rv,p,hz⟩:=I.tuple hq
  obtain ⟨u,hu,ru⟩:=rv.get hx
  obtain ⟨f0,f1,f2,f3,f4,f5⟩:=hf it (by simp)
  refine wpAny_pyNext_tuple_item st (show s.heap.IsTuple a its.toArray from p) (x:=u) (by simpa using hu) fun h' st' sb=>?_
  have I1:Inv X pins σ H { s with heap:=h' }:=I.turned (t':=s.toks) (fun b o hb e=>(sb.2 b hb).trans e) f0 f1 f3 f4 f5
  obtain ⟨o,e,c,d⟩:=id st'
  exact ⟨u,rfl,go_of (s:={ s with heap:=h' }) e c d (by decide) ⟨x,H,I1,ru,⟨rfl,fun ys hy=>by rw [I.tuple_inj hy hq]; exact hx⟩,st',fun b hb=>(hf b hb).1⟩⟩
 done:=by
  intro X hP hw hK hc i pins s σ H E I hf st hg
  subst hP hw hK
  obtain ⟨xs,hq,hx⟩:=hg
  obtain ⟨its,rv,p,hz⟩:=I.tuple hq
  obtain ⟨f0,f1,f2,f3,f4,f5⟩:=hf it (by simp)
  have hl:=rv.length
  exact wpAny_pyNext_tuple_end (I.ok.hd hc) st (show s.heap.IsTuple a its.toArray from p) (by simp; omega) fun h' eb=>⟨rfl,I.turned (t':=s.toks) (fun b o hb e=>eb b o hb e) f0 f1 f3 f4 f5⟩
 self:=fun _ _ _ _ _ st h=>wpAny_pyIter_tupleiter st h
theorem turn_range {P:Program} {w:World} {K:PySem.W.Frag} {tg:Expr} (it:Addr) (lo:Int) (n:Nat):Turn P w K tg (Itr lo n) [it] it (fun i h=>IsRangeIter h it (lo+(i:Nat) * 1) ((n:Int) - (i:Nat)) 1) where
 mem:=by simp
 obj:=fun i h st b hb=>by
  have e:b=it:=by simpa using hb
  subst e
  exact ⟨_,st,fun v z=>by
   have z':Data.fields _=Data.cell v:=z
   cases z'⟩
 keep:=fun i h h' st k=>k it (by simp) _ st
 item:=by
  intro X hP hw hK hc i pins s σ H E I hf st hg
  subst hP hw hK
  obtain ⟨f0,f1,f2,f3,f4,f5⟩:=hf it (by simp)
  have W:=Walks.range (prog:=X.prog) (w:=X.w) (I.ok.hd hc) it lo 1 n
  refine W.item i s _ _ hg st fun v h' tk hv st' kk=>?_
  obtain ⟨t,rfl⟩:=hv
  have I1:Inv X pins σ H { s with heap:=h',toks:=tk }:=I.turned (fun b o hb e=>kk b o (by simpa using hb) e) f0 f1 f3 f4 f5
  refine ⟨_,rfl,go_of (s:={ s with heap:=h',toks:=tk }) (n:="range_iterator") st' rfl rfl (by decide) ⟨.int (lo+i),H,I1,⟨t,?_⟩,⟨rfl,rfl⟩,st',fun b hb=>(hf b hb).1⟩⟩
  rw [Int.mul_one]
 done:=by
  intro X hP hw hK hc i pins s σ H E I hf st hg
  subst hP hw hK
  obtain ⟨f0,f1,f2,f3,f4,f5⟩:=hf it (by simp)
  exact wpAny_pyNext_range_end (I.ok.hd hc) st (by have:n≤i:=hg; omega) fun h' eb=>⟨rfl,I.turned (t':=s.toks) (fun b o hb e=>eb b o hb e) f0 f1 f3 f4 f5⟩
 self:=fun _ _ _ _ _ st h=>wpAny_pyIter_rangeiter st h
end L2
namespace L2
open PySem PySem.Spec PyProof.Rows
section
variable {X:Cx} {tg:Expr}
def iList (K:PySem.W.Frag) (tl:TE):TI:=fun σ H R=>tl σ H fun x H1=>∃ a,x=.ref a∧(∃ xs,SqL K H1 a xs)∧R (Itl K a) H1
def iTup (K:PySem.W.Frag) (tl:TE):TI:=fun σ H R=>tl σ H fun x H1=>∃ a,x=.ref a∧(∃ xs,SqT K H1 a xs)∧R (Itt K a) H1
theorem pi_list {l:Expr} {tl:TE} (hl:PE X l tl):PI X tg l (iList X.K tl):=by
 intro pins s σ H R I h
 refine thn (hl pins s σ H _ I h) fun v s1 ⟨x,H1,I1,r1,q1⟩=>?_
 obtain ⟨a,e,⟨xs,hq⟩,q⟩:=q1
 subst e
 cases r1
 obtain ⟨its,rv,p,hz⟩:=I1.list hq
 refine wpAny_pyIter_list p.isList ?_
 refine ⟨s1.heap.objs.size,[s1.heap.objs.size],_,_,H1,rfl,I1.kept (t':=s1.toks) fun b o e=>Heap.get?_push_of_some _ e,turn_list a _,⟨_,Heap.get?_push_size _ rfl,rfl,rfl⟩,fun b hb=>?_,q⟩
 have e:b=s1.heap.objs.size:=by simpa using hb
 subst e
 exact I1.fpOk (Nat.le_refl _) (I1.hok.fresh (Nat.le_refl _))
theorem pi_tup {l:Expr} {tl:TE} (hl:PE X l tl):PI X tg l (iTup X.K tl):=by
 intro pins s σ H R I h
 refine thn (hl pins s σ H _ I h) fun v s1 ⟨x,H1,I1,r1,q1⟩=>?_
 obtain ⟨a,e,⟨xs,hq⟩,q⟩:=q1
 subst e
 cases r1
 obtain ⟨its,rv,p,hz⟩:=I1.tuple hq
 refine wpAny_pyIter_tuple (show s1.heap.IsTuple a its.toArray from p) ?_
 refine ⟨s1.heap.objs.size,[s1.heap.objs.size],_,_,H1,rfl,I1.kept (t':=s1.toks) fun b o e=>Heap.get?_push_of_some _ e,turn_tuple a _,⟨_,Heap.get?_push_size _ rfl,rfl,rfl⟩,fun b hb=>?_,q⟩
 have e:b=s1.heap.objs.size:=by simpa using hb
 subst e
 exact I1.fpOk (Nat.le_refl _) (I1.hok.fresh (Nat.le_refl _))
theorem range_it {pins:List (Addr × Obj)} {σ:St} {H:Hp} {s:Shared} {R:It→Hp→Prop} {E:Value→Shared→Prop} {lo hi:Int} {t u v:Tok} {tk:Nat} (I:Inv X pins σ H s) (h1 : -(2 ^ 62)≤lo) (h2:lo < 2 ^ 62) (h3 : -(2 ^ 62)≤hi) (h4:hi < 2 ^ 62)
  (q:R (Itr lo (hi - lo).toNat) H):wpAny (model X.prog X.w) X.A (pyIter (.ref s.heap.objs.size)) (PIE X pins σ tg R) E { s with heap:=s.heap.push { cls:=.type "range",data:=.fields #[.int lo t,.int hi u,.int 1 v] },toks:=tk }:=by
 refine wpAny_pyIter_range (IsRange.new ..) (small_one h1 h2 h3 h4) ?_
 have I1:Inv X pins σ H { s with heap:=s.heap.push { cls:=.type "range",data:=.fields #[.int lo t,.int hi u,.int 1 v] },toks:=tk }:=I.kept fun b o e=>Heap.get?_push_of_some _ e
 refine ⟨(s.heap.push { cls:=.type "range",data:=.fields #[.int lo t,.int hi u,.int 1 v] }).objs.size,[(s.heap.push { cls:=.type "range",data:=.fields #[.int lo t,.int hi u,.int 1 v] }).objs.size],_,_,H,rfl,
  I1.kept (t':=tk) fun b o e=>Heap.get?_push_of_some _ e,turn_range _ lo (hi - lo).toNat,?_,fun b hb=>?_,q⟩
 ·have e1:lo+((0:Nat):Int) * 1=lo:=by simp
  have e2:(((hi - lo).toNat:Nat):Int) - ((0:Nat):Int)=Builtin.Range.rangeSize lo hi 1:=by rw [rangeSize_one]; split <;> omega
  show IsRangeIter _ _ (lo+((0:Nat):Int) * 1) ((((hi - lo).toNat:Nat):Int) - ((0:Nat):Int)) 1
  rw [e1,e2]
  exact Heap.get?_push_size _ rfl
 ·have e:b=(s.heap.push { cls:=.type "range",data:=.fields #[.int lo t,.int hi u,.int 1 v] }).objs.size:=by simpa using hb
  subst e
  exact I1.fpOk (Nat.le_refl _) (I1.hok.fresh (Nat.le_refl _))
def iRng1 (ta:TA):TI:=fun σ H R=>ta σ H fun vs H1=>∃ j:Int,vs=[.int j]∧-(2 ^ 62)≤j∧j < 2 ^ 62∧R (Itr 0 j.toNat) H1
theorem pi_range1 {a:Expr} {ta:TA} {p pos:Pos} (hg:Gl X "range") (hm:X.mg "range" = none) (ha:PA X [a] ta) (hs:starEach [a] X.env=[(false,eval a X.env)]:=by rfl):PI X tg (.Call (.Name "range" p) [a] [] pos) (iRng1 ta):=by
 intro pins s σ H R I h
 refine Call_ (ld_blt I hg hm boot_range (PyProof.Rows.callWith_type1 (thn (ha pos pins s σ H _ I h) fun us s1 ⟨vs,H1,I1,r1,q1⟩=>?_) hs rfl))
 obtain ⟨j,e,q1,q2,q⟩:=q1
 subst e
 cases r1 with
 | cons r rr=>
  cases rr
  obtain ⟨t,rfl⟩:=r
  exact call_range_1 (range_it I1 (by omega) (by omega) q1 q2 (by simpa using q))
def tFor (wi:TI) (g:TG) (tb:TS):TS:=fun D σ H=>wi σ H fun J H1=>∃ W:Nat→Nat→St→Hp→Prop,(∃ m,W 0 m σ H1)∧∀ i m σ H,W i m σ H→
 (J.stop i H∧D.nx σ H)∨(J.go i H∧∃ N:St→Hp→Prop,(∀ σ' H',N σ' H'→∃ m',m' < m∧W (i+1) m' σ' H')∧∀ x H',J.yld i H x H'→g x σ H' fun σ2 H2=>tb { D with nx:=N,ct:=N,bk:=D.nx } σ2 H2)
def pinsAt (fp:List Addr) (h:Heap):List (Addr × Obj):=fp.filterMap fun b=>(h.get? b).map fun o=>(b,o)
theorem mem_pinsAt {fp:List Addr} {h:Heap} {b:Addr} {o:Obj} (hb:b∈fp) (e:h.get? b=some o):(b,o)∈pinsAt fp h:=List.mem_filterMap.mpr ⟨b,hb,by rw [e]; rfl⟩
theorem of_pinsAt {fp:List Addr} {h:Heap} {p:Addr × Obj} (hp:p∈pinsAt fp h):p.1∈fp∧h.get? p.1=some p.2:=by
 obtain ⟨b,hb,e⟩:=List.mem_filterMap.mp hp
 cases q:h.get? b with
 | none=>rw [q] at e; cases e
 | some o=>
  rw [q] at e
  have e':(b,o)=p:=Option.some.inj e
  subst e'
  exact ⟨hb,q⟩
theorem Inv.pinned {pins:List (Addr × Obj)} {σ:St} {H:Hp} {s:Shared} {fp:List Addr} (I:Inv X pins σ H s) (hf:∀ b∈fp,FpOk X pins H b) (ho:∀ b∈fp,∃ o,s.heap.get? b=some o∧∀ v,o.data≠.cell v):Inv X (pins ++ pinsAt fp s.heap) σ H s:=
 I.pins_of fun p hp=>(List.mem_append.mp hp).elim (fun z=>I.pin p (List.mem_append_right _ z)) fun z=>by
  obtain ⟨hb,e⟩:=of_pinsAt z
  obtain ⟨f0,f1,f2,_⟩:=hf p.1 hb
  obtain ⟨o,e',d⟩:=ho p.1 hb
  rw [e] at e'; cases e'
  exact ⟨e,f0,f1,f2,d⟩
theorem Inv.unpinned {pins pl:List (Addr × Obj)} {σ:St} {H:Hp} {s:Shared} (I:Inv X (pins ++ pl) σ H s):Inv X pins σ H s:=I.pins_of fun p hp=>I.pin p (List.mem_append_right _ (List.mem_append_left _ hp))
theorem ps_for {iter:Expr} {body:List Stmt} {wi:TI} {g:TG} {tb:TS} {pos:Pos} (hp:PassesOwn (model X.prog X.w) X.A X.env X.xe) (hc:X.calm=true) (hi:PI X tg iter wi) (hg:PG X tg g) (hb:PSs X body tb)
  (hs:∀ x,foldedSetIterable iter X.env x=pure x:=by intro _; rfl):PS X (.For tg iter body [] pos) (tFor wi g tb):=by
 intro pins s σ H D I h
 refine wpAny_For (thn (hi pins s σ H _ I h) fun v s1 h1=>thn h1 fun itv s2 h2=>?_) hs
 obtain ⟨it,fp,tn,J,H2,e,I2,T,st2,f2,W,⟨m0,w0⟩,turn⟩:=h2
 subst e
 have stat:∀ {H':Hp},(∀ b∈fp,H' b=none)→∀ b∈fp,FpOk X pins H' b:=fun hn b hb=>⟨hn b hb,(f2 b hb).2⟩
 refine codeAny_forLoop_any (fun n s'=>∃ i σ' H',Inv X pins σ' H' s'∧tn i s'.heap∧(∀ b∈fp,H' b=none)∧W i n σ' H') ?_ m0 ⟨0,σ,H2,I2,st2,fun b hb=>(f2 b hb).1,w0⟩
 rintro n s3 ⟨i,σ3,H3,I3,st3,fr3,w3⟩
 rcases turn i n σ3 H3 w3 with ⟨stop,qn⟩ | ⟨go,N,hN,step⟩
 ·refine wpAny_passesOwn hp (thn (T.done X rfl rfl rfl hc i pins s3 σ3 H3 X.xe I3 (stat fr3) st3 stop) fun r s4 ⟨hr,I4⟩=>?_)
  subst hr
  exact wpAny_execs_nil ⟨σ3,H3,I4,qn⟩
 ·refine wpAny_passesOwn hp (thn (T.item X rfl rfl rfl hc i pins s3 σ3 H3 X.xe I3 (stat fr3) st3 go) fun r s4 ⟨u,hr,h4⟩=>?_)
  subst hr
  refine wpAny_passesOwn hp (thn h4 fun _ s5 ⟨x,H5,I5,r5,y5,st5,fr5⟩=>?_)
  have I5':=I5.pinned (stat fr5) (T.obj _ _ st5)
  refine wpAny_passesOwn hp (thn (hg _ s5 σ3 H5 x u _ I5' r5 (step x H5 y5)) fun _ s6 ⟨σ6,H6,I6,q6⟩=>?_)
  refine wpAny_passesOwn hp (thn (hb _ s6 σ6 H6 _ I6 q6) fun f s7 q7=>?_)
  have again:∀ {σ7:St} {H7:Hp},Inv X (pins ++ pinsAt fp s5.heap) σ7 H7 s7→N σ7 H7→∃ m,m < n∧∃ i σ' H',Inv X pins σ' H' s7∧tn i s7.heap∧(∀ b∈fp,H' b=none)∧W i m σ' H':=fun {σ7 H7} I7 n7=>by
   obtain ⟨m',hm,w7⟩:=hN σ7 H7 n7
   refine ⟨m',hm,i+1,σ7,H7,I7.unpinned,T.keep _ _ _ st5 fun b hb o e=>(I7.pin (b,o) (List.mem_append_right _ (List.mem_append_right _ (mem_pinsAt hb e)))).1,fun b hb=>?_,w7⟩
   obtain ⟨o,e,d⟩:=T.obj _ _ st5 b hb
   exact (I7.pin (b,o) (List.mem_append_right _ (List.mem_append_right _ (mem_pinsAt hb e)))).2.1
  cases f with
  | next=>obtain ⟨σ7,H7,I7,n7⟩:=q7; exact again I7 n7
  | cont=>obtain ⟨σ7,H7,I7,n7⟩:=q7; exact again I7 n7
  | brk=>obtain ⟨σ7,H7,I7,q7⟩:=q7; exact ⟨σ7,H7,I7.unpinned,q7⟩
  | ret v=>obtain ⟨x7,σ7,H7,I7,r7,q7⟩:=q7; exact ⟨x7,σ7,H7,I7.unpinned,r7,q7⟩
end
theorem for_range {lo:Int} {n:Nat} {g:TG} {tb:TS} {D:Ends} {σ:St} {H:Hp} (Pv:Nat→St→Hp→Prop) (h0:Pv 0 σ H)
  (hs:∀ i σ H,i < n→Pv i σ H→g (.int (lo+i)) σ H fun σ2 H2=>tb { D with nx:=Pv (i+1),ct:=Pv (i+1),bk:=D.nx } σ2 H2) (hd:∀ σ H,Pv n σ H→D.nx σ H) :
  ∃ W:Nat→Nat→St→Hp→Prop,(∃ m,W 0 m σ H)∧∀ i m σ H,W i m σ H→
   ((Itr lo n).stop i H∧D.nx σ H)∨((Itr lo n).go i H∧∃ N:St→Hp→Prop,(∀ σ' H',N σ' H'→∃ m',m' < m∧W (i+1) m' σ' H')∧∀ x H',(Itr lo n).yld i H x H'→g x σ H' fun σ2 H2=>tb { D with nx:=N,ct:=N,bk:=D.nx } σ2 H2):=by
 refine ⟨fun i m σ H=>m=n - i∧i≤n∧Pv i σ H,⟨n,by simp,Nat.zero_le _,h0⟩,?_⟩
 rintro i m σ H ⟨rfl,hi,p⟩
 by_cases hlt:i < n
 ·refine .inr ⟨hlt,Pv (i+1),fun σ' H' p'=>⟨n - (i+1),by omega,rfl,hlt,p'⟩,fun x H' y=>?_⟩
  obtain ⟨e,y⟩:=y
  subst e y
  exact hs i σ _ hlt p
 ·have e:i=n:=by omega
  subst e
  exact .inl ⟨Nat.le_refl _,hd σ H p⟩
end L2
namespace L2
open PySem PySem.Spec PyProof.Rows
abbrev R2:=V→V→Hp→VK→Prop
def OpR (X:Cx) (f:Value→Value→Sem Value) (r:R2):Prop:=
 ∀ (pins:List (Addr × Obj)) (s:Shared) (σ:St) (H:Hp) (x y:V) (v u:Value) (Q:VK),Inv X pins σ H s→RelV x v→RelV y u→r x y H Q→
  wpAny (model X.prog X.w) X.A (f v u) (EP X pins σ Q) X.xe s
def UnR (X:Cx) (f:Value→Sem Value) (r:V→Hp→VK→Prop):Prop:=
 ∀ (pins:List (Addr × Obj)) (s:Shared) (σ:St) (H:Hp) (x:V) (v:Value) (Q:VK),Inv X pins σ H s→RelV x v→r x H Q→
  wpAny (model X.prog X.w) X.A (f v) (EP X pins σ Q) X.xe s
def CallR (X:Cx) (f:Value) (r:List V→Hp→VK→Prop):Prop:=
 ∀ (pins:List (Addr × Obj)) (s:Shared) (σ:St) (H:Hp) (xs:List V) (us:List Value) (Q:VK),Inv X pins σ H s→Vals xs us→r xs H Q→
  wpAny (model X.prog X.w) X.A (call f us) (EP X pins σ Q) X.xe s
def TruR (X:Cx) (r:V→Hp→(Bool→Hp→Prop)→Prop):Prop:=
 ∀ (pins:List (Addr × Obj)) (s:Shared) (σ:St) (H:Hp) (x:V) (v:Value) (Q:Bool→Hp→Prop),Inv X pins σ H s→RelV x v→r x H Q→
  wpAny (model X.prog X.w) X.A (truthy v) (TP X pins σ Q) X.xe s
def tOp (r:R2) (ta tb:TE):TE:=fun σ H Q=>ta σ H fun x H1=>tb σ H1 fun y H2=>r x y H2 Q
def tUn (r:V→Hp→VK→Prop) (ta:TE):TE:=fun σ H Q=>ta σ H fun x H1=>r x H1 Q
def rI (C:Int→Int→Prop) (g:Int→Int→V):R2:=fun x y H Q=>∃ i j,x=.int i∧y=.int j∧C i j∧Q (g i j) H
def rI0 (g:Int→Int→V):R2:=fun x y H Q=>∃ i j,x=.int i∧y=.int j∧Q (g i j) H
def rU (g:Int→V):V→Hp→VK→Prop:=fun x H Q=>∃ i,x=.int i∧Q (g i) H
section
variable {X:Cx} {a b c:Expr} {ta tb tc:TE} {pos:Pos}
theorem binT (ha:PE X a ta) (hb:PE X b tb) {pins:List (Addr × Obj)} {s:Shared} {σ:St} {H:Hp} {R:V→V→Hp→Prop} (I:Inv X pins σ H s)
  (h:ta σ H fun x H1=>tb σ H1 fun y H2=>R x y H2) {Q:Value→Shared→Prop} {f:Value→Value→Sem Value}
  (hf:∀ v u s2 x y H2,Inv X pins σ H2 s2→RelV x v→RelV y u→R x y H2→wpAny (model X.prog X.w) X.A (f v u) Q X.xe s2) :
  wpAny (model X.prog X.w) X.A (eval a X.env) (fun v s₁=>wpAny (model X.prog X.w) X.A (eval b X.env) (fun u s₂=>wpAny (model X.prog X.w) X.A (f v u) Q X.xe s₂) X.xe s₁) X.xe s:=by
 refine thn (ha pins s σ H _ I h) fun v s1 ⟨x,H1,I1,r1,q1⟩=>?_
 refine thn (hb pins s1 σ H1 _ I1 q1) fun u s2 ⟨y,H2,I2,r2,q2⟩=>?_
 exact hf v u s2 x y H2 I2 r1 r2 q2
theorem pe_op {op:Operator} {r:R2} (ho:OpR X (binaryOp op) r) (ha:PE X a ta) (hb:PE X b tb):PE X (.BinOp a op b pos) (tOp r ta tb):=by
 intro pins s σ H Q I h
 exact wpAny_BinOp (binT ha hb I h fun v u s2 x y H2 I2 rx ry q=>ho pins s2 σ H2 x y v u Q I2 rx ry q)
theorem pe_un {op:UnaryOp} {r:V→Hp→VK→Prop} (ho:UnR X (unaryOp op) r) (ha:PE X a ta):PE X (.UnaryOp op a pos) (tUn r ta):=by
 intro pins s σ H Q I h
 exact UnaryOp_ (thn (ha pins s σ H _ I h) fun v s1 ⟨x,H1,I1,r1,q1⟩=>ho pins s1 σ H1 x v Q I1 r1 q1)
theorem opI {f:Value→Value→Sem Value} {C:Int→Int→Prop} {g:Int→Int→Int}
  (rule:∀ (i j:Int) (t u:Tok) (s:Shared) (Q:Value→Shared→Prop) (E:Value→Shared→Prop),C i j→Q (.int (g i j) s.toks) { s with toks:=s.toks+1 }→wpAny (model X.prog X.w) X.A (f (.int i t) (.int j u)) Q E s) :
  OpR X f (rI C fun i j=>.int (g i j)):=by
 intro pins s σ H x y v u Q I rx ry h
 obtain ⟨i,j,rfl,rfl,hc,q⟩:=h
 obtain ⟨t,rfl⟩:=rx
 obtain ⟨t',rfl⟩:=ry
 exact rule i j t t' s _ _ hc ⟨.int (g i j),H,I.tok _,⟨_,rfl⟩,q⟩
theorem opI0 {f:Value→Value→Sem Value} {g:Int→Int→Int}
  (rule:∀ (i j:Int) (t u:Tok) (s:Shared) (Q:Value→Shared→Prop) (E:Value→Shared→Prop),Q (.int (g i j) s.toks) { s with toks:=s.toks+1 }→wpAny (model X.prog X.w) X.A (f (.int i t) (.int j u)) Q E s) :
  OpR X f (rI0 fun i j=>.int (g i j)):=by
 intro pins s σ H x y v u Q I rx ry h
 obtain ⟨i,j,rfl,rfl,q⟩:=h
 obtain ⟨t,rfl⟩:=rx
 obtain ⟨t',rfl⟩:=ry
 exact rule i j t t' s _ _ ⟨.int (g i j),H,I.tok _,⟨_,rfl⟩,q⟩
theorem opB0 {f:Value→Value→Sem Value} {g:Int→Int→Bool}
  (rule:∀ (i j:Int) (t u:Tok) (s:Shared) (Q:Value→Shared→Prop) (E:Value→Shared→Prop),Q (.bool (g i j)) s→wpAny (model X.prog X.w) X.A (f (.int i t) (.int j u)) Q E s) :
  OpR X f (rI0 fun i j=>.bl (g i j)):=by
 intro pins s σ H x y v u Q I rx ry h
 obtain ⟨i,j,rfl,rfl,q⟩:=h
 obtain ⟨t,rfl⟩:=rx
 obtain ⟨t',rfl⟩:=ry
 exact rule i j t t' s _ _ ⟨.bl (g i j),H,I,rfl,q⟩
def CDiv (i j:Int):Prop:=0 < j∧j < 1073741824
def CPow (i j:Int):Prop:=0≤j∧j≤1000000∧i.natAbs < 2 ^ 64
def CMul (i j:Int):Prop:=(-(2 ^ 64) < i∧i < 2 ^ 64)∨(-(2 ^ 64) < j∧j < 2 ^ 64)
theorem CMul.ok {i j:Int} (h:CMul i j):IntMulOk i j:=by
 rcases h with ⟨h1,h2⟩ | ⟨h1,h2⟩
 ·exact .of_left (intBits_le_64 h1 h2)
 ·exact .of_right (intBits_le_64 h1 h2)
theorem op_add:OpR X (binaryOp .Add) (rI0 fun i j=>.int (i+j)):=opI0 fun _ _ _ _ _ _ _ q=>add_int q
theorem op_sub:OpR X (binaryOp .Sub) (rI0 fun i j=>.int (i - j)):=opI0 fun _ _ _ _ _ _ _ q=>sub_int q
theorem op_mul:OpR X (binaryOp .Mult) (rI CMul fun i j=>.int (i * j)):=opI fun _ _ _ _ _ _ _ hc q=>mul_int q hc.ok
theorem op_fdiv:OpR X (binaryOp .FloorDiv) (rI CDiv fun i j=>.int (i / j)):=opI fun i j _ _ _ _ _ hc q=>by
 have h1:(0:Int) < j:=hc.1
 have h2:j < 1073741824:=hc.2
 exact floordiv_int (by omega) (by rw [Int.fdiv_eq_ediv_of_nonneg i (by omega)]; exact q) (.inl (PyProof.noPylong_small (by omega)))
theorem op_mod:OpR X (binaryOp .Mod) (rI (fun _ j=>0 < j) fun i j=>.int (i % j)):=opI fun i j _ _ _ _ _ hc q=>by
 have h1:(0:Int) < j:=hc
 exact mod_int' (by omega) (by rw [Int.fmod_eq_emod_of_nonneg i (by omega)]; exact q)
theorem op_pow:OpR X (binaryOp .Pow) (rI CPow fun i j=>.int (i ^ j.toNat)):=opI fun _ _ _ _ _ _ _ hc q=>pow_int_small hc.1 hc.2.1 hc.2.2 q
theorem unI {f:Value→Sem Value} {g:Int→Int}
  (rule:∀ (i:Int) (t:Tok) (s:Shared) (Q:Value→Shared→Prop) (E:Value→Shared→Prop),Q (.int (g i) s.toks) { s with toks:=s.toks+1 }→wpAny (model X.prog X.w) X.A (f (.int i t)) Q E s) :
  UnR X f (rU fun i=>.int (g i)):=by
 intro pins s σ H x v Q I rx h
 obtain ⟨i,rfl,q⟩:=h
 obtain ⟨t,rfl⟩:=rx
 exact rule i t s _ _ ⟨.int (g i),H,I.tok _,⟨_,rfl⟩,q⟩
theorem un_neg:UnR X (unaryOp .USub) (rU fun i=>.int (-i)):=unI fun _ _ _ _ _ q=>neg_int q
end
def scal:V→V→Bool
 | .non,.non=>true | .non,.int _=>true | .int _,.non=>true | .non,.bl _=>true | .bl _,.non=>true | .non,.str _=>true | .str _,.non=>true
 | .int _,.int _=>true | .bl _,.bl _=>true | .str _,.str _=>true | .byt _,.byt _=>true
 | .int _,.str _=>true | .str _,.int _=>true | .bl _,.str _=>true | .str _,.bl _=>true
 | _,_=>false
def rEq:R2:=fun x y H Q=>scal x y=true∧Q (.bl (decide (x=y))) H
def rNe:R2:=fun x y H Q=>scal x y=true∧Q (.bl (!decide (x=y))) H
theorem dec_int {i j:Int}:decide (V.int i=V.int j)=(i==j):=by
 rw [Bool.eq_iff_iff]
 simp
theorem dec_bl {i j:Bool}:decide (V.bl i=V.bl j)=(i==j):=by
 rw [Bool.eq_iff_iff]
 simp
theorem dec_str {i j:Str}:decide (V.str i=V.str j)=(i==j):=by
 rw [Bool.eq_iff_iff]
 simp
theorem dec_byt {i j:Array UInt8}:decide (V.byt i=V.byt j)=(i.toList==j.toList):=by
 rw [Bool.eq_iff_iff]
 cases i
 cases j
 simp
section
variable {X:Cx} {a b c:Expr} {ta tb tc:TE} {pos:Pos}
theorem fin_bl {pins:List (Addr × Obj)} {σ:St} {H:Hp} {s:Shared} {Q:VK} {k k':Bool} (I:Inv X pins σ H s) (q:Q (.bl k) H) (e:k=k'):EP X pins σ Q (.bool k') s:=by
 subst e
 exact ⟨.bl k,H,I,rfl,q⟩
theorem op_eq:OpR X (compareOp .Eq) rEq:=by
 intro pins s σ H x y v u Q I rx ry h
 obtain ⟨hs,q⟩:=h
 cases x with
 | non=>
  cases rx
  cases y with
  | non=>cases ry; exact PySem.EqNone.eq_none_none (fin_bl I q (by simp))
  | bl j=>cases ry; exact PySem.EqNone.eq_none_bool (fin_bl I q (by simp))
  | int j=>obtain ⟨t',rfl⟩:=ry; exact PySem.EqNone.eq_none_int (fin_bl I q (by simp))
  | str j=>obtain ⟨t',rfl⟩:=ry; exact PySem.EqNone.eq_none_str (fin_bl I q (by simp))
  | _=>exact absurd (show false=true from hs) Bool.false_ne_true
 | bl i=>
  cases rx
  cases y with
  | non=>cases ry; exact PySem.EqNone.eq_bool_none (fin_bl I q (by simp))
  | bl j=>cases ry; exact eq_bool (fin_bl I q dec_bl)
  | str j=>obtain ⟨t',rfl⟩:=ry; exact PySem.EqMixed.eq_bool_str (fin_bl I q (by simp))
  | _=>exact absurd (show false=true from hs) Bool.false_ne_true
 | int i=>
  obtain ⟨t,rfl⟩:=rx
  cases y with
  | non=>cases ry; exact PySem.EqNone.eq_int_none (fin_bl I q (by simp))
  | int j=>obtain ⟨t',rfl⟩:=ry; exact eq_int (fin_bl I q dec_int)
  | str j=>obtain ⟨t',rfl⟩:=ry; exact PySem.EqMixed.eq_int_str (fin_bl I q (by simp))
  | _=>exact absurd (show false=true from hs) Bool.false_ne_true
 | str i=>
  obtain ⟨t,rfl⟩:=rx
  cases y with
  | non=>cases ry; exact PySem.EqNone.eq_str_none (fin_bl I q (by simp))
  | bl j=>cases ry; exact PySem.EqMixed.eq_str_bool (fin_bl I q (by simp))
  | int j=>obtain ⟨t',rfl⟩:=ry; exact PySem.EqMixed.eq_str_int (fin_bl I q (by simp))
  | str j=>obtain ⟨t',rfl⟩:=ry; exact eq_str (fin_bl I q dec_str)
  | _=>exact absurd (show false=true from hs) Bool.false_ne_true
 | byt i=>
  obtain ⟨t,rfl⟩:=rx
  cases y with
  | byt j=>obtain ⟨t',rfl⟩:=ry; exact PySem.W.eq_bytes (fin_bl I q dec_byt)
  | _=>exact absurd (show false=true from hs) Bool.false_ne_true
 | _=>cases y <;> exact absurd (show false=true from hs) Bool.false_ne_true
theorem op_ne:OpR X (compareOp .NotEq) rNe:=by
 intro pins s σ H x y v u Q I rx ry h
 obtain ⟨hs,q⟩:=h
 cases x with
 | non=>
  cases rx
  cases y with
  | non=>cases ry; exact PySem.EqNone.ne_none_none (fin_bl I q (by simp))
  | bl j=>cases ry; exact PySem.EqNone.ne_none_bool (fin_bl I q (by simp))
  | int j=>obtain ⟨t',rfl⟩:=ry; exact PySem.EqNone.ne_none_int (fin_bl I q (by simp))
  | str j=>obtain ⟨t',rfl⟩:=ry; exact PySem.EqNone.ne_none_str (fin_bl I q (by simp))
  | _=>exact absurd (show false=true from hs) Bool.false_ne_true
 | bl i=>
  cases rx
  cases y with
  | non=>cases ry; exact PySem.EqNone.ne_bool_none (fin_bl I q (by simp))
  | bl j=>cases ry; exact ne_bool (fin_bl I q (congrArg not dec_bl))
  | str j=>obtain ⟨t',rfl⟩:=ry; exact PySem.EqMixed.ne_bool_str (fin_bl I q (by simp))
  | _=>exact absurd (show false=true from hs) Bool.false_ne_true
 | int i=>
  obtain ⟨t,rfl⟩:=rx
  cases y with
  | non=>cases ry; exact PySem.EqNone.ne_int_none (fin_bl I q (by simp))
  | int j=>obtain ⟨t',rfl⟩:=ry; exact ne_int (fin_bl I q (congrArg not dec_int))
  | str j=>obtain ⟨t',rfl⟩:=ry; exact PySem.EqMixed.ne_int_str (fin_bl I q (by simp))
  | _=>exact absurd (show false=true from hs) Bool.false_ne_true
 | str i=>
  obtain ⟨t,rfl⟩:=rx
  cases y with
  | non=>cases ry; exact PySem.EqNone.ne_str_none (fin_bl I q (by simp))
  | bl j=>cases ry; exact PySem.EqMixed.ne_str_bool (fin_bl I q (by simp))
  | int j=>obtain ⟨t',rfl⟩:=ry; exact PySem.EqMixed.ne_str_int (fin_bl I q (by simp))
  | str j=>obtain ⟨t',rfl⟩:=ry; exact ne_str (fin_bl I q (congrArg not dec_str))
  | _=>exact absurd (show false=true from hs) Bool.false_ne_true
 | byt i=>
  obtain ⟨t,rfl⟩:=rx
  cases y with
  | byt j=>obtain ⟨t',rfl⟩:=ry; exact PySem.W.ne_bytes (fin_bl I q (congrArg not dec_byt))
  | _=>exact absurd (show false=true from hs) Bool.false_ne_true
 | _=>cases y <;> exact absurd (show false=true from hs) Bool.false_ne_true
theorem op_lt:OpR X (compareOp .Lt) (rI0 fun i j=>.bl (decide (i < j))):=opB0 fun _ _ _ _ _ _ _ q=>lt_int q
theorem op_le:OpR X (compareOp .LtE) (rI0 fun i j=>.bl (decide (i≤j))):=opB0 fun _ _ _ _ _ _ _ q=>le_int q
theorem op_gt:OpR X (compareOp .Gt) (rI0 fun i j=>.bl (decide (j < i))):=opB0 fun _ _ _ _ _ _ _ q=>gt_int q
theorem op_ge:OpR X (compareOp .GtE) (rI0 fun i j=>.bl (decide (j≤i))):=opB0 fun _ _ _ _ _ _ _ q=>ge_int q
theorem op_lt_str:OpR X (compareOp .Lt) (fun x y H Q=>∃ i j,x=.str i∧y=.str j∧Q (.bl (decide (i.cps.toList < j.cps.toList))) H):=by
 intro pins s σ H x y v u Q I rx ry h
 obtain ⟨i,j,rfl,rfl,q⟩:=h
 obtain ⟨t,rfl⟩:=rx
 obtain ⟨t',rfl⟩:=ry
 exact lt_str (fin_bl I q rfl)
theorem op_in_str:OpR X (compareOp .In) (fun x y H Q=>∃ i j,x=.str i∧y=.str j∧Q (.bl (!(Builtin.Str.occurrences j i 0 j.length 1).isEmpty)) H):=by
 intro pins s σ H x y v u Q I rx ry h
 obtain ⟨i,j,rfl,rfl,q⟩:=h
 obtain ⟨t,rfl⟩:=rx
 obtain ⟨t',rfl⟩:=ry
 exact in_str (fin_bl I q rfl)
theorem nomark (b:Expr) {op:CmpOp} (h:op≠.In:=by decide) (h2:op≠.NotIn:=by decide):behindInMarks op b=false:=by
 have e1:(op==CmpOp.In)=false:=by cases op <;> first | rfl | exact absurd rfl h
 have e2:(op==CmpOp.NotIn)=false:=by cases op <;> first | rfl | exact absurd rfl h2
 cases b <;> simp [behindInMarks,e1,e2]
theorem pe_cmpR {op:CmpOp} {r:R2} (ho:OpR X (compareOp op) r) (ha:PE X a ta) (hb:PE X b tb) (hm:behindInMarks op b=false):PE X (.Compare a [op] [b] pos) (tOp r ta tb):=by
 intro pins s σ H Q I h
 exact wpAny_Compare1 (binT ha hb I h fun v u s2 x y H2 I2 rx ry q=>ho pins s2 σ H2 x y v u Q I2 rx ry q) hm
def tTest (t:TE):TT:=fun σ H Q=>t σ H fun x H'=>∃ k,x=.bl k∧Q k H'
theorem pt_cmpR {op:CmpOp} {r:R2} (ho:OpR X (compareOp op) r) (ha:PE X a ta) (hb:PE X b tb) (hm:behindInMarks op b=false):PT X (.Compare a [op] [b] pos) (tTest (tOp r ta tb)):=by
 intro pins s σ H Q I h
 refine wpAny_isTrue_Compare1 (thn (ha pins s σ H _ I h) fun v s1 ⟨x,H1,I1,r1,q1⟩=>thn (hb pins s1 σ H1 _ I1 q1) fun u s2 ⟨y,H2,I2,r2,q2⟩=>
  thn (ho pins s2 σ H2 x y v u _ I2 r1 r2 q2) fun c s3 ⟨z,H3,I3,r3,k,e,q3⟩=>?_) hm
 subst e
 cases r3
 exact wpAny_truthy_bool ⟨H3,I3,q3⟩
def tChain (r r':R2) (ta tb tc:TE):TE:=fun σ H Q=>ta σ H fun x H1=>tb σ H1 fun y H2=>r x y H2 fun z H3=>∃ k,z=.bl k∧
 (if k=true then tc σ H3 fun w' H4=>r' y w' H4 Q else Q (.bl false) H3)
theorem pe_chain {op op':CmpOp} {r r':R2} (ho:OpR X (compareOp op) r) (ho':OpR X (compareOp op') r') (ha:PE X a ta) (hb:PE X b tb) (hc:PE X c tc)
  (hm:lastMarks [op,op'] [b,c]=false:=by with_unfolding_all rfl):PE X (.Compare a [op,op'] [b,c] pos) (tChain r r' ta tb tc):=by
 intro pins s σ H Q I h
 refine Compare_chain (thn (ha pins s σ H _ I h) fun v s1 ⟨x,H1,I1,r1,q1⟩=>chain_link (thn (hb pins s1 σ H1 _ I1 q1) fun u s2 ⟨y,H2,I2,r2,q2⟩=>
  thn (ho pins s2 σ H2 x y v u _ I2 r1 r2 q2) fun d s3 ⟨z,H3,I3,r3,k,e,q3⟩=>?_)) hm
 subst e
 cases r3
 refine wpAny_truthy_bool ?_
 cases k with
 | false=>exact ite_ff ⟨.bl false,H3,I3,rfl,q3⟩
 | true=>exact ite_tt (chain_last (thn (hc pins s3 σ H3 _ I3 q3) fun w' s4 ⟨z',H4,I4,r4,q4⟩=>ho' pins s4 σ H4 y z' u w' Q I4 r2 r4 q4))
theorem pt_chain {op op':CmpOp} {r r':R2} (ho:OpR X (compareOp op) r) (ho':OpR X (compareOp op') r') (ha:PE X a ta) (hb:PE X b tb) (hc:PE X c tc)
  (hm:lastMarks [op,op'] [b,c]=false:=by with_unfolding_all rfl):PT X (.Compare a [op,op'] [b,c] pos) (tTest (tChain r r' ta tb tc)):=by
 intro pins s σ H Q I h
 refine isTrue_chain (thn (ha pins s σ H _ I h) fun v s1 ⟨x,H1,I1,r1,q1⟩=>test_link (thn (hb pins s1 σ H1 _ I1 q1) fun u s2 ⟨y,H2,I2,r2,q2⟩=>
  thn (ho pins s2 σ H2 x y v u _ I2 r1 r2 q2) fun d s3 ⟨z,H3,I3,r3,k,e,q3⟩=>?_)) hm
 subst e
 cases r3
 refine wpAny_truthy_bool ?_
 cases k with
 | false=>
  obtain ⟨k',e',q'⟩:=q3
  cases e'
  exact ite_ff ⟨H3,I3,q'⟩
 | true=>
  refine ite_tt (test_last (thn (hc pins s3 σ H3 _ I3 q3) fun w' s4 ⟨z',H4,I4,r4,q4⟩=>thn (ho' pins s4 σ H4 y z' u w' _ I4 r2 r4 q4) fun d' s5 ⟨z2,H5,I5,r5,k2,e2,q5⟩=>?_))
  subst e2
  cases r5
  exact wpAny_truthy_bool ⟨H5,I5,q5⟩
def TruV (K:PySem.W.Frag) (x:V) (H:Hp) (k:Bool):Prop:=
 match x with
 | .non=>k=false
 | .bl b=>k=b
 | .int i=>k=(i != 0)
 | .str y=>y.length≤sizeLine∧k=((y.length:Int) != 0)
 | .byt y=>y.size≤sizeLine∧k=((y.size:Int) != 0)
 | .ref p=>(∃ xs,SqL K H p xs∧k = !xs.isEmpty)∨(∃ xs,SqT K H p xs∧k = !xs.isEmpty)∨∃ kvs,H p=some (.dK kvs)∧k = !kvs.isEmpty
 | _=>False
theorem isEmpty_kv {κ:Type} {kvs:List (κ × V)} {vs:List (κ × Value)} (r:KV kvs vs):(!vs.isEmpty) = !kvs.isEmpty:=by
 cases r <;> rfl
theorem isEmpty_of {xs:List V} {its:List Value} (r:Vals xs its):(!its.toArray.isEmpty) = !xs.isEmpty:=by
 cases r <;> simp
theorem line63:(sizeLine:Nat) < 2 ^ 63:=by rw [sizeLine_eq]; decide
theorem tru_ok:TruR X (fun x H Q=>∃ k,TruV X.K x H k∧Q k H):=by
 intro pins s σ H x v Q I rx h
 obtain ⟨k,e,q⟩:=h
 have hl:=line63
 have hs:sizeLine=16777216:=sizeLine_eq
 cases x with
 | non=>
  cases rx
  have e':k=false:=e
  subst e'
  exact truthy_none ⟨H,I,q⟩
 | bl b=>
  cases rx
  have e':k=b:=e
  subst e'
  exact wpAny_truthy_bool ⟨H,I,q⟩
 | int i=>
  obtain ⟨t,rfl⟩:=rx
  have e':k=(i != 0):=e
  subst e'
  exact PySem.P.truthy_int ⟨H,I,q⟩
 | str y=>
  obtain ⟨t,rfl⟩:=rx
  obtain ⟨hy,e'⟩:y.length≤sizeLine∧k=((y.length:Int) != 0):=e
  subst e'
  exact PySem.P.truthy_str (by omega) ⟨H,I.tok _,q⟩
 | byt y=>
  obtain ⟨t,rfl⟩:=rx
  obtain ⟨hy,e'⟩:y.size≤sizeLine∧k=((y.size:Int) != 0):=e
  subst e'
  exact PySem.W.truthy_bytes (by omega) ⟨H,I.tok _,q⟩
 | ref p=>
  cases rx
  have e':(∃ xs,SqL X.K H p xs∧k = !xs.isEmpty)∨(∃ xs,SqT X.K H p xs∧k = !xs.isEmpty)∨∃ kvs,H p=some (.dK kvs)∧k = !kvs.isEmpty:=e
  rcases e' with ⟨xs,hx,e'⟩ | ⟨xs,hx,e'⟩ | ⟨kvs,hx,e'⟩
  ·subst e'
   obtain ⟨its,r,pl,hz⟩:=I.list hx
   have hlen:=r.length
   exact wpAny_truthy_list pl.isList (by simp only [List.size_toArray]; omega) ⟨H,I.tok _,by rw [isEmpty_of r]; exact q⟩
  ·subst e'
   obtain ⟨its,r,pl,hz⟩:=I.tuple hx
   have hlen:=r.length
   exact truthy_tuple pl (by simp only [List.size_toArray]; omega) ⟨H,I.tok _,by rw [isEmpty_of r]; exact q⟩
  ·subst e'
   obtain ⟨hz,hS,vs,r,m⟩:kvs.length≤sizeLine∧(p==sysModules)=false∧∃ vs,KV kvs vs∧s.heap.DictOf (mixKind X.prog X.w) p vs:=I.hok p _ hx
   have hlen:kvs.length=vs.length:=Paired.length r
   exact wpAny_truthy_dict hS m (by omega) ⟨H,I.tok _,by rw [isEmpty_kv r]; exact q⟩
 | _=>exact (show False from e).elim
theorem pt_truth (ha:PE X a ta) (he:∀ whole,isTrue a X.env whole=(do let v ← whole; standAt a.pos; holding [v] (truthy v))) :
  PT X a (fun σ H Q=>ta σ H fun x H'=>∃ k,TruV X.K x H' k∧Q k H'):=by
 intro pins s σ H Q I h
 exact isTrue_plain (thn (ha pins s σ H _ I h) fun v s1 ⟨x,H1,I1,r1,q1⟩=>tru_ok pins s1 σ H1 x v Q I1 r1 q1) (he _)
theorem op_add_str:OpR X (binaryOp .Add) (fun x y H Q=>∃ i j,x=.str i∧y=.str j∧i.length+j.length≤sizeLine∧Q (.str (i ++ j)) H):=by
 intro pins s σ H x y v u Q I rx ry h
 obtain ⟨i,j,rfl,rfl,hz,q⟩:=h
 obtain ⟨t,rfl⟩:=rx
 obtain ⟨t',rfl⟩:=ry
 exact add_str (fun t' tk=>⟨.str (i ++ j),H,I.tok _,⟨_,rfl⟩,q⟩) hz
theorem vals1 {x:V} {us:List Value} (r:Vals [x] us):∃ u,us=[u]∧RelV x u:=by
 cases r with
 | cons r1 r2=>cases r2; exact ⟨_,rfl,r1⟩
theorem vals2 {x y:V} {us:List Value} (r:Vals [x,y] us):∃ u w',us=[u,w']∧RelV x u∧RelV y w':=by
 cases r with
 | cons r1 r2=>
  cases r2 with
  | cons r3 r4=>cases r4; exact ⟨_,_,rfl,r1,r3⟩
end
end L2
namespace L2
open PySem PySem.Spec PyProof.Rows
structure ObjM (h:Heap) (x dx C:Addr) (mA:Str→Option Value):Prop where
 obj:h.get? x=some (PySem.W.instObj C dx)
 ns:h.Ns1 dx mA
 ne:dx≠x
theorem lookIn_ns {h:Heap} {dx:Addr} {mA:Str→Option Value} (n:h.Ns1 dx mA):∃ od,h.get? dx=some od∧∀ name,PySem.W.lookIn name od=some (mA name):=by
 obtain ⟨o,es,ep,ho,hd,hk,_,hm⟩:=n
 refine ⟨o,ho,fun name=>?_⟩
 have e:=hm name
 unfold nsFind findBy at e
 rw [← Array.find?_toList] at e
 unfold PySem.W.lookIn
 rw [hd]
 dsimp only
 split
 ·rename_i y q
  rw [q] at e
  exact congrArg some e
 ·rename_i q
  rw [q] at e
  have a:es.toList.any (·.refKey)=false:=by
   rw [List.any_eq_false]
   intro y hy
   obtain ⟨z,t,hkey⟩:=hk y (Array.mem_toList_iff.mp hy)
   simp [DictEntry.refKey,hkey]
  have a':¬ es.toList.any (·.refKey)=true:=by rw [a]; exact Bool.false_ne_true
  rw [if_neg a']
  exact congrArg some e
theorem ObjM.look {h:Heap} {x dx C:Addr} {mA:Str→Option Value} (I:ObjM h x dx C mA):∃ od,PySem.W.InstAt h x (PySem.W.instObj C dx) C (some od)∧∀ name,PySem.W.lookIn name od=some (mA name):=
 let ⟨od,ho,hl⟩:=lookIn_ns I.ns
 ⟨od,⟨I.obj,rfl,rfl,ho⟩,hl⟩
section
variable {prog:Program} {w:World} {A:Around} {E:Value→Shared→Prop} {s:Shared} {K:PySem.W.Frag} {x dx C f:Addr} {mA:Str→Option Value} {name:Str} {v:Value}
end
def putF (f:Str) (v:V):List (Str × V)→List (Str × V)
 | []=>[(f,v)]
 | (g,x) :: r=>if g=f then (g,v) :: r else (g,x) :: putF f v r
theorem lookup_putF (f g:Str) (v:V):∀ fs:List (Str × V),(putF f v fs).lookup g=if g=f then some v else fs.lookup g
 | []=>by
  show List.lookup g [(f,v)]=_
  by_cases h:g=f
  ·have hb:(g==f)=true:=beq_iff_eq.mpr h
   simp only [List.lookup,hb,if_pos h]
  ·have hb:(g==f)=false:=beq_eq_false_iff_ne.mpr h
   simp only [List.lookup,hb,if_neg h]
 | (k,x) :: r=>by
  have ih:=lookup_putF f g v r
  rw [show putF f v ((k,x) :: r)=(if k=f then (k,v) :: r else (k,x) :: putF f v r) from rfl]
  by_cases hk:k=f
  ·rw [if_pos hk]
   by_cases h:g=k
   ·have hb:(g==k)=true:=beq_iff_eq.mpr h
    simp only [List.lookup,hb,if_pos (h.trans hk)]
   ·have hb:(g==k)=false:=beq_eq_false_iff_ne.mpr h
    simp only [List.lookup,hb,if_neg (fun e:g=f=>h (e.trans hk.symm))]
  ·rw [if_neg hk]
   by_cases h:g=k
   ·have hb:(g==k)=true:=beq_iff_eq.mpr h
    simp only [List.lookup,hb,if_neg (fun e:g=f=>hk (h.symm.trans e))]
   ·have hb:(g==k)=false:=beq_eq_false_iff_ne.mpr h
    simp only [List.lookup,hb]
    exact ih
theorem keys_putF (f:Str) (v:V):∀ fs:List (Str × V),f∈(putF f v fs).map (·.1)∧∀ g,g∈fs.map (·.1)→g∈(putF f v fs).map (·.1)
 | []=>⟨by simp [putF],fun g h=>by simp at h⟩
 | (k,x) :: r=>by
  obtain ⟨i1,i2⟩:=keys_putF f v r
  rw [show putF f v ((k,x) :: r)=(if k=f then (k,v) :: r else (k,x) :: putF f v r) from rfl]
  by_cases hk:k=f
  ·rw [if_pos hk]
   subst hk
   exact ⟨by simp,fun g h=>by simpa using h⟩
  ·rw [if_neg hk]
   refine ⟨?_,fun g h=>?_⟩
   ·rw [List.map_cons]
    exact List.mem_cons_of_mem _ i1
   ·rw [List.map_cons] at h ⊢
    rcases List.mem_cons.mp h with e | e
    ·exact List.mem_cons.mpr (.inl e)
    ·exact List.mem_cons_of_mem _ (i2 g e)
theorem RelO.some_of {v:V} {o:Option Value} (r:RelO (some v) o):∃ u,o=some u∧RelV v u:=by
 cases o with
 | none=>exact (show False from r).elim
 | some u=>exact ⟨u,rfl,r⟩
theorem handed_of {v:V} {u:Value} (r:RelV v u):PySem.W.handedIn u=true:=by
 cases v with
 | non=>cases (show u=Value.none from r); rfl
 | bl b=>cases (show u=Value.bool b from r); rfl
 | int i=>obtain ⟨t,e⟩:=(show ∃ t,u=Value.int i t from r); cases e; rfl
 | str x=>obtain ⟨t,e⟩:=(show ∃ t,u=Value.str x t from r); cases e; rfl
 | byt b=>obtain ⟨t,e⟩:=(show ∃ t,u=Value.bytes b t from r); cases e; rfl
 | flt b=>obtain ⟨t,e⟩:=(show ∃ t,u=Value.float b t from r); cases e; rfl
 | ref a=>cases (show u=Value.ref a from r); rfl
 | ty n=>cases (show u=Value.type n from r); rfl
section
variable {P:Program} {w:World} {H H':Hp} {h h':Heap} {a C dx:Addr} {fs fs':List (Str × V)}
theorem ins_get (hok:HOk P w H h) (e:H a=some (.ins C dx fs)):∃ mA,ObjM h a dx C mA∧(∀ f,RelO (fs.lookup f) (mA f))∧PySem.Within mA (fs.map (·.1))∧fs.length≤1000∧H dx=some (.own a):=by
 obtain ⟨d,z,ne,ob,mA,n,r,q⟩:=(show ObjOk P w H h a (.ins C dx fs) from hok a _ e)
 exact ⟨mA,⟨ob,n,ne⟩,r,q,z,d⟩
end
structure Cls (K:PySem.W.Frag) (C:Addr):Prop where
 pg:PySem.W.plainGet K C Str.empty=true
 hd:PySem.W.hasDictIn K C=true
 po:PySem.W.plainOver K C=true
 sa:PySem.W.findIn K (.ref C) "__setattr__" = some (some (.builtin "object.__setattr__"))
theorem Cls.get {K:PySem.W.Frag} {C:Addr} (c:Cls K C) (f:Str):PySem.W.plainGet K C f=true:=c.pg
def NoAttr (K:PySem.W.Frag) (C:Addr) (f:Str):Prop:=PySem.W.findIn K (.ref C) f=some none
section
variable {X:Cx} {pins:List (Addr × Obj)} {σ:St} {H:Hp} {s:Shared} {a C dx:Addr} {fs:List (Str × V)} {f:Str} {v:V} {A:Around} {E:Value→Shared→Prop}
theorem Inv.made (I:Inv X pins σ H s):Inv X pins σ (upd (upd H s.heap.objs.size (.own (s.heap.objs.size+1))) (s.heap.objs.size+1) (.ins C s.heap.objs.size []))
  {s with heap:=(s.heap.push PySem.W.emptyDict).push (PySem.W.instObj C s.heap.objs.size) }:=by
 have e1:(s.heap.push PySem.W.emptyDict).get? s.heap.objs.size=some PySem.W.emptyDict:=Heap.get?_push_size s.heap rfl
 have e2:((s.heap.push PySem.W.emptyDict).push (PySem.W.instObj C s.heap.objs.size)).get? (s.heap.objs.size+1)=some (PySem.W.instObj C s.heap.objs.size):=by
  have:=Heap.get?_push_size (s.heap.push PySem.W.emptyDict) (o:=PySem.W.instObj C s.heap.objs.size) rfl
  rwa [Heap.size_push] at this
 have e3:(s.heap.push PySem.W.emptyDict).Ns s.heap.objs.size (fun _=>none):=⟨PySem.W.emptyDict,#[],_,e1,rfl,(fun e he=>absurd he (by simp)),fun _=>rfl⟩
 have I1:=I.laid (a:=s.heap.objs.size) (o:=.own (s.heap.objs.size+1)) (h':=s.heap.push PySem.W.emptyDict) (t':=s.toks) (fun b u q=>Heap.get?_push_of_some _ q) (Nat.le_refl _) ⟨_,e1⟩
 refine I1.laid (a:=s.heap.objs.size+1) (o:=.ins C s.heap.objs.size []) (t':=s.toks) (fun b u q=>Heap.get?_push_of_some _ q) (Nat.le_of_eq (Heap.size_push _ _)) ?_
 have ne:s.heap.objs.size≠s.heap.objs.size+1:=Nat.ne_of_lt (Nat.lt_succ_self _)
 refine ⟨by rw [upd_ne ne,upd_same],Nat.zero_le _,ne,e2,fun _=>none,(Heap.Ns1.of_empty e3).at fun o q=>Heap.get?_push_of_some _ q,fun _=>True.intro,fun y hy=>absurd rfl hy⟩
theorem attr_of {prog:Program} {w:World} {env:Env} {e:Expr} {f:Str} {pos:Pos} {s:Shared} {Q:Value→Shared→Prop} (hb:attributeBase e f env (eval e env)=eval e env)
  (h:wpAny (model prog w) A (eval e env) (fun o s₁=>wpAny (model prog w) A (getAttr o f true) Q E s₁) E s):wpAny (model prog w) A (eval (.Attribute e f pos) env) Q E s:=
 Attribute_any_ h (by rw [arm_eval_Attribute,hb])
end
section
variable {X:Cx} {o e value:Expr} {f:Str} {pos pos' tpos:Pos} {ta tv:TE}
end
section
variable {X:Cx} {pins:List (Addr × Obj)} {σ:St} {H:Hp} {s:Shared} {A:Around} {E:Value→Shared→Prop} {Q:Value→Shared→Prop} {c:Value} {b:Bool}
inductive TyOf (K:PySem.W.Frag) (H:Hp):V→Value→Prop where
 | non:TyOf K H .non (.type "NoneType")
 | bl (x:Bool):TyOf K H (.bl x) (.type "bool")
 | int (i:Int):TyOf K H (.int i) (.type "int")
 | str (x:Str):TyOf K H (.str x) (.type "str")
 | flt (x:UInt64):TyOf K H (.flt x) (.type "float")
 | lst {a:Addr} {xs:List V} (e:H a=some (.lst xs)):TyOf K H (.ref a) (.type "list")
 | frz {a:Addr} {o:Obj} {xs:List V} (e:H a=some (.frz o (.lst xs))):TyOf K H (.ref a) (.type "list")
 | tup {a:Addr} {xs:List V} (e:H a=some (.tup xs)):TyOf K H (.ref a) (.type "tuple")
 | dK {a:Addr} {kvs:List (Key × V)} (e:H a=some (.dK kvs)):TyOf K H (.ref a) (.type "dict")
 | dT {a:Addr} {kvs:List (List Key × V)} (e:H a=some (.dT kvs)):TyOf K H (.ref a) (.type "dict")
 | ins {a C dx:Addr} {fs:List (Str × V)} (e:H a=some (.ins C dx fs)) (cl:Cls K C) (ha:PySem.W.findIn K (.ref C) "__class__" = some (some (.builtin "object.__class__")))
   (hn:PySem.W.specialIn K (.builtin "object.__class__") "__get__" = some (some (.builtin "getset_descriptor.__get__"))) (htk:PySem.W.takesIn K (.builtin "object.__class__")=some true)
   (hm:PySem.W.mroIn K C (.type "object")=some true):TyOf K H (.ref a) (.ref C)
theorem isinst_ok {x:V} {u t:Value} (I:Inv X pins σ H s) (rx:RelV x u) (ty:TyOf X.K H x t) (e:PySem.W.kitOne X.K t c=some b) (h:∀ tk,Q (.bool b) { s with toks:=tk }) :
  wpAny (model X.prog X.w) A (call (.builtin "isinstance") [u,c]) Q E s:=by
 cases ty with
 | non=>cases (show u=Value.none from rx); exact PySem.W.kia_one PySem.W.kitx_none I.kIn True.intro e (fun z=>nomatch z) h
 | bl y=>cases (show u=Value.bool y from rx); exact PySem.W.kia_one PySem.W.kitx_bool I.kIn True.intro e (fun z=>nomatch z) h
 | int i=>obtain ⟨t,q⟩:=(show ∃ t,u=Value.int i t from rx); cases q; exact PySem.W.kia_one PySem.W.kitx_int I.kIn True.intro e (fun z=>nomatch z) h
 | str y=>obtain ⟨t,q⟩:=(show ∃ t,u=Value.str y t from rx); cases q; exact PySem.W.kia_one PySem.W.kitx_str I.kIn True.intro e (fun z=>nomatch z) h
 | flt y=>obtain ⟨t,q⟩:=(show ∃ t,u=Value.float y t from rx); cases q; exact PySem.W.kia_one PySem.W.kitx_float I.kIn True.intro e (fun z=>nomatch z) h
 | @lst a xs ea=>
  cases (show u=Value.ref a from rx)
  obtain ⟨_,_,n,_,h1⟩:=(show ObjOk X.prog X.w H s.heap a (.lst xs) from I.hok a _ ea)
  exact PySem.W.kia_one PySem.W.kitx_list I.kIn ⟨_,h1,rfl⟩ e (fun z=>nomatch z) h
 | @frz a ob xs ea=>
  cases (show u=Value.ref a from rx)
  obtain ⟨_,_,_,n,_,h1⟩:=(show ObjOk X.prog X.w H s.heap a (.frz ob (.lst xs)) from I.hok a _ ea)
  exact PySem.W.kia_one PySem.W.kitx_list I.kIn ⟨_,h1,rfl⟩ e (fun z=>nomatch z) h
 | @tup a xs ea=>
  cases (show u=Value.ref a from rx)
  obtain ⟨_,_,_,p⟩:=(show ObjOk X.prog X.w H s.heap a (.tup xs) from I.hok a _ ea)
  obtain ⟨o,h1,h2,_⟩:=p
  exact PySem.W.kia_one PySem.W.kitx_tuple I.kIn ⟨o,h1,h2⟩ e (fun z=>nomatch z) h
 | @dK a kvs ea=>
  cases (show u=Value.ref a from rx)
  obtain ⟨_,_,vs,_,p⟩:=(show ObjOk X.prog X.w H s.heap a (.dK kvs) from I.hok a _ ea)
  obtain ⟨o,es,ep,h1,h2,_⟩:=p
  exact PySem.W.kia_one PySem.W.kitx_dict I.kIn ⟨o,h1,h2.1⟩ e (fun z=>nomatch z) h
 | @dT a kvs ea=>
  cases (show u=Value.ref a from rx)
  obtain ⟨_,_,xs,_,o,es,ep,h1,h2,_⟩:=(show ObjOk X.prog X.w H s.heap a (.dT kvs) from I.hok a _ ea)
  exact PySem.W.kia_one PySem.W.kitx_dict I.kIn ⟨o,h1,h2.1⟩ e (fun z=>nomatch z) h
 | @ins a C dx fs ea cl ha hn htk hm=>
  cases (show u=Value.ref a from rx)
  obtain ⟨mA,O,_⟩:=ins_get I.hok ea
  obtain ⟨od,J,_⟩:=O.look
  exact PySem.W.kia_one (PySem.W.kitx_own (cl.get _) cl.hd ha hn htk hm) I.kIn J e (fun z=>nomatch z) h
end
end L2
namespace L2
open PySem PySem.Spec PyProof.Rows
structure Room (k:Nat) (A:Around):Prop where
 hd:A.handled=none
 dp:A.depth+3 * k+5 < recursionLimit
 un:A.units+16 * k+200 < cLine
theorem Room.mono {j k:Nat} {A:Around} (r:Room k A) (h:j≤k):Room j A:=⟨r.hd,by have:=r.dp; omega,by have:=r.un; omega⟩
theorem Room.deeper {k:Nat} {A:Around} (r:Room (k+1) A) (env:Env):Room k (A.deeper env):=
 ⟨r.hd,by have:=r.dp; show A.depth+1+3 * k+5 < _; omega,by have:=r.un; show A.units+3+16 * k+200 < _; omega⟩
theorem Room.in1 {k:Nat} {A:Around} (r:Room (k+1) A):Room k A.in1:=
 ⟨r.hd,by have:=r.dp; show A.depth+3 * k+5 < _; omega,by have:=r.un; show A.units+1+16 * k+200 < _; omega⟩
theorem make_depth {A:Around} {C:Addr} {us:List Value} {kw:List (Str × Value)}:(A.under (.builtin "type.__call__" ⟨.ref C :: us,kw⟩)).depth=A.depth+1:=by
 first | rfl | simp [Around.under,Code.weight,Code.isCreation,Code.isGuard,Code.isCaller,Code.frames,Code.isFrame,guardIds]
theorem make_units {A:Around} {C:Addr} {us:List Value} {kw:List (Str × Value)}:(A.under (.builtin "type.__call__" ⟨.ref C :: us,kw⟩)).units=A.units+1:=by
 first | rfl | simp [Around.under,Code.cUnits,Code.frames,Code.isFrame]
theorem Room.make {k:Nat} {A:Around} (r:Room (k+1) A) (C:Addr) (us:List Value) (kw:List (Str × Value)):Room k (A.under (.builtin "type.__call__" ⟨.ref C :: us,kw⟩)):=
 ⟨r.hd,by have:=r.dp; rw [make_depth]; omega,by have:=r.un; rw [make_units]; omega⟩
theorem Room.depth {k:Nat} {A:Around} (r:Room k A):A.depth < recursionLimit:=by have:=r.dp; omega
theorem Room.units {k:Nat} {A:Around} (r:Room k A):A.units+64 < cLine:=by have:=r.un; omega
def tNil:TA:=fun _ H Q=>Q [] H
def tCons (ta:TE) (tr:TA):TA:=fun σ H Q=>ta σ H fun x H1=>tr σ H1 fun xs H2=>Q (x :: xs) H2
section
variable {X:Cx} {e:Expr} {es:List Expr} {te:TE} {t:TA} {pos:Pos}
theorem pa_nil:PA X [] tNil:=fun _ _ _ _ H Q I h=>Calls.spliced_nil ⟨[],H,I,.nil,h⟩
theorem pa_cons (ha:PE X e te) (hr:PA X es t) (hs:starEach (e :: es) X.env=(false,eval e X.env) :: starEach es X.env:=by rfl):PA X (e :: es) (tCons te t):=by
 intro pos pins s σ H Q I h
 rw [hs]
 show wpAny _ _ (spliced ((false,eval e X.env) :: backTo pos (starEach es X.env))) _ _ s
 refine Calls.spliced_cons (thn (ha pins s σ H _ I h) fun u s1 ⟨x,H1,I1,r1,q1⟩=>?_)
 exact thn (hr pos pins s1 σ H1 _ I1 q1) fun us s2 ⟨xs,H2,I2,r2,q2⟩=>⟨x :: xs,H2,I2,.cons r1 r2,q2⟩
def tTup (t:TA):TE:=fun σ H Q=>t σ H fun xs H1=>xs.length≤sizeLine∧∀ p,H1 p=none→Q (.ref p) (upd H1 p (.tup xs))
def tLst (t:TA):TE:=fun σ H Q=>t σ H fun xs H1=>xs.length≤sizeLine∧∀ p,H1 p=none→Q (.ref p) (upd H1 p (.lst xs))
theorem pe_tup {x1} (h:PA X es t):PE X (.Tuple es x1 pos) (tTup t):=by
 intro pins s σ H Q I hq
 refine wpAny_Tuple_spliced (thn (h pos pins s σ H _ I hq) fun us s1 ⟨xs,H1,I1,r,z,q⟩=>⟨by rw [← r.length]; exact z,?_⟩)
 have hf:H1 s1.heap.objs.size=none:=I1.hok.fresh (Nat.le_refl _)
 refine ⟨.ref s1.heap.objs.size,upd H1 s1.heap.objs.size (.tup xs),I1.laid (t':=s1.toks) (fun b u e=>Heap.get?_push_of_some _ e) (Nat.le_refl _) ?_,rfl,q _ hf⟩
 exact ⟨z,us,r,⟨_,Heap.get?_push_size _ rfl,rfl,_,rfl⟩⟩
theorem pe_lst (h:PA X es t):PE X (.List es pos) (tLst t):=by
 intro pins s σ H Q I hq
 refine wpAny_List_spliced (thn (h pos pins s σ H _ I hq) fun us s1 ⟨xs,H1,I1,r,z,q⟩=>⟨by rw [← r.length]; exact z,?_⟩)
 have hf:H1 s1.heap.objs.size=none:=I1.hok.fresh (Nat.le_refl _)
 refine ⟨.ref s1.heap.objs.size,upd H1 s1.heap.objs.size (.lst xs),I1.laid (t':=s1.toks) (fun b u e=>Heap.get?_push_of_some _ e) (Nat.le_refl _) ?_,rfl,q _ hf⟩
 exact ⟨z,us,0,r,Heap.get?_push_size _ rfl⟩
end
abbrev Sp:=List V→Hp→VK→XK→Prop
abbrev CXT:=List Env→Hp→Shared→XK→Value→Shared→Prop
structure Env0 (P:Program) (w:World) (K:PySem.W.Frag) (mg:Str→Option Value) (base:Heap) (A:Around) (outer:List Env) (s:Shared) (H:Hp):Prop where
 frames:A.frames=some outer
 mod:Mod K mg base
 bs:∀ b o,base.get? b=some o→s.heap.get? b=some o∧H b=none
 bsz:base.objs.size≤s.heap.objs.size
 funs:s.heap.FunFrames base outer
 frf:∀ b∈frs outer,H b=none
 hok:HOk P w H s.heap
 bare:AllBare s.gens
def CE (outer:List Env) (P:Program) (w:World) (H:Hp) (s:Shared) (Q:VK) (u:Value) (s':Shared):Prop:=
 ∃ v H',s'.os=s.os∧AllBare s'.gens∧Un (frs outer) [] H H' s.heap s'.heap∧HOk P w H' s'.heap∧RelV v u∧Q v H'
def CR (CX:CXT) (outer:List Env) (P:Program) (w:World) (H:Hp) (s:Shared) (Q:VK) (E:XK) (r:Result) (s':Shared):Prop:=
 match r with
 | .ok (.ret u)=>CE outer P w H s Q u s'
 | .ok _=>False
 | .error e=>CX outer H s E e s'
structure FnOk (P:Program) (w:World) (K:PySem.W.Frag) (mg:Str→Option Value) (base:Heap) (CX:CXT) (k:Nat) (f:Addr) (fd:FuncData) (ps:List Str) (sp:Sp):Prop where
 len:∀ vs H Q E,sp vs H Q E→vs.length=ps.length
 run:∀ (A:Around) (outer:List Env) (s:Shared) (H:Hp) (args:Args) (us:List Value) (vs:List V) (Q:VK) (E:XK),Room k A→Env0 P w K mg base A outer s H→BindsTo s fd args (ps.zip us)→Vals vs us→sp vs H Q E→
  codeAny (model P w) A (.call (.ref f) args) (CR CX outer P w H s Q E) s
theorem FnOk.imp {P:Program} {w:World} {K:PySem.W.Frag} {mg:Str→Option Value} {base:Heap} {CX:CXT} {k:Nat} {f:Addr} {fd:FuncData} {ps:List Str} {sp sp':Sp} (F:FnOk P w K mg base CX k f fd ps sp)
  (h:∀ vs H Q E,sp' vs H Q E→sp vs H Q E):FnOk P w K mg base CX k f fd ps sp':=
 ⟨fun vs H Q E q=>F.len vs H Q E (h _ _ _ _ q),fun A outer s H args us vs Q E hr he hb hv hs=>F.run A outer s H args us vs Q E hr he hb hv (h _ _ _ _ hs)⟩
theorem Env0.make {P:Program} {w:World} {K:PySem.W.Frag} {mg:Str→Option Value} {base:Heap} {A:Around} {outer:List Env} {s:Shared} {H:Hp} (e:Env0 P w K mg base A outer s H) (C:Addr) (us:List Value) (kw:List (Str × Value)) :
  Env0 P w K mg base (A.under (.builtin "type.__call__" ⟨.ref C :: us,kw⟩)) outer s H:=⟨by first | exact e.frames | (simpa [Around.under,Code.envs,Code.isFrame,pushEnvs] using e.frames),e.mod,e.bs,e.bsz,e.funs,e.frf,e.hok,e.bare⟩
theorem Env0.in1 {P:Program} {w:World} {K:PySem.W.Frag} {mg:Str→Option Value} {base:Heap} {A:Around} {outer:List Env} {s:Shared} {H:Hp} (e:Env0 P w K mg base A outer s H) :
  Env0 P w K mg base A.in1 outer s H:=⟨e.frames,e.mod,e.bs,e.bsz,e.funs,e.frf,e.hok,e.bare⟩
section
variable {X:Cx} {pins:List (Addr × Obj)} {σ:St} {H:Hp} {s s':Shared}
theorem Inv.env0 (I:Inv X pins σ H s):Env0 X.prog X.w X.K X.mg X.base X.A X.stack s H:=
 ⟨I.ok.frames,I.ok.mod,I.bs,Nat.le_trans I.ok.bsz I.sz,I.stack,I.stkFree,I.hok,I.bare⟩
theorem Inv.after {Q:VK} {u:Value} (I:Inv X pins σ H s) (h:CE X.stack X.prog X.w H s Q u s'):EP X pins σ Q u s':=by
 obtain ⟨v,H',os,bare,un,hok,r,q⟩:=h
 obtain ⟨hh,g,d,t,os'⟩:=s'
 obtain rfl:os'=s.os:=os
 exact ⟨v,H',I.call (h':=hh) (g':=g) (d':=d) (t':=t) (ch:=[]) un hok bare (fun b z=>absurd z (by simp)),r,q⟩
end
def tCall (sp:Sp) (dvs:List V) (E:XK) (t:TA):TE:=fun σ H Q=>t σ H fun vs H1=>sp (vs ++ dvs) H1 Q E
def Binds (K:PySem.W.Frag) (fd:FuncData) (ps:List Str) (ds:List Value):Prop:=
 ∀ (s:Shared) (us:List Value),K.In s.heap→(us ++ ds).length=ps.length→BindsTo s fd ⟨us,[]⟩ (ps.zip (us ++ ds))
theorem Binds.all {K:PySem.W.Frag} {fd:FuncData} {ps:List Str} (h:∀ us:List Value,us.length=ps.length→bindArgs fd ⟨us,[]⟩=pure (ps.zip us)):Binds K fd ps []:=fun s us _ hl=>by
 rw [List.append_nil] at hl ⊢
 exact .of_eq (h us hl)
def Passes (CX:CXT) (X:Cx) (E:XK):Prop:=∀ (pins:List (Addr × Obj)) (σ:St) (H:Hp) (s:Shared) (e:Value) (s':Shared),Inv X pins σ H s→CX X.stack H s E e s'→X.xe e s'
section
variable {X:Cx} {CX:CXT} {k:Nat} {f C:Addr} {fd:FuncData} {ps:List Str} {sp:Sp} {dvs:List V} {ds:List Value} {E:XK} {x m:Str} {p pos apos:Pos} {e o:Expr} {es:List Expr} {ta:TE} {t:TA}
theorem run_fn {pins:List (Addr × Obj)} {σ:St} {H:Hp} {s:Shared} {Q:VK} {us:List Value} {vs:List V} (F:FnOk X.prog X.w X.K X.mg X.base CX k f fd ps sp) (hr:Room k X.A) (hb:Binds X.K fd ps ds) (hd:Vals dvs ds) (hx:Passes CX X E)
  (I:Inv X pins σ H s) (r:Vals vs us) (h:sp (vs ++ dvs) H Q E):wpAny (model X.prog X.w) X.A (call (.ref f) us) (EP X pins σ Q) X.xe s:=by
 have r2:Vals (vs ++ dvs) (us ++ ds):=r.append hd
 have hl:(us ++ ds).length=ps.length:=by rw [← r2.length]; exact F.len _ _ _ _ h
 refine wpAny_call (codeAny_mono (F.run X.A X.stack s H ⟨us,[]⟩ (us ++ ds) (vs ++ dvs) Q E hr I.env0 (hb s us I.kIn hl) r2 h) fun r s' hq=>?_)
 cases r with
 | error e=>exact hx pins σ H s e s' I hq
 | ok fl=>
  cases fl with
  | ret u=>exact I.after hq
  | next=>exact False.elim hq
  | brk=>exact False.elim hq
  | cont=>exact False.elim hq
theorem pe_call (F:FnOk X.prog X.w X.K X.mg X.base CX k f fd ps sp) (hr:Room k X.A) (hg:Gl X x) (hm:X.mg x=some (.ref f)) (hk:PySem.W.keepIn X.K (.ref f)=true) (hb:Binds X.K fd ps ds) (hd:Vals dvs ds) (hx:Passes CX X E)
  (ha:PA X (e :: es) t) (hdb:(x==("__debug__" : Str))=false:=by decide) (he:starEach (e :: es) X.env=(false,eval e X.env) :: starEach es X.env:=by rfl) (hpl:(backTo pos (starEach es X.env)).any (·.1)=false:=by rfl) :
  PE X (.Call (.Name x p) (e :: es) [] pos) (tCall sp dvs E t):=by
 intro pins s σ H Q I h
 refine wpAny_Call_Name_kw (ld_glob I hg hm ?_ hdb)
 refine PySem.W.callWith_K (h₀:=X.base) I.ok.mod.kin hk (thn (ha pos pins s σ H _ I h) fun us s1 ⟨vs,H1,I1,r,q⟩=>⟨I1.kIn,?_⟩) he hpl
 exact run_fn F hr hb hd hx I1 r q
end
section
variable {X:Cx} {CX:CXT} {k:Nat} {f C:Addr} {fd:FuncData} {ps ks:List Str} {sp:Sp} {E:XK} {x m:Str} {p pos apos kpos:Pos} {e o:Expr} {es:List Expr} {kws:List Keyword} {te ta:TE} {t tk:TA} {nm:Option Str}
variable {g:List Value→List Value→List Value} {gV:List V→List V→List V}
end
structure FnScope (N P:List Str) (sc:Scope):Prop where
 kind:sc.kind=.function
 co:sc.isCoroutine=false
 gen:sc.isGenerator=false
 nd:N.Nodup
 pre:N.take P.length=P
 par:∀ x∈P,sc.names.lookup x=some .local∨sc.names.lookup x=some .cell
 nofree:∀ y∈sc.names,y.2≠.free
theorem bindL_out {kindOf:Str→Option NameKind} {x:Str}:∀ {binds:List (Str × Value)} {m:Str→Option Value},(∀ v,(x,v)∉binds)→bindL kindOf binds m x=m x
 | [],_,_=>rfl
 | (n,v) :: r,m,h=>by
  unfold bindL
  rw [bindL_out fun w hw=>h w (List.mem_cons_of_mem _ hw)]
  split
  ·have:x≠n:=by rintro rfl; exact h v List.mem_cons_self
   simp [this]
  ·rfl
theorem bindC_out {kindOf:Str→Option NameKind} {x:Str}:∀ {binds:List (Str × Value)} {m:Str→Option Value},(∀ v,(x,v)∉binds)→bindC kindOf binds m x=m x
 | [],_,_=>rfl
 | (n,v) :: r,m,h=>by
  unfold bindC
  rw [bindC_out fun w hw=>h w (List.mem_cons_of_mem _ hw)]
  split
  ·rfl
  ·have:x≠n:=by rintro rfl; exact h v List.mem_cons_self
   simp [this]
theorem bindL_get {kindOf:Str→Option NameKind} {x:Str} {v:Value}:∀ {P:List Str} {vs:List Value} {i:Nat} {m:Str→Option Value},P.Nodup→P[i]? = some x→vs[i]? = some v→kindOf x=some .local→
  bindL kindOf (P.zip vs) m x=some v
 | [],_,_,_,_,h,_,_=>by simp at h
 | _ :: _,[],_,_,_,_,h,_=>by simp at h
 | p :: P,w :: vs,0,m,nd,h1,h2,hk=>by
  simp at h1 h2; subst h1; subst h2
  show bindL kindOf ((p,w) :: P.zip vs) m p=_
  unfold bindL
  rw [bindL_out fun v hv=>(List.nodup_cons.mp nd).1 (List.of_mem_zip hv).1,if_pos hk]
  simp
 | p :: P,w :: vs,i+1,m,nd,h1,h2,hk=>by
  show bindL kindOf ((p,w) :: P.zip vs) m x=_
  unfold bindL
  exact bindL_get (i:=i) (List.nodup_cons.mp nd).2 (by simpa using h1) (by simpa using h2) hk
theorem bindC_get {kindOf:Str→Option NameKind} {x:Str} {v:Value}:∀ {P:List Str} {vs:List Value} {i:Nat} {m:Str→Option Value},P.Nodup→P[i]? = some x→vs[i]? = some v→kindOf x≠some .local→
  bindC kindOf (P.zip vs) m x=some v
 | [],_,_,_,_,h,_,_=>by simp at h
 | _ :: _,[],_,_,_,_,h,_=>by simp at h
 | p :: P,w :: vs,0,m,nd,h1,h2,hk=>by
  simp at h1 h2; subst h1; subst h2
  show bindC kindOf ((p,w) :: P.zip vs) m p=_
  unfold bindC
  rw [bindC_out fun v hv=>(List.nodup_cons.mp nd).1 (List.of_mem_zip hv).1,if_neg hk]
  simp
 | p :: P,w :: vs,i+1,m,nd,h1,h2,hk=>by
  show bindC kindOf ((p,w) :: P.zip vs) m x=_
  unfold bindC
  exact bindC_get (i:=i) (List.nodup_cons.mp nd).2 (by simpa using h1) (by simpa using h2) hk
def start (N:List Str) (vs:List V):St:=vs.map some ++ List.replicate (N.length - vs.length) none
def cxOf (CX:CXT) (P:Program) (w:World) (K:PySem.W.Frag) (mg:Str→Option Value) (base:Heap) (N:List Str) (qual:Str) (scope:Scope) (f:Addr) (cd:Value) (A:Around) (outer:List Env) (s:Shared) (H:Hp) (E:XK):Cx where
 prog:=P
 w:=w
 K:=K
 mg:=mg
 base:=base
 A:=A.deeper (envOfC qual scope s.heap.objs.size f cd)
 N:=N
 s₀:=s
 H₀:=H
 env:=envOfC qual scope s.heap.objs.size f cd
 outer:=outer
 stack:=envOfC qual scope s.heap.objs.size f cd :: outer
 ex:=[]
 calm:=true
 fn:=fun _=>true
 pn:=[]
 xe:=fun e s'=>wpAny (model P w) (A.deeper (envOfC qual scope s.heap.objs.size f cd)) (leaving (envOfC qual scope s.heap.objs.size f cd) e) (fun _ s''=>CX outer H s E e s'') (fun e' s''=>CX outer H s E e' s'') s'
theorem cell_has {sc:Scope} {n:Nat} {x:Str} (h:sc.names.lookup x=some .cell):∃ c,(cellsFrom n sc.names []).lookup x=some c:=by
 have q:=PySem.W.cellsFrom_some sc.names n [] (.inl h)
 exact Option.isSome_iff_exists.mp q
theorem inv_start {CX:CXT} {P:Program} {w:World} {K:PySem.W.Frag} {mg:Str→Option Value} {base:Heap} {N ps:List Str} {qual:Str} {scope:Scope} {f:Addr} {cd:Value} {A:Around} {outer:List Env} {s s1:Shared} {H:Hp} {E:XK} {us:List Value} {vs:List V}
  (S:FnScope N ps scope) (hd:A.handled=none) (e0:Env0 P w K mg base A outer s H) (hl:vs.length=ps.length) (r:Vals vs us)
  (x:InCallC s s.heap.objs.size (bindL (envOfC qual scope s.heap.objs.size f cd).kindOf (ps.zip us) fun _=>none) (cellsFrom (s.heap.objs.size+1) scope.names []) (bindC (envOfC qual scope s.heap.objs.size f cd).kindOf (ps.zip us) fun _=>none) s1) :
  Inv (cxOf CX P w K mg base N qual scope f cd A outer s H E) [] (start N vs) H s1:=by
 have hpl:ps.length≤N.length:=by have:=congrArg List.length S.pre; rw [List.length_take] at this; omega
 obtain ⟨h1,tk,rfl,hk⟩:=x.done
 have noA:∀ b:Addr,b∉(cxOf CX P w K mg base N qual scope f cd A outer s H E).ex:=fun b z=>absurd (show b∈([]:List Addr) from z) (by simp)
 refine ⟨⟨e0.mod,S.kind,rfl,rfl,Nat.le_refl _,fun y z c h1 h2=>?_,fun y hy=>?_,fun y c _ h=>?_,fun _=>hd,Around.frames_deeper e0.frames,.inr ⟨rfl,rfl⟩,fun b z=>absurd z (noA b),e0.bs,e0.bsz,fun b _ _=>noA b,fun b z=>absurd z (noA b),e0.funs,e0.frf⟩,
  rfl,e0.bare,Un.kept hk,⟨_,x.toInCall.ns,fun i y v h1 h2 h3=>?_⟩,fun y c h=>⟨_,x.cell y c h⟩,e0.hok.fresh (Nat.le_refl _),fun y c h=>?_,fun p hp=>absurd (show p∈([]:List (Addr × Obj)) from hp) (by simp),e0.hok.kept hk,?_⟩
 ·exact name_of_addr x.apart (PySem.mem_of_lookup h1) (PySem.mem_of_lookup h2)
 ·have hy:scope.names.lookup y=some .cell∨scope.names.lookup y=some .free:=hy
  rcases hy with hy | hy
  ·exact cell_has hy
  ·exact absurd rfl (S.nofree _ (PySem.mem_of_lookup hy))
 ·exact Nat.le_of_lt (x.above y c (PySem.mem_of_lookup h))
 ·have hi:i < vs.length:=by
   unfold start at h2
   by_cases hi:i < vs.length
   ·exact hi
   ·rw [List.getElem?_append_right (by simpa using hi)] at h2
    rw [List.getElem?_replicate] at h2
    split at h2 <;> cases h2
  have ha:vs[i]? = some v:=by
   unfold start at h2
   rw [List.getElem?_append_left (by simpa using hi),List.getElem?_map] at h2
   cases e:vs[i]? with
   | none=>rw [e] at h2; cases h2
   | some a=>rw [e] at h2; cases h2; rfl
  obtain ⟨u,hu,rv⟩:=r.get ha
  have hp:ps[i]? = some y:=by
   rw [← S.pre,List.getElem?_take_of_lt (by omega)]; exact h1
  have ndP:ps.Nodup:=by rw [← S.pre]; exact S.nd.sublist (List.take_sublist _ _)
  refine ⟨u,rv,?_⟩
  rcases S.par y (List.mem_of_getElem? hp) with k | k
  ·exact .inl ⟨k,bindL_get ndP hp hu k⟩
  ·obtain ⟨c,e⟩:=cell_has (n:=s.heap.objs.size+1) k
   refine .inr ⟨.inl k,c,e,?_⟩
   have q:=x.cell y c e
   rw [bindC_get ndP hp hu (by show scope.names.lookup y≠_; rw [k]; decide)] at q
   exact q
 ·exact e0.hok.fresh (Nat.le_of_lt (x.above y c (PySem.mem_of_lookup h)))
 ·unfold start
  show _=N.length
  rw [List.length_append,List.length_map,List.length_replicate]
  omega
theorem fn_of {CX:CXT} {P:Program} {w:World} {K:PySem.W.Frag} {mg:Str→Option Value} {base:Heap} {k:Nat} {f:Addr} {name qual:Str} {params:Arguments} {body:List Stmt} {scope:Scope} {dV kV doc pm cdv ct oc:Value} {an od:Option Addr}
  {osl:Array (Option Value)} {N ps:List Str} {sp:Sp} (lk:K.lookup f=some ⟨oc,od,.func (PySem.W.fnOf name qual params body scope dV kV doc pm an cdv ct),osl⟩) (hcd:PySem.W.codeIn K cdv qual=true) (S:FnScope N ps scope)
  (len:∀ vs H Q E,sp vs H Q E→vs.length=ps.length)
  (hbody:∀ (A:Around) (outer:List Env) (s:Shared) (H:Hp) (vs:List V) (Q:VK) (E:XK),Room k (A.deeper (envOfC qual scope s.heap.objs.size f cdv))→sp vs H Q E→
   ∃ t,PSs (cxOf CX P w K mg base N qual scope f cdv A outer s H E) body t∧t { nx:=fun _ H'=>Q .non H',rt:=Q } (start N vs) H) :
  FnOk P w K mg base CX (k+1) f (PySem.W.fnOf name qual params body scope dV kV doc pm an cdv ct) ps sp:=by
 refine ⟨len,fun A outer s H args us vs Q E hr e0 hb r hsp=>?_⟩
 have hl:=len _ _ _ _ hsp
 have KX:K.In s.heap:=e0.mod.kin.keeps fun b o e=>(e0.bs b o e).1
 have lim:s.heap.NoLimit:=e0.mod.nolimit.keeps fun b o e=>(e0.bs b o e).1
 have hkind:∀ y∈ps.zip us,scope.names.lookup y.1=some .local∨(scope.names.lookup y.1=some .cell∧((cellsFrom (s.heap.objs.size+1) scope.names []).lookup y.1).isSome=true):=fun ⟨n,v⟩ hy=>by
  rcases S.par n (List.of_mem_zip hy).1 with q | q
  ·exact .inl q
  ·exact .inr ⟨q,PySem.W.cellsFrom_some _ _ _ (.inl q)⟩
 refine codeAny_call_function hr.depth (KX _ _ lk) rfl S.co S.gen rfl (PySem.W.codeRec_of KX hcd) (hb _ _ _ _ ?_)
 refine wpAny_newFunctionEnv_cells S.kind hkind fun env he s1 x=>?_
 subst he
 refine ⟨lim.keeps x.toInCall.keep,codeAny_func ?_⟩
 obtain ⟨t,ht,hq⟩:=hbody A outer s H vs Q E (hr.deeper _) hsp
 have I:Inv (cxOf CX P w K mg base N qual scope f cdv A outer s H E) [] (start N vs) H s1:=inv_start S hr.hd e0 hl r x
 refine wpAny_mono (ht [] s1 (start N vs) H _ I hq) (fun fl s' hs=>?_) fun e s' hs=>hs
 have fin:∀ {σ':St} {H':Hp} {v:V} {u:Value},Inv (cxOf CX P w K mg base N qual scope f cdv A outer s H E) [] σ' H' s'→RelV v u→Q v H'→CE outer P w H s Q u s':=
  fun {σ' H' v u} J rv q=>⟨v,H',J.os,J.bare,J.base,J.hok,rv,q⟩
 cases fl with
 | ret u=>
  obtain ⟨v,σ',H',J,rv,q⟩:=hs
  exact fin J rv q
 | next=>
  obtain ⟨σ',H',J,q⟩:=hs
  exact fin (v:=V.non) (u:=Value.none) J rfl q
 | brk=>
  obtain ⟨_,_,_,q⟩:=hs
  exact False.elim q
 | cont=>
  obtain ⟨_,_,_,q⟩:=hs
  exact False.elim q
end L2
namespace L2
open PySem PySem.Spec PyProof.Rows
section
variable {X:Cx} {x:Str} {p pos:Pos} {e:Expr} {es:List Expr} {t:TA} {id T:String} {r:List V→Hp→VK→Prop}
def tCB (r:List V→Hp→VK→Prop) (t:TA):TE:=fun σ H Q=>t σ H fun vs H1=>r vs H1 Q
theorem pe_callB (hc:CallR X (.builtin id) r) (hg:Gl X x) (hm:X.mg x=none) (hv:bootBuiltins x=some (.builtin id)) (ha:PA X (e :: es) t) (hn:x≠"__name__":=by decide) (hdb:(x==("__debug__" : Str))=false:=by decide)
  (he:starEach (e :: es) X.env=(false,eval e X.env) :: starEach es X.env:=by rfl) (hpl:(backTo pos (starEach es X.env)).any (·.1)=false:=by rfl):PE X (.Call (.Name x p) (e :: es) [] pos) (tCB r t):=by
 intro pins s σ H Q I h
 refine wpAny_Call_Name_kw (ld_blt I hg hm hv ?_ hn hdb)
 exact PyProof.Rows.callWith_builtin1 (thn (ha pos pins s σ H _ I h) fun us s1 ⟨vs,H1,I1,r1,q1⟩=>hc pins s1 σ H1 vs us Q I1 r1 q1) he hpl
theorem pe_callTy (hc:CallR X (.type T) r) (hg:Gl X x) (hm:X.mg x=none) (hv:bootBuiltins x=some (.type T)) (ha:PA X (e :: es) t) (hn:x≠"__name__":=by decide) (hdb:(x==("__debug__" : Str))=false:=by decide)
  (he:starEach (e :: es) X.env=(false,eval e X.env) :: starEach es X.env:=by rfl) (hpl:(backTo pos (starEach es X.env)).any (·.1)=false:=by rfl):PE X (.Call (.Name x p) (e :: es) [] pos) (tCB r t):=by
 intro pins s σ H Q I h
 refine wpAny_Call_Name_kw (ld_blt I hg hm hv ?_ hn hdb)
 exact PyProof.Rows.callWith_type1 (thn (ha pos pins s σ H _ I h) fun us s1 ⟨vs,H1,I1,r1,q1⟩=>hc pins s1 σ H1 vs us Q I1 r1 q1) he hpl
end
end L2
namespace HT
open PySem PyProof.Rows
section
open PySem.SeqAt
open PySem.AutoSeq1 (wpAny_loadPart')
open PySem.MeetsSeq PySem.MeetsSeq2 PySem.MeetsSeq3
end
section
variable {prog:Program} {w:World} {A:Around} {E:Value→Shared→Prop} {s:Shared}
theorem cat_tup {t b:Addr} {vs ws:List Value} {Q:Value→Shared→Prop} (ht:IsTup s.heap t vs.toArray) (hb:IsTup s.heap b ws.toArray) (hv:vs≠[])
  (h1:ws=[]→Q (.ref t) s) (h2:ws≠[]→Q (.ref s.heap.objs.size) { s with heap:=s.heap.push { cls:=.type "tuple",data:=.seq (vs ++ ws).toArray } })
  (hsz:vs.length+ws.length≤sizeLine):wpAny (model prog w) A (binaryOp .Add (.ref t) (.ref b)) Q E s:=by
 obtain ⟨⟨cls,dd,data,sl⟩,ho,hc,n,hd⟩:=id ht
 obtain ⟨⟨cls2,dd2,data2,sl2⟩,ho2,hc2,n2,hd2⟩:=id hb
 simp only at hc hd hc2 hd2
 subst hc hd hc2 hd2
 have e:vs.toArray ++ ws.toArray=(vs ++ ws).toArray:=by simp
 by_cases hw:ws=[]
 ·exact concat_meets ⟨_,ho,rfl⟩ ⟨_,ho2,rfl⟩ noFill_tuple_add seq_tuple_add PySem.F.slot_tuple_add PySem.F.entry_tuple_add (PySem.F.args_tuple_add_2 _ _)
   (tuple_addW1 t b vs.toArray ws.toArray n n2 dd dd2 sl sl2 (by simpa using hv) (by simp [hw])) ⟨ho,ho2,h1 hw⟩
 ·refine concat_meets ⟨_,ho,rfl⟩ ⟨_,ho2,rfl⟩ noFill_tuple_add seq_tuple_add PySem.F.slot_tuple_add PySem.F.entry_tuple_add (PySem.F.args_tuple_add_2 _ _)
   (tuple_addW2 t b vs.toArray ws.toArray n n2 dd dd2 sl sl2 (by simpa using hv) (by simpa using hw) (by rw [List.size_toArray,List.size_toArray]; exact hsz)) ⟨ho,ho2,?_⟩
  rw [e]
  exact h2 hw
def sIx (n d:Nat):Option Int→Nat
 | none=>d
 | some v=>if v < 0 then (v+(n:Int)).toNat else min v.toNat n
theorem sIx_none (n d:Nat):sIx n d none=d:=rfl
theorem sIx_nat (n d k:Nat):sIx n d (some (k:Int))=min k n:=by
 show (if (k:Int) < 0 then ((k:Int)+(n:Int)).toNat else min (k:Int).toNat n)=min k n
 rw [if_neg (by omega),Int.toNat_natCast]
theorem sIx_le (n d:Nat) (hd:d≤n) (o:Option Int):sIx n d o≤n:=by
 cases o with
 | none=>exact hd
 | some v=>
  show (if v < 0 then (v+(n:Int)).toNat else min v.toNat n)≤n
  by_cases hv:v < 0
  ·rw [if_pos hv]; omega
  ·rw [if_neg hv]; exact Nat.min_le_right _ _
theorem clip_eq (v:Int) (n d:Nat):(if v < 0 then max (v+(n:Int)) 0 else min v (n:Int))=((sIx n d (some v):Nat):Int):=by
 show (if v < 0 then max (v+(n:Int)) 0 else min v (n:Int))=(((if v < 0 then (v+(n:Int)).toNat else min v.toNat n):Nat):Int)
 by_cases hv:v < 0
 ·simp only [if_pos hv]; omega
 ·simp only [if_neg hv]; omega
theorem adjust_gen (lo hi:Option Int) (n:Nat):Builtin.Slice.sliceAdjust lo hi 1 (n:Int)=(((sIx n 0 lo:Nat):Int),((sIx n n hi:Nat):Int)):=by
 have h1:¬ ((1:Int) < 0):=by omega
 unfold Builtin.Slice.sliceAdjust
 simp only [h1,if_false]
 refine Prod.ext ?_ ?_
 ·cases lo with
  | none=>rfl
  | some v=>exact clip_eq v n 0
 ·cases hi with
  | none=>rfl
  | some v=>exact clip_eq v n n
theorem places_gen (i j:Nat):Builtin.Slice.slicePlaces (i:Int) (j:Int) 1=j - i:=by
 unfold Builtin.Slice.slicePlaces
 have h1:(1:Int) > 0:=by omega
 simp only [h1,if_true,Int.ediv_one]
 split <;> omega
theorem slicePart_ {v:Value} {o:Option Int} {Q:Option Int→Shared→Prop} (p:IsPart v o) (h:Q o s):wpAny (model prog w) A (Builtin.Slice.slicePartIndex v) Q E s:=by
 cases p with
 | none=>exact slicePart_none h
 | int i t=>exact slicePart_int h
theorem sliceApplied_gen {sl:Addr} {vl vu:Value} {lo hi:Option Int} {n:Nat} {Q:Int × Int × Nat→Shared→Prop} (hs:s.heap.IsSliceOf sl vl vu .none) (pl:IsPart vl lo) (pu:IsPart vu hi)
  (h:Q (((sIx n 0 lo:Nat):Int),1,sIx n n hi - sIx n 0 lo) s):wpAny (model prog w) A (Builtin.Slice.sliceApplied (.ref sl) (pure (n:Int))) Q E s:=by
 obtain ⟨os,hos,hcs,hds⟩:=id hs
 unfold Builtin.Slice.sliceApplied Builtin.Slice.sliceFields
 refine wpAny_bind (wpAny_bind (wpAny_field hos hds (x:=vl) rfl (wpAny_bind (wpAny_field hos hds (x:=vu) rfl (wpAny_bind (wpAny_field hos hds (x:=.none) rfl (wpAny_pure ?_)))))))
 refine wpAny_bind (slicePart_none ?_)
 show wpAny _ _ (if ((1:Int)==0)=true then _ else _) _ _ s
 rw [if_neg (by decide)]
 refine wpAny_bind (slicePart_ pl (wpAny_bind (slicePart_ pu (wpAny_bind (wpAny_pure ?_)))))
 show wpAny _ _ (match Builtin.Slice.sliceAdjust lo hi 1 (n:Int) with | (lo,hi)=>pure (lo,(1:Int),Builtin.Slice.slicePlaces lo hi 1)) _ _ s
 rw [adjust_gen lo hi n]
 show wpAny _ _ (pure (((sIx n 0 lo:Nat):Int),(1:Int),Builtin.Slice.slicePlaces ((sIx n 0 lo:Nat):Int) ((sIx n n hi:Nat):Int) 1)) _ _ s
 rw [places_gen]
 exact wpAny_pure h
theorem pick_gen (xs:Array Value) (i k:Nat):((List.range k).filterMap fun (m:Nat)=>xs[((i:Int)+(m:Int) * 1).toNat]?).toArray=((xs.toList.drop i).take k).toArray:=by
 have e:(fun (m:Nat)=>xs[((i:Int)+(m:Int) * 1).toNat]?)=fun m=>xs[i+m]?:=by
  funext m
  have:((i:Int)+(m:Int) * 1).toNat=i+m:=by omega
  rw [this]
 rw [e]
 have:=pick_run xs i k
 rw [List.filterMap_map] at this
 have e2:((fun x=>xs[x]?) ∘ fun x=>i+x)=fun m=>xs[i+m]?:=rfl
 rw [e2] at this
 rw [this]
theorem getItem_tuple_cut {t sl:Addr} {items:Array Value} {vl vu:Value} {lo hi:Option Int} {Q:Value→Shared→Prop} (ht:IsTup s.heap t items) (hs:s.heap.IsSliceOf sl vl vu .none) (pl:IsPart vl lo) (pu:IsPart vu hi)
  (hw:¬ (sIx items.size 0 lo=0∧sIx items.size items.size hi=items.size))
  (h:Q (.ref s.heap.objs.size) { s with heap:=s.heap.push { cls:=.type "tuple",data:=.seq ((items.toList.drop (sIx items.size 0 lo)).take (sIx items.size items.size hi - sIx items.size 0 lo)).toArray } })
  (hsz:items.size≤sizeLine):wpAny (model prog w) A (getItem (.ref t) (.ref sl)) Q E s:=by
 have htake:sizeOk (.seq ((items.toList.drop (sIx items.size 0 lo)).take (sIx items.size items.size hi - sIx items.size 0 lo)).toArray):=by
  show ((items.toList.drop (sIx items.size 0 lo)).take (sIx items.size items.size hi - sIx items.size 0 lo)).toArray.size≤sizeLine
  rw [List.size_toArray,List.length_take,List.length_drop,Array.length_toList]
  omega
 have hj:sIx items.size items.size hi≤items.size:=sIx_le _ _ (Nat.le_refl _) hi
 obtain ⟨os,hos,hcs,hds⟩:=id hs
 have hTs:s.TypeIs (.ref sl) "slice":=⟨os,hos,hcs⟩
 unfold getItem
 try with_reducible refine wpAny_holding ?_
 first | refine wpAny_bind (wpAny_pure ?_) | skip
 refine wpAny_bind (wpAny_sequenceKey ht.typeIs (by decide) ?_)
 refine wpAny_bind (wpAny_callSpecial?_slot (name:=Str.ofString "__getitem__") ht.typeIs PyProof.Rows.slot_tuple_getitem
  (wpAny_call_entry PyProof.Rows.slot_tuple_getitem ht.typeIs entry_tuple_getitem ?_ (args_tuple_getitem _ _)))
 show wpAny _ _ (Builtin.Tuple.tupleItemsOf (.ref t) >>= _) _ _ s
 refine wpAny_bind (tupleItemsOf_ ht ?_)
 refine wpAny_bind (wpAny_typeOf hTs ?_)
 rw [if_pos (by decide)]
 refine wpAny_bind (sliceApplied_gen hs pl pu ?_)
 have hno:¬ ((((sIx items.size 0 lo:Nat):Int)==0 && (1:Int)==1 && (sIx items.size items.size hi - sIx items.size 0 lo)==items.size)=true):=by
  intro q
  rw [Bool.and_eq_true,Bool.and_eq_true] at q
  have q1:((sIx items.size 0 lo:Nat):Int)=0:=eq_of_beq q.1.1
  have q2:sIx items.size items.size hi - sIx items.size 0 lo=items.size:=eq_of_beq q.2
  exact hw ⟨by omega,by omega⟩
 show wpAny _ _ (if (((sIx items.size 0 lo:Nat):Int)==0 && (1:Int)==1 && (sIx items.size items.size hi - sIx items.size 0 lo)==items.size)=true then _ else _) _ _ s
 rw [if_neg hno,pick_gen]
 first
  | exact wpAny_bind (m:=Builtin.Tuple.tupleExact _) (wpAny_newObj_type (wpAny_pure ⟨_,rfl,wpAny_pure h⟩) htake)
  | exact wpAny_bind (m:=Builtin.Tuple.tupleExact _) (wpAny_newObj_type (wpAny_bind (wpAny_pure (wpAny_pure ⟨_,rfl,wpAny_pure h⟩))) htake)
  | exact wpAny_bind (wpAny_bind (m:=Builtin.Tuple.tupleExact _) (wpAny_newObj_type (wpAny_pure (wpAny_pure ⟨_,rfl,wpAny_pure h⟩)) htake))
  | exact wpAny_bind (wpAny_bind (m:=Builtin.Tuple.tupleExact _) (wpAny_newObj_type (wpAny_pure ⟨_,rfl,wpAny_pure h⟩) htake))
end
end HT
namespace L2
open PySem PySem.Spec PyProof.Rows
abbrev TO:=St→Hp→(Option Int→Hp→Prop)→Prop
def PO (X:Cx) (e:Option Expr) (t:TO):Prop:=
 ∀ (pins:List (Addr × Obj)) (s:Shared) (σ:St) (H:Hp) (Q:Option Int→Hp→Prop),Inv X pins σ H s→t σ H Q→
  wpAny (model X.prog X.w) X.A (evalPart e X.env) (fun u s'=>∃ o H',Inv X pins σ H' s'∧IsPart u o∧Q o H') X.xe s
def tNoPart:TO:=fun _ H Q=>Q none H
def tPart (t:TE):TO:=fun σ H Q=>t σ H fun x H1=>∃ i,x=.int i∧Q (some i) H1
section
variable {X:Cx} {e:Expr} {te:TE} {lo hi:Option Expr} {tl th:TO} {pos p2:Pos}
theorem po_none:PO X none tNoPart:=by
 intro pins s σ H Q I h
 rw [evalPart_none]
 exact wpAny_pure ⟨none,H,I,.none,h⟩
theorem po_some (h:PE X e te):PO X (some e) (tPart te):=by
 intro pins s σ H Q I hw
 rw [evalPart_some]
 refine thn (h pins s σ H _ I hw) fun u s1 ⟨x,H1,I1,r1,q1⟩=>?_
 obtain ⟨i,rfl,q⟩:=q1
 obtain ⟨t,rfl⟩:=r1
 exact ⟨some i,H1,I1,.int i t,q⟩
def SlR (X:Cx) (r:V→Option Int→Option Int→Hp→VK→Prop):Prop:=
 ∀ (pins:List (Addr × Obj)) (s:Shared) (σ:St) (H:Hp) (x:V) (v vl vu:Value) (lo hi:Option Int) (sl:Addr) (Q:VK),Inv X pins σ H s→RelV x v→s.heap.IsSliceOf sl vl vu .none→IsPart vl lo→IsPart vu hi→r x lo hi H Q→
  ∃ T id,typeLookup (.type T) "__getitem__" = pure (some (.builtin id))∧s.TypeIs v T∧wpAny (model X.prog X.w) X.A (getItem v (.ref sl)) (EP X pins σ Q) X.xe s
def tSl (r:V→Option Int→Option Int→Hp→VK→Prop) (te:TE) (tl th:TO):TE:=fun σ H Q=>te σ H fun x H1=>tl σ H1 fun l H2=>th σ H2 fun u H3=>r x l u H3 Q
theorem pe_slice {r:V→Option Int→Option Int→Hp→VK→Prop} (hr:SlR X r) (he:PE X e te) (hl:PO X lo tl) (hu:PO X hi th):PE X (.Subscript e (.Slice lo hi none p2) pos) (tSl r te tl th):=by
 intro pins s σ H Q I h
 refine Subscript_ (thn (he pins s σ H _ I h) fun v s1 ⟨x,H1,I1,r1,q1⟩=>?_)
 refine wpAny_Slice (thn (hl pins s1 σ H1 _ I1 q1) fun vl s2 ⟨l,H2,I2,pl,q2⟩=>thn (hu pins s2 σ H2 _ I2 q2) fun vu s3 ⟨u,H3,I3,pu,q3⟩=>?_)
 rw [evalPart_none]
 refine wpAny_pure ?_
 have I4:Inv X pins σ H3 { s3 with heap:=s3.heap.push { cls:=.type "slice",data:=.fields #[vl,vu,.none] } }:=I3.kept (t':=s3.toks) fun b ob q=>Heap.get?_push_of_some _ q
 obtain ⟨T,id,hT,ht,hg⟩:=hr pins { s3 with heap:=s3.heap.push { cls:=.type "slice",data:=.fields #[vl,vu,.none] } } σ H3 x v vl vu l u s3.heap.objs.size Q I4 r1 (Heap.IsSliceOf.new ..) pl pu q3
 show wpAny (model X.prog X.w) X.A (subscriptTail e (.Slice lo hi none p2) v (.ref s3.heap.objs.size)) (EP X pins σ Q) X.xe { s3 with heap:=s3.heap.push { cls:=.type "slice",data:=.fields #[vl,vu,.none] } }
 exact tail_any (ops:=[.ref s3.heap.objs.size,v]) ht hT hg (by with_unfolding_all rfl)
def cutV (xs:List V) (lo hi:Option Int):List V:=(xs.drop (HT.sIx xs.length 0 lo)).take (HT.sIx xs.length xs.length hi - HT.sIx xs.length 0 lo)
theorem cutV_length (xs:List V) (lo hi:Option Int):(cutV xs lo hi).length≤xs.length:=by
 unfold cutV
 rw [List.length_take,List.length_drop]
 omega
def rSlT (K:PySem.W.Frag):V→Option Int→Option Int→Hp→VK→Prop:=fun x lo hi H Q=>∃ a xs,x=.ref a∧SqT K H a xs∧
 ¬ (HT.sIx xs.length 0 lo=0∧HT.sIx xs.length xs.length hi=xs.length)∧∀ p,H p=none→Q (.ref p) (upd H p (.tup (cutV xs lo hi)))
theorem sl_tup:SlR X (rSlT X.K):=by
 intro pins s σ H x v vl vu lo hi sl Q I rx hs pl pu h
 obtain ⟨a,xs,rfl,hx,hw,q⟩:=h
 cases rx
 obtain ⟨its,r,ht,hz⟩:=I.tuple hx
 have hlen:its.toArray.size=xs.length:=by rw [List.size_toArray]; exact r.length.symm
 refine ⟨"tuple",_,PyProof.Rows.slot_tuple_getitem.lookup,ht.typeIs,?_⟩
 refine HT.getItem_tuple_cut ht hs pl pu (by rw [hlen]; exact hw) ?_ (by rw [hlen]; exact hz)
 rw [hlen]
 refine ⟨.ref s.heap.objs.size,_,I.laid (t':=s.toks) (o:=.tup (cutV xs lo hi)) (fun b ob q=>Heap.get?_push_of_some _ q) (Nat.le_refl _) ?_,rfl,q _ (I.hok.fresh (Nat.le_refl _))⟩
 exact ⟨Nat.le_trans (cutV_length xs lo hi) hz,_,(r.drop (HT.sIx xs.length 0 lo)).take (HT.sIx xs.length xs.length hi - HT.sIx xs.length 0 lo),IsTup.new _ _⟩
def rCatT (K:PySem.W.Frag):R2:=fun x y H Q=>∃ a b xs ys,x=.ref a∧y=.ref b∧SqT K H a xs∧SqT K H b ys∧xs≠[]∧xs.length+ys.length≤sizeLine∧
 (ys=[]→Q (.ref a) H)∧(ys≠[]→∀ p,H p=none→Q (.ref p) (upd H p (.tup (xs ++ ys))))
theorem Vals.nil_iff {xs:List V} {us:List Value} (r:Vals xs us):us=[]↔xs=[]:=by
 cases r with
 | nil=>simp
 | cons _ _=>simp
theorem op_catT:OpR X (binaryOp .Add) (rCatT X.K):=by
 intro pins s σ H x y v u Q I rx ry h
 obtain ⟨a,b,xs,ys,rfl,rfl,ha,hb,hx,hz,q1,q2⟩:=h
 cases rx
 cases ry
 obtain ⟨its,r1,p1,_⟩:=I.tuple ha
 obtain ⟨its2,r2,p2,_⟩:=I.tuple hb
 refine HT.cat_tup p1 p2 (fun z=>hx (r1.nil_iff.mp z)) (fun z=>⟨.ref a,H,I,rfl,q1 (r2.nil_iff.mp z)⟩) (fun z=>?_) (by rw [← r1.length,← r2.length]; exact hz)
 refine ⟨.ref s.heap.objs.size,_,I.laid (t':=s.toks) (o:=.tup (xs ++ ys)) (fun b ob q=>Heap.get?_push_of_some _ q) (Nat.le_refl _) ?_,rfl,q2 (fun w=>z (r2.nil_iff.mpr w)) _ (I.hok.fresh (Nat.le_refl _))⟩
 exact ⟨by rw [List.length_append]; exact hz,_,r1.append r2,IsTup.new _ _⟩
end
end L2
namespace L2
open PySem PySem.Spec PyProof.Rows
def ixN (n:Nat) (i:Int):Option Nat:=if 0≤i then (if i < n then some i.toNat else none) else if -(n:Int)≤i then some (i+n).toNat else none
def atI {α:Type} (xs:List α) (i:Int):Option α:=(ixN xs.length i).bind fun j=>xs[j]?
theorem ixN_seq {n:Nat} {i:Int} {j:Nat} (h:ixN n i=some j):seqIndex? i n=some j∧j < n∧-(n:Int)≤i∧i < n:=by
 unfold ixN at h
 by_cases h0:0≤i
 ·rw [if_pos h0] at h
  by_cases h1:i < n
  ·rw [if_pos h1] at h
   have e:i.toNat=j:=Option.some.inj h
   exact ⟨by rw [seqIndex_of h0 h1,e],by omega,by omega,h1⟩
  ·rw [if_neg h1] at h; cases h
 ·rw [if_neg h0] at h
  by_cases h1 : -(n:Int)≤i
  ·rw [if_pos h1] at h
   have e:(i+n).toNat=j:=Option.some.inj h
   exact ⟨by rw [seqIndex_neg (by omega) h1,e],by omega,h1,by omega⟩
  ·rw [if_neg h1] at h; cases h
theorem atI_get {α:Type} {xs:List α} {i:Int} {v:α} (h:atI xs i=some v):∃ j,seqIndex? i xs.length=some j∧xs[j]? = some v∧j < xs.length∧-(xs.length:Int)≤i∧i < xs.length:=by
 unfold atI at h
 cases e:ixN xs.length i with
 | none=>rw [e] at h; cases h
 | some j=>
  rw [e] at h
  obtain ⟨h1,h2,h3,h4⟩:=ixN_seq e
  exact ⟨j,h1,h,h2,h3,h4⟩
theorem atI_nat {α:Type} {xs:List α} {j:Nat} {v:α} (h:xs[j]? = some v):atI xs (j:Int)=some v:=by
 have hj:j < xs.length:=(List.getElem?_eq_some_iff.mp h).1
 have e:ixN xs.length (j:Int)=some j:=by
  unfold ixN
  rw [if_pos (by omega),if_pos (by omega)]; simp
 unfold atI; rw [e]; exact h
def PlainIx (b:Expr):Prop:=∀ o i,subscripted b false o i=operate [o,i] (getItem o i)
def IxR (X:Cx) (r:R2):Prop:=
 ∀ (value slice:Expr) (pins:List (Addr × Obj)) (s:Shared) (σ:St) (H:Hp) (x y:V) (v u:Value) (Q:VK),Inv X pins σ H s→RelV x v→RelV y u→r x y H Q→
  subscripted slice false v u=operate [v,u] (getItem v u)→wpAny (model X.prog X.w) X.A (subscriptTail value slice v u) (EP X pins σ Q) X.xe s
def MtR (X:Cx) (id:String) (r:V→List V→Hp→VK→Prop):Prop:=
 ∀ (pins:List (Addr × Obj)) (s:Shared) (σ:St) (H:Hp) (x:V) (xs:List V) (v:Value) (us:List Value) (Q:VK),Inv X pins σ H s→RelV x v→Vals xs us→r x xs H Q→
  wpAny (model X.prog X.w) X.A (call (.builtin id) (v :: us)) (EP X pins σ Q) X.xe s
section
variable {X:Cx} {a b:Expr} {ta tb:TE} {pos:Pos}
theorem IxR.or {r r':R2} (h:IxR X r) (h':IxR X r'):IxR X (fun x y H Q=>r x y H Q∨r' x y H Q):=by
 intro value slice pins s σ H x y v u Q I rx ry q hs
 rcases q with q | q
 ·exact h value slice pins s σ H x y v u Q I rx ry q hs
 ·exact h' value slice pins s σ H x y v u Q I rx ry q hs
theorem pe_ix {r:R2} (hr:IxR X r) (ha:PE X a ta) (hb:PE X b tb) (hs:PlainIx b):PE X (.Subscript a b pos) (tOp r ta tb):=by
 intro pins s σ H Q I h
 exact Subscript_ (binT ha hb I h fun v u s2 x y H2 I2 rx ry q=>hr a b pins s2 σ H2 x y v u Q I2 rx ry q (hs _ _))
def rIxL (K:PySem.W.Frag):R2:=fun x y H Q=>∃ p xs i v,x=.ref p∧y=.int i∧SqL K H p xs∧atI xs i=some v∧Q v H
def rIxT (K:PySem.W.Frag):R2:=fun x y H Q=>∃ p xs i v,x=.ref p∧y=.int i∧SqT K H p xs∧atI xs i=some v∧Q v H
def rIxS:R2:=fun x y H Q=>∃ z i c,x=.str z∧y=.int i∧z.length≤sizeLine∧atI z.cps.toList i=some c∧Q (.str ⟨#[c]⟩) H
theorem ix_list:IxR X (rIxL X.K):=by
 intro value slice pins s σ H x y v u Q I rx ry h hs
 obtain ⟨p,xs,i,z,rfl,rfl,hq,he,q⟩:=h
 cases rx
 obtain ⟨t,rfl⟩:=ry
 obtain ⟨its,r,pl,hz⟩:=I.list hq
 obtain ⟨j,h1,h2,h3,h4,h5⟩:=atI_get he
 obtain ⟨w,ew,rw'⟩:=r.get h2
 have hl:=r.length
 have hn:=line63
 have fin:EP X pins σ Q w s:=⟨z,H,I,rw',q⟩
 by_cases h0:0≤i
 ·have hj:i.toNat=j:=by
   rw [seqIndex_of h0 h5] at h1
   exact Option.some.inj h1
  exact item_listR pl.isList h0 (by omega) (by rw [hj]; simpa using ew) fin hs
 ·have hj:(i+(its.toArray.size:Int)).toNat=j:=by
   rw [seqIndex_neg (by omega) h4] at h1
   rw [List.size_toArray,← hl]
   exact Option.some.inj h1
  exact subscriptTail_builtinR (x:=w) pl.isList.typeIs slot_list_getitem.lookup
   (wpAny_getItem_list_neg (Q:=fun r s'=>r=w∧EP X pins σ Q r s') pl.isList (by omega) (by rw [List.size_toArray] <;> omega) (by omega) (by rw [hj]; simpa using ew) ⟨rfl,fin⟩) hs
theorem ix_tup:IxR X (rIxT X.K):=by
 intro value slice pins s σ H x y v u Q I rx ry h hs
 obtain ⟨p,xs,i,z,rfl,rfl,hq,he,q⟩:=h
 cases rx
 obtain ⟨t,rfl⟩:=ry
 obtain ⟨its,r,pl,hz⟩:=I.tuple hq
 obtain ⟨j,h1,h2,h3,h4,h5⟩:=atI_get he
 obtain ⟨w,ew,rw'⟩:=r.get h2
 have hl:=r.length
 have hn:=line63
 have fin:EP X pins σ Q w s:=⟨z,H,I,rw',q⟩
 exact subscriptTail_builtinR (x:=w) pl.typeIs slot_tuple_getitem.lookup
  (getItem_tuple (j:=j) (Q:=fun r s'=>r=w∧EP X pins σ Q r s') pl (by omega) (by omega) (by rw [List.size_toArray,← hl]; exact h1) (by simpa using ew) ⟨rfl,fin⟩) hs
theorem ix_str:IxR X rIxS:=by
 intro value slice pins s σ H x y v u Q I rx ry h hs
 obtain ⟨z,i,c,rfl,rfl,hz,he,q⟩:=h
 obtain ⟨t,rfl⟩:=rx
 obtain ⟨t',rfl⟩:=ry
 obtain ⟨j,h1,h2,h3,h4,h5⟩:=atI_get he
 have hl:z.cps.toList.length=z.length:=by simp [Str.length]
 rw [hl] at h1 h4 h5
 have hn:=line63
 exact tail_any (typeIs_str s z t) slot_str_getitem.lookup (getItem_str (c:=c) (by
  have e1:decide (i < -(2 ^ 63:Int))=false:=decide_eq_false (by omega)
  have e2:decide (i ≥ 2 ^ 63)=false:=decide_eq_false (by omega)
  rw [e1,e2,Bool.or_false]) (by rw [h1]; simpa using h2) ⟨.str ⟨#[c]⟩,H,I.tok _,⟨_,rfl⟩,q⟩) hs
def rIx (K:PySem.W.Frag):R2:=fun x y H Q=>rIxL K x y H Q∨rIxT K x y H Q∨rIxS x y H Q
theorem ix_seq:IxR X (rIx X.K):=ix_list.or (ix_tup.or ix_str)
theorem mapSeq_set (its:List Value) (n j:Nat) (u:Value):Obj.mapSeq (·.setIfInBounds j u) { cls:=.type "list",data:=.seq its.toArray n } = { cls:=.type "list",data:=.seq (its.set j u).toArray n }:=by
 simp [Obj.mapSeq]
theorem Inv.lst {pins:List (Addr × Obj)} {σ:St} {H:Hp} {s:Shared} {p:Addr} {xs:List V} (I:Inv X pins σ H s) (h:H p=some (.lst xs)) :
  ∃ (its:List Value) (n:Nat),Vals xs its∧s.heap.get? p=some { cls:=.type "list",data:=.seq its.toArray n }∧xs.length≤sizeLine:=by
 obtain ⟨z,its,n,r,e⟩:=I.hok p _ h
 exact ⟨its,n,r,e,z⟩
theorem Inv.lstUpd {pins:List (Addr × Obj)} {σ:St} {H:Hp} {s:Shared} {p:Addr} {xs ys:List V} {its its':List Value} {n n':Nat} {f:Obj→Obj} (I:Inv X pins σ H s) (h:H p=some (.lst xs))
  (ho:s.heap.get? p=some { cls:=.type "list",data:=.seq its.toArray n }) (hf:f { cls:=.type "list",data:=.seq its.toArray n } = { cls:=.type "list",data:=.seq its'.toArray n' }) (r:Vals ys its') (hz:ys.length≤sizeLine) (t:Nat) :
  Inv X pins σ (upd H p (.lst ys)) { s with heap:=s.heap.update p f,toks:=t }:=by
 have e:(s.heap.update p f).get? p=some { cls:=.type "list",data:=.seq its'.toArray n' }:=by
  rw [Heap.get?_update_self f ho (by rw [hf] <;> rfl),hf]
 refine I.write (x:=p) (e:=p) (by rw [h]; trivial) (.inl rfl) (fun b u hb q=>(Heap.get?_update_other _ _ (Ne.symm hb)).trans q) ⟨_,e⟩ ?_
 exact ⟨hz,its',n',r,e⟩
def rSetL:V→V→V→Hp→(Hp→Prop)→Prop:=fun o i v H Q=>∃ p xs k j,o=.ref p∧i=.int k∧H p=some (.lst xs)∧ixN xs.length k=some j∧Q (upd H p (.lst (xs.set j v)))
theorem set_list:PSet X rSetL:=by
 intro pins s σ H o i v ov iv u Q I ro ri rv h
 obtain ⟨p,xs,k,j,rfl,rfl,hp,hj,q⟩:=h
 cases ro
 obtain ⟨t,rfl⟩:=ri
 obtain ⟨its,n,r,ho,hz⟩:=I.lst hp
 obtain ⟨h1,h2,h3,h4⟩:=ixN_seq hj
 have hl:=r.length
 have hn:=line63
 have I':Inv X pins σ (upd H p (.lst (xs.set j v))) { s with heap:=s.heap.update p (Obj.mapSeq (·.setIfInBounds j u)) }:=
  I.lstUpd hp ho (mapSeq_set its n j u) (r.set rv j) (by rw [List.length_set]; exact hz) s.toks
 by_cases h0:0≤k
 ·have hk:k.toNat=j:=by
   rw [seqIndex_of h0 h4] at h1
   exact Option.some.inj h1
  exact PySem.W.ki_setAt ho h0 (by omega) (by rw [List.size_toArray,← hl]; exact h4) (by rw [hk]; exact ⟨_,I',q⟩)
 ·have hk:(k+(its.toArray.size:Int)).toNat=j:=by
   rw [seqIndex_neg (by omega) h3] at h1
   rw [List.size_toArray,← hl]
   exact Option.some.inj h1
  exact PySem.W.ki_setBack ho (by omega) (by rw [List.size_toArray,← hl]; exact h3) (by omega) (by rw [hk]; exact ⟨_,I',q⟩)
def flatV:V→Bool
 | .non=>true
 | .bl _=>true
 | .int _=>true
 | .str _=>true
 | _=>false
def eqV:V→V→Bool
 | .non,.non=>true
 | .bl a,.bl b=>a==b
 | .bl a,.int b=>(if a then 1 else 0)==b
 | .int a,.bl b=>a==(if b then 1 else 0)
 | .int a,.int b=>a==b
 | .str a,.str b=>a==b
 | _,_=>false
theorem eqAt_V {A:Around} {s:Shared} {y x:V} {u v:Value} (ry:RelV y u) (rx:RelV x v) (fy:flatV y=true) (fx:flatV x=true):SeqAt.EqAt A s u v (eqV y x):=by
 cases y with
 | non=>
  cases ry
  cases x with
  | non=>cases rx; exact SeqAt.EqAt.same _
  | bl b=>cases rx; exact SeqAt.EqAt.none_bool b
  | int b=>obtain ⟨t,rfl⟩:=rx; exact SeqAt.EqAt.none_int b t
  | str b=>obtain ⟨t,rfl⟩:=rx; exact SeqAt.EqAt.none_str b t
  | _=>exact absurd (show false=true from fx) Bool.false_ne_true
 | bl a=>
  cases ry
  cases x with
  | non=>cases rx; exact SeqAt.EqAt.bool_none a
  | bl b=>cases rx; exact SeqAt.EqAt.bool_bool a b
  | int b=>obtain ⟨t,rfl⟩:=rx; exact SeqAt.EqAt.bool_int a b t
  | str b=>obtain ⟨t,rfl⟩:=rx; exact SeqAt.EqAt.bool_str a b t
  | _=>exact absurd (show false=true from fx) Bool.false_ne_true
 | int a=>
  obtain ⟨t',rfl⟩:=ry
  cases x with
  | non=>cases rx; exact SeqAt.EqAt.int_none a t'
  | bl b=>cases rx; exact SeqAt.EqAt.int_bool a t' b
  | int b=>obtain ⟨t,rfl⟩:=rx; exact SeqAt.EqAt.int_int a t' b t
  | str b=>obtain ⟨t,rfl⟩:=rx; exact SeqAt.EqAt.int_str a t' b t
  | _=>exact absurd (show false=true from fx) Bool.false_ne_true
 | str a=>
  obtain ⟨t',rfl⟩:=ry
  cases x with
  | non=>cases rx; exact SeqAt.EqAt.str_none a t'
  | bl b=>cases rx; exact SeqAt.EqAt.str_bool a t' b
  | int b=>obtain ⟨t,rfl⟩:=rx; exact SeqAt.EqAt.str_int a t' b t
  | str b=>obtain ⟨t,rfl⟩:=rx; exact SeqAt.EqAt.str_str a t' b t
  | _=>exact absurd (show false=true from fx) Bool.false_ne_true
 | _=>exact absurd (show false=true from fy) Bool.false_ne_true
def eqU (x:V) (u:Value):Bool:=match u with
 | .none=>eqV .non x
 | .bool b=>eqV (.bl b) x
 | .int i _=>eqV (.int i) x
 | .str z _=>eqV (.str z) x
 | _=>false
theorem eqU_of {x y:V} {u:Value} (r:RelV y u) (f:flatV y=true):eqU x u=eqV y x:=by
 cases y with
 | non=>cases r; rfl
 | bl b=>cases r; rfl
 | int i=>obtain ⟨t,rfl⟩:=r; rfl
 | str z=>obtain ⟨t,rfl⟩:=r; rfl
 | _=>exact absurd (show false=true from f) Bool.false_ne_true
theorem any_eqU {x:V}:∀ {xs:List V} {us:List Value},Vals xs us→xs.all flatV=true→us.any (eqU x)=xs.any fun y=>eqV y x
 | _,_,.nil,_=>rfl
 | y :: xs,u :: us,.cons r t,f=>by
  rw [List.all_cons,Bool.and_eq_true] at f
  rw [List.any_cons,List.any_cons,eqU_of r f.1,any_eqU t f.2]
theorem mem_eqAt {A:Around} {s:Shared} {x:V} {v:Value} (rx:RelV x v) (fx:flatV x=true):∀ {xs:List V} {us:List Value},Vals xs us→xs.all flatV=true→∀ u∈us,SeqAt.EqAt A s u v (eqU x u)
 | _,_,.nil,_=>fun u hu=>by cases hu
 | y :: xs,u :: us,.cons r t,f=>fun u' hu=>by
  rw [List.all_cons,Bool.and_eq_true] at f
  rcases List.mem_cons.mp hu with rfl | hu
  ·rw [eqU_of r f.1]; exact eqAt_V r rx f.1 fx
  ·exact mem_eqAt rx fx t f.2 u' hu
def inV (x:V) (xs:List V):Bool:=xs.any fun y=>eqV y x
def rIn (K:PySem.W.Frag) (neg:Bool):R2:=fun x y H Q=>∃ p xs,y=.ref p∧(SqL K H p xs∨SqT K H p xs)∧flatV x=true∧xs.all flatV=true∧Q (.bl (if neg then !inV x xs else inV x xs)) H
theorem op_in_seq:OpR X (compareOp .In) (rIn X.K false):=by
 intro pins s σ H x y v u Q I rx ry h
 obtain ⟨p,xs,rfl,hq,fx,fs,q⟩:=h
 cases ry
 rcases hq with hq | hq
 ·obtain ⟨its,r,pl,hz⟩:=I.list hq
  refine SeqAt.in_listAt (eqU x) pl.isList (fun w hw=>mem_eqAt rx fx r fs w (by simpa using hw)) ⟨.bl _,H,I,rfl,?_⟩
  rw [show its.toArray.any (eqU x)=its.any (eqU x) by simp,any_eqU r fs]
  exact q
 ·obtain ⟨its,r,pl,hz⟩:=I.tuple hq
  refine SeqAt.in_tupleAt (eqU x) pl (fun w hw=>mem_eqAt rx fx r fs w (by simpa using hw)) ⟨.bl _,H,I,rfl,?_⟩
  rw [show its.toArray.any (eqU x)=its.any (eqU x) by simp,any_eqU r fs]
  exact q
theorem op_notIn_seq:OpR X (compareOp .NotIn) (rIn X.K true):=by
 intro pins s σ H x y v u Q I rx ry h
 obtain ⟨p,xs,rfl,hq,fx,fs,q⟩:=h
 cases ry
 rcases hq with hq | hq
 ·obtain ⟨its,r,pl,hz⟩:=I.list hq
  refine SeqAt.notIn_listAt (eqU x) pl.isList (fun w hw=>mem_eqAt rx fx r fs w (by simpa using hw)) ⟨.bl _,H,I,rfl,?_⟩
  rw [show its.toArray.any (eqU x)=its.any (eqU x) by simp,any_eqU r fs]
  exact q
 ·obtain ⟨its,r,pl,hz⟩:=I.tuple hq
  refine SeqAt.notIn_tupleAt (eqU x) pl (fun w hw=>mem_eqAt rx fx r fs w (by simpa using hw)) ⟨.bl _,H,I,rfl,?_⟩
  rw [show its.toArray.any (eqU x)=its.any (eqU x) by simp,any_eqU r fs]
  exact q
theorem call_len_seq:CallR X (.builtin "len") (fun xs H Q=>∃ p ys,xs=[.ref p]∧(SqL X.K H p ys∨SqT X.K H p ys)∧Q (.int ys.length) H):=by
 intro pins s σ H xs us Q I r h
 obtain ⟨p,ys,rfl,hq,q⟩:=h
 obtain ⟨u,rfl,rx⟩:=vals1 r
 cases rx
 have hn:=line63
 rcases hq with hq | hq
 ·obtain ⟨its,r',pl,hz⟩:=I.list hq
  have hlen:=r'.length
  exact Calls.call_len_list pl.isList (by simp only [List.size_toArray] <;> omega) ⟨.int ys.length,H,I.tok _,⟨s.toks+1,by rw [List.size_toArray,hlen]⟩,q⟩
 ·obtain ⟨its,r',pl,hz⟩:=I.tuple hq
  have hlen:=r'.length
  exact len_tuple pl (by simp only [List.size_toArray] <;> omega) ⟨.int ys.length,H,I.tok _,⟨s.toks+1,by rw [List.size_toArray,hlen]⟩,q⟩
theorem call_len_str:CallR X (.builtin "len") (fun xs H Q=>∃ z,xs=[.str z]∧z.length≤sizeLine∧Q (.int z.length) H):=by
 intro pins s σ H xs us Q I r h
 obtain ⟨z,rfl,hz,q⟩:=h
 obtain ⟨u,rfl,t,rfl⟩:=vals1 r
 have hn:=line63
 exact len_str (by omega) ⟨.int z.length,H,I.tok _,⟨_,rfl⟩,q⟩
theorem call_list_of:CallR X (.type "list") (fun xs H Q=>∃ p ys,xs=[.ref p]∧(SqL X.K H p ys∨SqT X.K H p ys)∧∀ l,H l=none→Q (.ref l) (upd H l (.lst ys))):=by
 intro pins s σ H xs us Q I r h
 obtain ⟨p,ys,rfl,hq,q⟩:=h
 obtain ⟨u,rfl,rx⟩:=vals1 r
 cases rx
 have fin:∀ (its:List Value),Vals ys its→ys.length≤sizeLine→∀ (h':Heap) (c':Nat),(∀ b o',s.heap.get? b=some o'→h'.get? b=some o')→
   h'.get? s.heap.objs.size=some { cls:=.type "list",dict:=none,data:=.seq its.toArray c',slots:=#[] }→EP X pins σ Q (.ref s.heap.objs.size) { s with heap:=h' }:=fun its r' hz h' c' kp e=>
  ⟨.ref s.heap.objs.size,_,I.laid (t':=s.toks) kp (Nat.le_refl _) (show ObjOk X.prog X.w _ h' _ (.lst ys) from ⟨hz,its,c',r',e⟩),rfl,q _ (I.hok.fresh (Nat.le_refl _))⟩
 rcases hq with hq | hq
 ·obtain ⟨its,r',pl,hz⟩:=I.list hq
  have hlen:=r'.length
  obtain ⟨o,ho,hc,n,hd⟩:=pl.isList
  exact call_list_seq p (.inl rfl) ho hc hd (fun h' c' kp e=>fin its r' hz h' c' kp e) (by simp only [List.size_toArray] <;> omega)
 ·obtain ⟨its,r',pl,hz⟩:=I.tuple hq
  have hlen:=r'.length
  obtain ⟨o,ho,hc,n,hd⟩:=pl
  exact call_list_seq p (.inr rfl) ho hc hd (fun h' c' kp e=>fin its r' hz h' c' kp e) (by simp only [List.size_toArray] <;> omega)
theorem call_tuple_of:CallR X (.type "tuple") (fun xs H Q=>∃ p ys,xs=[.ref p]∧((SqL X.K H p ys∧∀ l,H l=none→Q (.ref l) (upd H l (.tup ys)))∨(SqT X.K H p ys∧Q (.ref p) H))):=by
 intro pins s σ H xs us Q I r h
 obtain ⟨p,ys,rfl,h⟩:=h
 obtain ⟨u,rfl,rx⟩:=vals1 r
 cases rx
 rcases h with ⟨hq,q⟩ | ⟨hq,q⟩
 ·obtain ⟨its,r',pl,hz⟩:=I.list hq
  have hlen:=r'.length
  refine call_tuple_list pl.isList (fun h' kp=>?_) (by simp only [List.size_toArray] <;> omega)
  have I1:Inv X pins σ H { s with heap:=h' }:=I.kept (t':=s.toks) kp
  have I2:Inv X pins σ (upd H h'.objs.size (.tup ys)) { s with heap:=h'.push { cls:=.type "tuple",data:=.seq its.toArray } }:=
   I1.laid (t':=s.toks) (fun b o e=>Heap.get?_push_of_some _ e) (Nat.le_refl _) (show ObjOk X.prog X.w _ _ _ (.tup ys) from ⟨hz,its,r',IsTup.new _ _⟩)
  exact ⟨.ref h'.objs.size,_,I2,rfl,q _ (I1.hok.fresh (Nat.le_refl _))⟩
 ·obtain ⟨its,r',pl,hz⟩:=I.tuple hq
  exact call_tuple_same pl ⟨.ref p,H,I,rfl,q⟩
def tyV (K:PySem.W.Frag) (T:String) (x:V) (H:Hp):Prop:=match x with
 | .str _=>T = "str"
 | .int _=>T = "int"
 | .ref p=>(T = "list"∧∃ xs,SqL K H p xs)∨(T = "tuple"∧∃ o,K.lookup p=some o∧o.cls=.type "tuple"∧o.dict=none)∨
   (T = "dict"∧((∃ kvs,H p=some (.dK kvs))∨∃ kvs,H p=some (.dT kvs)))∨(T = "set"∧∃ S n,H p=some (.set S n))
 | _=>False
theorem tyV_is {pins:List (Addr × Obj)} {σ:St} {H:Hp} {s:Shared} {T:String} {x:V} {v:Value} (I:Inv X pins σ H s) (r:RelV x v) (ty:tyV X.K T x H) :
  s.TypeIs v T∧∀ a,v=.ref a→∃ ob,s.heap.get? a=some ob∧ob.dict=none:=by
 cases x with
 | str z=>
  obtain ⟨t,rfl⟩:=r
  cases (show T = "str" from ty)
  exact ⟨typeIs_str s z t,fun _ e=>nomatch e⟩
 | int i=>
  obtain ⟨t,rfl⟩:=r
  cases (show T = "int" from ty)
  exact ⟨typeIs_int s i t,fun _ e=>nomatch e⟩
 | ref p=>
  cases r
  rcases ty with ⟨rfl,xs,hq⟩ | ⟨rfl,o,hk,hc,hd⟩ | ⟨rfl,hk⟩ | ⟨rfl,S,n,hk⟩
  ·obtain ⟨its,_,pl,_⟩:=I.list hq
   refine ⟨pl.isList.typeIs,fun a e=>?_⟩
   cases e
   obtain ⟨o,n,e,c,hd,_⟩:=pl
   exact ⟨o,e,hd⟩
  ·refine ⟨⟨o,I.kIn p o hk,hc⟩,fun a e=>?_⟩
   cases e
   exact ⟨o,I.kIn _ o hk,hd⟩
  ·have z:∃ o,s.heap.get? p=some o∧o.ExactDict:=by
    rcases hk with ⟨kvs,hk⟩ | ⟨kvs,hk⟩
    ·obtain ⟨_,_,_,_,o,_,_,e,ex,_⟩:=I.hok p _ hk
     exact ⟨o,e,ex⟩
    ·obtain ⟨_,_,_,_,o,_,_,e,ex,_⟩:=I.hok p _ hk
     exact ⟨o,e,ex⟩
   obtain ⟨o,e,ex⟩:=z
   refine ⟨⟨o,e,ex.1⟩,fun a e2=>?_⟩
   cases e2
   exact ⟨o,e,ex.2.1⟩
  ·obtain ⟨o,_,_,_,e,ex,_⟩:=I.hok p _ hk
   refine ⟨⟨o,e,ex.1⟩,fun a e2=>?_⟩
   cases e2
   exact ⟨o,e,ex.2.1⟩
 | _=>exact False.elim ty
def tBM (K:PySem.W.Frag) (T:String) (r:V→List V→Hp→VK→Prop) (to:TE) (t:TA):TE:=fun σ H Q=>to σ H fun x H1=>tyV K T x H1∧t σ H1 fun xs H2=>r x xs H2 Q
variable {o e:Expr} {es:List Expr} {to:TE} {t:TA} {name:Str} {apos cpos:Pos} {T id:String} {r:V→List V→Hp→VK→Prop}
theorem pe_bm (pa:PlainAttrs T) (slot:Slot T name id) (hty:typeOf (.builtin id)=pure (.type "method_descriptor")) (hm:MtR X id r) (ho:PE X o to) (ha:PA X (e :: es) t)
  (hbase:attributeBase o name X.env (eval o X.env)=eval o X.env:=by rfl)
  (hfew:((backTo cpos (starEach (e :: es) X.env)).all (fun x=>!x.1) && (backToKw cpos (keywordEach [] X.env)).all (fun x=>x.1.isSome)
   && decide ((e :: es).length+([]:List Keyword).length+(if ([]:List Keyword).isEmpty then 0 else 1) < 30))=true:=by rfl)
  (hline:(apos.endLine==cpos.line)=true:=by rfl) (hs:starEach (e :: es) X.env=(false,eval e X.env) :: starEach es X.env:=by rfl) (hplain:(backTo cpos (starEach es X.env)).any (·.1)=false:=by rfl) :
  PE X (.Call (.Attribute o name apos) (e :: es) [] cpos) (tBM X.K T r to t):=by
 intro pins s σ H Q I h
 refine wpAny_Call_method_late hbase hfew hline rfl (thn (ho pins s σ H _ I h) fun v s1 ⟨x,H1,I1,r1,ty,q1⟩=>?_)
 obtain ⟨h1,h2⟩:=tyV_is I1 r1 ty
 refine ⟨T,id,pa,slot,hty,h1,h2,?_⟩
 have hA:=ha cpos pins s1 σ H1 _ I1 q1
 rw [hs] at hA ⊢
 refine Calls.callWith_builtin (by show (false || (backTo cpos (starEach es X.env)).any (·.1))=false; rw [hplain] <;> rfl) (Calls.evalArgs_plain ?_)
 exact thn hA fun us s2 ⟨vs,H2,I2,r2,q2⟩=>hm pins s2 σ H2 x vs v us Q I2 r1 r2 q2
end
end L2
namespace L2
open PySem PySem.Spec PyProof.Rows
def MtM (X:Cx) (id:String) (r:V→List V→Hp→VK→Prop):Prop:=
 ∀ (pins:List (Addr × Obj)) (s:Shared) (σ:St) (H:Hp) (x:V) (xs:List V) (v:Value) (us:List Value) (Q:VK),Inv X pins σ H s→RelV x v→Vals xs us→r x xs H Q→
  wpAny (model X.prog X.w) X.A (call (.builtin id) (v :: us)) (EP X pins σ Q) X.xe s
theorem Vals.one:∀ {x:V} {us:List Value},Vals [x] us→∃ u,us=[u]∧RelV x u
 | _,_,.cons r .nil=>⟨_,rfl,r⟩
theorem Vals.two:∀ {x y:V} {us:List Value},Vals [x,y] us→∃ u v,us=[u,v]∧RelV x u∧RelV y v
 | _,_,_,.cons r (.cons q .nil)=>⟨_,_,rfl,r,q⟩
theorem Vals.zero:∀ {us:List Value},Vals [] us→us=[]
 | _,.nil=>rfl
theorem Vals.eraseIdx:∀ {xs:List V} {us:List Value} (i:Nat),Vals xs us→Vals (xs.eraseIdx i) (us.eraseIdx i)
 | _,_,_,.nil=>.nil
 | _,_,0,.cons _ t=>t
 | _,_,i+1,.cons r t=>.cons r (Vals.eraseIdx i t)
theorem Vals.reverse {xs:List V} {us:List Value} (h:Vals xs us):Vals xs.reverse us.reverse:=by
 induction h with
 | nil=>exact .nil
 | cons r t ih=>rw [List.reverse_cons,List.reverse_cons]; exact Vals.append ih (.cons r .nil)
theorem Vals.rep {xs:List V} {us:List Value} (h:Vals xs us):∀ k:Nat,Vals (List.replicate k xs).flatten (List.replicate k us).flatten
 | 0=>.nil
 | k+1=>by
  rw [List.replicate_succ,List.replicate_succ,List.flatten_cons,List.flatten_cons]
  exact Vals.append h (Vals.rep h k)
theorem len_erase {α:Type}:∀ (l:List α) (i:Nat),(l.eraseIdx i).length≤l.length
 | [],_=>Nat.le_refl _
 | _ :: _,0=>Nat.le_succ _
 | _ :: r,i+1=>Nat.succ_le_succ (len_erase r i)
theorem foldl_rep (its:List Value):∀ (k:Nat) (acc:List Value),
  List.foldl (fun x1 x2=>x1 ++ x2) acc.toArray (List.replicate k its.toArray)=(acc ++ (List.replicate k its).flatten).toArray
 | 0,acc=>by simp
 | k+1,acc=>by
  have e:acc.toArray ++ its.toArray=(acc ++ its).toArray:=by simp
  have e2:(acc ++ its) ++ (List.replicate k its).flatten=acc ++ (List.replicate (k+1) its).flatten:=by
   rw [List.replicate_succ,List.flatten_cons,List.append_assoc]
  rw [← e2,← foldl_rep its k (acc ++ its),← e,List.replicate_succ,List.foldl_cons]
section
variable {X:Cx} {pins:List (Addr × Obj)} {σ:St} {H:Hp} {s:Shared} {l b:Addr} {xs ys zs:List V}
theorem Inv.lset {its its':List Value} {n:Nat} {f:Array Value→Array Value} {t':Nat} (I:Inv X pins σ H s) (hH:H l=some (.lst xs))
  (e:s.heap.get? l=some { cls:=.type "list",data:=.seq its.toArray n }) (hf:f its.toArray=its'.toArray) (hv:Vals ys its') (hz:ys.length≤sizeLine) :
  Inv X pins σ (upd H l (.lst ys)) { s with heap:=s.heap.update l (Obj.mapSeq f),toks:=t' }:=by
 have q:=PySem.IsL.update e f
 rw [hf] at q
 refine I.write (x:=l) (e:=l) (by rw [hH]; exact trivial) (.inl rfl) (fun b' u hb hu=>(Heap.get?_update_other s.heap (Obj.mapSeq f) (Ne.symm hb)).trans hu) ⟨_,q⟩ ?_
 exact ⟨hz,its',_,hv,q⟩
theorem Inv.lnew {its:List Value} {t':Nat} (I:Inv X pins σ H s) (hv:Vals ys its) (hz:ys.length≤sizeLine) :
  Inv X pins σ (upd H s.heap.objs.size (.lst ys)) { s with heap:=s.heap.push { cls:=.type "list",data:=.seq its.toArray },toks:=t' }:=
 I.laid (fun _ _ q=>Heap.get?_push_of_some _ q) (Nat.le_refl _) ⟨hz,its,0,hv,Heap.get?_push_size _ rfl⟩
theorem Inv.fresh (I:Inv X pins σ H s):H s.heap.objs.size=none:=I.hok.fresh (Nat.le_refl _)
theorem Inv.lstM (I:Inv X pins σ H s) (hH:H l=some (.lst xs)):xs.length≤sizeLine∧∃ (its:List Value) (n:Nat),Vals xs its∧xs.length=its.length∧s.heap.get? l=some { cls:=.type "list",data:=.seq its.toArray n }:=by
 obtain ⟨z,its,n,r,e⟩:=I.hok l _ hH
 exact ⟨z,its,n,r,r.length,e⟩
end
section
variable {X:Cx}
def rAppend:V→List V→Hp→VK→Prop:=fun x vs H Q=>∃ l xs y,x=.ref l∧vs=[y]∧H l=some (.lst xs)∧xs.length < sizeLine∧Q .non (upd H l (.lst (xs ++ [y])))
theorem mt_append:MtM X "list.append" rAppend:=by
 intro pins s σ H x vs v us Q I rx rv h
 obtain ⟨l,xs,y,rfl,rfl,hH,hz,q⟩:=h
 cases rx
 obtain ⟨u,rfl,ru⟩:=rv.one
 obtain ⟨z,its,n,r,hl,e⟩:=I.lstM hH
 refine call_meets F.slot_list_append ⟨_,e,rfl⟩ F.entry_list_append (F.args_list_append_2 _ _) (PySem.list_append l its.toArray n u (by rw [List.size_toArray]; omega)) ⟨e,?_⟩
 refine ⟨.non,_,I.lset (its':=its ++ [u]) hH e (by simp) (r.append (.cons ru .nil)) ?_,rfl,q⟩
 rw [List.length_append,List.length_singleton]
 omega
def rPopAt:V→List V→Hp→VK→Prop:=fun x vs H Q=>∃ l xs i k y,x=.ref l∧vs=[.int i]∧H l=some (.lst xs)∧-(2 ^ 63)≤i∧i < 2 ^ 63∧seqIndex? i xs.length=some k∧xs[k]? = some y∧Q y (upd H l (.lst (xs.eraseIdx k)))
theorem mt_popAt:MtM X "list.pop" rPopAt:=by
 intro pins s σ H x vs v us Q I rx rv h
 obtain ⟨l,xs,i,k,y,rfl,rfl,hH,h1,h2,hk,hy,q⟩:=h
 cases rx
 obtain ⟨u,rfl,ru⟩:=rv.one
 obtain ⟨t,rfl⟩:=ru
 obtain ⟨z,its,n,r,hl,e⟩:=I.lstM hH
 obtain ⟨w,hw,rw'⟩:=r.get hy
 refine call_meets F.slot_list_pop ⟨_,e,rfl⟩ F.entry_list_pop (F.args_list_pop_2 _ _)
  (MeetsSeq.list_pop_at l its.toArray n i t k w (fitsIndex_both h1 h2) (by rw [List.size_toArray,← hl]; exact hk) (by rw [← Array.getElem?_toList]; exact hw) (by rw [List.size_toArray]; omega)) ⟨e,?_⟩
 refine ⟨y,_,I.lset (its':=its.eraseIdx k) hH e ?_ (r.eraseIdx k) ?_,rw',q⟩
 ·show its.toArray.eraseIdxIfInBounds k=(its.eraseIdx k).toArray
  rw [List.eraseIdxIfInBounds_toArray]
 ·have:=len_erase xs k
  omega
def rCat:R2:=fun x y H Q=>∃ l b xs zs,x=.ref l∧y=.ref b∧H l=some (.lst xs)∧H b=some (.lst zs)∧xs.length+zs.length≤sizeLine∧∀ p,H p=none→Q (.ref p) (upd H p (.lst (xs ++ zs)))
theorem op_cat:OpR X (binaryOp .Add) rCat:=by
 intro pins s σ H x y v u Q I rx ry h
 obtain ⟨l,b,xs,zs,rfl,rfl,hH,hB,hz,q⟩:=h
 cases rx
 cases ry
 obtain ⟨z,its,n,r,hl,e⟩:=I.lstM hH
 obtain ⟨z2,its2,n2,r2,hl2,e2⟩:=I.lstM hB
 refine PySem.P.add_list e e2 ?_ (by rw [List.size_toArray,List.size_toArray]; omega)
 have ea:its.toArray ++ its2.toArray=(its ++ its2).toArray:=by simp
 rw [ea]
 exact ⟨.ref _,_,I.lnew (t':=s.toks) (r.append r2) (by rw [List.length_append]; omega),rfl,q _ I.fresh⟩
theorem len_rep {α:Type} (xs:List α) (k:Nat):(List.replicate k xs).flatten.length=k * xs.length:=by
 induction k with
 | zero=>simp
 | succ k ih=>rw [List.replicate_succ,List.flatten_cons,List.length_append,ih,Nat.succ_mul,Nat.add_comm]
end
section
variable {prog:Program} {w:World} {A:Around} {E:Value→Shared→Prop} {s:Shared}
set_option maxRecDepth 100000 in
end
section
variable {X:Cx}
end
end L2
namespace Att
open PySem PySem.W PySem.Calls PyProof.Rows
theorem ints_of_wellAll {P:Params} {h:Heap}:∀ (ns:List Int) (vs:List Value),WellAll P h vs (ns.map WData.int)→IntsAre vs ns:=by
 intro ns
 induction ns with
 | nil=>
  intro vs w
  rw [List.map_nil] at w
  cases w
  exact .nil
 | cons n ns ih=>
  intro vs w
  rw [List.map_cons] at w
  cases w with
  | cons a b=>
   cases a
   exact .cons _ _ (ih _ b)
theorem script_of {l:OpenLaw} {n:Nat} (hn:l.most=some n) {P:Params} {h:Heap} {args:List WData} {vals:List Value}
  (hpre:l.row.toRowW.claim.pre args=true) (hwl:WellAll P h vals args) :
  ∃ a vs ns,vals=[Value.ref a]∧args=[WData.list (ns.map WData.int)]∧h.get? a=some { cls:=.type "list",data:=.seq vs.toArray }∧IntsAre vs ns∧ns.length≤n:=by
 have hsh:WShape.hasAll [] args [.list .int]=true:=(pre_splitW hpre).1
 have hc:l.pre.holds [] { args:=args } = true:=(pre_splitW hpre).2
 obtain ⟨d,r,rfl,h1,h2⟩:=hasAllW_cons hsh
 obtain rfl:=hasAllW_nil h2
 obtain ⟨xs,rfl,h3⟩:=hasW_list h1
 obtain ⟨ns,rfl⟩:=items_int h3
 have hlen:ns.length≤n:=by
  unfold OpenLaw.pre at hc
  have h4:(WTm.not (.lt (.lit (.int (n:Int))) (.len (.arg 0)))).holds [] { args:=[.list (ns.map .int)] } = true:=by
   have h4:=(holds_andW hc).1
   rw [hn] at h4
   exact h4
  have h5:=condW_of h4 (w_not (w_lt w_lit (w_len_list (w_arg rfl))))
  rw [List.length_map] at h5
  refine Nat.le_of_not_lt fun q=>?_
  have q':(n:Int) < ((ns.length:Nat):Int):=by omega
  first
   | (rw [decide_eq_true q'] at h5; exact absurd h5 (by decide))
   | (simp at h5; omega)
 cases hwl with
 | cons w1 w2=>
  cases w2
  cases w1 with
  | list ho hall=>exact ⟨_,_,ns,rfl,rfl,ho,ints_of_wellAll ns _ hall,hlen⟩
theorem post_true (l:OpenLaw) (args:List WData):l.row.toRowW.claim.post args (.bool true) args=true:=
 postW_of (r:=l.row.toRowW) (X:=(true==true))
  (show WShape.has [] (.bool true) .bool=true by first | rfl | decide | simp [WShape.has,WShape.arms,WShape.armsAll])
  (show (WTm.eq .res (.lit (.bool true))).value [] { args:=args,res:=some (.bool true),after:=args } = some (.bool (true==true)) from w_eq_bool (w_res rfl) w_lit) rfl
theorem attach_call {l:OpenLaw} {n:Nat} {q:Program} {loose:List Str} {XP:(Str→Option Value)→Heap→Prop} {YP:World→Heap→Prop} {d:DefRec}
  (hn:l.most=some n) (hdf:d.params.defaults=[])
  (call:∀ (w:World) (s₀ s₁:Shared) (mg mb:Str→Option Value) (fa:Addr) (o:Obj) (pm cd doc:Value) (a:Addr) (vs:List Value) (ns:List Int),
   Ground q loose [] XP w s₀ mg mb s₁.heap→YP w s₁.heap→
   s₁.heap.get? fa=some o→o.data=.func (docDef d.name d.params d.body d.scope pm cd doc)→s₁.heap.CodeRec cd d.name→mg d.name=some (.ref fa)→
   s₁.heap.get? a=some { cls:=.type "list",data:=.seq vs.toArray }→IntsAre vs ns→ns.length≤n→s₁.gens = #[]→
   codeAny (model l.prog w) callerA (.call (.ref fa) ⟨[.ref a],[]⟩) (fun r s'=>r=.ok (.ret (.bool true))∧OldK s₁.heap s'.heap∧s'.os=s₁.os∧AllBare s'.gens) s₁) :
  WalkO q loose XP YP l.row.toRowW d [] (fun f vs=>PySem.call f vs):=by
 intro w s₀ s₁ mg mb G Y fa o pm cd doc dV kV ho hd hcd hD hmg hg args vals as hpre hlay hrd hwl hlo
 obtain rfl:dV=.none:=Dflts.none hD hdf
 obtain rfl:kV=.none:=Dflts.noKw hD
 obtain ⟨a,vs,ns,rfl,rfl,hobj,hints,hlen⟩:=script_of hn hpre hwl
 refine enter_call (codeAny_mono (call w s₀ s₁ mg mb fa o pm cd doc a vs ns G Y ho (fd_plain hd) hcd hmg hobj hints hlen hg) fun r s' hq=>?_)
 obtain ⟨rfl,h2,h3,h4⟩:=hq
 exact ⟨.inl ⟨.bool true,.bool true,[],rfl,fun _=>rfl,.bool true,post_true l _,fun _=>⟨List.Pairwise.nil,fun _ hm=>(nomatch hm)⟩⟩,h2,h3,h4⟩
section
variable {prog:Program} {w:World} {A:Around} {E:Value→Shared→Prop} {s:Shared} {K:Frag}
def ledger (h:Heap) (L d:Addr):List (Addr × Obj):=(List.range h.objs.size).filterMap fun a=>if a=L∨a=d then none else (h.get? a).map fun o=>(a,o)
end
end Att
namespace L2
open PySem PySem.Spec PyProof.Rows
theorem vals_ints:∀ {vs:List Value} {ns:List Int},IntsAre vs ns→Vals (ns.map V.int) vs
 | _,_,.nil=>.nil
 | _,_,.cons n t h=>.cons ⟨t,rfl⟩ (vals_ints h)
def Only (H:Hp):Prop:=∀ b,H b=none∨∃ o xs,H b=some (.frz o (.lst xs))
theorem law_call {P:Program} {w:World} {K:PySem.W.Frag} {mg mb:Str→Option Value} {CX:CXT} {k:Nat} {fa a:Addr} {fd:FuncData} {x:Str} {sp:Sp} {s₁:Shared} {vs:List Value} {ns:List Int}
  (KX:K.In s₁.heap) (hns:s₁.heap.Ns mainGlobals mg) (hb:s₁.heap.Ns builtinsNs mb) (hbb:∀ x:Str,x≠"__name__"→mb x=bootBuiltins x) (hlim:s₁.heap.NoLimit) (hg:s₁.gens = #[])
  (ha:s₁.heap.get? a=some { cls:=.type "list",data:=.seq vs.toArray }) (hi:IntsAre vs ns) (hl:ns.length≤sizeLine) (hr:Room k callerA)
  (F:∀ base:Heap,K.In base→base.Ns mainGlobals mg→FnOk P w K mg base CX k fa fd [x] sp) (hbind:∀ (s:Shared) (u:Value),BindsTo s fd ⟨[u],[]⟩ [(x,u)])
  (hsp:∀ H:Hp,Only H→SqL K H a (ns.map V.int)→sp [.ref a] H (fun v _=>v=.bl true) fun _ _ _=>False)
  (hCX:∀ H e s',CX [] H s₁ (fun _ _ _=>False) e s'→False) :
  codeAny (model P w) callerA (.call (.ref fa) ⟨[.ref a],[]⟩) (fun r s'=>r=.ok (.ret (.bool true))∧OldK s₁.heap s'.heap∧s'.os=s₁.os∧AllBare s'.gens) s₁:=by
 have rv:=vals_ints hi
 have lenV:=hi.length
 have core:∀ H:Hp,Only H→SqL K H a (ns.map V.int)→HOk P w H s₁.heap→(∀ b,H b≠none→b=a)→(H a≠none→K.lookup a=none)→
   codeAny (model P w) callerA (.call (.ref fa) ⟨[.ref a],[]⟩) (fun r s'=>r=.ok (.ret (.bool true))∧OldK s₁.heap s'.heap∧s'.os=s₁.os∧AllBare s'.gens) s₁:=by
  intro H hO hS hok hA hK
  have base_of:∀ {b:Addr} {o:Obj},s₁.heap.get? b=some o→H b=none→(hidT s₁.heap H).get? b=some o:=fun e n=>hidT_get e n
  have noA:∀ {b:Addr} {o:Obj} {es:Array DictEntry} {ep:Nat},s₁.heap.get? b=some o→o.data=.dict es ep→H b=none:=fun {b o es ep} e d=>by
   cases q:H b with
   | none=>rfl
   | some u=>
    have e':b=a:=hA b (by rw [q]; simp)
    subst e'
    rw [ha] at e; cases e
    have d':Data.seq vs.toArray _=Data.dict es ep:=d
    cases d'
  have nsK:∀ {b:Addr} {m:Str→Option Value},s₁.heap.Ns b m→(hidT s₁.heap H).Ns b m:=fun {b m} ⟨o,es,ep,e,d,r⟩=>⟨o,es,ep,base_of e (noA e d),d,r⟩
  have hKb:K.In (hidT s₁.heap H):=fun b o e=>base_of (KX b o e) (by
   cases q:H b with
   | none=>rfl
   | some u=>
    have e':b=a:=hA b (by rw [q]; simp)
    subst e'
    rw [hK (by rw [q]; simp)] at e; cases e)
  have hM:Mod K mg (hidT s₁.heap H):=⟨hKb,nsK hns,⟨mb,nsK hb,hbb⟩,let ⟨mc,h1,h2⟩:=hlim; ⟨mc,nsK h1,h2⟩⟩
  have e0:Env0 P w K mg (hidT s₁.heap H) callerA [] s₁ H:=⟨rfl,hM,fun b o e=>of_hidT e,Nat.le_of_eq (hidT_size _ _),trivial,fun b hb=>absurd (show b∈([]:List Addr) from hb) (by simp),hok,.of_eq hg⟩
  refine codeAny_mono ((F _ hKb (nsK hns)).run callerA [] s₁ H ⟨[.ref a],[]⟩ [.ref a] [.ref a] _ _ hr e0 (hbind s₁ (.ref a)) (.cons rfl .nil) (hsp H hO hS)) fun r s' h=>?_
  cases r with
  | error e=>exact (hCX H e s' h).elim
  | ok fl=>
   cases fl with
   | next=>exact False.elim h
   | brk=>exact False.elim h
   | cont=>exact False.elim h
   | ret u=>
    obtain ⟨v,H',os,bare,un,hok',r',q⟩:=h
    have q':v=.bl true:=q
    subst q'
    obtain rfl:u=Value.bool true:=r'
    refine ⟨rfl,OldK.of_keep fun b o e=>?_,os,bare⟩
    cases q:H b with
    | none=>exact un.keep b o e q (by intro z; exact absurd (show b∈([]:List Addr) from z) (by simp)) (by simp)
    | some u=>
     rcases hO b with z | ⟨ob,xs,z⟩
     ·rw [q] at z; cases z
     ·have z2:=un.frzs b ob _ z
      obtain ⟨e1,_⟩:=hok b _ z
      obtain ⟨e2,_⟩:=hok' b _ z2
      rw [e] at e1; cases e1
      exact e2
 cases hk:K.lookup a with
 | some o=>
  have e:=KX a o hk
  rw [ha] at e
  cases e
  refine core (fun _=>none) (fun _=>.inl rfl) (.inr ⟨_,vs.toArray,_,hk,rfl,rfl,rfl,by rw [List.size_toArray,lenV]; exact hl,by simpa using rv⟩) (fun b u z=>by have z':(none:Option HO)=some u:=z; cases z') (fun b z=>absurd rfl z) fun z=>absurd rfl z
 | none=>
  refine core (fun b=>if b=a then some (.frz { cls:=.type "list",data:=.seq vs.toArray } (.lst (ns.map V.int))) else none) (fun b=>?_) (.inl (.inr ⟨{ cls:=.type "list",data:=.seq vs.toArray },if_pos rfl⟩)) (fun b u z=>?_) (fun b z=>?_) fun _=>hk
  ·by_cases hb:b=a
   ·exact .inr ⟨_,_,if_pos hb⟩
   ·exact .inl (if_neg hb)
  ·by_cases hb:b=a
   ·have z':=(if_pos hb).symm.trans z
    cases z'
    subst hb
    exact ⟨ha,by rw [List.length_map]; exact hl,vs,_,rv,ha⟩
   ·have z':=(if_neg hb).symm.trans z
    cases z'
  ·by_cases hb:b=a
   ·exact hb
   ·exact absurd (if_neg hb) z
end L2
namespace L2
open PySem PySem.Spec PyProof.Rows
abbrev KOf {K:PySem.W.Frag} {h:Heap} (_:K.In h):PySem.W.Frag:=K
theorem walk_of {l:PySem.W.OpenLaw} {n k:Nat} {q:Program} {loose:List Str} {XP:(Str→Option Value)→Heap→Prop} {YP:World→Heap→Prop} {d:DefRec} {K:Params→PySem.W.Frag} {CX:World→CXT} {sp:World→Sp} {x:Str}
  (hn:l.most=some n) (hn2:n≤sizeLine) (hdf:d.params.defaults=[]) (hr:Room k callerA)
  (hY:∀ (w:World) (h:Heap),YP w h→(K w.params).In h)
  (F:∀ (w:World) (mg:Str→Option Value) (fa:Addr) (h:Heap),(K w.params).In h→h.Ns mainGlobals mg→mg d.name=some (.ref fa)→
   ∃ fd:FuncData,(∀ (s:Shared) (u:Value),BindsTo s fd ⟨[u],[]⟩ [(x,u)])∧
    ∀ base:Heap,(K w.params).In base→base.Ns mainGlobals mg→FnOk l.prog w (K w.params) mg base (CX w) k fa fd [x] (sp w))
  (hsp:∀ (w:World) (H:Hp) (a:Addr) (ns:List Int),ns.length≤n→Only H→SqL (K w.params) H a (ns.map V.int)→sp w [.ref a] H (fun v _=>v=.bl true) fun _ _ _=>False)
  (hCX:∀ (w:World) (H:Hp) (s:Shared) (e:Value) (s':Shared),CX w [] H s (fun _ _ _=>False) e s'→False) :
  PySem.W.WalkO q loose XP YP l.row.toRowW d [] (fun f vs=>PySem.call f vs):=by
 refine Att.attach_call hn hdf fun w s₀ s₁ mg mb fa o pm cd doc a vs ns G Y ho hd hcd hmg hobj hints hlen hg=>?_
 have KX:=hY w _ Y
 obtain ⟨fd,hb,hF⟩:=F w mg fa _ KX G.T.g hmg
 exact law_call KX G.T.g G.T.b G.T.builtins G.T.nolimit hg hobj hints (Nat.le_trans hlen hn2) hr hF hb (fun H hO hS=>hsp w H a ns hlen hO hS) fun H e s'=>hCX w H s₁ e s'
end L2
/- THE LAST THEOREM (shape; LID,My.* are yours):
   My.Adr: a structure of the addresses that your layer names (classes,functions); My.Txt K t: a structure (Prop) of the equations over K;
   My.txt_mk:{K} {implicit addresses ..} (e1:nsIn K mainGlobals "law" = some (some (.ref f))) (e2:K.lookup f=some ⟨oc,od,.func (fnOf "law" "law" params body scope dV kV doc pm an cdv ct),sl⟩) (e3:codeIn K cdv "law" = true) .. : ∃ t,My.Txt K t
set_option maxRecDepth 100000 in
set_option maxHeartbeats 0 in
theorem PySem.Challenge.cw_LID_holds : PySem.Challenge.rw_LID.Holds := by
 w_on; o_law; k_head; (case hw=>w_witness2)
 k_fill
 refine L2.walk_of (l:=PySem.Challenge.rw_LID) (n:=63) (k:=40) (x:="script") (CX:=fun w=>..) (sp:=fun _=>My.sp_law) rfl (by decide) rfl ⟨rfl,by decide,by decide⟩ (fun w h Y=>PySem.W.kIn_of Y) ?F ?S ?C
 case F=>
  intro w mg fa h KX G hmg
  have T:∃ t,My.Txt (L2.KOf KX) t:=by
   dsimp only [L2.KOf]                          -- K must stand as «<heap const> w.params» for k_is
   refine' My.txt_mk ?e1 ?e2 ?e3 ..
   (case e1=>PySem.W.k_is)                    -- in the order: a name -> its address -> its object -> its parts
   (case e2=>PySem.W.k_is)
   ..
  obtain ⟨t,T⟩:=T
  have e0:=hmg.symm.trans (PySem.W.mg_of KX G T.law)
  cases e0                                       -- fa is the law's own address
  exact ⟨_,fun s u=>.of_eq rfl,fun base kb nb=>My.law_fn T kb nb⟩     -- if «.of_eq rfl» comes too early: refine' ⟨_,?b,fun base kb nb=>My.law_fn T kb nb⟩; exact fun s u=>.of_eq rfl
 case S=>exact fun w H a ns hl hO hS=>..
 case C=>exact ..
(the tactic k_is has no namespace: write k_is) -/
namespace L2
open PySem PySem.Spec PyProof.Rows
def defArgs (s:Stmt):Arguments:=match s with
 | .FunctionDef _ a _ _ _ _ _ _ _ _=>a
 | _=>{ posonlyargs:=[],args:=[],vararg:=none,kwonlyargs:=[],kw_defaults:=[],kwarg:=none,defaults:=[] }
def defBody (s:Stmt):List Stmt:=match s with
 | .FunctionDef _ _ b _ _ _ _ _ _ _=>b
 | _=>[]
def defScope (s:Stmt):Scope:=match s with
 | .FunctionDef _ _ _ _ _ _ sc _ _ _=>sc
 | _=>{ kind:=.function,names:=[],isGenerator:=false,isCoroutine:=false }
abbrev CX0:CXT:=fun _ _ _ _ _ _=>False
abbrev E0:XK:=fun _ _ _=>False
theorem pass0 {X:Cx}:Passes CX0 X E0:=fun _ _ _ _ _ _ _ h=>h.elim
structure Fun (K:PySem.W.Frag) (x qual:Str) (st:Stmt) (f:Addr) (fd:FuncData):Prop where
 ex:∃ (oc:Value) (od:Option Addr) (kV doc pm:Value) (an:Option Addr) (cdv ct:Value) (osl:Array (Option Value)),
  fd=PySem.W.fnOf x qual (defArgs st) (defBody st) (defScope st) .none kV doc pm an cdv ct∧K.lookup f=some ⟨oc,od,.func fd,osl⟩∧PySem.W.codeIn K cdv qual=true
 kp:PySem.W.keepIn K (.ref f)=true
section
variable {P:Program} {w:World} {K:PySem.W.Frag} {mg:Str→Option Value} {base:Heap}
theorem Fun.ok {x qual:Str} {st:Stmt} {f:Addr} {fd:FuncData} {N ps:List Str} {k:Nat} {sp:Sp} (F:Fun K x qual st f fd) (S:FnScope N ps (defScope st)) (len:∀ vs H Q E,sp vs H Q E→vs.length=ps.length)
  (hbody:∀ (cdv:Value) (A:Around) (outer:List Env) (s:Shared) (H:Hp) (vs:List V) (Q:VK) (E:XK),Room k (A.deeper (envOfC qual (defScope st) s.heap.objs.size f cdv))→sp vs H Q E→
   ∃ t,PSs (cxOf CX0 P w K mg base N qual (defScope st) f cdv A outer s H E).nox (defBody st) t∧t { nx:=fun _ H'=>Q .non H',rt:=Q } (start N vs) H):FnOk P w K mg base CX0 (k+1) f fd ps sp:=by
 obtain ⟨oc,od,kV,doc,pm,an,cdv,ct,osl,rfl,lk,hcd⟩:=F.ex
 refine fn_of lk hcd S len fun A outer s H vs Q E hr hsp=>?_
 obtain ⟨t,h,q⟩:=hbody cdv A outer s H vs Q E hr hsp
 exact ⟨t,h.nox,q⟩
theorem Fun.binds {x qual:Str} {st:Stmt} {f:Addr} {fd:FuncData} {ps:List Str} (F:Fun K x qual st f fd)
  (h:∀ (kV doc pm:Value) (an:Option Addr) (cdv ct:Value) (us:List Value),us.length=ps.length→bindArgs (PySem.W.fnOf x qual (defArgs st) (defBody st) (defScope st) .none kV doc pm an cdv ct) ⟨us,[]⟩=pure (ps.zip us)):Binds K fd ps []:=by
 obtain ⟨oc,od,kV,doc,pm,an,cdv,ct,osl,rfl,lk,hcd⟩:=F.ex
 exact .all (h kV doc pm an cdv ct)
theorem fun_mk {x qual:Str} {st:Stmt} {f:Addr} {oc:Value} {od an:Option Addr} {osl:Array (Option Value)} {kV doc pm cdv ct:Value} (l:K.lookup f=some ⟨oc,od,.func (PySem.W.fnOf x qual (defArgs st) (defBody st) (defScope st) .none kV doc pm an cdv ct),osl⟩)
  (c:PySem.W.codeIn K cdv qual=true) (k:PySem.W.keepIn K (.ref f)=true):Fun K x qual st f (PySem.W.fnOf x qual (defArgs st) (defBody st) (defScope st) .none kV doc pm an cdv ct):=⟨⟨oc,od,kV,doc,pm,an,cdv,ct,osl,rfl,l,c⟩,k⟩
end
theorem hu_of {A:Around} {k:Nat} (hr:Room k A):A.units+1 < cLine:=Nat.lt_of_le_of_lt (Nat.add_le_add_left (by decide:1≤64) _) hr.units
theorem small1000 {n:Nat} (h:n≤1000):n < sizeLine:=Nat.lt_of_le_of_lt h (by decide)
section
variable {X:Cx}
theorem pv (i:Nat) {x:Str} {pos:Pos} (hN:X.N[i]? = some x:=by rfl) (hv:Vis X.env.scope x:=by first | exact Or.inl rfl | exact Or.inr (Or.inl rfl) | exact Or.inr (Or.inr rfl)) (hd:(x==("__debug__" : Str))=false:=by decide)
  (hcd:(x==("__classdict__" : Str))=false:=by decide):PE X (.Name x pos) (tVar i):=pe_var hN hv hd hcd
end
theorem iteF {A B:Prop} (h:B):if false=true then A else B:=by
 rw [if_neg Bool.false_ne_true]
 exact h
theorem iteT {A B:Prop} (h:A):if true=true then A else B:=by
 rw [if_pos rfl]
 exact h
theorem ite2 {c A B:Prop} [Decidable c] (h1:c→A) (h2:¬ c→B):if c then A else B:=by
 by_cases h:c
 ·rw [if_pos h]
  exact h1 h
 ·rw [if_neg h]
  exact h2 h
theorem iteNS {c A B:Prop} [Decidable c] (hc:c) (h:B):if (!decide c)=true then A else B:=by
 rw [decide_eq_true hc]
 exact iteF h
def Same (H H':Hp):Prop:=∀ b o,H b=some o→H' b=some o
theorem Same.refl (H:Hp):Same H H:=fun _ _ h=>h
theorem Same.trans {H H1 H2:Hp} (a:Same H H1) (b:Same H1 H2):Same H H2:=fun c o h=>b c o (a c o h)
theorem Same.free {H H':Hp} (e:Same H H') {l:Addr} (h:H' l=Option.none):H l=Option.none:=by
 cases q:H l with
 | none=>rfl
 | some o=>
  rw [e l o q] at h
  cases h
theorem Same.seq {K:PySem.W.Frag} {H H':Hp} {a:Addr} {xs:List V} (e:Same H H') (h:SqL K H a xs):SqL K H' a xs:=by
 rcases h with (h | ⟨o,h⟩) | h
 ·exact .inl (.inl (e _ _ h))
 ·exact .inl (.inr ⟨o,e _ _ h⟩)
 ·exact .inr h
end L2
namespace L2
open PySem PySem.Spec PyProof.Rows
section
variable {κ:Type} [DecidableEq κ]
def valV (kvs:List (κ × V)) (k:κ):Option V:=(kvs.find? fun kv=>decide (kv.1=k)).map (·.2)
def putK (kvs:List (κ × V)) (k:κ) (v:V):List (κ × V):=
 if (kvs.any fun kv=>decide (kv.1=k))=true then kvs.map (fun kv=>if kv.1=k then (kv.1,v) else kv) else kvs ++ [(k,v)]
theorem valV_pos {p:κ × V} {r:List (κ × V)} {k:κ} (e:p.1=k):valV (p :: r) k=some p.2:=by simp [valV,List.find?_cons,e]
theorem valV_neg {p:κ × V} {r:List (κ × V)} {k:κ} (e:¬ p.1=k):valV (p :: r) k=valV r k:=by simp [valV,List.find?_cons,e]
theorem RelO.getD {o:Option V} {u:Option Value} {d:V} {d':Value} (r:RelO o u) (rd:RelV d d'):RelV (o.getD d) (u.getD d'):=by
 cases o with
 | none=>cases u with
  | none=>exact rd
  | some _=>exact (show False from r).elim
 | some _=>cases u with
  | none=>exact (show False from r).elim
  | some _=>exact r
theorem KV.val {kvs:List (κ × V)} {vs:List (κ × Value)} (r:KV kvs vs) (k:κ):RelO (valV kvs k) (valueAt vs k):=by
 unfold KV at r
 induction r with
 | nil=>exact True.intro
 | @cons p q ps qs h t ih=>
  obtain ⟨h1,h2⟩:=h
  by_cases e:p.1=k
  ·have e':q.1=k:=h1.symm.trans e
   have b:valueAt (q :: qs) k=some q.2:=by simp [valueAt,List.find?_cons,e']
   rw [valV_pos e,b]; exact h2
  ·have e':¬ q.1=k:=fun z=>e (h1.trans z)
   have b:valueAt (q :: qs) k=valueAt qs k:=by simp [valueAt,List.find?_cons,e']
   rw [valV_neg e,b]; exact ih
theorem KV.keys {kvs:List (κ × V)} {vs:List (κ × Value)} (r:KV kvs vs):kvs.map (·.1)=vs.map (·.1):=by
 unfold KV at r
 induction r with
 | nil=>rfl
 | cons h t ih=>rw [List.map_cons,List.map_cons,ih,h.1]
end
abbrev KT (H:Hp):List (List Key × V)→List (List Key × Addr × Value)→Prop:=Paired fun p q=>p.1=q.1∧H q.2.1=some (.tup (p.1.map kV))∧RelV p.2 q.2.2
theorem KT.val {H:Hp} {kvs:List (List Key × V)} {xs:List (List Key × Addr × Value)} (r:KT H kvs xs) (k:List Key):RelO (valV kvs k) ((atKey xs k).map (·.2)):=by
 induction r with
 | nil=>exact True.intro
 | @cons p q ps qs h t ih=>
  obtain ⟨h1,_,h2⟩:=h
  by_cases e:p.1=k
  ·have e':q.1=k:=h1.symm.trans e
   have b:atKey (q :: qs) k=some q.2:=by simp [atKey,List.find?_cons,e']
   rw [valV_pos e,b]; exact h2
  ·have e':¬ q.1=k:=fun z=>e (h1.trans z)
   have b:atKey (q :: qs) k=atKey qs k:=by simp [atKey,List.find?_cons,e']
   rw [valV_neg e,b]; exact ih
theorem KT.keeps {H H':Hp} {kvs:List (List Key × V)} {xs:List (List Key × Addr × Value)} (r:KT H kvs xs) (ht:∀ b ys,H b=some (.tup ys)→H' b=some (.tup ys)):KT H' kvs xs:=
 Paired.mapP r fun _ _ z=>⟨z.1,ht _ _ z.2.1,z.2.2⟩
section
variable {P:Program} {w:World} {H:Hp} {h:Heap} {a:Addr}
end
def DGet (H:Hp) (a:Addr) (y:V) (r:Option V):Prop:=
 (∃ kvs k,Rd H a (.dK kvs)∧y=kV k∧r=valV kvs k)∨∃ kvs k b,Rd H a (.dT kvs)∧y=.ref b∧H b=some (.tup (k.map kV))∧r=valV kvs k
def DPut (H:Hp) (a:Addr) (y v:V) (H':Hp):Prop:=
 (∃ kvs k,H a=some (.dK kvs)∧y=kV k∧kvs.length < sizeLine∧H'=upd H a (.dK (putK kvs k v)))∨
 ∃ kvs k b,H a=some (.dT kvs)∧y=.ref b∧H b=some (.tup (k.map kV))∧kvs.length < sizeLine∧H'=upd H a (.dT (putK kvs k v))
theorem DGet.k {H:Hp} {a:Addr} {kvs:List (Key × V)} {k:Key} (e:H a=some (.dK kvs)):DGet H a (kV k) (valV kvs k):=.inl ⟨kvs,k,.inl e,rfl,rfl⟩
theorem DGet.t {H:Hp} {a b:Addr} {kvs:List (List Key × V)} {k:List Key} (e:H a=some (.dT kvs)) (eb:H b=some (.tup (k.map kV))):DGet H a (.ref b) (valV kvs k):=.inr ⟨kvs,k,b,.inl e,rfl,eb,rfl⟩
theorem DPut.k {H:Hp} {a:Addr} {kvs:List (Key × V)} {k:Key} {v:V} (e:H a=some (.dK kvs)) (hl:kvs.length < sizeLine):DPut H a (kV k) v (upd H a (.dK (putK kvs k v))):=.inl ⟨kvs,k,e,rfl,hl,rfl⟩
theorem DPut.t {H:Hp} {a b:Addr} {kvs:List (List Key × V)} {k:List Key} {v:V} (e:H a=some (.dT kvs)) (eb:H b=some (.tup (k.map kV))) (hl:kvs.length < sizeLine) :
  DPut H a (.ref b) v (upd H a (.dT (putK kvs k v))):=.inr ⟨kvs,k,b,e,rfl,eb,hl,rfl⟩
section
variable {X:Cx} {pins:List (Addr × Obj)} {σ:St} {H:Hp} {s:Shared} {a:Addr} {y v:V} {u r:Value} {o:Option V} {A:Around} {E:Value→Shared→Prop}
theorem Inv.big (I:Inv X pins σ H s):sysModules < s.heap.objs.size:=by
 have h:mainGlobals < s.heap.objs.size:=(I.mod.glob.keeps I.bk).lt
 exact Nat.lt_trans (by decide) h
end
section
variable {X:Cx} {pins:List (Addr × Obj)} {σ:St} {H:Hp} {s:Shared} {a:Addr} {kvs:List (Key × V)} {k:Key} {u:Value} {A:Around} {E:Value→Shared→Prop}
end
section
variable {X:Cx} {o i e value:Expr} {pos pos' tpos:Pos} {td ty tv:TE}
end
section
variable {X:Cx} {pos:Pos}
end
section
variable {X:Cx} {pins:List (Addr × Obj)} {σ:St} {H:Hp} {s:Shared} {a:Addr} {y d:V} {u r:Value} {o:Option V} {A:Around} {E:Value→Shared→Prop}
end
section
variable {X:Cx} {o e f:Expr} {apos cpos:Pos} {td ty tx:TE}
end
end L2
namespace L2
open PySem PySem.Spec PyProof.Rows
def clOf (env:Env):List (Str × NameKind)→List (Str × Addr)→List (Str × Addr)
 | [],acc=>acc
 | (n,.free) :: r,acc=>clOf env r ((n,(env.cells.lookup n).getD 0) :: acc)
 | _ :: r,acc=>clOf env r acc
def ClGood (env:Env) (acc:List (Str × Addr)):Prop:=∀ y c,acc.lookup y=some c→c=(env.cells.lookup y).getD 0
theorem clOf_skip {env:Env} {n:Str} {k:NameKind} {r:List (Str × NameKind)} {acc:List (Str × Addr)} (h:k≠.free):clOf env ((n,k) :: r) acc=clOf env r acc:=by
 cases k <;> first | rfl | exact absurd rfl h
theorem clOf_good {env:Env}:∀ (names:List (Str × NameKind)) (acc:List (Str × Addr)),ClGood env acc→ClGood env (clOf env names acc)
 | [],acc,h=>h
 | (n,k) :: r,acc,h=>by
  by_cases hk:k=.free
  ·subst hk
   refine clOf_good r _ fun y c e=>?_
   rw [List.lookup_cons] at e
   by_cases hy:y=n
   ·subst hy
    simp only [beq_self_eq_true] at e
    exact (Option.some.inj e).symm
   ·have hb:(y==n)=false:=by simpa using hy
    rw [hb] at e
    exact h y c e
  ·rw [clOf_skip hk]
   exact clOf_good r acc h
theorem clOf_has {env:Env} {x:Str}:∀ (names:List (Str × NameKind)) (acc:List (Str × Addr)),((∃ c,acc.lookup x=some c)∨(x,NameKind.free)∈names)→∃ c,(clOf env names acc).lookup x=some c
 | [],acc,h=>by
  rcases h with h | h
  ·exact h
  ·cases h
 | (n,k) :: r,acc,h=>by
  by_cases hk:k=.free
  ·subst hk
   refine clOf_has r _ ?_
   rw [List.lookup_cons]
   by_cases hy:x=n
   ·subst hy
    exact .inl ⟨(env.cells.lookup x).getD 0,by simp only [beq_self_eq_true]⟩
   ·have hb:(x==n)=false:=by simpa using hy
    rw [hb]
    rcases h with h | h
    ·exact .inl h
    ·rcases List.mem_cons.mp h with h | h
     ·exact absurd (congrArg Prod.fst h) hy
     ·exact .inr h
  ·rw [clOf_skip hk]
   refine clOf_has r acc ?_
   rcases h with h | h
   ·exact .inl h
   ·rcases List.mem_cons.mp h with h | h
    ·exact absurd (congrArg Prod.snd h).symm hk
    ·exact .inr h
theorem clOf_mem {env:Env} {x:Str} {c:Addr}:∀ (names:List (Str × NameKind)) (acc:List (Str × Addr)),(clOf env names acc).lookup x=some c→acc.lookup x=some c∨(x,NameKind.free)∈names
 | [],acc,h=>.inl h
 | (n,k) :: r,acc,h=>by
  by_cases hk:k=.free
  ·subst hk
   rcases clOf_mem r _ h with h1 | h1
   ·rw [List.lookup_cons] at h1
    by_cases hy:x=n
    ·subst hy
     exact .inr List.mem_cons_self
    ·have hb:(x==n)=false:=by simpa using hy
     rw [hb] at h1
     exact .inl h1
   ·exact .inr (List.mem_cons_of_mem _ h1)
  ·rw [clOf_skip hk] at h
   rcases clOf_mem r acc h with h1 | h1
   ·exact .inl h1
   ·exact .inr (List.mem_cons_of_mem _ h1)
theorem forIn_cl {env:Env} {f:Str × NameKind→List (Str × Addr)→Sem (ForInStep (List (Str × Addr)))} (h1:∀ n k r,k≠NameKind.free→f (n,k) r=pure (.yield r))
  (h2:∀ n r c,env.cells.lookup n=some c→f (n,.free) r=pure (.yield ((n,c) :: r))) :
  ∀ (names:List (Str × NameKind)) (acc:List (Str × Addr)),(∀ y∈names,y.2=NameKind.free→∃ c,env.cells.lookup y.1=some c)→forIn names acc f=pure (clOf env names acc)
 | [],acc,_=>rfl
 | (n,k) :: r,acc,hc=>by
  have hr:∀ y∈r,y.2=NameKind.free→∃ c,env.cells.lookup y.1=some c:=fun y hy=>hc y (List.mem_cons_of_mem _ hy)
  rw [List.forIn_cons]
  by_cases hk:k=.free
  ·subst hk
   obtain ⟨c,e⟩:=hc (n,.free) List.mem_cons_self rfl
   rw [h2 n acc c e,pure_bind]
   show forIn r ((n,c) :: acc) f=_
   rw [forIn_cl h1 h2 r _ hr]
   show _=pure (clOf env r ((n,(env.cells.lookup n).getD 0) :: acc))
   rw [e]
   rfl
  ·rw [h1 n k acc hk,pure_bind,clOf_skip hk]
   exact forIn_cl h1 h2 r acc hr
theorem closure_is {env:Env} {scope:Scope} (hc:∀ y∈scope.names,y.2=NameKind.free→∃ c,env.cells.lookup y.1=some c):closureFor scope env=pure (clOf env scope.names []):=by
 unfold closureFor
 dsimp only
 rw [forIn_cl (env:=env) ?_ ?_ scope.names [] hc]
 ·rfl
 ·intro n k r hk
  have hb:(k==NameKind.free)=false:=by simpa using hk
  simp only [hb,Bool.false_eq_true,if_false]
 ·intro n r c e
  simp only [cellOf,e,beq_self_eq_true,if_true,pure_bind]
structure CompOk (sc:Scope) (Nm own:List Str) (fr:List Nat) (scope:Scope):Prop where
 kind:scope.kind=.function
 nocell:∀ y∈scope.names,y.2≠NameKind.cell
 free:∀ y∈scope.names,y.2=NameKind.free→sc.names.lookup y.1=some .cell∨sc.names.lookup y.1=some .free
 locs:∀ y∈scope.names,y.2=NameKind.local→scope.names.lookup y.1=some .local
 frs:∀ j∈fr,j < Nm.length∧scope.names.lookup (Nm.getD j "")=some .free
def inNm (own Nm:List Str) (fr:List Nat):List Str:=own ++ fr.map fun j=>Nm.getD j ""
def inSt (n:Nat) (fr:List Nat) (σ:St):St:=List.replicate n none ++ fr.map fun j=>σ.getD j none
structure CD where
 cl:List (Str × Addr)
 C:Addr
 s:Shared
 H:Hp
 fp:List Addr
def compCx (X:Cx) (Nm:List Str) (scope:Scope) (d:CD):Cx:=
 {prog:=X.prog,w:=X.w,K:=X.K,mg:=X.mg,base:=X.base,A:=X.A,N:=Nm,s₀:=d.s,H₀:=d.H,env:=compEnvC scope d.cl d.C X.env,outer:=X.stack,stack:=X.stack,
  ex:=d.fp,fn:=fun _=>false,calm:=X.calm,pn:=[],xe:=fun _ _=>False }
def PTs (X:Cx) (ifs:List Expr) (t:TT):Prop:=
 ∀ (pins:List (Addr × Obj)) (s:Shared) (σ:St) (H:Hp) (Q:Bool→Hp→Prop),Inv X pins σ H s→t σ H Q→
  wpAny (model X.prog X.w) X.A (forIn ifs true fun c r=>if r=true then do let ok ← isTrue c X.env (eval c X.env); pure (ForInStep.yield ok) else pure (ForInStep.yield r)) (TP X pins σ Q) X.xe s
def tYes:TT:=fun _ H Q=>Q true H
theorem pts_nil {X:Cx}:PTs X [] tYes:=by
 intro pins s σ H Q I h
 rw [List.forIn_nil]
 exact wpAny_pure ⟨H,I,h⟩
theorem pts_one {X:Cx} {c:Expr} {t:TT} (hc:PT X c t):PTs X [c] t:=by
 intro pins s σ H Q I h
 rw [List.forIn_cons,if_pos rfl]
 refine wpAny_bind (wpAny_bind (thn (hc pins s σ H Q I h) fun b s1 q=>wpAny_pure ?_))
 show wpAny _ _ (forIn [] b _) _ _ s1
 rw [List.forIn_nil]
 exact wpAny_pure q
def GFr (n:Nat) (g:TG):Prop:=∀ v σ H Q,g v σ H Q→g v σ H fun σ2 H2=>Q σ2 H2∧σ2.length=σ.length∧∀ i,n≤i→σ2[i]? = σ[i]?
theorem gfr_name {n i:Nat} (h:i < n):GFr n (gName i):=fun v σ H Q q=>⟨q,by simp,fun j hj=>by
 rw [List.getElem?_set_ne (by omega)]⟩
def CompW (J:It) (n:Nat) (fr:List Nat) (g:TG) (tt:TT) (te:TE) (σ:St) (H1:Hp) (Q:VK):Prop:=∃ W:Nat→Nat→List V→Hp→Prop,(∃ m,W 0 m [] H1)∧∀ i m acc H2,W i m acc H2→
 acc.length < sizeLine∧((J.stop i H2∧∀ l,H2 l=none→Q (.ref l) (upd H2 l (.lst acc)))∨
  (J.go i H2∧∃ Nx:List V→Hp→Prop,(∀ acc' H',Nx acc' H'→∃ m',m' < m∧W (i+1) m' acc' H')∧
   ∀ x H3,J.yld i H2 x H3→g x (inSt n fr σ) H3 fun σ4 H4=>tt σ4 H4 fun b H5=>if b=true then te σ4 H5 fun v H6=>Nx (acc ++ [v]) H6 else Nx acc H5))
def tComp (n:Nat) (fr:List Nat) (wi:TI) (g:TG) (tt:TT) (te:TE):TE:=fun σ H Q=>wi σ H fun J H1=>CompW J n fr g tt te σ H1 Q
section
variable {X:Cx} {pins:List (Addr × Obj)} {σ:St} {H:Hp} {s:Shared}
theorem Inv.adopt {a:Addr} {o:HO} (I:Inv X pins σ H s) (hp:X.s₀.heap.objs.size≤a) (hn:H a=none) (hL:a≠X.env.locals) (hc:∀ x c,X.env.cells.lookup x=some c→c≠a)
  (hq:∀ p∈X.pn ++ pins,p.1≠a) (new:ObjOk X.prog X.w (upd H a o) s.heap a o):Inv X pins σ (upd H a o) s:=by
 refine ⟨I.ok,I.os,I.bare,⟨I.base.keep,I.base.slot,fun b ob e n hx=>?_,I.base.there,fun b xs e=>?_,fun b ob u e=>?_,fun b ps e=>?_⟩,I.loc,I.cell,?_,fun x c e=>?_,fun p hp'=>?_,fun b u e=>?_,I.len⟩
 ·rw [upd_ne (Nat.ne_of_lt (Nat.lt_of_lt_of_le (Heap.lt_size e) hp))]
  exact I.base.free b ob e n hx
 ·have q:=I.base.tups b xs e
  rw [upd_ne (ne_of_none q hn)]
  exact q
 ·have q:=I.base.frzs b ob u e
  rw [upd_ne (ne_of_none q hn)]
  exact q
 ·obtain ⟨more,q⟩:=I.base.tbls b ps e
  exact ⟨more,by rw [upd_ne (ne_of_none q hn)]; exact q⟩
 ·rw [upd_ne (Ne.symm hL)]
  exact I.free
 ·rw [upd_ne (hc x c e)]
  exact I.freeC x c e
 ·obtain ⟨h1,h2,h3⟩:=I.pin p hp'
  exact ⟨h1,by rw [upd_ne (hq p hp')]; exact h2,h3⟩
 ·by_cases hb:b=a
  ·subst hb
   rw [upd_same] at e
   cases e
   exact new
  ·rw [upd_ne hb] at e
   refine (I.hok b u e).stay (fun c v _ q=>q) (fun c q=>?_) fun c xs q=>?_
   ·rw [upd_ne (ne_of_none q hn)]; exact q
   ·rw [upd_ne (ne_of_none q hn)]; exact q
end
section
variable {prog:Program} {w:World} {A:Around} {R:Result→Shared→Prop} {s:Shared}
theorem loop_comp {elt target iter:Expr} {ifs:List Expr} {scope:Scope} {pos:Pos} {it acc:Value} {env:Env} (J:Nat→Shared→Prop)
  (turn:∀ n s,J n s→wpAny (model prog w) A (pyNext it) (fun r s1=>match r with
   | none=>R (.ok .next) s1
   | some v=>wpAny (model prog w) A (letOwnedTupleGo target it v) (fun _ s2=>wpAny (model prog w) A (assign target env v) (fun _ s3=>
     wpAny (model prog w) A (forIn ifs true fun c r=>if r=true then do let ok ← isTrue c env (eval c env); pure (ForInStep.yield ok) else pure (ForInStep.yield r)) (fun ok s4=>
      if ok=true then wpAny (model prog w) A (eval elt env) (fun x s5=>wpAny (model prog w) A (call (.builtin "list.append") [acc,x]) (fun _ s6=>∃ m,m < n∧J m s6) (fun _ _=>False) s5) (fun _ _=>False) s4
      else ∃ m,m < n∧J m s4) (fun _ _=>False) s3) (fun _ _=>False) s2) (fun _ _=>False) s1) (fun _ _=>False) s)
  (n:Nat) (h:J n s):codeAny (model prog w) A (.compLoop (.ListComp elt [⟨target,iter,ifs,0⟩] scope pos) 0 it acc env) R s:=by
 refine codeAny_loop rfl J (fun k t hJ=>?_) n h
 show wpAny _ A ((compTurn (.ListComp elt [⟨target,iter,ifs,0⟩] scope pos) 0 it acc env).onRaise (fun x=>do noteFrame x env; theTreesLotGoes x)) _ _ t
 refine wpAny_noted ?_
 rw [compTurn_list]
 have no:∀ {α:Type} {m:Sem α} {Q:α→Shared→Prop} {E:Value→Shared→Prop} {u:Shared},wpAny (model prog w) A m Q (fun _ _=>False) u→wpAny (model prog w) A m Q E u:=fun q=>wpAny_mono q (fun _ _ z=>z) fun _ _ z=>z.elim
 refine wpAny_bind (wpAny_standAt (wpAny_bind (no (thn (turn k t hJ) fun r s1 h1=>?_))))
 cases r with
 | none=>exact wpAny_pure h1
 | some v=>
  refine wpAny_bind (no (thn h1 fun _ s2 h2=>wpAny_bind (no (thn h2 fun _ s3 h3=>wpAny_bind (no (thn h3 fun ok s4 h4=>?_))))))
  cases ok with
  | false=>exact wpAny_pure ⟨rfl,h4⟩
  | true=>
   exact wpAny_bind (wpAny_bind (no (thn h4 fun x s5 h5=>wpAny_bind (no (thn h5 fun _ s6 h6=>wpAny_pure (wpAny_pure ⟨rfl,h6⟩))))))
end
section
variable {X:Cx} {sc scope:Scope} {Nm own:List Str} {fr:List Nat} {elt tg iter:Expr} {ifs:List Expr} {cpos:Pos} {wi:TI} {g:TG} {tt:TT} {te:TE}
theorem lookup_relab {env:Env} {x:Str} {k:NameKind}:∀ {names:List (Str × NameKind)},(names.map fun (n,k)=>if (k==NameKind.free && env.scope.kind==.function && env.kindOf n==some .cell) then (n,NameKind.cell) else (n,k)).lookup x=some k→
  names.lookup x=some k∨(k=.cell∧names.lookup x=some .free)
 | [],h=>by simp at h
 | (n,j) :: r,h=>by
  have ih:=@lookup_relab env x k r
  have h':List.lookup x ((if (j==NameKind.free && env.scope.kind==.function && env.kindOf n==some .cell)=true then (n,NameKind.cell) else (n,j)) :: _)=some k:=h
  cases hx:x==n with
  | true=>
   by_cases hc:(j==NameKind.free && env.scope.kind==.function && env.kindOf n==some .cell)=true
   ·rw [if_pos hc] at h'
    simp only [List.lookup_cons,hx] at h' ⊢
    simp only [Bool.and_eq_true,beq_iff_eq] at hc
    exact .inr ⟨(Option.some.inj h').symm,congrArg some hc.1.1⟩
   ·rw [if_neg hc] at h'
    simp only [List.lookup_cons,hx] at h' ⊢
    exact .inl h'
  | false=>
   have h2:List.lookup x (r.map fun (n,k)=>if (k==NameKind.free && env.scope.kind==.function && env.kindOf n==some .cell) then (n,NameKind.cell) else (n,k))=some k:=by
    by_cases hc:(j==NameKind.free && env.scope.kind==.function && env.kindOf n==some .cell)=true
    ·rw [if_pos hc] at h'
     simpa only [List.lookup_cons,hx] using h'
    ·rw [if_neg hc] at h'
     simpa only [List.lookup_cons,hx] using h'
   simp only [List.lookup_cons,hx]
   exact ih h2
theorem relab_free {env:Env} {x:Str}:∀ {names:List (Str × NameKind)},names.lookup x=some .free→
  (names.map fun (n,k)=>if (k==NameKind.free && env.scope.kind==.function && env.kindOf n==some .cell) then (n,NameKind.cell) else (n,k)).lookup x=some .cell∨
  (names.map fun (n,k)=>if (k==NameKind.free && env.scope.kind==.function && env.kindOf n==some .cell) then (n,NameKind.cell) else (n,k)).lookup x=some .free
 | [],h=>by simp at h
 | (n,j) :: r,h=>by
  have ih:=@relab_free env x r
  show List.lookup x ((if (j==NameKind.free && env.scope.kind==.function && env.kindOf n==some .cell)=true then (n,NameKind.cell) else (n,j)) :: _)=_∨List.lookup x ((if (j==NameKind.free && env.scope.kind==.function && env.kindOf n==some .cell)=true then (n,NameKind.cell) else (n,j)) :: _)=_
  cases hx:x==n with
  | true=>
   simp only [List.lookup_cons,hx] at h
   by_cases hc:(j==NameKind.free && env.scope.kind==.function && env.kindOf n==some .cell)=true
   ·rw [if_pos hc]; simp only [List.lookup_cons,hx]; first | exact .inl rfl | exact .inl trivial
   ·rw [if_neg hc]; simp only [List.lookup_cons,hx]; exact .inr h
  | false=>
   simp only [List.lookup_cons,hx] at h
   by_cases hc:(j==NameKind.free && env.scope.kind==.function && env.kindOf n==some .cell)=true
   ·rw [if_pos hc]; simp only [List.lookup_cons,hx]; exact ih h
   ·rw [if_neg hc]; simp only [List.lookup_cons,hx]; exact ih h
theorem comp_core (S:CompOk sc Nm own fr scope) (hsc:X.env.scope=sc) (hN:X.N=Nm) (hc:X.calm=true) (hgf:GFr own.length g) (hi:PI X tg iter wi) (hg:∀ d,PG (compCx X (inNm own Nm fr) scope d) tg g)
  (ht:∀ d,PTs (compCx X (inNm own Nm fr) scope d) ifs tt) (he:∀ d,PE (compCx X (inNm own Nm fr) scope d) elt te) (hs:∀ x,foldedSetIterable iter X.env x=pure x)
  {use:Option (Value→Sem Unit)} {Q0:Value→Shared→Prop} {pins:List (Addr × Obj)} {s:Shared} {σ:St} {H:Hp} (I:Inv X pins σ H s) {Qf:VK} (h:tComp own.length fr wi g tt te σ H Qf)
  (hfin:∀ (D C:Addr) (Hd:Hp) (s':Shared) (m:Str→Option Value),Inv X pins σ Hd s'→Qf (.ref D) Hd→s'.heap.Ns C m→Hd C=none→X.s₀.heap.objs.size≤C→C≠X.env.locals→(∀ x c,X.env.cells.lookup x=some c→c≠C)→
   (∀ p∈X.pn ++ pins,p.1≠C)→compPost (model X.prog X.w) X.A X.xe use Q0 (.ref D) C (.ok .next) s') :
  wpAny (model X.prog X.w) X.A (comprehension (.ListComp elt [⟨tg,iter,ifs,0⟩] scope cpos) scope X.env (firstIterPos [⟨tg,iter,ifs,0⟩] cpos) (newList []) false (eval iter X.env) use) Q0 X.xe s:=by
 have hfree:∀ y∈scope.names,y.2=NameKind.free→∃ c,X.env.cells.lookup y.1=some c:=fun y hy hk=>by
  have q:=S.free y hy hk
  rw [← hsc] at q
  exact I.ok.has y.1 q
 refine wpAny_comprehension_free (g:=⟨tg,iter,ifs,0⟩) (gs:=[]) rfl hs (closure_is hfree) S.kind S.locs ?_
 refine thn (hi pins s σ H _ I h) fun v s1 h1=>thn h1 fun itv s2 h2=>?_
 obtain ⟨it,fp,tn,J,H2,e,I2,T,st2,f2,W,⟨m0,w0⟩,turn⟩:=h2
 subst e
 refine wpAny_newObj_type (wpAny_newFunctionEnv S.nocell (by intro y hy; simp at hy) (fun h1 hns hsb=>?_) S.kind)
 dsimp only at hns hsb ⊢
 generalize hG:s2.heap.push { cls:=.type "list",dict:=none,data:=.seq ([]:List Value).toArray } = G at hns hsb ⊢
 have hC:G.objs.size=s2.heap.objs.size+1:=by rw [← hG,Heap.size_push]
 have hDC:s2.heap.objs.size≠G.objs.size:=by omega
 have lo:∀ b,b < s2.heap.objs.size→b≠G.objs.size∧b≠s2.heap.objs.size:=fun b hb=>⟨by omega,by omega⟩
 have old:∀ b o,s2.heap.get? b=some o→h1.get? b=some o:=fun b o e=>hsb.extBut b o (lo b (Heap.lt_size e)).1 (Heap.get?_push_of_some _ (hG▸Heap.get?_push_of_some _ e))
 have hacc:h1.PlainList s2.heap.objs.size #[]:=⟨_,hsb.extBut _ _ hDC (Heap.get?_push_of_some _ (hG▸Heap.get?_push_size _ rfl))⟩
 have fpl:∀ b∈fp,b < s2.heap.objs.size:=fun b hb=>by
  obtain ⟨o,e,_⟩:=T.obj 0 _ st2 b hb
  exact Heap.lt_size e
 have hDf:s2.heap.objs.size∉fp:=fun z=>Nat.lt_irrefl _ (fpl _ z)
 have hCf:G.objs.size∉fp:=fun z=>Nat.lt_irrefl _ (Nat.lt_trans (fpl _ z) (by rw [hC]; exact Nat.lt_succ_self _))
 have cellL:∀ x c,(clOf X.env scope.names []).lookup x=some c→X.env.cells.lookup x=some c∧(x,NameKind.free)∈scope.names:=fun x c e=>by
  have e1:=clOf_good (env:=X.env) scope.names [] (fun y c z=>by simp at z) x c e
  rcases clOf_mem scope.names [] e with z | z
  ·simp at z
  ·obtain ⟨c',e'⟩:=hfree _ z rfl
   rw [e1,e']
   exact ⟨rfl,z⟩
 have cellLt:∀ x c,X.env.cells.lookup x=some c→c < s2.heap.objs.size:=fun x c e=>by
  obtain ⟨v,q⟩:=I2.cell x c e
  exact q.lt
 let d:CD:=⟨clOf X.env scope.names [],G.objs.size,s2,H2,fp⟩
 have isFree:∀ x,((compCx X (inNm own Nm fr) scope d).env.kindOf x=some .cell∨(compCx X (inNm own Nm fr) scope d).env.kindOf x=some .free)→scope.names.lookup x=some .free:=fun x hx=>by
  have noC:scope.names.lookup x≠some .cell:=fun z=>S.nocell _ (PySem.mem_of_lookup z) rfl
  rcases hx with hx | hx
  ·rcases lookup_relab (names:=scope.names) hx with z | z
   ·exact absurd z noC
   ·exact z.2
  ·rcases lookup_relab (names:=scope.names) hx with z | z
   ·exact z
   ·exact absurd z.1 (by decide)
 have ok:(compCx X (inNm own Nm fr) scope d).Ok:=by
  refine ⟨I.ok.mod,S.kind,I.ok.glob,I.ok.blt,?_,fun x y c e1 e2=>?_,fun x hx=>?_,fun x c z=>?_,I.ok.hd,I.ok.frames,.inl rfl,fun b hb=>⟨?_,fun x c e=>?_⟩,I2.bs,Nat.le_trans I2.ok.bsz I2.sz,fun b o e hb=>?_,fun b hb z=>?_,I2.stack,I2.stkFree⟩
  ·show s2.heap.objs.size≤G.objs.size
   omega
  ·exact I.ok.inj x y c (cellL x c e1).1 (cellL y c e2).1
  ·exact clOf_has scope.names [] (.inr (PySem.mem_of_lookup (isFree x hx)))
  ·exact absurd (show false=true from z) Bool.false_ne_true
  ·exact fun z=>hCf ((show b=G.objs.size from z)▸hb)
  ·exact (f2 b hb).2.2.2.2.1 x c (cellL x c e).1
  ·rcases (f2 b hb).2.2.2.1 with z | z
   ·exact I.ok.noex b o e z
   ·exact absurd (Nat.lt_of_lt_of_le (Heap.lt_size e) (Nat.le_trans I.ok.bsz z)) (Nat.lt_irrefl _)
  ·rcases List.mem_cons.mp (I2.stkSub b z) with z | z
   ·exact (f2 b hb).2.1 z
   ·exact (f2 b hb).2.2.1 z
 have hfrs:∀ (i:Nat) x v,(inNm own Nm fr)[i]? = some x→(inSt own.length fr σ)[i]? = some (some v)→scope.names.lookup x=some .free∧∃ j,Nm[j]? = some x∧σ[j]? = some (some v):=fun i x v e1 e2=>by
  unfold inNm at e1
  unfold inSt at e2
  by_cases hil:i < own.length
  ·rw [List.getElem?_append_left (by simpa using hil),List.getElem?_replicate,if_pos hil] at e2
   cases e2
  ·rw [List.getElem?_append_right (by omega),List.getElem?_map] at e1
   rw [List.getElem?_append_right (by simpa using hil),List.getElem?_map,List.length_replicate] at e2
   cases q:fr[i - own.length]? with
   | none=>rw [q] at e1; cases e1
   | some j=>
    rw [q] at e1 e2
    have hj:=S.frs j (List.mem_of_getElem? q)
    have e1':Nm.getD j "" = x:=Option.some.inj e1
    have e2':σ.getD j none=some v:=Option.some.inj e2
    rw [e1'] at hj
    refine ⟨hj.2,j,?_,?_⟩
    ·rw [← e1',List.getD_eq_getElem?_getD,List.getElem?_eq_getElem hj.1]
     rfl
    ·rw [List.getD_eq_getElem?_getD] at e2'
     cases q2:σ[j]? with
     | none=>rw [q2] at e2'; cases e2'
     | some z=>rw [q2] at e2'; exact congrArg some e2'
 have lenSt:(inSt own.length fr σ).length=(inNm own Nm fr).length:=by
  unfold inSt inNm
  simp
 have J0:∀ tk,Inv (compCx X (inNm own Nm fr) scope d) [] (inSt own.length fr σ) H2 { s2 with heap:=h1,toks:=tk }:=fun tk=>by
  obtain ⟨m,hn,hl⟩:=I2.loc
  refine ⟨ok,rfl,I2.bare,Un.kept old,⟨_,hns,fun i x v e1 e2 _=>?_⟩,fun x c e=>?_,I2.hok.fresh (show s2.heap.objs.size≤G.objs.size by omega),fun x c e=>I2.freeC x c (cellL x c e).1,fun p hp=>absurd (show p∈([]:List (Addr × Obj)) from hp) (by simp),I2.hok.kept old,lenSt⟩
  ·obtain ⟨hf,j,hj1,hj2⟩:=hfrs i x v e1 e2
   have kd:X.env.scope.names.lookup x=some .cell∨X.env.scope.names.lookup x=some .free:=by
    rw [hsc]
    exact S.free _ (PySem.mem_of_lookup hf) rfl
   obtain ⟨u,r,q⟩:=hl j x v (by rw [hN]; exact hj1) hj2 (kd.elim (fun z=>.inr (.inl z)) fun z=>.inr (.inr z))
   refine ⟨u,r,.inr ⟨relab_free hf,?_⟩⟩
   obtain ⟨c,e⟩:=clOf_has (env:=X.env) scope.names [] (.inr (PySem.mem_of_lookup hf))
   refine ⟨c,e,?_⟩
   rcases q with ⟨k,_⟩ | ⟨_,c',e',z⟩
   ·have k':X.env.scope.names.lookup x=some .local:=k
    rcases kd with y | y <;> rw [y] at k' <;> cases k'
   ·have:c=c':=Option.some.inj ((cellL x c e).1.symm.trans e')
    subst this
    obtain ⟨o,ho,hd⟩:=z
    exact ⟨o,old _ o ho,hd⟩
  ·obtain ⟨v,o,ho,hd⟩:=I2.cell x c (cellL x c e).1
   exact ⟨v,o,old _ o ho,hd⟩
 have stat:∀ {H':Hp} {pl:List (Addr × Obj)},(∀ b∈fp,H' b=none)→(∀ p∈pl,p.1∉fp)→∀ b∈fp,FpOk (compCx X (inNm own Nm fr) scope d) pl H' b:=fun hn hp b hb=>
  ⟨hn b hb,fun z=>hCf ((show b=G.objs.size from z)▸hb),ok.exfs b hb,.inl hb,(ok.exf b hb).2,fun p hp' z=>hp p (by simpa using (show p∈([]:List (Addr × Obj)) ++ _ from hp')) (z▸hb)⟩
 have loop:∀ tk,codeAny (model X.prog X.w) X.A (.compLoop (.ListComp elt [⟨tg,iter,ifs,0⟩] scope cpos) 0 (.ref it) (.ref s2.heap.objs.size) (compEnvC scope (clOf X.env scope.names []) G.objs.size X.env))
   (compPost (model X.prog X.w) X.A X.xe use Q0 (.ref s2.heap.objs.size) G.objs.size) { s2 with heap:=h1,toks:=tk }:=by
  intro tk
  refine loop_comp (fun n s'=>∃ i acc its H',Inv (compCx X (inNm own Nm fr) scope d) [] (inSt own.length fr σ) H' s'∧tn i s'.heap∧(∀ b∈fp,H' b=none)∧H' s2.heap.objs.size=none∧Vals acc its∧s'.heap.PlainList s2.heap.objs.size its.toArray∧W i n acc H') ?_ m0
   ⟨0,[],[],H2,J0 tk,T.keep 0 _ _ st2 fun b _ o e=>old b o e,fun b hb=>(f2 b hb).1,I2.hok.fresh (Nat.le_refl _),.nil,hacc,w0⟩
  rintro n s3 ⟨i,acc,its,H3,I3,st3,fr3,nD,va,⟨na,pa⟩,w3⟩
  have pinD:Inv (compCx X (inNm own Nm fr) scope d) [(s2.heap.objs.size,{ cls:=.type "list",data:=.seq its.toArray na })] (inSt own.length fr σ) H3 s3:=I3.pins_of fun p hp=>by
   have hp':=List.mem_singleton.mp hp
   subst hp'
   refine ⟨pa,nD,hDC,fun z=>?_,fun v z=>?_⟩
   ·have z':s2.heap.objs.size∈frs X.stack:=z
    rcases List.mem_cons.mp (I2.stkSub _ z') with y | y
    ·exact absurd I2.lt (by rw [← y]; exact Nat.lt_irrefl _)
    ·exact I2.nofs (Nat.le_refl _) y
   ·have z':Data.seq its.toArray na=Data.cell v:=z
    cases z'
  have pinsOut:∀ p∈[(s2.heap.objs.size,({ cls:=.type "list",data:=.seq its.toArray na }:Obj))],p.1∉fp:=fun p hp=>by
   rw [List.mem_singleton.mp hp]
   exact hDf
  obtain ⟨hz,alt⟩:=turn i n acc H3 w3
  rcases alt with ⟨stop,qn⟩ | ⟨go,Nx,hNx,step⟩
  ·refine thn (T.done (compCx X (inNm own Nm fr) scope d) rfl rfl rfl hc i _ s3 _ H3 _ pinD (stat fr3 pinsOut) st3 stop) fun r s4 ⟨hr,I4⟩=>?_
   subst hr
   have pD:=I4.pin (s2.heap.objs.size,{ cls:=.type "list",data:=.seq its.toArray na }) (List.mem_append_right _ (List.mem_singleton.mpr rfl))
   obtain ⟨m4,hn4,_⟩:=I4.loc
   have I5:Inv X pins σ H3 s4:=I2.call' (ch:=fp) I4.os I4.base I4.hok I4.bare fun b hb=>⟨(f2 b hb).2.2.2.1,(f2 b hb).2.1,(f2 b hb).2.2.2.2.1,(f2 b hb).2.2.2.2.2⟩
   have far:∀ a,s2.heap.objs.size≤a→X.s₀.heap.objs.size≤a∧a≠X.env.locals∧(∀ x c,X.env.cells.lookup x=some c→c≠a)∧∀ p∈X.pn ++ pins,p.1≠a:=fun a ha=>
    ⟨Nat.le_trans I2.sz ha,Nat.ne_of_gt (Nat.lt_of_lt_of_le I2.lt ha),fun x c e=>Nat.ne_of_lt (Nat.lt_of_lt_of_le (cellLt x c e) ha),fun p hp=>Nat.ne_of_lt (Nat.lt_of_lt_of_le (Heap.lt_size (I2.pin p hp).1) ha)⟩
   have fD:=far s2.heap.objs.size (Nat.le_refl _)
   have fC:=far G.objs.size (by omega)
   have I6:=I5.adopt (o:=.lst acc) fD.1 pD.2.1 fD.2.1 fD.2.2.1 fD.2.2.2 ⟨Nat.le_of_lt hz,its,na,va,pD.1⟩
   exact hfin s2.heap.objs.size G.objs.size _ s4 m4 I6 (qn _ pD.2.1) hn4 (by rw [upd_ne (Ne.symm hDC)]; exact I4.free) fC.1 fC.2.1 fC.2.2.1 fC.2.2.2
  ·refine thn (T.item (compCx X (inNm own Nm fr) scope d) rfl rfl rfl hc i _ s3 _ H3 _ pinD (stat fr3 pinsOut) st3 go) fun r s4 ⟨u,hr,h4⟩=>?_
   subst hr
   refine thn h4 fun _ s5 ⟨x,H5,I5,r5,y5,st5,fr5⟩=>?_
   have I5':=I5.pinned (stat fr5 pinsOut) (T.obj _ _ st5)
   refine thn (hg d _ s5 _ H5 x u _ I5' r5 (hgf _ _ _ _ (step x H5 y5))) fun _ s6 ⟨σ6,H6,I6,q6,l6,k6⟩=>?_
   have wk:∀ (j:Nat) v,(inSt own.length fr σ)[j]? = some (some v)→σ6[j]? = some (some v):=fun j v e=>by
    by_cases hj:j < own.length
    ·unfold inSt at e
     rw [List.getElem?_append_left (by simpa using hj),List.getElem?_replicate,if_pos hj] at e
     cases e
    ·rw [k6 j (by omega)]
     exact e
   refine thn (ht d _ s6 σ6 H6 _ I6 q6) fun b s7 ⟨H7,I7,q7⟩=>?_
   have fpK:∀ {σ':St} {H':Hp} {s':Shared},Inv (compCx X (inNm own Nm fr) scope d) ([(s2.heap.objs.size,({ cls:=.type "list",data:=.seq its.toArray na }:Obj))] ++ pinsAt fp s5.heap) σ' H' s'→
     tn (i+1) s'.heap∧(∀ b∈fp,H' b=none)∧H' s2.heap.objs.size=none∧s'.heap.get? s2.heap.objs.size=some { cls:=.type "list",data:=.seq its.toArray na }:=fun {σ' H' s'} I'=>by
    have pD:=I'.pin (s2.heap.objs.size,{ cls:=.type "list",data:=.seq its.toArray na }) (List.mem_append_right _ (List.mem_append_left _ (List.mem_singleton.mpr rfl)))
    refine ⟨T.keep _ _ _ st5 fun b hb o e=>(I'.pin (b,o) (List.mem_append_right _ (List.mem_append_right _ (mem_pinsAt hb e)))).1,fun b hb=>?_,pD.2.1,pD.1⟩
    obtain ⟨o,e,_⟩:=T.obj _ _ st5 b hb
    exact (I'.pin (b,o) (List.mem_append_right _ (List.mem_append_right _ (mem_pinsAt hb e)))).2.1
   have drop:∀ {σ':St} {H':Hp} {s':Shared},(∀ (j:Nat) v,(inSt own.length fr σ)[j]? = some (some v)→σ'[j]? = some (some v))→Inv (compCx X (inNm own Nm fr) scope d) ([(s2.heap.objs.size,({ cls:=.type "list",data:=.seq its.toArray na }:Obj))] ++ pinsAt fp s5.heap) σ' H' s'→
     Inv (compCx X (inNm own Nm fr) scope d) [] (inSt own.length fr σ) H' s':=fun {σ' H' s'} hw I'=>
    (I'.pins_of (pins':=[]) (fun p hp=>absurd hp (by simp))).weak (lenSt.trans I'.len.symm) hw
   cases b with
   | false=>
    rw [if_neg Bool.false_ne_true]
    obtain ⟨m',hm,w'⟩:=hNx acc H7 (by rw [if_neg Bool.false_ne_true] at q7; exact q7)
    obtain ⟨k1,k2,k3,k4⟩:=fpK I7
    exact ⟨m',hm,i+1,acc,its,H7,drop wk I7,k1,k2,k3,va,⟨_,k4⟩,w'⟩
   | true=>
    rw [if_pos rfl]
    rw [if_pos rfl] at q7
    refine thn (he d _ s7 σ6 H7 _ I7 q7) fun y s8 ⟨yv,H8,I8,r8,q8⟩=>?_
    obtain ⟨m',hm,w'⟩:=hNx _ H8 q8
    obtain ⟨k1,k2,k3,k4⟩:=fpK I8
    have hsz:its.toArray.size≤sizeLine:=by
     rw [List.size_toArray,← va.length]
     exact Nat.le_of_lt hz
    refine wpAny_list_append_plain (hsz:=hsz) ⟨_,k4⟩ fun h9 hl9 hs9=>?_
    have I9:Inv (compCx X (inNm own Nm fr) scope d) [] (inSt own.length fr σ) H8 { s8 with heap:=h9 }:=by
     refine (drop wk I8).turned (t':=s8.toks) (it:=s2.heap.objs.size) (fun b o hb e=>hs9.extBut b o hb e) k3 hDC (.inr (Nat.le_refl _)) (fun x c e=>?_) fun p hp=>absurd (show p∈([]:List (Addr × Obj)) from hp) (by simp)
     exact Nat.ne_of_lt (cellLt x c (cellL x c e).1)
    refine ⟨m',hm,i+1,acc ++ [yv],its ++ [y],H8,I9,T.keep _ _ _ k1 fun b hb o e=>hs9.extBut b o (fun z=>hDf (z▸hb)) e,k2,k3,va.append (.cons r8 .nil),?_,w'⟩
    rw [show (its ++ [y]).toArray=its.toArray.push y by simp]
    exact hl9
 exact codeAny_compStart_list (loop _) (T.self _ 0 _ _ _ (T.keep 0 _ _ st2 fun b _ o e=>old b o e) (loop _))
theorem pe_comp (S:CompOk sc Nm own fr scope) (hc:X.calm=true) (hgf:GFr own.length g) (hi:PI X tg iter wi) (hg:∀ d,PG (compCx X (inNm own Nm fr) scope d) tg g)
  (ht:∀ d,PTs (compCx X (inNm own Nm fr) scope d) ifs tt) (he:∀ d,PE (compCx X (inNm own Nm fr) scope d) elt te) (hsc:X.env.scope=sc:=by rfl) (hN:X.N=Nm:=by rfl)
  (hs:∀ x,foldedSetIterable iter X.env x=pure x:=by intro _; rfl):PE X (.ListComp elt [⟨tg,iter,ifs,0⟩] scope cpos) (tComp own.length fr wi g tt te):=by
 intro pins s σ H Q I h
 rw [eval_ListComp]
 refine comp_core (use:=none) S hsc hN hc hgf hi hg ht he hs I h fun D C Hd s' m I' q hn nC c1 c2 c3 c4=>?_
 exact ⟨m,hn,fun h' hb=>⟨.ref D,Hd,I'.turned (t':=s'.toks) (fun b o hne e=>hb.extBut b o hne e) nC c2 (.inr c1) c3 c4,rfl,q⟩⟩
theorem ps_setc {i:Nat} {x:Str} {pos pos':Pos} (hNd:X.N.Nodup) (hix:X.N[i]? = some x) (hx:X.env.scope.names.lookup x=some .local) (S:CompOk sc Nm own fr scope) (hc:X.calm=true) (hgf:GFr own.length g) (hi:PI X tg iter wi)
  (hg:∀ d,PG (compCx X (inNm own Nm fr) scope d) tg g) (ht:∀ d,PTs (compCx X (inNm own Nm fr) scope d) ifs tt) (he:∀ d,PE (compCx X (inNm own Nm fr) scope d) elt te) (hsc:X.env.scope=sc:=by rfl) (hN:X.N=Nm:=by rfl)
  (hs:∀ x,foldedSetIterable iter X.env x=pure x:=by intro _; rfl)
  (hsw:swapsWith (.ListComp elt [⟨tg,iter,ifs,0⟩] scope cpos) (some (.Name x pos')) pos.line X.env=pure true:=by rfl) :
  PS X (.Assign [.Name x pos'] (.ListComp elt [⟨tg,iter,ifs,0⟩] scope cpos) pos) (tAsg (tComp own.length fr wi g tt te) (gName i)):=by
 intro pins s σ H D0 I h
 rw [exec_Assign_Name_used _ _ _ _ hsw]
 refine wpAny_bind (wpAny_standAt (wpAny_bind ?_))
 refine wpAny_bind (thn (comp_core (use:=some (assign (.Name x pos') X.env)) (Q0:=fun _ s'=>SP X pins D0 .next s') S hsc hN hc hgf hi hg ht he hs I h fun D C Hd s' m I' q hn nC c1 c2 c3 c4=>?_) fun _ s' q=>wpAny_pure (wpAny_pure q))
 show wpAny _ _ (assign (.Name x pos') X.env (.ref D)) _ _ s'
 refine wpAny_assign_Name (store_ok2 I' hNd hix (.inl hx) (v:=.ref D) rfl (fun s2 I2 ⟨a,sb,ha⟩=>?_) (.inr hx))
 have hCa:C≠a:=by
  rcases ha with z | z
  ·rw [z]; exact c2
  ·exact (c3 x a z).symm
 refine ⟨m,hn.sameBut sb hCa,fun h' hb=>⟨_,Hd,I2.turned (t':=s2.toks) (fun b o hne e=>hb.extBut b o hne e) nC c2 (.inr c1) c3 c4,q⟩⟩
end
theorem comp_gen {J:It} {n k:Nat} {fr:List Nat} {g:TG} {tt:TT} {te:TE} {σ:St} {H:Hp} {Q:VK} (Pv:Nat→List V→Hp→Prop) (hk:k < sizeLine) (h0:Pv 0 [] H) (hlen:∀ i acc H,Pv i acc H→acc.length≤i)
  (hgo:∀ i acc H,i < k→Pv i acc H→J.go i H) (hst:∀ acc H,Pv k acc H→J.stop k H)
  (hs:∀ i acc H2 x H3,i < k→Pv i acc H2→J.yld i H2 x H3→g x (inSt n fr σ) H3 fun σ4 H4=>tt σ4 H4 fun b H5=>if b=true then te σ4 H5 fun v H6=>Pv (i+1) (acc ++ [v]) H6 else Pv (i+1) acc H5)
  (hd:∀ acc H2,Pv k acc H2→∀ l,H2 l=none→Q (.ref l) (upd H2 l (.lst acc))) :
  CompW J n fr g tt te σ H Q:=by
 refine ⟨fun i m acc H=>m=k - i∧i≤k∧Pv i acc H,⟨k,by simp,Nat.zero_le _,h0⟩,?_⟩
 rintro i m acc H2 ⟨rfl,hi,p⟩
 have hl:=hlen i acc H2 p
 refine ⟨by omega,?_⟩
 by_cases hlt:i < k
 ·exact .inr ⟨hgo i acc H2 hlt p,Pv (i+1),fun acc' H' p'=>⟨k - (i+1),by omega,rfl,hlt,p'⟩,fun x H3 y=>hs i acc H2 x H3 hlt p y⟩
 ·have e:i=k:=by omega
  subst e
  exact .inl ⟨hst acc H2 p,hd acc H2 p⟩
def comp_range {lo:Int} {n k:Nat} {fr:List Nat} {g:TG} {tt:TT} {te:TE} {σ:St} {H:Hp} {Q:VK} (Pv:Nat→List V→Hp→Prop) (hk:k < sizeLine) (h0:Pv 0 [] H) (hlen:∀ i acc H,Pv i acc H→acc.length≤i)
  (hs:∀ i acc H2,i < k→Pv i acc H2→g (.int (lo+i)) (inSt n fr σ) H2 fun σ4 H4=>tt σ4 H4 fun b H5=>if b=true then te σ4 H5 fun v H6=>Pv (i+1) (acc ++ [v]) H6 else Pv (i+1) acc H5)
  (hd:∀ acc H2,Pv k acc H2→∀ l,H2 l=none→Q (.ref l) (upd H2 l (.lst acc))):=
 comp_gen (J:=Itr lo k) (n:=n) (fr:=fr) (g:=g) (tt:=tt) (te:=te) (σ:=σ) (Q:=Q) Pv hk h0 hlen (fun _ _ _ h _=>h) (fun _ _ _=>Nat.le_refl _) (fun i acc H2 x H3 hi p y=>by
  obtain ⟨e1,e2⟩:=y
  subst e1 e2
  exact hs i acc _ hi p) hd
def comp_list {K:PySem.W.Frag} {a:Addr} {xs:List V} {n:Nat} {fr:List Nat} {g:TG} {tt:TT} {te:TE} {σ:St} {H:Hp} {Q:VK} (Pv:Nat→List V→Hp→Prop) (hk:xs.length < sizeLine) (h0:Pv 0 [] H) (hlen:∀ i acc H,Pv i acc H→acc.length≤i)
  (hl:∀ i acc H,Pv i acc H→SqL K H a xs)
  (hs:∀ i acc H2 x,xs[i]? = some x→Pv i acc H2→g x (inSt n fr σ) H2 fun σ4 H4=>tt σ4 H4 fun b H5=>if b=true then te σ4 H5 fun v H6=>Pv (i+1) (acc ++ [v]) H6 else Pv (i+1) acc H5)
  (hd:∀ acc H2,Pv xs.length acc H2→∀ l,H2 l=none→Q (.ref l) (upd H2 l (.lst acc))):=
 comp_gen (J:=Itl K a) (n:=n) (fr:=fr) (g:=g) (tt:=tt) (te:=te) (σ:=σ) (Q:=Q) Pv hk h0 hlen (fun i acc H hi p=>⟨xs,xs[i],hl i acc H p,by simp [hi]⟩) (fun acc H p=>⟨xs,hl _ acc H p,Nat.le_refl _⟩) (fun i acc H2 x H3 hi p y=>by
  obtain ⟨e1,e2⟩:=y
  subst e1
  exact hs i acc _ x (e2 xs (hl i acc _ p)) p) hd
def comp_tup {K:PySem.W.Frag} {a:Addr} {xs:List V} {n:Nat} {fr:List Nat} {g:TG} {tt:TT} {te:TE} {σ:St} {H:Hp} {Q:VK} (Pv:Nat→List V→Hp→Prop) (hk:xs.length < sizeLine) (h0:Pv 0 [] H) (hlen:∀ i acc H,Pv i acc H→acc.length≤i)
  (hl:∀ i acc H,Pv i acc H→SqT K H a xs)
  (hs:∀ i acc H2 x,xs[i]? = some x→Pv i acc H2→g x (inSt n fr σ) H2 fun σ4 H4=>tt σ4 H4 fun b H5=>if b=true then te σ4 H5 fun v H6=>Pv (i+1) (acc ++ [v]) H6 else Pv (i+1) acc H5)
  (hd:∀ acc H2,Pv xs.length acc H2→∀ l,H2 l=none→Q (.ref l) (upd H2 l (.lst acc))):=
 comp_gen (J:=Itt K a) (n:=n) (fr:=fr) (g:=g) (tt:=tt) (te:=te) (σ:=σ) (Q:=Q) Pv hk h0 hlen (fun i acc H hi p=>⟨xs,xs[i],hl i acc H p,by simp [hi]⟩) (fun acc H p=>⟨xs,hl _ acc H p,Nat.le_refl _⟩) (fun i acc H2 x H3 hi p y=>by
  obtain ⟨e1,e2⟩:=y
  subst e1
  exact hs i acc _ x (e2 xs (hl i acc _ p)) p) hd
end L2
namespace L2
open PySem PySem.Spec PyProof.Rows
def Its (cs:List Nat):It:=⟨fun i _=>i < cs.length,fun i H x H'=>H'=H∧∃ c,cs[i]? = some c∧x=.str ⟨#[c]⟩,fun i _=>cs.length≤i⟩
theorem turn_str {P:Program} {w:World} {K:PySem.W.Frag} {tg:Expr} (it:Addr) (ty:String) (hty:ty = "str_ascii_iterator"∨ty = "str_iterator") (x:Str) (t:Tok) :
  Turn P w K tg (Its x.cps.toList) [it] it (fun i h=>h.IsStrIter it ty x t i) where
 mem:=by simp
 obj:=fun i h st b hb=>by
  rw [List.mem_singleton.mp hb]
  obtain ⟨o,e,c,d⟩:=st
  exact ⟨o,e,fun v z=>by rw [d] at z; cases z⟩
 keep:=fun i h h' st k=>by
  obtain ⟨o,e,r⟩:=st
  exact ⟨o,k it (by simp) o e,r⟩
 item:=by
  intro X hP hw hK hc i pins s σ H E I hf st hg
  subst hP hw hK
  have hlt:i < x.cps.toList.length:=hg
  obtain ⟨f0,f1,f2,f3,f4,f5⟩:=hf it (by simp)
  have hx:x.cps[i]? = some (x.cps.toList[i]):=by
   rw [← Array.getElem?_toList]
   exact List.getElem?_eq_getElem hlt
  have fin:∀ h',h'.IsStrIter it ty x t (i+1)→Heap.SameBut it s.heap h'→∃ u,some (Value.str ⟨#[x.cps.toList[i]]⟩ s.toks)=some u∧
    wpAny (model X.prog X.w) X.A (letOwnedTupleGo tg (.ref it) u) (fun _ s2=>∃ y H',Inv X pins σ H' s2∧RelV y u∧(Its x.cps.toList).yld i H y H'∧s2.heap.IsStrIter it ty x t (i+1)∧∀ b∈[it],H' b=none) E { s with heap:=h',toks:=s.toks+1 }:=fun h' st' sb=>by
   have I1:Inv X pins σ H { s with heap:=h',toks:=s.toks+1 }:=I.turned (fun b o hb e=>(sb.2 b hb).trans e) f0 f1 f3 f4 f5
   obtain ⟨o,e,c,d⟩:=id st'
   refine ⟨_,rfl,go_of (s:={ s with heap:=h',toks:=s.toks+1 }) (n:=ty) e c d (by rcases hty with z | z <;> subst z <;> decide) ⟨.str ⟨#[x.cps.toList[i]]⟩,H,I1,⟨_,rfl⟩,⟨rfl,_,List.getElem?_eq_getElem hlt,rfl⟩,st',fun b hb=>(hf b hb).1⟩⟩
  rcases hty with z | z
  ·subst z
   exact wpAny_pyNext_ascii_item st hx fun h' st' sb=>fin h' st' sb
  ·subst z
   exact wpAny_pyNext_wide_item st hx fun h' st' sb=>fin h' st' sb
 done:=by
  intro X hP hw hK hc i pins s σ H E I hf st hg
  subst hP hw hK
  have hle:x.cps.toList.length≤i:=hg
  obtain ⟨f0,f1,f2,f3,f4,f5⟩:=hf it (by simp)
  have hx:x.cps[i]? = none:=by
   rw [← Array.getElem?_toList]
   exact List.getElem?_eq_none_iff.mpr hle
  rcases hty with z | z
  ·subst z
   exact wpAny_pyNext_ascii_end (I.ok.hd hc) st hx fun h' eb=>⟨rfl,I.turned (t':=s.toks) (fun b o hb e=>eb b o hb e) f0 f1 f3 f4 f5⟩
  ·subst z
   exact wpAny_pyNext_wide_end (I.ok.hd hc) st hx fun h' eb=>⟨rfl,I.turned (t':=s.toks) (fun b o hb e=>eb b o hb e) f0 f1 f3 f4 f5⟩
 self:=fun _ _ _ _ _ st h=>by
  rcases hty with z | z
  ·subst z
   exact wpAny_pyIter_striter_ascii st h
  ·subst z
   exact wpAny_pyIter_striter_wide st h
section
variable {X:Cx} {tg e:Expr} {te:TE}
def iStr (te:TE):TI:=fun σ H R=>te σ H fun v H1=>∃ z,v=.str z∧R (Its z.cps.toList) H1
theorem pi_str (he:PE X e te):PI X tg e (iStr te):=by
 intro pins s σ H R I h
 refine thn (he pins s σ H _ I h) fun v s1 ⟨x,H1,I1,r1,q1⟩=>?_
 obtain ⟨z,e1,q⟩:=q1
 subst e1
 obtain ⟨t,rfl⟩:=r1
 have go:∀ (ty:String),(ty = "str_ascii_iterator"∨ty = "str_iterator")→PIE X pins σ tg R (.ref s1.heap.objs.size) { s1 with heap:=s1.heap.push { cls:=.type ty,data:=.fields #[.str z t,.int 0 0] } }:=fun ty hty=>by
  refine ⟨s1.heap.objs.size,[s1.heap.objs.size],_,_,H1,rfl,I1.kept (t':=s1.toks) fun b o e=>Heap.get?_push_of_some _ e,turn_str _ ty hty z t,⟨_,Heap.get?_push_size _ rfl,rfl,rfl⟩,fun b hb=>?_,q⟩
  rw [List.mem_singleton.mp hb]
  exact I1.fpOk (Nat.le_refl _) (I1.hok.fresh (Nat.le_refl _))
 cases ha:z.cps.all (· < 128) with
 | false=>exact wpAny_pyIter_wide ha (go _ (.inr rfl))
 | true=>exact wpAny_pyIter_ascii ha (go _ (.inl rfl))
end
def comp_str {cs:List Nat} {n:Nat} {fr:List Nat} {g:TG} {tt:TT} {te:TE} {σ:St} {H:Hp} {Q:VK} (Pv:Nat→List V→Hp→Prop) (hk:cs.length < sizeLine) (h0:Pv 0 [] H) (hlen:∀ i acc H,Pv i acc H→acc.length≤i)
  (hs:∀ i acc H2 c,cs[i]? = some c→Pv i acc H2→g (.str ⟨#[c]⟩) (inSt n fr σ) H2 fun σ4 H4=>tt σ4 H4 fun b H5=>if b=true then te σ4 H5 fun v H6=>Pv (i+1) (acc ++ [v]) H6 else Pv (i+1) acc H5)
  (hd:∀ acc H2,Pv cs.length acc H2→∀ l,H2 l=none→Q (.ref l) (upd H2 l (.lst acc))):=
 comp_gen (J:=Its cs) (n:=n) (fr:=fr) (g:=g) (tt:=tt) (te:=te) (σ:=σ) (Q:=Q) Pv hk h0 hlen (fun _ _ _ h _=>h) (fun _ _ _=>Nat.le_refl _) (fun i acc H2 x H3 hi p y=>by
  obtain ⟨e1,c,hc,hx⟩:=y
  subst e1 hx
  exact hs i acc _ c hc p) hd
theorem range_getD_all (bs:List Bool):(List.range bs.length).all (fun i=>bs.getD i false)=bs.all id:=by
 rw [Bool.eq_iff_iff,List.all_eq_true,List.all_eq_true]
 constructor
 ·intro h b hb
  obtain ⟨i,hi,rfl⟩:=List.getElem_of_mem hb
  have:=h i (List.mem_range.mpr hi)
  simpa [List.getD_eq_getElem?_getD,hi] using this
 ·intro h i hi
  have hi':=List.mem_range.mp hi
  have:=h bs[i] (List.getElem_mem hi')
  simpa [List.getD_eq_getElem?_getD,hi'] using this
section
variable {X:Cx}
theorem walk_bools {pins:List (Addr × Obj)} {σ:St} {H:Hp} {s:Shared} {p:Addr} {bs:List Bool} {Qv:VK} {f:Nat→(Nat→Bool)→Bool} {b:Bool} (hc:X.calm=true) (I:Inv X pins σ H s) (hq:SqL X.K H p (bs.map V.bl)) (hb:f bs.length (fun i=>bs.getD i false)=b) (q:Qv (.bl b) H) :
  wpAny (model X.prog X.w) X.A.in1 (pyIter (.ref p)) (fun it s₂=>∃ I fp wr n P St tr,it=.ref I∧Walks X.prog X.w X.A.in1 I fp wr n P St∧St 0 s₂.heap∧TruthOf X.prog X.w X.A.in1 P tr∧
   ∀ h' tk,(∀ b o,b∉wr→s₂.heap.get? b=some o→h'.get? b=some o)→EP X pins σ Qv (.bool (f n tr)) { s₂ with heap:=h',toks:=tk }) X.xe s:=by
 obtain ⟨its,r,pl,hz⟩:=I.list hq
 have hlen:its.toArray.size=bs.length:=by
  rw [List.size_toArray,← r.length,List.length_map]
 have hpl:p < s.heap.objs.size:=by
  obtain ⟨o,e,_⟩:=pl.isList
  exact Heap.lt_size e
 refine wpAny_pyIter_list pl.isList ?_
 refine ⟨s.heap.objs.size,[s.heap.objs.size,p],[s.heap.objs.size],its.toArray.size,_,_,fun i=>bs.getD i false,rfl,Walks.list (A:=X.A.in1) (show X.A.in1.handled=none from I.ok.hd hc) s.heap.objs.size p (Nat.ne_of_lt hpl) its.toArray,?_,?_,fun h' tk k=>?_⟩
 ·refine And.intro (show Heap.IsListIter _ _ _ _ from ⟨_,Heap.get?_push_size _ rfl,rfl,rfl⟩) ?_
  obtain ⟨o,e,z⟩:=pl.isList
  exact ⟨o,Heap.get?_push_of_some _ e,z⟩
 ·intro i v s' Q E hv hQ
  have hv':its[i]? = some v:=by simpa using hv
  cases e:(bs.map V.bl)[i]? with
  | none=>
   have z:=r.none_of e
   rw [hv'] at z
   cases z
  | some x=>
   obtain ⟨u,hu,ru⟩:=r.get e
   rw [hv'] at hu
   cases hu
   rw [List.getElem?_map] at e
   cases e2:bs[i]? with
   | none=>rw [e2] at e; cases e
   | some y=>
    rw [e2] at e
    cases e
    cases ru
    refine wpAny_truthy_bool ?_
    have:bs.getD i false=y:=by rw [List.getD_eq_getElem?_getD,e2]; rfl
    exact this▸(show Q (bs.getD i false) s' from hQ)
 ·rw [hlen,hb]
  refine ⟨.bl b,H,I.kept fun c o e=>k c o ?_ (Heap.get?_push_of_some _ e),rfl,q⟩
  have:=Heap.lt_size e
  intro z
  rw [List.mem_singleton.mp z] at this
  exact Nat.lt_irrefl _ this
theorem call_all_bl (hc:X.calm=true):CallR X (.builtin "all") (fun xs H Q=>∃ (p:Addr) (bs:List Bool),xs=[.ref p]∧SqL X.K H p (bs.map V.bl)∧Q (.bl (bs.all id)) H):=by
 intro pins s σ H xs us Q I r h
 obtain ⟨p,bs,rfl,hq,q⟩:=h
 obtain ⟨u,rfl,ru⟩:=vals1 r
 cases ru
 exact call_all_walk (walk_bools (f:=fun n tr=>(List.range n).all tr) hc I hq (range_getD_all bs) q)
theorem strsAre_of:∀ {ys:List Str} {us:List Value},Vals (ys.map V.str) us→StrsAre us ys
 | [],us,r=>by rw [List.map_nil] at r; cases r; exact .nil
 | y :: ys,us,r=>by
  rw [List.map_cons] at r
  cases r with
  | cons r1 r2=>
   obtain ⟨t,e⟩:=r1
   subst e
   exact .cons y t (strsAre_of r2)
theorem vals_strs:∀ {us:List Value} {ys:List Str},StrsAre us ys→Vals (ys.map V.str) us
 | _,_,.nil=>.nil
 | _,_,.cons y t h=>.cons ⟨t,rfl⟩ (vals_strs h)
def rJoin (K:PySem.W.Frag):V→List V→Hp→VK→Prop:=fun x xs H Q=>∃ z p ys,x=.str z∧xs=[.ref p]∧SqL K H p (ys.map V.str)∧(ys.map (·.length)).sum+ys.length * z.length≤16777216∧Q (.str (Txt.join z ys)) H
theorem mt_join:MtR X "str.join" (rJoin X.K):=by
 intro pins s σ H x xs v us Q I rx rs h
 obtain ⟨z,p,ys,rfl,rfl,hq,hz,q⟩:=h
 obtain ⟨t,rfl⟩:=rx
 obtain ⟨u,rfl,ru⟩:=rs.one
 cases ru
 obtain ⟨its,r,pl,_⟩:=I.list hq
 exact join_list pl.isList (by simpa using strsAre_of r) hz fun t' k=>⟨.str _,H,I.tok _,⟨_,rfl⟩,q⟩
theorem join_nil_list (ys:List Str):(Txt.join (Str.ofString "") ys).cps.toList=(ys.map fun y=>y.cps.toList).flatten:=by
  show (Builtin.Str.glued (Str.ofString "") ys).cps.toList=_
  rw [StrLaws.glued_eq_join]
  induction ys with
  | nil=>rfl
  | cons y r ih=>
   cases r with
   | nil=>simp [Str.join]
   | cons z r=>
    have e:Str.join (Str.ofString "") (y :: z :: r)=y ++ Str.ofString "" ++ Str.join (Str.ofString "") (z :: r):=rfl
    rw [e]
    have h0:(Str.ofString "").cps = #[]:=by decide +kernel
    show ((y.cps ++ (Str.ofString "").cps) ++ (Str.join (Str.ofString "") (z :: r)).cps).toList=_
    rw [h0,Array.append_empty,Array.toList_append,ih,List.map_cons,List.map_cons,List.flatten_cons]
    rfl
def rSlS:V→Option Int→Option Int→Hp→VK→Prop:=fun x lo hi H Q=>∃ z,x=.str z∧z.length≤sizeLine∧Q (.str (Txt.slice z lo hi)) H
theorem sl_str:SlR X rSlS:=by
 intro pins s σ H x v vl vu lo hi sl Q I rx hs pl pu h
 obtain ⟨z,rfl,hz,q⟩:=h
 obtain ⟨t,rfl⟩:=rx
 refine ⟨"str",_,F.slot_str_getitem.lookup,typeIs_str _ _ _,?_⟩
 have fin:∀ t' k,EP X pins σ Q (.str (Txt.slice z lo hi) t') { s with toks:=k }:=fun t' k=>⟨.str _,H,I.tok _,⟨_,rfl⟩,q⟩
 have hle:(Txt.slice z lo hi).length≤sizeLine:=Nat.le_trans (Txt.slice_le z _ _) hz
 cases pl with
 | none=>
  cases pu with
  | none=>exact wpAny_getItem_str_slice (l:=none) (u:=none) (st:=none) hs rfl (post_val_or_str ⟨hle,fin⟩)
  | int j uj=>exact wpAny_getItem_str_slice (l:=none) (u:=some (j,uj)) (st:=none) hs rfl (post_val_or_str ⟨hle,fin⟩)
 | int i ui=>
  cases pu with
  | none=>exact wpAny_getItem_str_slice (l:=some (i,ui)) (u:=none) (st:=none) hs rfl (post_val_or_str ⟨hle,fin⟩)
  | int j uj=>exact wpAny_getItem_str_slice (l:=some (i,ui)) (u:=some (j,uj)) (st:=none) hs rfl (post_val_or_str ⟨hle,fin⟩)
def rSortS (K:PySem.W.Frag):List V→Hp→VK→Prop:=fun xs H Q=>∃ p ys,xs=[.ref p]∧SqL K H p (ys.map V.str)∧ys.length < 64∧
 ∀ ys' l,ys'.Perm ys→sortedS ys'=true→H l=none→Q (.ref l) (upd H l (.lst (ys'.map V.str)))
theorem call_sorted_str:CallR X (.builtin "sorted") (rSortS X.K):=by
 intro pins s σ H xs us Q I r h
 obtain ⟨p,ys,rfl,hq,h64,q⟩:=h
 obtain ⟨u,rfl,ru⟩:=vals1 r
 cases ru
 obtain ⟨its,r',pl,hz⟩:=I.list hq
 have hlen:=r'.length
 rw [List.length_map] at hlen hz
 refine sorted_strs pl.isList (strsAre_of r') (by omega) fun out ss' a1 a2 a3=>?_
 obtain ⟨e,he⟩:=sortedAll_at s.heap its out
 have hn:H (s.heap.objs.size+1)=none:=I.hok.fresh (Nat.le_succ _)
 refine ⟨.ref (s.heap.objs.size+1),upd H (s.heap.objs.size+1) (.lst (ss'.map V.str)),I.laid (t':=s.toks) (fun _ _=>sortedAll_old) (Nat.le_succ _) ⟨?_,out.toList,e,vals_strs a1,?_⟩,rfl,q ss' _ a2 a3 hn⟩
 ·rw [List.length_map,a2.length_eq]
  exact hz
 ·simpa [seqObj] using he
def oneS (c:Nat):V:=.str ⟨#[c]⟩
theorem vals_signs {x:Str}:∀ (us:List Value) (k:Nat),(∀ i v,us[i]? = some v→SignAt x (k+i) v)→us.length+k=x.cps.toList.length→Vals ((x.cps.toList.drop k).map oneS) us
 | [],k,_,hl=>by
  rw [List.drop_eq_nil_of_le (by simpa using Nat.le_of_eq hl.symm)]
  exact .nil
 | u :: us,k,h,hl=>by
  have hk:k < x.cps.toList.length:=by
   simp only [List.length_cons] at hl
   omega
  rw [List.drop_eq_getElem_cons hk,List.map_cons]
  refine .cons ?_ (vals_signs us (k+1) (fun i v e=>?_) (by simp only [List.length_cons] at hl; omega))
  ·obtain ⟨c,t,hc,rfl⟩:=h 0 u rfl
   have hc':x.cps.toList[k]? = some c:=by
    rw [Array.getElem?_toList]
    exact hc
   rw [List.getElem?_eq_getElem hk] at hc'
   rw [Option.some.inj hc']
   exact ⟨t,rfl⟩
  ·have:=h (i+1) v e
   rw [show k+1+i=k+(i+1) by omega]
   exact this
theorem call_list_text (hc:X.calm=true):CallR X (.type "list") (fun xs H Q=>∃ z,xs=[.str z]∧z.length≤sizeLine∧∀ l,H l=none→Q (.ref l) (upd H l (.lst (z.cps.toList.map oneS)))):=by
 intro pins s σ H xs us Q I r h
 obtain ⟨z,rfl,hz,q⟩:=h
 obtain ⟨u,rfl,t,rfl⟩:=vals1 r
 refine call_list_str (hn:=hz) (I.ok.hd hc) z t fun h' tk acc c kp e it=>?_
 refine ⟨.ref s.heap.objs.size,_,I.laid kp (Nat.le_refl _) (show ObjOk X.prog X.w _ h' _ (.lst (z.cps.toList.map oneS)) from ⟨by rw [List.length_map]; simpa [Str.length] using hz,acc.toList,c,?_,by simpa using e⟩),rfl,q _ (I.hok.fresh (Nat.le_refl _))⟩
 have e1:=vals_signs (x:=z) acc.toList 0 (fun i v e=>by rw [Nat.zero_add]; exact it.2 i v (by rw [← Array.getElem?_toList]; exact e)) (by rw [Array.length_toList,it.1,Nat.add_zero,Array.length_toList])
 rw [List.drop_zero] at e1
 exact e1
theorem RelV.ty_inj {c:V} {u u':Value} (h:RelV c u) (h':RelV c u') (hc:(∃ n,c=.ty n)∨∃ a,c=.ref a):u=u':=by
 rcases hc with ⟨n,rfl⟩ | ⟨a,rfl⟩
 ·exact (show u=Value.type n from h).trans (show u'=Value.type n from h').symm
 ·exact (show u=Value.ref a from h).trans (show u'=Value.ref a from h').symm
def rIs (K:PySem.W.Frag):List V→Hp→VK→Prop:=fun xs H Q=>∃ x n t b,xs=[x,.ty n]∧TyOf K H x t∧PySem.W.kitOne K t (.type n)=some b∧Q (.bl b) H
theorem call_is:CallR X (.builtin "isinstance") (rIs X.K):=by
 intro pins s σ H xs us Q I r h
 obtain ⟨x,n,t,b,rfl,ty,e,q⟩:=h
 obtain ⟨u,w',rfl,rx,rc⟩:=vals2 r
 cases (show w'=Value.type n from rc)
 exact isinst_ok I rx ty e fun tk=>⟨.bl b,H,I.tok _,rfl,q⟩
def rIs2 (K:PySem.W.Frag):List V→Hp→VK→Prop:=fun xs H Q=>∃ x tp n m t b,xs=[x,.ref tp]∧H tp=some (.tup [.ty n,.ty m])∧TyOf K H x t∧PySem.W.kitAny K t [.type n,.type m]=some b∧Q (.bl b) H
theorem call_is2:CallR X (.builtin "isinstance") (rIs2 X.K):=by
 intro pins s σ H xs us Q I r h
 obtain ⟨x,tp,n,m,t,b,rfl,htp,ty,e,q⟩:=h
 obtain ⟨u,w',rfl,rx,rc⟩:=vals2 r
 cases (show w'=Value.ref tp from rc)
 obtain ⟨_,its,rv,p⟩:=(show ObjOk X.prog X.w H s.heap tp (.tup [.ty n,.ty m]) from I.hok tp _ htp)
 obtain ⟨a1,a2,rfl,ra1,ra2⟩:=rv.two
 cases (show a1=Value.type n from ra1)
 cases (show a2=Value.type m from ra2)
 obtain ⟨⟨oc,od,odt,osl⟩,g1,g2,k,g3⟩:=p
 cases (show oc=Value.type "tuple" from g2)
 cases (show odt=Data.seq _ k from g3)
 have fin:∀ tk,EP X pins σ Q (.bool b) { s with toks:=tk }:=fun tk=>⟨.bl b,H,I.tok _,rfl,q⟩
 have no:∀ v:Value,(∀ z:String,v≠.builtin z)→v≠.builtin "__main__.__loader__#opaque":=fun v h=>h _
 cases ty with
 | non=>cases (show u=Value.none from rx); exact PySem.W.kia_tup PySem.W.kitx_none I.kIn True.intro g1 e (no _ fun _ z=>nomatch z) fin
 | bl y=>cases (show u=Value.bool y from rx); exact PySem.W.kia_tup PySem.W.kitx_bool I.kIn True.intro g1 e (no _ fun _ z=>nomatch z) fin
 | int i=>obtain ⟨t,z⟩:=(show ∃ t,u=Value.int i t from rx); cases z; exact PySem.W.kia_tup PySem.W.kitx_int I.kIn True.intro g1 e (no _ fun _ z=>nomatch z) fin
 | str y=>obtain ⟨t,z⟩:=(show ∃ t,u=Value.str y t from rx); cases z; exact PySem.W.kia_tup PySem.W.kitx_str I.kIn True.intro g1 e (no _ fun _ z=>nomatch z) fin
 | flt y=>obtain ⟨t,z⟩:=(show ∃ t,u=Value.float y t from rx); cases z; exact PySem.W.kia_tup PySem.W.kitx_float I.kIn True.intro g1 e (no _ fun _ z=>nomatch z) fin
 | @lst a xs ea=>
  cases (show u=Value.ref a from rx)
  obtain ⟨_,_,k2,_,h1⟩:=(show ObjOk X.prog X.w H s.heap a (.lst xs) from I.hok a _ ea)
  exact PySem.W.kia_tup PySem.W.kitx_list I.kIn ⟨_,h1,rfl⟩ g1 e (no _ fun _ z=>nomatch z) fin
 | @frz a ob xs ea=>
  cases (show u=Value.ref a from rx)
  obtain ⟨_,_,_,k2,_,h1⟩:=(show ObjOk X.prog X.w H s.heap a (.frz ob (.lst xs)) from I.hok a _ ea)
  exact PySem.W.kia_tup PySem.W.kitx_list I.kIn ⟨_,h1,rfl⟩ g1 e (no _ fun _ z=>nomatch z) fin
 | @tup a xs ea=>
  cases (show u=Value.ref a from rx)
  obtain ⟨_,_,_,o2,h1,h2,_⟩:=(show ObjOk X.prog X.w H s.heap a (.tup xs) from I.hok a _ ea)
  exact PySem.W.kia_tup PySem.W.kitx_tuple I.kIn ⟨o2,h1,h2⟩ g1 e (no _ fun _ z=>nomatch z) fin
 | @dK a kvs ea=>
  cases (show u=Value.ref a from rx)
  obtain ⟨_,_,vs,_,o2,es,ep,h1,h2,_⟩:=(show ObjOk X.prog X.w H s.heap a (.dK kvs) from I.hok a _ ea)
  exact PySem.W.kia_tup PySem.W.kitx_dict I.kIn ⟨o2,h1,h2.1⟩ g1 e (no _ fun _ z=>nomatch z) fin
 | @dT a kvs ea=>
  cases (show u=Value.ref a from rx)
  obtain ⟨_,_,xs,_,o2,es,ep,h1,h2,_⟩:=(show ObjOk X.prog X.w H s.heap a (.dT kvs) from I.hok a _ ea)
  exact PySem.W.kia_tup PySem.W.kitx_dict I.kIn ⟨o2,h1,h2.1⟩ g1 e (no _ fun _ z=>nomatch z) fin
 | @ins a C dx fs ea cl ha hn htk hm=>
  cases (show u=Value.ref a from rx)
  obtain ⟨mA,O,_⟩:=ins_get I.hok ea
  obtain ⟨od2,J,_⟩:=O.look
  exact PySem.W.kia_tup (PySem.W.kitx_own (cl.get _) cl.hd ha hn htk hm) I.kIn J g1 e (no _ fun _ z=>nomatch z) fin
end
end L2
namespace L2
open PySem PySem.Spec PyProof.Rows
def tCut (t u:TS):TS:=fun D σ H=>∃ P:St→Hp→Prop,t { D with nx:=P } σ H∧∀ σ' H',P σ' H'→u D σ' H'
theorem pss_cut {X:Cx} {st:Stmt} {rest:List Stmt} {t u:TS} (h1:PS X st t) (h2:PSs X rest u):PSs X (st :: rest) (tCut t u):=by
 intro pins s σ H D I h
 obtain ⟨P,q,k⟩:=h
 have z:PSs X (st :: rest) (tSeq (fun D' σ' H'=>D'=D∧σ'=σ∧H'=H) (fun _ _ _=>True))→True:=fun _=>True.intro
 exact pss_cons (t:=fun D' σ' H'=>t { D' with nx:=P } σ' H'∧∀ σ2 H2,P σ2 H2→D'.nx σ2 H2) (u:=u) (fun pins s σ H D I h=>by
  refine thn (h1 pins s σ H _ I h.1) fun f s' r=>?_
  cases f with
  | next=>
   obtain ⟨σ',H',I',p⟩:=r
   exact ⟨σ',H',I',h.2 σ' H' p⟩
  | brk=>exact r
  | cont=>exact r
  | ret v=>exact r) h2 pins s σ H D I ⟨q,k⟩
structure Cal (P:Program) (w:World) (K:PySem.W.Frag) (mg:Str→Option Value) (base:Heap) (x:Str) (k:Nat) (ps:List Str) (sp:Sp) where
 f:Addr
 fd:FuncData
 ok:FnOk P w K mg base CX0 k f fd ps sp
 at_:mg x=some (.ref f)
 kp:PySem.W.keepIn K (.ref f)=true
 b:Binds K fd ps []
theorem pe_c {X:Cx} {x:Str} {k:Nat} {ps:List Str} {sp:Sp} {p pos:Pos} {e:Expr} {es:List Expr} {t:TA} (C:Cal X.prog X.w X.K X.mg X.base x k ps sp) (hr:Room k X.A) (ha:PA X (e :: es) t) (hg:Gl X x:=by rfl)
  (hdb:(x==("__debug__" : Str))=false:=by decide) (he:starEach (e :: es) X.env=(false,eval e X.env) :: starEach es X.env:=by rfl) (hpl:(backTo pos (starEach es X.env)).any (·.1)=false:=by rfl) :
  PE X (.Call (.Name x p) (e :: es) [] pos) (tCall sp [] E0 t):=pe_call C.ok hr hg C.at_ C.kp C.b .nil pass0 ha hdb he hpl
section
variable {X:Cx}
theorem op_le_str:OpR X (compareOp .LtE) (fun x y H Q=>∃ i j,x=.str i∧y=.str j∧Q (.bl (!decide (j.cps.toList < i.cps.toList))) H):=by
 intro pins s σ H x y v u Q I rx ry h
 obtain ⟨i,j,rfl,rfl,q⟩:=h
 obtain ⟨t,rfl⟩:=rx
 obtain ⟨t',rfl⟩:=ry
 exact PySem.P.le_str (fin_bl I q rfl)
end
theorem lt_one (a b:Nat):decide (([a]:List Nat) < [b])=decide (a < b):=by
 rw [Bool.eq_iff_iff,decide_eq_true_eq,decide_eq_true_eq]
 constructor
 ·intro h
  cases h with
  | rel h=>exact h
  | cons h=>cases h
 ·intro h
  exact List.Lex.rel h
section
variable {X:Cx} {K:PySem.W.Frag}
def rLenQ (K:PySem.W.Frag):List V→Hp→VK→Prop:=fun xs H Q=>∃ p ys,xs=[V.ref p]∧(SqL K H p ys∨SqT K H p ys)∧Q (.int ys.length) H
def rListQ (K:PySem.W.Frag):List V→Hp→VK→Prop:=fun xs H Q=>∃ p ys,xs=[V.ref p]∧(SqL K H p ys∨SqT K H p ys)∧∀ l,H l=none→Q (.ref l) (upd H l (.lst ys))
def rTupQ (K:PySem.W.Frag):List V→Hp→VK→Prop:=fun xs H Q=>∃ p ys,xs=[V.ref p]∧((SqL K H p ys∧∀ l,H l=none→Q (.ref l) (upd H l (.tup ys)))∨(SqT K H p ys∧Q (.ref p) H))
def rAllQ (K:PySem.W.Frag):List V→Hp→VK→Prop:=fun xs H Q=>∃ (p:Addr) (bs:List Bool),xs=[V.ref p]∧SqL K H p (bs.map V.bl)∧Q (.bl (bs.all id)) H
theorem ix_listK (hK:X.K=K:=by rfl):IxR X (rIxL K):=by subst hK; exact ix_list
theorem ix_tupK (hK:X.K=K:=by rfl):IxR X (rIxT K):=by subst hK; exact ix_tup
theorem ix_seqK (hK:X.K=K:=by rfl):IxR X (rIx K):=by subst hK; exact ix_seq
theorem call_lenK (hK:X.K=K:=by rfl):CallR X (.builtin "len") (rLenQ K):=by subst hK; exact call_len_seq
theorem call_listK (hK:X.K=K:=by rfl):CallR X (.type "list") (rListQ K):=by subst hK; exact call_list_of
theorem call_tupK (hK:X.K=K:=by rfl):CallR X (.type "tuple") (rTupQ K):=by subst hK; exact call_tuple_of
theorem call_allK (hc:X.calm=true:=by rfl) (hK:X.K=K:=by rfl):CallR X (.builtin "all") (rAllQ K):=by subst hK; exact call_all_bl hc
theorem call_sortK (hK:X.K=K:=by rfl):CallR X (.builtin "sorted") (rSortS K):=by subst hK; exact call_sorted_str
theorem call_isK (hK:X.K=K:=by rfl):CallR X (.builtin "isinstance") (rIs K):=by subst hK; exact call_is
theorem call_is2K (hK:X.K=K:=by rfl):CallR X (.builtin "isinstance") (rIs2 K):=by subst hK; exact call_is2
theorem op_inK (hK:X.K=K:=by rfl):OpR X (compareOp .In) (rIn K false):=by subst hK; exact op_in_seq
theorem op_notInK (hK:X.K=K:=by rfl):OpR X (compareOp .NotIn) (rIn K true):=by subst hK; exact op_notIn_seq
theorem sl_tupK (hK:X.K=K:=by rfl):SlR X (rSlT K):=by subst hK; exact sl_tup
theorem mt_joinK (hK:X.K=K:=by rfl):MtR X "str.join" (rJoin K):=by subst hK; exact mt_join
theorem pi_listK {tg l:Expr} {tl:TE} (hl:PE X l tl) (hK:X.K=K:=by rfl):PI X tg l (iList K tl):=by subst hK; exact pi_list hl
theorem pi_tupK {tg l:Expr} {tl:TE} (hl:PE X l tl) (hK:X.K=K:=by rfl):PI X tg l (iTup K tl):=by subst hK; exact pi_tup hl
theorem pg_tupK {es:List Expr} {k:Nat} {t:TGs} {n:Nat} {pos:Pos} (hc:X.calm=true) (h:PGs X es t) (hK:X.K=K:=by rfl)
  (hn:(assignEach es X.env).length=n:=by rfl) (hst:(assignEach es X.env).findIdx? (·.1)=none:=by rfl):PG X (.Tuple es k pos) (gTup K n t):=by subst hK; exact pg_tup hc h hn hst
theorem pe_bmK {o e:Expr} {es:List Expr} {to:TE} {t:TA} {name:Str} {apos cpos:Pos} {T id:String} {r:V→List V→Hp→VK→Prop} (pa:PlainAttrs T) (slot:Slot T name id) (hty:typeOf (.builtin id)=pure (.type "method_descriptor")) (hm:MtR X id r) (ho:PE X o to)
  (ha:PA X (e :: es) t) (hK:X.K=K:=by rfl) (hbase:attributeBase o name X.env (eval o X.env)=eval o X.env:=by rfl)
  (hfew:((backTo cpos (starEach (e :: es) X.env)).all (fun x=>!x.1) && (backToKw cpos (keywordEach [] X.env)).all (fun x=>x.1.isSome)
   && decide ((e :: es).length+([]:List Keyword).length+(if ([]:List Keyword).isEmpty then 0 else 1) < 30))=true:=by rfl)
  (hline:(apos.endLine==cpos.line)=true:=by rfl) (hs:starEach (e :: es) X.env=(false,eval e X.env) :: starEach es X.env:=by rfl) (hplain:(backTo cpos (starEach es X.env)).any (·.1)=false:=by rfl) :
  PE X (.Call (.Attribute o name apos) (e :: es) [] cpos) (tBM K T r to t):=by subst hK; exact pe_bm pa slot hty hm ho ha hbase hfew hline hs hplain
end
theorem bt_len:bootBuiltins "len" = some (.builtin "len"):=by decide +kernel
theorem bt_sorted:bootBuiltins "sorted" = some (.builtin "sorted"):=by decide +kernel
theorem bt_all:bootBuiltins "all" = some (.builtin "all"):=by decide +kernel
theorem bt_isinstance:bootBuiltins "isinstance" = some (.builtin "isinstance"):=by decide +kernel
theorem bt_list:bootBuiltins "list" = some (.type "list"):=by decide +kernel
theorem bt_tuple:bootBuiltins "tuple" = some (.type "tuple"):=by decide +kernel
theorem bt_bool:bootBuiltins "bool" = some (.type "bool"):=by decide +kernel
theorem bt_enumerate:bootBuiltins "enumerate" = some (.type "enumerate"):=by decide +kernel
theorem bt_reversed:bootBuiltins "reversed" = some (.type "reversed"):=by decide +kernel
theorem bt_set:bootBuiltins "set" = some (.type "set"):=by decide +kernel
theorem cyes {i:Nat} {x:V} {σ:St} {H:Hp} {te:TE} {Nt:VK} {Nf:Hp→Prop} (h:te (σ.set i (some x)) H Nt):gName i x σ H fun σ4 H4=>tYes σ4 H4 fun b H5=>if b=true then te σ4 H5 Nt else Nf H5:=by
 show if true=true then te (σ.set i (some x)) H Nt else Nf H
 exact iteT h
theorem same_new {H:Hp} {p:Addr} (h:H p=none) (o:HO):Same H (upd H p o):=fun b u q=>by rw [upd_ne (ne_of_none q h)]; exact q
theorem line_le {n:Nat} (h:n≤1000):n≤sizeLine:=Nat.le_of_lt (small1000 h)
def FlowXs (sc:Addr) (xs:List V):Prop:=∃ a b c d:Int,xs=[.ref sc,.int a,.int b,.int c,.int d]∧0≤a∧0≤b∧0≤c∧c < 2147483647∧0≤d
structure FlowAt (H:Hp) (p sc:Addr):Prop where
 here:∃ xs,H p=some (.lst xs)∧FlowXs sc xs
 cells:∃ ns:List Int,H sc=some (.lst (ns.map V.int))
theorem FlowAt.ne {H:Hp} {p sc:Addr} (F:FlowAt H p sc):sc≠p:=by
 obtain ⟨xs,h1,a,b,c,d,e,_⟩:=F.here
 obtain ⟨ns,h2⟩:=F.cells
 refine ne_of h2 h1 fun z=>?_
 have z':ns.map V.int=xs:=by injection z
 rw [e] at z'
 cases ns with
 | nil=>cases z'
 | cons n r=>
  rw [List.map_cons] at z'
  injection z' with z1
  cases z1
theorem FlowAt.go {H:Hp} {p sc:Addr} {xs:List V} (F:FlowAt H p sc) (h:FlowXs sc xs):FlowAt (upd H p (.lst xs)) p sc:=by
 obtain ⟨ns,h2⟩:=F.cells
 exact ⟨⟨xs,upd_same,h⟩,ns,by rw [upd_ne F.ne]; exact h2⟩
def Drew (H H':Hp) (p:Addr):Prop:=∀ b o,H b=some o→b≠p→H' b=some o
theorem FlowAt.same {H H':Hp} {p sc:Addr} (F:FlowAt H p sc) (e:Same H H'):FlowAt H' p sc:=by
 obtain ⟨xs,h1,h2⟩:=F.here
 obtain ⟨ns,h3⟩:=F.cells
 exact ⟨⟨xs,e _ _ h1,h2⟩,ns,e _ _ h3⟩
theorem Drew.refl (H:Hp) (p:Addr):Drew H H p:=fun _ _ h _=>h
theorem Drew.trans {H H1 H2:Hp} {p:Addr} (a:Drew H H1 p) (b:Drew H1 H2 p):Drew H H2 p:=fun c o h n=>b c o (a c o h n) n
theorem Drew.upd {H:Hp} {p:Addr} (o:HO):Drew H (upd H p o) p:=fun b u h n=>by rw [upd_ne n]; exact h
theorem Drew.same {H H':Hp} {p:Addr} (h:Same H H'):Drew H H' p:=fun b o e _=>h b o e
def spFlow (K:PySem.W.Frag):Sp:=fun vs H Q _=>∃ (a:Addr) (ns:List Int),vs=[.ref a]∧SqL K H a (ns.map V.int)∧∀ p sc H',H p=none→Same H H'→FlowAt H' p sc→Q (.ref p) H'
def spPick:Sp:=fun vs H Q _=>∃ (p sc:Addr) (m:Int),vs=[.ref p,.int m]∧0 < m∧m < 1073741824∧FlowAt H p sc∧∀ r xs,0≤r→r < m→FlowXs sc xs→Q (.int r) (upd H p (.lst xs))
def IsLetters (z:Str) (n:Nat):Prop:=z.cps.toList.length=n∧z.cps.toList.Pairwise (· < ·)∧∀ c∈z.cps.toList,97≤c∧c≤122
def spLetters:Sp:=fun vs H Q _=>∃ (p sc:Addr) (m:Int),vs=[.ref p,.int m]∧0≤m∧m≤26∧FlowAt H p sc∧∀ z H',IsLetters z m.toNat→Drew H H' p→FlowAt H' p sc→Q (.str z) H'
inductive Dt where
 | non | bl (b:Bool) | int (i:Int) | str (x:Str) | lst (ds:List Dt) | tup (ds:List Dt)
def Dt.dep:Dt→Nat
 | .lst ds=>(ds.map Dt.dep).foldr max 0+1
 | .tup ds=>(ds.map Dt.dep).foldr max 0+1
 | _=>0
inductive Den (H:Hp):V→Dt→Prop where
 | non:Den H .non .non
 | bl (b:Bool):Den H (.bl b) (.bl b)
 | int (i:Int):Den H (.int i) (.int i)
 | str (x:Str):Den H (.str x) (.str x)
 | lst {a:Addr} {xs:List V} {ds:List Dt} (h:H a=some (.lst xs)) (hz:xs.length≤1000000) (hl:xs.length=ds.length) (hd:∀ (i:Nat) x d,xs[i]? = some x→ds[i]? = some d→Den H x d):Den H (.ref a) (.lst ds)
 | tup {a:Addr} {xs:List V} {ds:List Dt} (h:H a=some (.tup xs)) (hz:xs.length≤1000000) (hl:xs.length=ds.length) (hd:∀ (i:Nat) x d,xs[i]? = some x→ds[i]? = some d→Den H x d):Den H (.ref a) (.tup ds)
theorem Den.same {H H':Hp} (e:Same H H') {v:V} {d:Dt} (h:Den H v d):Den H' v d:=by
 induction h with
 | non=>exact .non
 | bl b=>exact .bl b
 | int i=>exact .int i
 | str x=>exact .str x
 | lst h hz hl hd ih=>exact .lst (e _ _ h) hz hl ih
 | tup h hz hl hd ih=>exact .tup (e _ _ h) hz hl ih
theorem foldr_max {l:List Nat} {x:Nat} (h:x∈l):x≤l.foldr max 0:=by
 induction l with
 | nil=>cases h
 | cons y r ih=>
  rw [List.foldr_cons]
  rcases List.mem_cons.mp h with e | e
  ·subst e; omega
  ·have:=ih e; omega
theorem Dt.dep_lst {ds:List Dt} {d:Dt} (h:d∈ds):d.dep < (Dt.lst ds).dep:=by
 have:=foldr_max (List.mem_map_of_mem (f:=Dt.dep) h)
 rw [Dt.dep]
 omega
theorem Dt.dep_tup {ds:List Dt} {d:Dt} (h:d∈ds):d.dep < (Dt.tup ds).dep:=by
 have:=foldr_max (List.mem_map_of_mem (f:=Dt.dep) h)
 rw [Dt.dep]
 omega
def spAlike (n:Nat):Sp:=fun vs H Q _=>∃ (u v:V) (d:Dt),vs=[u,v]∧d.dep < n∧Den H u d∧Den H v d∧∀ H',Same H H'→Q (.bl true) H'
theorem kit_tt (K:PySem.W.Frag) (t:String) (b1 b2 b:Bool) (h1:PySem.W.kitOne K (.type t) (.type "list")=some b1) (h2:PySem.W.kitOne K (.type t) (.type "tuple")=some b2) (hb:(b1 || b2)=b):PySem.W.kitAny K (.type t) [.type "list",.type "tuple"]=some b:=by
 unfold PySem.W.kitAny
 rw [h1]
 cases b1 with
 | true=>subst hb; rfl
 | false=>
  show PySem.W.kitAny K (.type t) [.type "tuple"]=_
  unfold PySem.W.kitAny
  rw [h2]
  cases b2 <;> subst hb <;> rfl
theorem kit_n_l (K:PySem.W.Frag):PySem.W.kitOne K (.type "NoneType") (.type "list")=some false:=by kernel_rfl
theorem kit_n_t (K:PySem.W.Frag):PySem.W.kitOne K (.type "NoneType") (.type "tuple")=some false:=by kernel_rfl
theorem kit_n_b (K:PySem.W.Frag):PySem.W.kitOne K (.type "NoneType") (.type "bool")=some false:=by kernel_rfl
theorem kit_b_l (K:PySem.W.Frag):PySem.W.kitOne K (.type "bool") (.type "list")=some false:=by kernel_rfl
theorem kit_b_t (K:PySem.W.Frag):PySem.W.kitOne K (.type "bool") (.type "tuple")=some false:=by kernel_rfl
theorem kit_b_b (K:PySem.W.Frag):PySem.W.kitOne K (.type "bool") (.type "bool")=some true:=by kernel_rfl
theorem kit_i_l (K:PySem.W.Frag):PySem.W.kitOne K (.type "int") (.type "list")=some false:=by kernel_rfl
theorem kit_i_t (K:PySem.W.Frag):PySem.W.kitOne K (.type "int") (.type "tuple")=some false:=by kernel_rfl
theorem kit_i_b (K:PySem.W.Frag):PySem.W.kitOne K (.type "int") (.type "bool")=some false:=by kernel_rfl
theorem kit_s_l (K:PySem.W.Frag):PySem.W.kitOne K (.type "str") (.type "list")=some false:=by kernel_rfl
theorem kit_s_t (K:PySem.W.Frag):PySem.W.kitOne K (.type "str") (.type "tuple")=some false:=by kernel_rfl
theorem kit_s_b (K:PySem.W.Frag):PySem.W.kitOne K (.type "str") (.type "bool")=some false:=by kernel_rfl
theorem kit_l_l (K:PySem.W.Frag):PySem.W.kitOne K (.type "list") (.type "list")=some true:=by kernel_rfl
theorem kit_l_t (K:PySem.W.Frag):PySem.W.kitOne K (.type "list") (.type "tuple")=some false:=by kernel_rfl
theorem kit_t_l (K:PySem.W.Frag):PySem.W.kitOne K (.type "tuple") (.type "list")=some false:=by kernel_rfl
theorem kit_t_t (K:PySem.W.Frag):PySem.W.kitOne K (.type "tuple") (.type "tuple")=some true:=by kernel_rfl
end L2
namespace L2
open PySem PySem.Spec PyProof.Rows
section
variable {X:Cx} {tg:Expr}
end
def tTru (K:PySem.W.Frag) (ta:TE):TT:=fun σ H Q=>ta σ H fun x H'=>∃ k,TruV K x H' k∧Q k H'
theorem pt_truthK {X:Cx} {K:PySem.W.Frag} {a:Expr} {ta:TE} (ha:PE X a ta) (he:∀ whole,isTrue a X.env whole=(do let v ← whole; standAt a.pos; holding [v] (truthy v))) (hK:X.K=K:=by rfl):PT X a (tTru K ta):=by
 subst hK
 exact pt_truth ha he
end L2
namespace L2
open PySem PySem.Spec PyProof.Rows
def EntS (w:World) (e:Int × Value):Prop:=∃ y u,e=(hashStr w y,Value.str y u)
def keyS (e:Int × Value):Str:=strOf e.2
def SetTx (w:World) (o:Obj) (D:List Str) (n:Nat):Prop:=
 ∃ (es:Array (Int × Value)) (ep:Nat) (t:SetTable),o = { cls:=.type "set",dict:=none,data:=.set es ep t }∧(∀ e∈es.toList,EntS w e)∧
  (es.toList.map keyS).Nodup∧(∀ y,y∈es.toList.map keyS↔y∈D)∧es.size≤n∧t.fits es.size=true∧t.led = !w.params.followText "set-order"∧(es.size=0∨t.plain=false)
theorem lay_marks (t:SetTable) (es:Array (Int × Value)) (h:Int) (x:Value):(layNew t es h x).2.1.led=t.led∧(t.plain=false→(layNew t es h x).2.1.plain=false):=by
 unfold layNew
 split
 ·dsimp only
  unfold SetTable.orStandIn
  split
  ·exact ⟨rfl,fun z=>z⟩
  ·exact ⟨rfl,fun _=>rfl⟩
 ·exact ⟨rfl,fun _=>rfl⟩
theorem relay_marks (t:SetTable) (es:Array (Int × Value)) (n:Nat):(relayAll t es n).2.1.led=t.led∧(t.plain=false→(relayAll t es n).2.1.plain=false):=by
 unfold relayAll
 split
 ·rename_i t' order hr
  dsimp only
  split
  ·unfold SetTable.relaid SetTable.laid at hr
   cases hl:SetTable.layClean (SetTable.sizeAbove n - 1) (es.map (·.1)) with
   | none=>rw [hl] at hr; cases hr
   | some ow=>
    rw [hl] at hr
    have e:=Option.some.inj hr
    have e1:t'.led=t.led:=by rw [← (Prod.mk.inj e).1]
    have e2:t'.plain=t.plain:=by rw [← (Prod.mk.inj e).1]
    exact ⟨e1,fun z=>e2.trans z⟩
  ·exact ⟨rfl,fun _=>rfl⟩
 ·exact ⟨rfl,fun _=>rfl⟩
section
variable {P:Program} {w:World} {A:Around} {E:Value→Shared→Prop} {s:Shared}
theorem elems_of {es:List (Int × Value)} (h:∀ e∈es,EntS w e):ElemsOf (strKind P w) es:=fun e he=>by
 obtain ⟨y,u,rfl⟩:=h e he
 exact ⟨⟨y,by show Value.isStrOf y (.str y u)=true; simp [Value.isStrOf],rfl⟩,rfl⟩
theorem store_text {a:Addr} {es es':Array (Int × Value)} {ep:Nat} {t t':SetTable} {Q:Unit→Shared→Prop} (ho:s.heap.get? a=some { cls:=.type "set",dict:=none,data:=.set es ep t }) (hz:es'.size≤4096)
  (h:∀ h',Heap.SameBut a s.heap h'→h'.get? a=some { cls:=.type "set",dict:=none,data:=.set es' (ep+1) t' }→Q () { s with heap:=h' }):wpAny (model P w) A (storeSet a es' t') Q E s:=by
 refine wpAny_storeSet_of ho rfl (h _ (Heap.SameBut.update _ _ _) ?_) (Nat.le_trans hz (by rw [sizeLine_eq]; omega))
 have e:=Heap.get?_update_self (Obj.putSet es' t') ho (by rw [putSet_of es' t' rfl]; rfl)
 rw [putSet_of es' t' rfl] at e
 exact e
theorem tail_text {g:Bool→Sem Unit} (hg:∀ (b:Bool) (s₁:Shared) (Q':Unit→Shared→Prop),Q' () s₁→wpAny (model P w) A (g b) Q' E s₁) {a:Addr} {es es1:Array (Int × Value)} {ep:Nat} {t t2:SetTable}
  (ho:s.heap.get? a=some { cls:=.type "set",dict:=none,data:=.set es ep t }) (hz:es1.size≤4096) (hf:t2.fits es1.size=true) {wd:Bool} {R:Option Bool→Shared→Prop}
  (h:∀ h' es2 ep2 t3,Heap.SameBut a s.heap h'→h'.get? a=some { cls:=.type "set",dict:=none,data:=.set es2 ep2 t3 }→es2.toList.Perm es1.toList→t3.fits es2.size=true→t3.led=t2.led→(t2.plain=false→t3.plain=false)→
   R (some true) { s with heap:=h' }) :
  wpAny (model P w) A (do
   storeSet a es1 t2
   if (!wd && t2.tooFull)=true then do
    g (relayAll t2 es1 (SetTable.grown es1.size)).2.2
    storeSet a (relayAll t2 es1 (SetTable.grown es1.size)).1
     (relayAll t2 es1 (SetTable.grown es1.size)).2.1
    pure (some true)
   else pure (some true)) R E s:=by
 refine wpAny_bind (store_text ho hz fun h1 sb1 e1=>?_)
 split
 ·have hp:=relayAll_perm t2 es1 (SetTable.grown es1.size)
  have hfr:=relayAll_fits t2 es1 (SetTable.grown es1.size)
  have hmk:=relay_marks t2 es1 (SetTable.grown es1.size)
  generalize hRl:relayAll t2 es1 (SetTable.grown es1.size)=Rl at hp hfr hmk ⊢
  obtain ⟨es2,t3,gv⟩:=Rl
  dsimp only at hp hfr hmk ⊢
  have hsz:es2.size=es1.size:=by rw [← Array.length_toList,hp.length_eq,Array.length_toList]
  refine wpAny_bind (hg _ _ _ ?_)
  refine wpAny_bind (store_text (s:={ s with heap:=h1 }) e1 (by rw [hsz]; exact hz) fun h2 sb2 e2=>?_)
  exact wpAny_pure (h h2 _ _ _ (sb1.trans sb2) e2 hp hfr hmk.1 hmk.2)
 ·exact wpAny_pure (h h1 _ _ _ sb1 e1 (List.Perm.refl _) hf rfl fun z=>z)
theorem key_is {es:List (Int × Value)} (h:∀ e∈es,EntS w e) {e:Int × Value} (he:e∈es) (y:Str):(strKind P w).is y e.2=true↔keyS e=y:=by
 obtain ⟨z,u,rfl⟩:=h e he
 show Value.isStrOf y (.str z u)=true↔z=y
 simp only [Value.isStrOf,beq_iff_eq]
theorem add_text {a:Addr} {o:Obj} {D:List Str} {n:Nat} {Q:Bool→Shared→Prop} (ho:s.heap.get? a=some o) (hS:SetTx w o D n) (hb:n+1 < 4096) (y:Str) (u:Tok)
  (h:∀ b h' o',Heap.SameBut a s.heap h'→h'.get? a=some o'→SetTx w o' (D ++ [y]) (n+1)→Q b { s with heap:=h' }):wpAny (model P w) A (setAddHashed a (.str y u) (hashStr w y)) Q E s:=by
 obtain ⟨es,ep,t,rfl,hen,hnd,hmem,hsz,hf,hled,hpl⟩:=hS
 have hel:ElemsOf (strKind P w) es.toList:=elems_of hen
 have hbs:es.size < scanBound:=by show es.size < 4096; omega
 have hkey:(strKind P w).is y (.str y u)=true:=by show Value.isStrOf y (.str y u)=true; simp [Value.isStrOf]
 unfold setAddHashed setAddHashedIn
 refine wpAny_holding (wpAny_bind (wpAny_setState_of ho rfl hf ?_))
 dsimp only
 rw [byScan_of (knd:=strKind P w) (x:=.str y u) rfl hbs hel]
 simp only [↓reduceIte]
 unfold setAddByScan
 refine wpAny_bind (wpAny_bind (wpAny_rule (wpAny_bind ?_)))
 refine wpAny_setScan_of (knd:=strKind P w) (k:=y) hkey ho rfl hf hel ?_
 have hfi:∀ r,es.toList.findIdx? (fun e=>(strKind P w).is y e.2)=r→r.isSome=decide (y∈es.toList.map keyS):=fun r hr=>by
  subst hr
  rw [Bool.eq_iff_iff,decide_eq_true_eq,List.findIdx?_isSome,List.any_eq_true,List.mem_map]
  exact ⟨fun ⟨e,he,z⟩=>⟨e,he,(key_is (P:=P) hen he y).mp z⟩,fun ⟨e,he,z⟩=>⟨e,he,(key_is (P:=P) hen he y).mpr z⟩⟩
 cases hr:es.toList.findIdx? (fun e=>(strKind P w).is y e.2) with
 | some j=>
  have hin:y∈es.toList.map keyS:=of_decide_eq_true (hfi _ hr).symm
  dsimp only
  refine wpAny_pure (wpAny_pure ?_)
  refine h _ s.heap _ (Heap.SameBut.refl a s.heap) ho ⟨es,ep,t,rfl,hen,hnd,fun z=>?_,by omega,hf,hled,hpl⟩
  rw [hmem z,List.mem_append,List.mem_singleton]
  exact ⟨.inl,fun z=>z.elim id fun e=>e▸(hmem y).mp hin⟩
 | none=>
  have hout:y∉es.toList.map keyS:=fun z=>by
   have:=hfi _ hr
   rw [decide_eq_true z] at this
   cases this
  dsimp only
  have hperm:=layNew_perm t es (hashStr w y) (.str y u)
  have hfits:=layNew_fits t es (hashStr w y) (.str y u)
  have hmk:=lay_marks t es (hashStr w y) (.str y u)
  show wpAny (model P w) A (_ >>= _) _ _ _
  have eh:(strKind P w).hash y=hashStr w y:=rfl
  generalize hL:layNew t es (hashStr w y) (.str y u)=L at hperm hfits hmk ⊢
  obtain ⟨es1,t1,wd,gv⟩:=L
  dsimp only at hperm hfits hmk ⊢
  rw [Array.toList_push] at hperm
  have hsz1:es1.size=es.size+1:=by rw [← Array.length_toList,hperm.length_eq,List.length_append,Array.length_toList]; rfl
  have hgw:∀ (b:Bool) (s₁:Shared) (Q':Unit→Shared→Prop),Q' () s₁→wpAny (model P w) A (match b with | true=>rule "set.scan.the-table-gave-way" | false=>pure ()) Q' E s₁:=
   fun b s₁ Q' hq=>by cases b <;> first | exact wpAny_pure hq | exact wpAny_rule hq
  have fin:∀ t2:SetTable,t2.led=t1.led→t2.plain=false→t2.fits es1.size=true→∀ h' es2 ep2 t3,Heap.SameBut a s.heap h'→h'.get? a=some { cls:=.type "set",dict:=none,data:=.set es2 ep2 t3 }→es2.toList.Perm es1.toList→
    t3.fits es2.size=true→t3.led=t2.led→(t2.plain=false→t3.plain=false)→Q true { s with heap:=h' }:=fun t2 l2 p2 _ h' es2 ep2 t3 sb e2 hp f3 l3 p3=>by
   have pm:es2.toList.Perm (es.toList ++ [(hashStr w y,.str y u)]):=hp.trans hperm
   have pk:(es2.toList.map keyS).Perm (es.toList.map keyS ++ [y]):=by
    have:=pm.map keyS
    rw [List.map_append] at this
    exact this
   refine h _ h' _ sb e2 ⟨es2,ep2,t3,rfl,fun e he=>?_,?_,fun z=>?_,?_,f3,?_,.inr (p3 p2)⟩
   ·rcases List.mem_append.mp (pm.mem_iff.mp he) with z | z
    ·exact hen e z
    ·exact ⟨y,u,List.mem_singleton.mp z⟩
   ·refine pk.nodup_iff.mpr (List.nodup_append.mpr ⟨hnd,by simp,fun a ha b hb=>?_⟩)
    rw [List.mem_singleton.mp hb]
    exact fun z=>hout (z▸ha)
   ·rw [pk.mem_iff,List.mem_append,List.mem_append,hmem z]
   ·have:es2.size=es1.size:=by rw [← Array.length_toList,hp.length_eq,Array.length_toList]
    omega
   ·rw [l3,l2,hmk.1,hled]
  refine wpAny_bind (hgw _ _ _ ?_)
  split
  ·refine wpAny_bind ?_
   rw [hashByValue_scannable 8 (x:=.str y u) rfl]
   refine wpAny_pure ?_
   refine tail_text hgw ho (by omega) (t2:={ t1 with plain:=false }) (SetTable.fits_plain_off hfits) fun h' es2 ep2 t3 sb e2 hp f3 l3 p3=>?_
   dsimp only
   exact wpAny_pure (fin { t1 with plain:=false } rfl rfl (SetTable.fits_plain_off hfits) h' es2 ep2 t3 sb e2 hp f3 l3 p3)
  ·rename_i hnp
   refine wpAny_bind (wpAny_pure ?_)
   simp only [↓reduceIte]
   refine tail_text hgw ho (by omega) hfits fun h' es2 ep2 t3 sb e2 hp f3 l3 p3=>?_
   dsimp only
   exact wpAny_pure (fin t1 rfl (by simpa using hnp) hfits h' es2 ep2 t3 sb e2 hp f3 l3 p3)
def newSetObj (w:World):Obj:={ cls:=.type "set",dict:=none,data:=.set #[] 0 (.fresh 0 0 (!w.params.followText "set-order")) }
theorem new_text (v:Value) {Q₁:Value→Shared→Prop} (h:Q₁ (.ref s.heap.objs.size) { s with heap:=s.heap.push (newSetObj w) }):codeAny (model P w) A (.call (.builtin "set.__new__") ⟨[.type "set",v],[]⟩) (wants Q₁ E) s:=by
 refine codeAny_of_tree ?_
 show wpAny _ A.in1 (do checkBuiltinCall "set.__new__" ⟨[.type "set",v],[]⟩; again (.builtin "set.__new__" ⟨[.type "set",v],[]⟩)) _ _ s
 refine wpAny_bind (wpAny_of_eq (PySem.F.newCall_set_1 v) (wpAny_pure ⟨plainId_quiet PySem.F.plain_set_new _,codeAny_builtin PySem.F.entry_set_new ?_⟩))
 rw [Around.under_plainId PySem.F.plain_set_new _]
 unfold Builtin.«set.__new__» Builtin.Frozenset.newClass
 have hsub:=PySem.sub_set_self
 obtain ⟨hp,g,d,tk,os⟩:=s
 dsimp only
 wp_walk
 refine wpAny_askSetting (wpAny_pure ?_)
 dsimp only
 simp only [newObj]
 exact wpAny_bind (wpAny_alloc (wpAny_pure (wpAny_pure h)))
theorem newTx (w:World):SetTx w (newSetObj w) [] 0:=
 ⟨#[],0,_,rfl,fun e he=>by simp at he,by simp,fun y=>by simp,Nat.le_refl _,rfl,rfl,.inl rfl⟩
set_option maxHeartbeats 3200000 in
end
end L2
namespace L2
open PySem PySem.Spec PyProof.Rows
theorem slot_si_next:Slot "set_iterator" "__next__" "set_iterator.__next__":=
 .of (owner:="set_iterator") (n:="__next__") (by rw [typeLookup_type,builtinLookup_eq_fast]; kernel_rfl) (by decide +kernel) (by decide +kernel) (by decide +kernel) (by first | exact .inl (by decide +kernel) | exact .inr (by decide +kernel)) (by rw [isSubtype_type]; kernel_rfl)
theorem slot_si_iter:Slot "set_iterator" "__iter__" "set_iterator.__iter__":=
 .of (owner:="set_iterator") (n:="__iter__") (by rw [typeLookup_type,builtinLookup_eq_fast]; kernel_rfl) (by decide +kernel) (by decide +kernel) (by decide +kernel) (by first | exact .inl (by decide +kernel) | exact .inr (by decide +kernel)) (by rw [isSubtype_type]; kernel_rfl)
theorem entry_si_next:entryFor table "set_iterator.__next__" = some Builtin.«set_iterator.__next__»:=entryFor_of_tree (by kernel_rfl)
theorem args_si_next (a:Value):argsOk "set_iterator.__next__" ⟨[a],[]⟩:=by unfold argsOk; kernel_rfl
theorem args_si_iter (a:Value):argsOk "set_iterator.__iter__" ⟨[a],[]⟩:=by unfold argsOk; kernel_rfl
theorem entry_set_iter:entryFor table "set.__iter__" = some Builtin.«frozenset.__iter__»:=
 entryFor_alias (id':="frozenset.__iter__") (by kernel_rfl) rfl (by decide +kernel) (by kernel_rfl)
theorem erase_permI {α:Type}:∀ (l:List α) (i:Nat) (h:i < l.length),(l[i] :: l.eraseIdx i).Perm l
 | x :: l,0,h=>List.Perm.refl _
 | x :: l,i+1,h=>by
  have:=erase_permI l i (by simpa using h)
  exact (List.Perm.swap _ _ _).trans (List.Perm.cons x this)
theorem pick_go {α:Type} (next:Nat→Nat):∀ (fuel k:Nat) (left:List α) (out:Array α),left.length=fuel→(pickOrder.go next fuel k left out).toList.Perm (out.toList ++ left)
 | 0,k,left,out,h=>by
  rw [List.eq_nil_of_length_eq_zero h,List.append_nil]
  exact List.Perm.refl _
 | fuel+1,k,left,out,h=>by
  have hlt:next k % left.length < left.length:=Nat.mod_lt _ (by omega)
  unfold pickOrder.go
  rw [List.getElem?_eq_getElem hlt]
  dsimp only
  refine (pick_go next fuel (k+1) _ _ (by rw [List.length_eraseIdx,if_pos hlt]; omega)).trans ?_
  rw [Array.toList_push,List.append_assoc]
  refine List.Perm.append_left _ ?_
  exact (erase_permI _ _ hlt)
theorem pick_perm {α:Type} (next:Nat→Nat) (xs:Array α):(pickOrder next xs).toList.Perm xs.toList:=by
 have:=pick_go next xs.size 0 xs.toList #[] (by simp)
 rw [show (#[]:Array α).toList=[] from rfl,List.nil_append] at this
 exact this
section
variable {P:Program} {w:World} {A:Around} {E:Value→Shared→Prop} {s:Shared}
theorem draw_any {α:Type}:∀ (n:Nat) (xs:List α) {s:Shared} {Q:List α→Shared→Prop},xs.length=n→(∀ ps d',ps.Perm xs→Q ps { s with drawn:=d' })→wpAny (model P w) A (drawOrder n xs) Q E s
 | 0,xs,s,Q,h,hq=>by
  rw [List.eq_nil_of_length_eq_zero h] at hq ⊢
  exact wpAny_pure (hq [] s.drawn (List.Perm.refl _))
 | n+1,[],s,Q,h,hq=>by cases h
 | n+1,x :: xs,s,Q,h,hq=>by
  unfold drawOrder
  refine wpAny_bind ?_
  intro Γ p hΓ
  show Sem.wp _ _ (Sem.choose .order (x :: xs).length Sem.pure) _ _ _ _
  rw [Sem.wp_choose]
  refine ⟨by simp,?_⟩
  have hlt:=Nat.mod_lt ((model P w).w.draws .order (s.drawn.get .order)) (show 0 < (x :: xs).length by simp)
  generalize ((model P w).w.draws .order (s.drawn.get .order)) % (x :: xs).length=i at hlt
  rw [Sem.wp_pure]
  refine (show wpAny (model P w) A (match (x :: xs)[i]? with | some y=>(do return y :: (← drawOrder n ((x :: xs).eraseIdx i))) | none=>unsupported "internal:drawOrder") Q E { s with drawn:=s.drawn.bump .order } from ?_)
  rw [List.getElem?_eq_getElem hlt]
  dsimp only
  refine wpAny_bind (draw_any n _ (by rw [List.length_eraseIdx,if_pos hlt]; omega) fun ps d' hp=>wpAny_pure ?_)
  exact hq _ _ ((List.Perm.cons _ hp).trans (erase_permI _ _ hlt))
def setO (es:Array (Int × Value)) (ep:Nat) (t:SetTable):Obj:={ cls:=.type "set",dict:=none,data:=.set es ep t }
def itO (f:Value) (i:Nat) (S:Addr) (n ep:Nat):Obj:={ cls:=.type "set_iterator",data:=.fields #[f,.int i 0,.ref S,.int n 0,.int ep 0] }
def ItT (w:World) (I S T:Addr) (es:Array (Int × Value)) (ep:Nat) (t:SetTable) (vs:List Value) (i:Nat) (h:Heap):Prop:=
 h.get? S=some (setO es ep t)∧(
  (w.params.followText "set-order" = true∧vs=(pickOrder (w.params.setOrder S ep) es).toList.map (·.2)∧h.get? I=some (itO (.int 0 0) i S es.size ep))∨
  (w.params.followText "set-order" = false∧es.size≤1∧vs=es.toList.map (·.2)∧∃ k:Nat,h.get? I=some (itO (.int k 0) i S es.size ep)∧SetTable.below t.place k=i)∨
  (w.params.followText "set-order" = false∧∃ ps:List Nat,vs=ps.map (fun p=>((es[p]?).map (·.2)).getD .none)∧(∀ p∈ps,p < es.size)∧h.get? I=some (itO (.ref T) i S es.size ep)∧
   h.get? T=some { cls:=.type "tuple",data:=.seq (ps.map fun (p:Nat)=>Value.int p 0).toArray }))
theorem fields_step {a:Addr} {i:Nat} {f v:Value} {j:Nat} {S:Addr} {n ep:Nat} {Q:Unit→Shared→Prop} (ho:s.heap.get? a=some (itO f j S n ep)) (hi:i < 5)
  (h:∀ h',Heap.SameBut a s.heap h'→h'.get? a=some { cls:=.type "set_iterator",data:=.fields ((#[f,.int j 0,.ref S,.int n 0,.int ep 0]:Array Value).setIfInBounds i v) }→Q () { s with heap:=h' }) :
  wpAny (model P w) A (setField (.ref a) i v) Q E s:=
 wpAny_setField_rec (cls:=.type "set_iterator") (vs:=#[f,.int j 0,.ref S,.int n 0,.int ep 0]) ho hi fun h' e sb=>h h' sb e
theorem raise_stop {Q:Option Value→Shared→Prop} {Q0:Fin→Shared→Prop} (hh:A.handled=none) (hQ:∀ h',(∀ b o,s.heap.get? b=some o→h'.get? b=some o)→Q none { s with heap:=h' }) :
  wpAny (model P w) A (do raiseNew (← newExc (.type "StopIteration") [])) Q0 (fun e s'=>wpAny (model P w) A (do if ← isInstance e (.type "StopIteration") then pure none else throw e) Q E s') s:=by
 refine wpAny_bind ?_
 simp only [newExc,newTuple]
 refine wpAny_bind (wpAny_newObj_type ?_ (by size_fits))
 refine wpAny_bind (m:=firstArgMember _ _) (wpAny_of_eq (a:=Value.none) (by first | rfl | (simp only [firstArgMember]; rfl)) ?_)
 refine wpAny_newObj_type ?_ (by size_fits)
 simp only [raiseNew]
 refine wpAny_bind (wpAny_handled ?_)
 rw [hh]
 refine wpAny_bind (wpAny_pure (wpAny_throw ?_))
 refine wpAny_bind (wpAny_isInstance (T:="StopIteration") (b:=true) ⟨_,Heap.get?_push_size _ rfl,rfl⟩ isSubtype_stop ?_)
 exact wpAny_pure (hQ _ fun b o e=>Heap.get?_push_of_some _ (Heap.get?_push_of_some _ e))
theorem by_text {Q:Bool→Shared→Prop} (h:Q (w.params.followText "set-order") s):wpAny (model P w) A setsByText Q E s:=by
 unfold setsByText
 exact wpAny_bind (wpAny_askSetting (wpAny_pure h))
theorem turn_text {I S:Addr} {f v:Value} {i n ep nx:Nat} {Q:Option Value→Shared→Prop} {E0:Value→Shared→Prop} (hI:s.heap.get? I=some (itO f i S n ep))
  (hQ:∀ h',(∀ b,b≠I→h'.get? b=s.heap.get? b)→h'.get? I=some (itO (.int nx 0) (i+1) S n ep)→Q (some v) { s with heap:=h' }) :
  wpAny (model P w) A.in1 (do setField (.ref I) 0 (rawInt nx); setField (.ref I) 1 (rawInt (i+1)); ret v) (fun fin s'=>∃ v,fin=Fin.done (Flow.ret v)∧wpAny (model P w) A (pure (some v)) Q E s') E0 s:=by
 refine wpAny_bind (fields_step hI (by omega) fun h1 sb1 e1=>?_)
 refine wpAny_bind (fields_step (s:={ s with heap:=h1 }) (f:=.int nx 0) e1 (by omega) fun h2 sb2 e2=>?_)
 exact wpAny_pure ⟨v,rfl,wpAny_pure (hQ h2 (fun b hb=>(sb2.2 b hb).trans (sb1.2 b hb)) e2)⟩
theorem below_one {pl:Array Nat} {j:Nat} (h:pl.size=1) (e:pl[0]? = some j):SetTable.below pl (j+1)=1:=by
 obtain ⟨l⟩:=pl
 match l,h with
 | [z],_=>
  have:z=j:=by simpa using e
  subst this
  simp [SetTable.below,SetTable.below.go]
theorem below_zero (pl:Array Nat):SetTable.below pl 0=0:=by
 have:∀ fuel hi,SetTable.below.go pl 0 fuel 0 hi=0:=fun fuel=>by
  induction fuel with
  | zero=>intro hi; rfl
  | succ n ih=>
   intro hi
   unfold SetTable.below.go
   split
   ·dsimp only
    rw [if_neg (Nat.not_lt_zero _)]
    exact ih _
   ·rfl
 exact this _ _
theorem led_ok {Q:Unit→Shared→Prop} {t:SetTable} {es:Array (Int × Value)} (h:t.led=true) (q:Q () s):wpAny (model P w) A (if (!t.led && !es.isEmpty)=true then unsupported "set:maker-not-led" else pure ()) Q E s:=by
 rw [h]
 exact wpAny_pure q
theorem next_text {I S T:Addr} {es:Array (Int × Value)} {ep:Nat} {t:SetTable} {vs:List Value} {i:Nat} {Q:Option Value→Shared→Prop} (hIS:S≠I) (hIT:T≠I) (hst:ItT w I S T es ep t vs i s.heap) (hh:A.handled=none)
  (hf:t.fits es.size=true) (hled:t.led = !w.params.followText "set-order") (hi:i≤vs.length)
  (hQ:∀ v h',vs[i]? = some v→(∀ b,b≠I→h'.get? b=s.heap.get? b)→ItT w I S T es ep t vs (i+1) h'→Q (some v) { s with heap:=h' })
  (hN:vs[i]? = none→∀ h',(∀ b o,b≠I→s.heap.get? b=some o→h'.get? b=some o)→Q none { s with heap:=h' }):wpAny (model P w) A (pyNext (.ref I)) Q E s:=by
 obtain ⟨hS,hm⟩:=hst
 have hI:∃ f,s.heap.get? I=some (itO f i S es.size ep):=by
  rcases hm with ⟨_,_,e⟩ | ⟨_,_,_,k,e,_⟩ | ⟨_,ps,_,_,e,_⟩ <;> exact ⟨_,e⟩
 obtain ⟨f,hI⟩:=hI
 have hT:s.TypeIs (.ref I) "set_iterator":=⟨_,hI,rfl⟩
 have stop:∀ (s1:Shared) (Q0:Fin→Shared→Prop) (f1:Value),(∀ b o,b≠I→s.heap.get? b=some o→s1.heap.get? b=some o)→s1 = { s with heap:=s1.heap }→s1.heap.get? I=some (itO f1 i S es.size ep)→vs[i]? = none→
   wpAny (model P w) A.in1 (do setField (.ref I) 2 .none; raiseNew (← newExc (.type "StopIteration") [])) Q0 (fun e s'=>wpAny (model P w) A (do if ← isInstance e (.type "StopIteration") then pure none else throw e) Q E s') s1:=fun s1 Q0 f1 k e1 eI en=>by
  refine wpAny_bind (fields_step eI (by omega) fun h2 sb2 _=>?_)
  refine raise_stop (A:=A.in1) hh (s:={ s1 with heap:=h2 }) (Q:=Q) (fun h3 k3=>?_) |> fun z=>wpAny_mono z (fun _ _ q=>q) fun e s' q=>wpAny_of_in1 q
  have:=hN en h3 fun b o hb e=>k3 b o ((sb2.2 b hb).trans (k b o hb e))
  rw [e1]
  exact this
 have hpl:t.place.size=es.size:=by
  have:=hf
  simp only [SetTable.fits,Bool.and_eq_true,beq_iff_eq] at this
  exact this.1
 unfold pyNext
 refine wpAny_bind (wpAny_attempt (wpAny_callSpecial?_slot (name:=Str.ofString "__next__") hT slot_si_next (wpAny_call_entry slot_si_next hT entry_si_next ?_ (args_si_next _))))
 unfold Builtin.«set_iterator.__next__»
 refine wpAny_bind (m:=slotArgs "__next__" 0 _) (wpAny_pure (wpAny_bind ?_))
 refine wpAny_fieldsOf hI rfl ?_
 show wpAny (model P w) _ (do if ((← setEntries S).size:Int) != (es.size:Int) then _ else _) _ _ _
 refine wpAny_bind (wpAny_setEntries_of hS rfl hf ?_)
 rw [if_neg (by simp)]
 rcases hm with ⟨hb,rfl,hI'⟩ | ⟨hb,h1,rfl,k,hI',hk⟩ | ⟨hb,ps,rfl,hps,hI',hT'⟩
 ·cases hI.symm.trans hI'
  show wpAny (model P w) _ (setNext S 0 i ep >>= _) _ _ _
  unfold setNext
  refine wpAny_bind (wpAny_bind (wpAny_setState_of hS rfl hf ?_))
  refine wpAny_bind (by_text ?_)
  rw [hb]
  simp only [if_true]
  rw [if_neg (by simp)]
  refine wpAny_bind ?_
  unfold setWalk
  refine wpAny_bind (wpAny_setState_of hS rfl hf (wpAny_bind (by_text ?_)))
  rw [hb]
  simp only [if_true]
  refine wpAny_bind (wpAny_askSetting (wpAny_pure (wpAny_pure ?_)))
  show wpAny (model P w) A.in1 (match ((pickOrder (w.params.setOrder S ep) es)[i]?).map (fun e=>(e.2,0)) with | some (x,next)=>_ | none=>_) _ _ _
  cases hv:(pickOrder (w.params.setOrder S ep) es)[i]? with
  | none=>
   refine stop s _ _ (fun b o _ e=>e) rfl hI ?_
   rw [List.getElem?_map,Array.getElem?_toList,hv]
   rfl
  | some e=>
   have hv':((pickOrder (w.params.setOrder S ep) es).toList.map (·.2))[i]? = some e.2:=by
    rw [List.getElem?_map,Array.getElem?_toList,hv]
    rfl
   exact turn_text (nx:=0) hI fun h' k e1=>hQ _ h' hv' k ⟨(k S hIS).trans hS,.inl ⟨hb,rfl,e1⟩⟩
 ·cases hI.symm.trans hI'
  show wpAny (model P w) _ (setNext S k i ep >>= _) _ _ _
  unfold setNext
  refine wpAny_bind (wpAny_bind (wpAny_setState_of hS rfl hf ?_))
  refine wpAny_bind (by_text ?_)
  rw [hb]
  simp only [Bool.false_eq_true,if_false]
  refine wpAny_ite_split (fun hd=>?_) (fun _=>?_)
  ·have hd':(!t.plain && decide (es.size > 1))=true:=hd
   simp only [Bool.and_eq_true,decide_eq_true_eq] at hd'
   omega
  ·refine wpAny_bind (led_ok (by rw [hled,hb]; rfl) (wpAny_pure ?_))
   rw [hk]
   cases hv:es[i]? with
   | none=>
    refine stop s _ _ (fun b o _ e=>e) rfl hI ?_
    rw [List.getElem?_map,Array.getElem?_toList,hv]
    rfl
   | some e=>
    have hlt:i < es.size:=by
     rcases Nat.lt_or_ge i es.size with z | z
     ·exact z
     ·rw [Array.getElem?_eq_none z] at hv; cases hv
    have hi0:i=0:=by omega
    subst hi0
    have hv':(es.toList.map (·.2))[0]? = some e.2:=by
     rw [List.getElem?_map,Array.getElem?_toList,hv]
     rfl
    have hj:t.place[0]? = some (t.place[0]'(by omega)):=Array.getElem?_eq_getElem (by omega)
    rw [hj]
    obtain ⟨eh,ev⟩:=e
    exact turn_text (nx:=t.place[0]'(by omega)+1) hI fun h' k e1=>hQ _ h' hv' k ⟨(k S hIS).trans hS,.inr (.inl ⟨hb,h1,rfl,_,e1,below_one (by omega) hj⟩)⟩
 ·cases hI.symm.trans hI'
  show wpAny (model P w) A.in1 (seqItems? (.ref T) >>= _) _ _ _
  unfold seqItems?
  refine wpAny_bind (wpAny_bind (wpAny_load hT' (wpAny_pure ?_)))
  show wpAny (model P w) A.in1 (match ((ps.map fun (p:Nat)=>Value.int p 0).toArray)[i]? with | some (.int place _)=>_ | some _=>_ | none=>_) _ _ _
  cases hv:ps[i]? with
  | none=>
   have e0:((ps.map fun (p:Nat)=>Value.int p 0).toArray)[i]? = none:=by
    rw [List.getElem?_toArray,List.getElem?_map,hv]
    rfl
   rw [e0]
   refine wpAny_bind (fields_step hI (by omega) fun h1 sb1 e1=>?_)
   refine stop { s with heap:=h1 } _ (rawInt 0) (fun b o hb e=>(sb1.2 b hb).trans e) rfl e1 ?_
   rw [List.getElem?_map,hv]
   rfl
  | some p=>
   have e0:((ps.map fun (p:Nat)=>Value.int p 0).toArray)[i]? = some (Value.int p 0):=by
    rw [List.getElem?_toArray,List.getElem?_map,hv]
    rfl
   rw [e0]
   have hp:=hps p (List.mem_of_getElem? hv)
   have he:es[p]? = some es[p]:=Array.getElem?_eq_getElem hp
   show wpAny (model P w) A.in1 (setNextDrawn S p ep >>= _) _ _ _
   unfold setNextDrawn
   refine wpAny_bind (wpAny_bind (wpAny_setState_of hS rfl hf ?_))
   dsimp only
   rw [if_neg (by simp)]
   rw [he]
   generalize he2:es[p]=e2 at he
   obtain ⟨eh,ev⟩:=e2
   have hv':(ps.map fun p=>((es[p]?).map (·.2)).getD .none)[i]? = some ev:=by
    rw [List.getElem?_map,hv]
    show some (((es[p]?).map (·.2)).getD .none)=_
    rw [he]
    rfl
   refine wpAny_pure (wpAny_bind (fields_step hI (by omega) fun h1 sb1 e1=>?_))
   exact wpAny_pure ⟨ev,rfl,wpAny_pure (hQ ev h1 hv' (fun b hb=>sb1.2 b hb) ⟨(sb1.2 S hIS).trans hS,.inr (.inr ⟨hb,ps,rfl,hps,e1,(sb1.2 T hIT).trans hT'⟩)⟩)⟩
theorem iter_text {S:Addr} {es:Array (Int × Value)} {ep:Nat} {t:SetTable} {Q:Value→Shared→Prop} (hS:s.heap.get? S=some (setO es ep t)) (hf:t.fits es.size=true) (hp:es.size=0∨t.plain=false) (hz:es.size≤4096)
  (hQ:∀ I T vs h' d',(∀ b o,s.heap.get? b=some o→h'.get? b=some o)→s.heap.objs.size≤I→s.heap.objs.size≤T→T≠I→vs.Perm (es.toList.map (·.2))→ItT w I S T es ep t vs 0 h'→Q (.ref I) { s with heap:=h',drawn:=d' }) :
  wpAny (model P w) A (pyIter (.ref S)) Q E s:=by
 have hT:s.TypeIs (.ref S) "set":=⟨_,hS,rfl⟩
 refine wpAny_pyIter_slot hT PySem.F.slot_set_iter (wpAny_call_entry PySem.F.slot_set_iter hT entry_set_iter ?_ (PySem.F.args_set_iter_1 _))
 unfold Builtin.«frozenset.__iter__» Builtin.Frozenset.slot0
 refine wpAny_bind (wpAny_bind (m:=slotArgs "__iter__" 0 _) (wpAny_pure (wpAny_pure ?_)))
 unfold Builtin.Frozenset.sizeOf
 refine wpAny_bind (wpAny_bind (wpAny_setEntries_of hS rfl hf (wpAny_pure ?_)))
 refine wpAny_bind ?_
 unfold setDrawn
 refine wpAny_bind (wpAny_setState_of hS rfl hf (wpAny_bind (by_text (wpAny_pure ?_))))
 have fin:∀ (s1:Shared) (f:Value),s1.heap.get? S=some (setO es ep t)→(∀ h',(∀ b o,s1.heap.get? b=some o→h'.get? b=some o)→h'.get? s1.heap.objs.size=some (itO f 0 S es.size ep)→Q (.ref s1.heap.objs.size) { s1 with heap:=h' })→
   wpAny (model P w) A.in1 (do ret (← newFields "set_iterator" [f,rawInt 0,.ref S,rawInt es.size,rawInt (← setEpoch S)])) (fun fin s'=>∃ v,fin=.done (.ret v)∧∃ T' r,s'.TypeIs v T'∧typeLookup (.type T') "__next__" = pure (some r)∧Q v s') E s1:=fun s1 f e1 q=>by
  refine wpAny_bind (wpAny_setEpoch_of e1 rfl hf ?_)
  refine wpAny_bind (wpAny_newObj_type ?_ (by size_fits))
  refine wpAny_pure ⟨_,rfl,"set_iterator",_,⟨_,Heap.get?_push_size _ rfl,rfl⟩,slot_si_next.lookup,?_⟩
  exact q _ (fun b o e=>Heap.get?_push_of_some _ e) (Heap.get?_push_size _ rfl)
 have lt:=Heap.lt_size hS
 cases hb:w.params.followText "set-order" with
 | true=>
  dsimp only
  refine wpAny_ite_split (fun hd=>nomatch (show false=true from hd)) (fun _=>wpAny_bind (wpAny_pure ?_))
  refine fin s (rawInt 0) hS fun h' k e=>?_
  exact hQ _ (s.heap.objs.size+1) _ h' s.drawn k (Nat.le_refl _) (Nat.le_succ _) (Nat.succ_ne_self _) ((pick_perm _ es).map _) ⟨k _ _ hS,.inl ⟨hb,rfl,e⟩⟩
 | false=>
  by_cases h1:es.size≤1
  ·dsimp only
   refine wpAny_ite_split (fun hd=>?_) (fun _=>wpAny_bind (wpAny_pure ?_))
   ·have hd':(!t.plain && decide (es.size > 1))=true:=hd
    simp only [Bool.and_eq_true,decide_eq_true_eq] at hd'
    omega
   ·refine fin s (rawInt 0) hS fun h' k e=>?_
    exact hQ _ (s.heap.objs.size+1) _ h' s.drawn k (Nat.le_refl _) (Nat.le_succ _) (Nat.succ_ne_self _) (List.Perm.refl _) ⟨k _ _ hS,.inr (.inl ⟨hb,h1,rfl,0,e,below_zero _⟩)⟩
  ·dsimp only
   refine wpAny_ite_split (fun _=>?_) (fun hd=>absurd (show (!t.plain && decide (es.size > 1))=true from ?_) hd)
   ·refine wpAny_bind (draw_any es.size (List.range es.size) List.length_range fun ps d' hps=>?_)
    have hl:(ps.map fun (i:Nat)=>rawInt i).length=es.size:=by rw [List.length_map,hps.length_eq,List.length_range]
    refine wpAny_bind (wpAny_newTuple ?_ (by rw [hl,sizeLine_eq]; omega))
    have e1:(s.heap.push { cls:=.type "tuple",data:=.seq (ps.map fun (i:Nat)=>rawInt i).toArray }).get? S=some (setO es ep t):=Heap.get?_push_of_some _ hS
    refine fin _ (.ref s.heap.objs.size) e1 fun h' k e=>?_
    have sz:(s.heap.push { cls:=.type "tuple",data:=.seq (ps.map fun (i:Nat)=>rawInt i).toArray }).objs.size=s.heap.objs.size+1:=Heap.size_push _ _
    refine hQ _ s.heap.objs.size (ps.map fun p=>((es[p]?).map (·.2)).getD .none) h' d' (fun b o e=>k b o (Heap.get?_push_of_some _ e)) (by rw [sz]; exact Nat.le_succ _) (Nat.le_refl _) (by rw [sz]; exact Nat.ne_of_lt (Nat.lt_succ_self _)) ?_
     ⟨k _ _ e1,.inr (.inr ⟨hb,ps,rfl,fun p hp=>List.mem_range.mp (hps.mem_iff.mp hp),e,k _ _ (Heap.get?_push_size _ rfl)⟩)⟩
    refine (hps.map _).trans (List.Perm.of_eq ?_)
    refine List.ext_getElem (by simp) fun i h1 h2=>?_
    have hlt:i < es.size:=by simpa using h1
    simp [hlt]
   ·rcases hp with z | z
    ·omega
    ·rw [z]
     exact decide_eq_true (by omega)
theorem entry_si_iter:entryFor table "set_iterator.__iter__" = some Builtin.«dict_keyiterator.__iter__»:=
 entryFor_alias (id':="dict_keyiterator.__iter__") (by kernel_rfl) rfl (by decide +kernel) (by kernel_rfl)
theorem ItT.at {I S T:Addr} {es:Array (Int × Value)} {ep:Nat} {t:SetTable} {vs:List Value} {i:Nat} {h h':Heap} (x:ItT w I S T es ep t vs i h) (k:∀ b,b=I∨b=S∨b=T→∀ o,h.get? b=some o→h'.get? b=some o):ItT w I S T es ep t vs i h':=by
 obtain ⟨hS,hm⟩:=x
 refine ⟨k S (.inr (.inl rfl)) _ hS,?_⟩
 rcases hm with ⟨hb,e,hI⟩ | ⟨hb,h1,e,j,hI,hk⟩ | ⟨hb,ps,e,hps,hI,hT⟩
 ·exact .inl ⟨hb,e,k I (.inl rfl) _ hI⟩
 ·exact .inr (.inl ⟨hb,h1,e,j,k I (.inl rfl) _ hI,hk⟩)
 ·exact .inr (.inr ⟨hb,ps,e,hps,k I (.inl rfl) _ hI,k T (.inr (.inr rfl)) _ hT⟩)
theorem walks_text {I S T:Addr} {es:Array (Int × Value)} {ep:Nat} {t:SetTable} {vs:List Value} (hh:A.handled=none) (hIS:S≠I) (hIT:T≠I) (hf:t.fits es.size=true) (hled:t.led = !w.params.followText "set-order") :
  Walks P w A I [I,S,T] [I] vs.length (fun i v=>vs[i]? = some v) (fun i h=>ItT w I S T es ep t vs i h) where
 sub:=fun b hb=>by simp at hb; simp [hb]
 frame:=fun i h h' st k=>ItT.at st fun b hb o e=>k b (by rcases hb with z | z | z <;> simp [z]) o e
 item:=fun i s Q E hi st hQ=>next_text hIS hIT st hh hf hled (Nat.le_of_lt hi) (fun v h' hv k st'=>hQ v h' s.toks hv st' fun b o hb e=>(k b (fun z=>hb (by simp [z]))).trans e) fun hn=>by
  rw [List.getElem?_eq_getElem hi] at hn
  cases hn
 done:=fun s Q E st hQ=>next_text hIS hIT st hh hf hled (Nat.le_refl _) (fun v h' hv=>by simp at hv) fun _ h' k=>hQ h' s.toks fun b o hb e=>k b o (fun z=>hb (by simp [z])) e
 self:=fun i s Q E st h=>by
  have hI:∃ f,s.heap.get? I=some (itO f i S es.size ep):=by
   rcases st.2 with ⟨_,_,e⟩ | ⟨_,_,_,k,e,_⟩ | ⟨_,ps,_,_,e,_⟩ <;> exact ⟨_,e⟩
  obtain ⟨f,hI⟩:=hI
  have hT:s.TypeIs (.ref I) "set_iterator":=⟨_,hI,rfl⟩
  refine wpAny_pyIter_slot hT slot_si_iter (wpAny_call_entry slot_si_iter hT entry_si_iter ?_ (args_si_iter _))
  show wpAny _ _ (ret (.ref I)) _ _ s
  exact wpAny_pure ⟨_,rfl,"set_iterator",_,hT,slot_si_next.lookup,h⟩
theorem hint_text {r:Addr} {Q:Bool→Shared→Prop} (hT:s.TypeIs (.ref r) "set") (h:Q false s):wpAny (model P w) A (Builtin.List.listLengthHint (.ref r)) Q E s:=by
 unfold Builtin.List.listLengthHint
 refine wpAny_bind (wpAny_specialOf hT PySem.F.slot_set_len.lookup ?_)
 generalize hid:("set.__len__" : String)=id0
 wp_delta
 rw [show splitId id0=some ("set","__len__") from by subst hid; decide +kernel]
 subst hid
 refine wpAny_bind (wpAny_isInstance (T:="set") (b:=true) hT sub_set_self ?_)
 refine wpAny_ite_split (fun z=>absurd z (by decide)) (fun _=>wpAny_ite_split (fun _=>?_) (fun z=>absurd (by decide +kernel) z))
 exact wpAny_bind (wpAny_typeOf hT (wpAny_pure h))
theorem collect_text {S:Addr} {o:Obj} {D:List Str} {n:Nat} {Q:List Value→Shared→Prop} (hh:A.handled=none) (hS:s.heap.get? S=some o) (hX:SetTx w o D n) (hn:n≤4000)
  (hQ:∀ (vs:List Value) (ys:List Str) (h':Heap) tk d',s.heap.objs.size≤h'.objs.size→StrsAre vs ys→ys.Nodup→(∀ y,y∈ys↔y∈D)→ys.length≤n→(∀ b o,s.heap.get? b=some o→h'.get? b=some o)→Q vs { s with heap:=h',toks:=tk,drawn:=d' }) :
  wpAny (model P w) A (collect (.ref S)) Q E s:=by
 obtain ⟨es,ep,t,rfl,hen,hnd,hmem,hsz,hf,hled,hpl⟩:=hX
 have lt:=Heap.lt_size hS
 unfold collect
 refine wpAny_bind (wpAny_runValue (codeAny_builtin PySem.F.entry_proto_collect ?_))
 rw [Around.under_plainId PySem.F.plain_proto_collect _]
 show wpAny _ A.in1 (newList [] >>= fun l=>again (.builtin "list.__iadd__" ⟨[l,.ref S],[]⟩)) _ _ s
 refine wpAny_bind (wpAny_newObj_type ?_)
 refine wpAny_pure ⟨plainId_quiet PySem.F.plain_list_iadd _,codeAny_builtin PySem.F.entry_list_iadd ?_⟩
 rw [Around.under_plainId PySem.F.plain_list_iadd _]
 show wpAny _ A.in1 (Builtin.List.listExtendWith (.ref s.heap.objs.size) (.ref S) (.ref s.heap.objs.size)) _ _ _
 generalize hH:s.heap.push { cls:=.type "list",data:=.seq ([]:List Value).toArray } = H
 have hHs:H.objs.size=s.heap.objs.size+1:=by rw [← hH,Heap.size_push]
 have hL:H.get? s.heap.objs.size=some { cls:=.type "list",data:=.seq #[] 0 }:=hH▸Heap.get?_push_size _ rfl
 have hS1:H.get? S=some (setO es ep t):=hH▸Heap.get?_push_of_some _ hS
 unfold Builtin.List.listExtendWith
 refine wpAny_bind (wpAny_typeOf (T:="set") ⟨_,hS1,rfl⟩ ?_)
 have h1:Builtin.List.listSameRef (.ref s.heap.objs.size) (.ref S)=false:=by simp [Builtin.List.listSameRef,Nat.ne_of_gt lt]
 have h2:(Value.type "set" == Value.type "list")=false:=by decide
 have h3:(Value.type "set" == Value.type "tuple")=false:=by decide
 simp only [h1,h2,h3,Bool.or_false,Bool.false_eq_true,if_false]
 refine wpAny_bind (iter_text (s:={ s with heap:=H }) hS1 hf hpl (by omega) fun I T vs h2 d2 k2 gI gT hTI hvs st=>?_)
 have gI':s.heap.objs.size+1≤I:=hHs▸gI
 have gT':s.heap.objs.size+1≤T:=hHs▸gT
 refine wpAny_bind (wpAny_holding (hint_text ⟨_,k2 _ _ hS1,rfl⟩ ?_))
 have hL2:=k2 _ _ hL
 have hSf:s.heap.objs.size∉[I,S,T]:=by
  simp only [List.mem_cons,List.not_mem_nil,or_false,not_or]
  exact ⟨Nat.ne_of_lt (Nat.lt_of_lt_of_le (Nat.lt_succ_self _) gI'),Nat.ne_of_gt lt,Nat.ne_of_lt (Nat.lt_of_lt_of_le (Nat.lt_succ_self _) gT')⟩
 have hSI:S≠I:=Nat.ne_of_lt (Nat.lt_of_lt_of_le (Nat.lt_succ_of_lt lt) gI')
 have hlen:vs.length=es.size:=by rw [hvs.length_eq,List.length_map,Array.length_toList]
 have W:Walks P w A.in1 I [I,S,T] [I] vs.length (fun i v=>vs[i]? = some v) (fun i h=>ItT w I S T es ep t vs i h):=walks_text (A:=A.in1) hh hSI hTI hf hled
 have stx:∀ us:List Value,us.Perm (es.toList.map (·.2))→∃ ys,StrsAre us ys∧ys.Perm (es.toList.map keyS):=fun us hp=>by
  refine ⟨us.map strOf,strsAre_map us fun v hv=>?_,?_⟩
  ·obtain ⟨e,he,rfl⟩:=List.mem_map.mp (hp.mem_iff.mp hv)
   obtain ⟨y,u,rfl⟩:=hen e he
   exact ⟨y,u,rfl⟩
  ·have:=hp.map strOf
   rw [List.map_map] at this
   exact this
 have key:∀ (h:Heap) (c tk:Nat),ItT w I S T es ep t vs 0 h→(∀ b o,b≠s.heap.objs.size→h2.get? b=some o→h.get? b=some o)→h.get? s.heap.objs.size=some { cls:=.type "list",data:=.seq #[] c }→
   codeAny (model P w) A (.builtin "list.extend.loop" ⟨[.ref s.heap.objs.size,.ref I,.ref s.heap.objs.size],[]⟩)
    (fun r s'=>match r with | .ok (.ret v)=>wpAny (model P w) A (match v with | .ref a=>(do match (← load a).data with | .seq xs _=>pure xs.toList | _=>unsupported "internal:collect") | _=>unsupported "internal:collect") Q E s' | .ok _=>False | .error e=>E e s') { s with heap:=h,toks:=tk,drawn:=d2 }:=fun h c tk st' k hL'=>by
  refine codeAny_extend_loopS W.toS (by rw [hlen,sizeLine_eq]; omega) _ hSf _ vs.length 0 _ #[] c rfl (Nat.zero_le _) st' hL' (ItemsOf.nil _) fun s' acc c' hm hL'' hacc=>?_
  refine wpAny_bind (wpAny_load hL'' ?_)
  have eacc:acc.toList=vs:=by
   refine List.ext_getElem? fun i=>?_
   rw [Array.getElem?_toList]
   cases ev:acc[i]? with
   | some v=>exact (hacc.2 i v ev).symm
   | none=>
    symm
    rw [List.getElem?_eq_none_iff,← hacc.1]
    exact Array.getElem?_eq_none_iff.mp ev
  obtain ⟨ys,sy,py⟩:=stx vs hvs
  obtain ⟨h3,g3,d3,t3,o3⟩:=s'
  have eg:g3=s.gens:=hm.gens
  have ed:d3=d2:=hm.drawn
  have eo:o3=s.os:=hm.os
  subst eg; subst ed; subst eo
  refine wpAny_pure ?_
  rw [eacc]
  refine hQ vs ys h3 t3 d3 (Nat.le_of_lt (Heap.lt_size hL'')) sy (py.nodup_iff.mpr hnd) (fun y=>(py.mem_iff).trans (hmem y)) (by rw [py.length_eq,List.length_map,Array.length_toList]; exact hsz) fun b o e=>?_
  have lb:=Heap.lt_size e
  refine hm.heap b o (fun z=>?_) (k b o (Nat.ne_of_lt lb) (k2 b o (hH▸Heap.get?_push_of_some _ e)))
  rcases List.mem_cons.mp z with z | z
  ·exact Nat.lt_irrefl _ (z▸lb)
  ·have:=List.mem_singleton.mp z
   exact Nat.lt_irrefl _ (Nat.lt_of_lt_of_le (Nat.lt_succ_of_lt lb) (this▸gI'))
 refine wpAny_ite_split (fun _=>?_) (fun z=>absurd (by decide +kernel) z)
 refine wpAny_bind (wpAny_rule (wpAny_bind ?_))
 show wpAny _ _ (updateSeq s.heap.objs.size (·.push .none) >>= fun _=>updateSeq s.heap.objs.size (·.pop)) _ _ _
 refine wpAny_bind (wpAny_updateSeq hL2 rfl ?_)
 have hL3:=Heap.get?_update_self (Obj.mapSeq (·.push Value.none)) hL2 rfl
 refine wpAny_updateSeq (hz:=by seq_fits) hL3 rfl ?_
 have hL4:=Heap.get?_update_self (Obj.mapSeq (·.pop)) hL3 rfl
 have oth:∀ b o,b≠s.heap.objs.size→h2.get? b=some o→((h2.update s.heap.objs.size (Obj.mapSeq (·.push Value.none))).update s.heap.objs.size (Obj.mapSeq (·.pop))).get? b=some o:=fun b o hb e=>
  (Heap.get?_update_other _ _ (Ne.symm hb)).trans ((Heap.get?_update_other _ _ (Ne.symm hb)).trans e)
 refine wpAny_pure ⟨plainId_quiet PySem.F.plain_extend_loop _,key _ _ _ (st.at fun b hb o e=>oth b o (fun z=>hSf (by rw [← z]; rcases hb with y | y | y <;> simp [y])) e) oth hL4⟩
end
end L2
namespace L2
open PySem PySem.Spec PyProof.Rows
section
variable {P:Program} {w:World} {A:Around} {E:Value→Shared→Prop} {s:Shared}
theorem sorted_text {S:Addr} {o:Obj} {D:List Str} {n:Nat} {Q:Value→Shared→Prop} (hh:A.handled=none) (hS:s.heap.get? S=some o) (hX:SetTx w o D n) (hn:n < 64)
  (hQ:∀ (a:Addr) (out:List Value) (e:Nat) (ys:List Str) h' tk d',ys.length≤n→StrsAre out ys→ys.Nodup→(∀ y,y∈ys↔y∈D)→sortedS ys=true→(∀ b o,s.heap.get? b=some o→h'.get? b=some o)→s.heap.objs.size≤a→
   h'.get? a=some (seqObj "list" out.toArray e)→Q (.ref a) { s with heap:=h',toks:=tk,drawn:=d' }):wpAny (model P w) A (call (.builtin "sorted") [.ref S]) Q E s:=by
 refine Calls.call_function_entry kind_sorted plain_sorted entry_sorted (args_sorted1 _) ?_
 unfold Builtin.«sorted»
 refine wpAny_bind (m:=checkCount "sorted" 1 1 _) (wpAny_pure ?_)
 refine wpAny_bind (collect_text (A:=A.in1) hh hS hX (by omega) fun vs ys h' tk d' le sy nd mem len k=>?_)
 have hlen:vs.length=ys.length:=by rw [← sy.strs,List.length_map]
 refine wpAny_bind (wpAny_newList ?_ (by rw [hlen,sizeLine_eq]; omega))
 have hoL:(h'.push (seqObj "list" vs.toArray 0)).get? h'.objs.size=some (seqObj "list" vs.toArray 0):=Heap.get?_push_size _ rfl
 refine wpAny_bind (wpAny_holding (wpAny_call_entry slot_list_sort ⟨_,hoL,rfl⟩ entry_list_sort (list_sort_treeK (s:={ s with heap:=h'.push (seqObj "list" vs.toArray 0),toks:=tk,drawn:=d' }) strKind_oneLt hoL sy.keysOf (fun v₁ v₂ rest e=>keyKind_strs (by rw [← e]; exact sy)) (by omega) fun st' a1 a2=>⟨_,rfl,?_⟩) (args_list_sort _)))
 obtain ⟨ys',s1,s2,s3⟩:=sorted_out_str sy a1 a2
 obtain ⟨e,he⟩:=sortedHeap_at (vs:=vs) (out:=(arrOf st').map (·.2)) (n:=0) hoL
 refine wpAny_pure ⟨_,rfl,hQ h'.objs.size ((arrOf st').map (·.2)).toList e ys' _ tk d' (by rw [s2.length_eq]; exact len) s1 (s2.nodup_iff.mpr nd) (fun y=>s2.mem_iff.trans (mem y)) s3 (fun b o' eb=>?_) le ?_⟩
 ·have lb:=Heap.lt_size (k b o' eb)
  rw [sortedHeap_old (Nat.ne_of_lt lb) (by rw [size_push']; exact Nat.lt_succ_of_lt lb)]
  exact Heap.get?_push_of_some _ (k b o' eb)
 ·rw [Array.toArray_toList]
  exact he
end
theorem Inv.drawAny {X:Cx} {pins:List (Addr × Obj)} {σ:St} {H:Hp} {s:Shared} (I:Inv X pins σ H s) (d:Drawn):Inv X pins σ H { s with drawn:=d }:=
 ⟨I.ok,I.os,I.bare,I.base,I.loc,I.cell,I.free,I.freeC,I.pin,I.hok,I.len⟩
def signs (z:Str):List Str:=z.cps.toList.map fun c=>⟨#[c]⟩
def setH (w:World) (a:Addr) (D:List Str) (n:Nat):HO:=.ext fun h=>∃ o,h.get? a=some o∧SetTx w o D n
section
variable {X:Cx}
def rSortSet (w:World):List V→Hp→VK→Prop:=fun xs H Q=>∃ p D n,xs=[.ref p]∧H p=some (setH w p D n)∧n < 64∧
 ∀ (ys:List Str) l,ys.Nodup→(∀ y,y∈ys↔y∈D)→sortedS ys=true→H l=none→Q (.ref l) (upd H l (.lst (ys.map V.str)))
theorem call_sortset (hc:X.calm=true):CallR X (.builtin "sorted") (rSortSet X.w):=by
 intro pins s σ H xs us Q I r h
 obtain ⟨p,D,n,rfl,hp,hn,q⟩:=h
 obtain ⟨u,rfl,ru⟩:=vals1 r
 cases ru
 obtain ⟨⟨o,e,sx⟩,_,_⟩:=(show ObjOk X.prog X.w H s.heap p (setH X.w p D n) from I.hok p _ hp)
 refine sorted_text (I.ok.hd hc) e sx hn fun a out ee ys h' tk d' len sy nd mem so k le ea=>?_
 have hnone:H a=none:=I.hok.fresh le
 have hlen:out.length=ys.length:=by rw [← sy.strs,List.length_map]
 have lenD:ys.length≤sizeLine:=by rw [sizeLine_eq]; omega
 exact ⟨.ref a,_,(I.drawAny d').laid (s:={ s with drawn:=d' }) k le (show ObjOk X.prog X.w _ h' a (.lst (ys.map V.str)) from ⟨by rw [List.length_map]; exact lenD,out,ee,vals_strs sy,ea⟩),rfl,q ys a nd mem so hnone⟩
end
def insU (c:Nat):List Nat→List Nat
 | []=>[c]
 | x :: l=>if c < x then c :: x :: l else if c=x then x :: l else x :: insU c l
theorem mem_insU (c y:Nat):∀ l:List Nat,y∈insU c l↔y=c∨y∈l
 | []=>by simp [insU]
 | x :: l=>by
  unfold insU
  split
  ·simp
  ·split
   ·rename_i e
    subst e
    simp
   ·rw [List.mem_cons,mem_insU c y l,List.mem_cons]
    constructor
    ·rintro (a | a | a)
     ·exact .inr (.inl a)
     ·exact .inl a
     ·exact .inr (.inr a)
    ·rintro (a | a | a)
     ·exact .inr (.inl a)
     ·exact .inl a
     ·exact .inr (.inr a)
theorem rise_insU (c:Nat):∀ l:List Nat,l.Pairwise (· < ·)→(insU c l).Pairwise (· < ·)
 | [],_=>by simp [insU]
 | x :: l,h=>by
  cases h with
  | cons h1 h2=>
   unfold insU
   split
   ·rename_i hc
    refine List.Pairwise.cons (fun y hy=>?_) (List.Pairwise.cons h1 h2)
    rcases List.mem_cons.mp hy with e | e
    ·omega
    ·have:=h1 y e
     omega
   ·split
    ·exact List.Pairwise.cons h1 h2
    ·refine List.Pairwise.cons (fun y hy=>?_) (rise_insU c l h2)
     rcases (mem_insU c y l).mp hy with e | e
     ·omega
     ·exact h1 y e
def ltrs (cs:List Nat):List Nat:=cs.foldr insU []
theorem mem_ltrs (y:Nat):∀ cs:List Nat,y∈ltrs cs↔y∈cs
 | []=>by simp [ltrs]
 | c :: cs=>by
  show y∈insU c (ltrs cs)↔_
  rw [mem_insU,mem_ltrs y cs,List.mem_cons]
theorem rise_ltrs:∀ cs:List Nat,(ltrs cs).Pairwise (· < ·)
 | []=>.nil
 | c :: cs=>rise_insU c _ (rise_ltrs cs)
theorem rise_eq:∀ (a b:List Nat),a.Pairwise (· < ·)→b.Pairwise (· < ·)→(∀ y,y∈a↔y∈b)→a=b
 | [],[],_,_,_=>rfl
 | [],y :: b,_,_,h=>by
  have:=(h y).mpr List.mem_cons_self
  cases this
 | x :: a,[],_,_,h=>by
  have:=(h x).mp List.mem_cons_self
  cases this
 | x :: a,y :: b,ha,hb,h=>by
  cases ha with
  | cons ha1 ha2=>
   cases hb with
   | cons hb1 hb2=>
    have e:x=y:=by
     rcases List.mem_cons.mp ((h x).mp List.mem_cons_self) with e | e
     ·exact e
     ·rcases List.mem_cons.mp ((h y).mpr List.mem_cons_self) with e2 | e2
      ·exact e2.symm
      ·have:=hb1 x e
       have:=ha1 y e2
       omega
    subst e
    rw [rise_eq a b ha2 hb2 fun z=>?_]
    constructor
    ·intro hz
     rcases List.mem_cons.mp ((h z).mp (List.mem_cons_of_mem _ hz)) with e | e
     ·have:=ha1 z hz
      omega
     ·exact e
    ·intro hz
     rcases List.mem_cons.mp ((h z).mpr (List.mem_cons_of_mem _ hz)) with e | e
     ·have:=hb1 z hz
      omega
     ·exact e
end L2
namespace L2
open PySem PySem.Spec PyProof.Rows
end L2
namespace L2
open PySem PySem.Spec PyProof.Rows
def eqL:List V→List V→Bool
 | [],[]=>true
 | x :: xs,y :: ys=>eqV x y && eqL xs ys
 | _,_=>false
theorem all_eqL:∀ (xs ys:List V),(((List.range (min xs.length ys.length)).all fun j=>eqV (xs.getD j .non) (ys.getD j .non)) && xs.length==ys.length)=eqL xs ys
 | [],[]=>rfl
 | [],y :: ys=>by simp [eqL]
 | x :: xs,[]=>by simp [eqL]
 | x :: xs,y :: ys=>by
  have ih:=all_eqL xs ys
  show _=(eqV x y && eqL xs ys)
  rw [← ih,List.length_cons,List.length_cons,Nat.succ_min_succ,List.range_succ_eq_map,List.all_cons,List.all_map]
  have e1:((fun j=>eqV ((x :: xs).getD j .non) ((y :: ys).getD j .non)) ∘ Nat.succ)=fun j=>eqV (xs.getD j .non) (ys.getD j .non):=by
   funext j
   rfl
  rw [e1,Bool.and_assoc]
  have e2:(xs.length+1==ys.length+1)=(xs.length==ys.length):=by
   rw [Bool.eq_iff_iff,beq_iff_eq,beq_iff_eq]
   omega
  rw [e2]
  rfl
theorem Vals.at_:∀ {xs:List V} {us:List Value} {j:Nat} {u:Value},Vals xs us→us[j]? = some u→∃ x,xs[j]? = some x∧RelV x u
 | _,_,j,u,.nil,h=>by simp at h
 | _,_,0,u,.cons r t,h=>by
  cases h
  exact ⟨_,rfl,r⟩
 | _,_,j+1,u,.cons r t,h=>by
  obtain ⟨x,e,r'⟩:=Vals.at_ (j:=j) t (by simpa using h)
  exact ⟨x,by simpa using e,r'⟩
theorem pairs_eqAt {A:Around} {s:Shared} {xs ys:List V} {us ws:List Value} (r1:Vals xs us) (r2:Vals ys ws) (f1:xs.all flatV=true) (f2:ys.all flatV=true) (j:Nat) (h1:j < us.toArray.size) (h2:j < ws.toArray.size) :
  SeqAt.EqAt A s us.toArray[j] ws.toArray[j] (eqV (xs.getD j .non) (ys.getD j .non)):=by
 have g1:us[j]? = some us.toArray[j]:=by simp at h1 ⊢
 have g2:ws[j]? = some ws.toArray[j]:=by simp at h2 ⊢
 obtain ⟨x,e1,q1⟩:=r1.at_ g1
 obtain ⟨y,e2,q2⟩:=r2.at_ g2
 rw [List.getD_eq_getElem?_getD,e1,List.getD_eq_getElem?_getD,e2]
 exact eqAt_V q1 q2 (List.all_eq_true.mp f1 x (List.mem_of_getElem? e1)) (List.all_eq_true.mp f2 y (List.mem_of_getElem? e2))
def rEqS (K:PySem.W.Frag) (neg:Bool):R2:=fun x y H Q=>∃ a b xs ys,x=.ref a∧y=.ref b∧((SqL K H a xs∧SqL K H b ys)∨(SqT K H a xs∧SqT K H b ys))∧xs.all flatV=true∧ys.all flatV=true∧Q (.bl (if neg then !eqL xs ys else eqL xs ys)) H
section
variable {X:Cx} {K:PySem.W.Frag}
theorem size_of {xs:List V} {us:List Value} (r:Vals xs us):us.toArray.size=xs.length:=by
 rw [List.size_toArray]
 exact r.length.symm
theorem eq_false_len {xs ys:List V} (h:xs.length≠ys.length):eqL xs ys=false:=by
 rw [← all_eqL,(beq_eq_false_iff_ne).mpr h,Bool.and_false]
theorem eq_true_len {xs ys:List V} (h:xs.length=ys.length):((List.range xs.length).all fun j=>eqV (xs.getD j .non) (ys.getD j .non))=eqL xs ys:=by
 rw [← all_eqL,h,Nat.min_self,beq_self_eq_true,Bool.and_true]
theorem op_neS (hu:X.A.units < cLine) (hK:X.K=K:=by rfl):OpR X (compareOp .NotEq) (rEqS K true):=by
 subst hK
 intro pins s σ H x y v u Q I rx ry h
 obtain ⟨a,b,xs,ys,rfl,rfl,hq,f1,f2,q⟩:=h
 cases rx
 cases ry
 rcases hq with ⟨ha,hb⟩ | ⟨ha,hb⟩
 ·obtain ⟨i1,r1,p1,_⟩:=I.list ha
  obtain ⟨i2,r2,p2,_⟩:=I.list hb
  by_cases hl:xs.length=ys.length
  ·refine SeqAt.RcNeAt.lists p1.isList p2.isList (by rw [size_of r1,size_of r2,hl]) hu (fun j h1 h2=>pairs_eqAt r1 r2 f1 f2 j h1 h2) _ _ _ _ ⟨.bl _,H,I,rfl,?_⟩
   rw [size_of r1,eq_true_len hl]
   exact q
  ·refine SeqAt.RcNeAt.lists_lengths p1.isList p2.isList (by rw [size_of r1,size_of r2]; exact bne_iff_ne.mpr hl) hu _ _ _ _ ⟨.bl true,H,I,rfl,?_⟩
   have:(!eqL xs ys)=true:=by rw [eq_false_len hl]; rfl
   rw [← this]
   exact q
 ·obtain ⟨i1,r1,p1,_⟩:=I.tuple ha
  obtain ⟨i2,r2,p2,_⟩:=I.tuple hb
  refine SeqAt.RcNeAt.tuples p1 p2 hu (fun j h1 h2=>pairs_eqAt r1 r2 f1 f2 j h1 h2) _ _ _ _ ⟨.bl _,H,I,rfl,?_⟩
  rw [size_of r1,size_of r2,all_eqL]
  exact q
theorem hu_lt {A:Around} {k:Nat} (hr:Room k A):A.units < cLine:=Nat.lt_of_succ_lt (hu_of hr)
end
end L2
namespace L2
open PySem PySem.Spec PyProof.Rows
section
variable {X:Cx}
end
end L2
namespace L2
open PySem PySem.Spec PyProof.Rows
section
variable {X:Cx} {K:PySem.W.Frag}
end
section
open PySem.SeqAt
open PySem.AutoSeq1 (wpAny_loadPart')
open PySem.MeetsSeq PySem.MeetsSeq2 PySem.MeetsSeq3
end
section
variable {X:Cx} {K:PySem.W.Frag}
end
end L2
namespace L2
open PySem PySem.Spec PyProof.Rows
section
open PySem.W (KasT kas_asc kas_count kas_cmp kas_st kas_item)
def Asks (n:Nat) (lt:Nat→Nat→Bool) {α:Type} (P:α→Prop):KasT α→Prop
 | .ret a=>P a
 | .ask i j k=>i < n∧j < n∧Asks n lt P (k (lt i j))
theorem Asks.imp {n:Nat} {lt:Nat→Nat→Bool} {α:Type} {P P':α→Prop} (g:∀ a,P a→P' a):∀ {t:KasT α},Asks n lt P t→Asks n lt P' t
 | .ret a,h=>g a h
 | .ask _ _ _,⟨h1,h2,h3⟩=>⟨h1,h2,Asks.imp g h3⟩
theorem Asks.bind {n:Nat} {lt:Nat→Nat→Bool} {α β:Type} {P:α→Prop} {R:β→Prop} {f:α→KasT β} (g:∀ a,P a→Asks n lt R (f a)):∀ {t:KasT α},Asks n lt P t→Asks n lt R (t.bind f)
 | .ret a,h=>g a h
 | .ask _ _ _,⟨h1,h2,h3⟩=>⟨h1,h2,Asks.bind g h3⟩
theorem Asks.wp {n:Nat} {lt:Nat→Nat→Bool} {α:Type} {P:α→Prop} {cmp:Nat→Nat→(Bool→Shared→Prop)→Shared→Prop} {s:Shared} {Q:α→Shared→Prop}
  (hc:∀ i j (C:Bool→Shared→Prop),i < n→j < n→C (lt i j) s→cmp i j C s) (q:∀ a,P a→Q a s):∀ {t:KasT α},Asks n lt P t→t.kasWp cmp Q s
 | .ret a,h=>q a h
 | .ask i j _,⟨h1,h2,h3⟩=>hc i j _ h1 h2 (Asks.wp hc q h3)
end
section
variable {prog:Program} {w:World} {A:Around} {E:Value→Shared→Prop} {s:Shared}
end
abbrev lo (ks:List Value) (e:Nat):Obj:={ cls:=.type "list",data:=.seq ks.toArray e }
section
variable {X:Cx} {pins:List (Addr × Obj)} {σ:St} {H:Hp} {s:Shared}
structure Far (X:Cx) (pins:List (Addr × Obj)) (a:Addr):Prop where
 loc:a≠X.env.locals
 fs:a∉X.fs
 new:X.s₀.heap.objs.size≤a
 cell:∀ x c,X.env.cells.lookup x=some c→c≠a
 pin:∀ p∈X.pn ++ pins,p.1≠a
theorem Inv.far (I:Inv X pins σ H s) {a:Addr} (h:s.heap.objs.size≤a):Far X pins a:=by
 obtain ⟨_,f1,f2,f3,f4,f5⟩:=I.fpOk (H':=fun _=>none) h rfl
 exact ⟨f1,f2,Nat.le_trans I.sz h,f4,f5⟩
theorem Far.more {a:Addr} (f:Far X pins a) {b:Addr} {o:Obj} (h:b≠a):Far X (pins ++ [(b,o)]) a:=
 ⟨f.loc,f.fs,f.new,f.cell,fun p hp=>by
  rcases List.mem_append.mp hp with z | z
  ·exact f.pin p (List.mem_append_left _ z)
  ·rcases List.mem_append.mp z with y | y
   ·exact f.pin p (List.mem_append_right _ y)
   ·rw [List.mem_singleton.mp y]
    exact h⟩
theorem Inv.hold {a:Addr} {ks:List Value} {e:Nat} (I:Inv X pins σ H s) (f:Far X pins a) (h:s.heap.get? a=some (lo ks e)) (hn:H a=none):Inv X (pins ++ [(a,lo ks e)]) σ H s:=
 I.pins_of fun p hp=>(List.mem_append.mp hp).elim (fun z=>I.pin p (List.mem_append_right _ z)) fun z=>by
  rw [List.mem_singleton.mp z]
  exact ⟨h,hn,f.loc,f.fs,fun v y=>by cases y⟩
theorem Inv.held {a:Addr} {o:Obj} (I:Inv X (pins ++ [(a,o)]) σ H s):s.heap.get? a=some o∧H a=none:=
 let p:=I.pin (a,o) (List.mem_append_right _ (List.mem_append_right _ (List.mem_singleton.mpr rfl)))
 ⟨p.1,p.2.1⟩
end
section
variable {X:Cx} {pins:List (Addr × Obj)} {σ:St} {H:Hp} {s:Shared} {x:Str} {k:Nat} {ps:List Str} {sp:Sp} {ok:V→Prop} {kf:V→List V}
end
end L2
namespace L2
open PySem PySem.Spec PyProof.Rows
section
open PySem.W (KasT kas_asc kas_desc kas_tail3 kas_descPart kas_count kas_place kas_bin kas_sort kas_rev)
structure Strict (n:Nat) (lt:Nat→Nat→Bool):Prop where
 irr:∀ i,i < n→lt i i=false
 tra:∀ i j k,i < n→j < n→k < n→lt i j=true→lt j k=true→lt i k=true
 tot:∀ i j,i < n→j < n→i≠j→lt i j=true∨lt j i=true
structure Perm0 (n:Nat) (p:Array Nat):Prop where
 per:p.toList.Perm (List.range n)
theorem getD_of {p:Array Nat} {i:Nat} (h:i < p.size):p[i]? = some (p.getD i 0):=by
 rw [Array.getElem?_eq_getElem h]
 simp [Array.getD,h]
theorem getD_q {p q:Array Nat} {i j:Nat} (h:p[i]? = q[j]?):p.getD i 0=q.getD j 0:=by
 rw [Array.getD_eq_getD_getElem?,Array.getD_eq_getD_getElem?,h]
theorem Perm0.size {n:Nat} {p:Array Nat} (h:Perm0 n p):p.size=n:=by
 have:=h.per.length_eq
 simpa using this
theorem Perm0.lt {n:Nat} {p:Array Nat} (h:Perm0 n p) (i:Nat) (hi:i < n):p.getD i 0 < n:=by
 have q:=getD_of (p:=p) (i:=i) (by rw [h.size]; exact hi)
 rw [← Array.getElem?_toList] at q
 exact List.mem_range.mp (h.per.mem_iff.mp (List.mem_of_getElem? q))
theorem Perm0.inj {n:Nat} {p:Array Nat} (h:Perm0 n p) (i j:Nat) (hi:i < n) (hj:j < n) (e:p.getD i 0=p.getD j 0):i=j:=by
 have nd:p.toList.Nodup:=h.per.nodup_iff.mpr List.nodup_range
 rw [List.nodup_iff_pairwise_ne,List.pairwise_iff_getElem] at nd
 have li:i < p.toList.length:=by rw [Array.length_toList,h.size]; exact hi
 have lj:j < p.toList.length:=by rw [Array.length_toList,h.size]; exact hj
 have a:=getD_of (p:=p) (i:=i) (by rw [h.size]; exact hi)
 have b:=getD_of (p:=p) (i:=j) (by rw [h.size]; exact hj)
 rw [← Array.getElem?_toList,List.getElem?_eq_getElem li] at a
 rw [← Array.getElem?_toList,List.getElem?_eq_getElem lj] at b
 have e':p.toList[i]=p.toList[j]:=by rw [Option.some.inj a,Option.some.inj b,e]
 rcases Nat.lt_trichotomy i j with z | z | z
 ·exact absurd e' (nd i j li lj z)
 ·exact z
 ·exact absurd e'.symm (nd j i lj li z)
def UpTo (lt:Nat→Nat→Bool) (p:Array Nat) (m:Nat):Prop:=∀ i j,i < j→j < m→lt (p.getD i 0) (p.getD j 0)=true
def DownTo (lt:Nat→Nat→Bool) (p:Array Nat) (m:Nat):Prop:=∀ i j,i < j→j < m→lt (p.getD j 0) (p.getD i 0)=true
variable {n:Nat} {lt:Nat→Nat→Bool} {p:Array Nat}
theorem UpTo.succ (hS:Strict n lt) (hp:Perm0 n p) {m:Nat} (h1:1≤m) (hm:m < n) (u:UpTo lt p m) (c:lt (p.getD (m - 1) 0) (p.getD m 0)=true):UpTo lt p (m+1):=fun i j hij hj=>by
 by_cases e:j=m
 ·subst e
  by_cases e2:i=j - 1
  ·subst e2; exact c
  ·exact hS.tra _ _ _ (hp.lt _ (by omega)) (hp.lt _ (by omega)) (hp.lt _ hm) (u i (j - 1) (by omega) (by omega)) c
 ·exact u i j hij (by omega)
theorem DownTo.succ (hS:Strict n lt) (hp:Perm0 n p) {m:Nat} (h1:1≤m) (hm:m < n) (u:DownTo lt p m) (c:lt (p.getD m 0) (p.getD (m - 1) 0)=true):DownTo lt p (m+1):=fun i j hij hj=>by
 by_cases e:j=m
 ·subst e
  by_cases e2:i=j - 1
  ·subst e2; exact c
  ·exact hS.tra _ _ _ (hp.lt _ hm) (hp.lt _ (by omega)) (hp.lt _ (by omega)) c (u i (j - 1) (by omega) (by omega))
 ·exact u i j hij (by omega)
theorem Strict.not (hS:Strict n lt) {i j:Nat} (hi:i < n) (hj:j < n) (h:i≠j) (c:lt i j=false):lt j i=true:=by
 rcases hS.tot i j hi hj h with z | z
 ·rw [c] at z; cases z
 ·exact z
end
end L2
namespace L2
open PySem PySem.Spec PyProof.Rows
section
open PySem.W (kas_count kas_ask kas_item kas_st kas_asc)
end
section
variable {X:Cx} {pins:List (Addr × Obj)} {σ:St} {H:Hp} {s:Shared} {x:Str} {k:Nat} {ps:List Str} {sp:Sp}
end
end L2
namespace L2
open PySem PySem.Spec PyProof.Rows
section
variable {P:Program} {w:World} {A:Around} {E:Value→Shared→Prop} {s:Shared}
end
section
variable {X:Cx} {pins:List (Addr × Obj)} {σ:St} {H:Hp} {s:Shared} {x:Str} {k:Nat} {ps:List Str} {sp:Sp}
end
end L2
namespace L2
open PySem PySem.Spec PyProof.Rows
abbrev bmV:List Value:=[.type "ValueError",.type "Exception",.type "BaseException",.type "object"]
def excK (K:PySem.W.Frag) (C:Addr) (ini:Option Value):Bool:=match K.lookup C with
 | some ⟨.type "type",_,.cls cd,sl⟩=>match cd.mro,sl.toList with
  | .ref C' :: bm,[_,_,_,_,some (.builtin n),_]=>C'==C && n == "ValueError.__new__" && !cd.hasDel && cd.hasDict && PySem.W.tailIn K bmV bm && PySem.W.nsOkIn K cd.ns && PySem.W.nsIn K cd.ns "__init__" == some ini
  | _,_=>false
 | _=>false
structure ExcC (K:PySem.W.Frag) (h:Heap) (C:Addr) (ini:Option Value):Prop where
 obj:∃ nm q N bs bm sn sub ab col dd k0 k1 k2 k3 k5 mN,h.get? C=some (excClassObj nm q C N bs bm true sn sub ab col dd k0 k1 k2 k3 k5 "ValueError.__new__")∧h.Ns N mN∧mN "__init__" = ini∧OwnTail h bmV bm
theorem ns_some {h:Heap} {K:PySem.W.Frag} {N:Addr} {mg:Str→Option Value} {n:Str} {r:Option Value} (X:K.In h) (G:h.Ns N mg) (e:PySem.W.nsIn K N n=some r):mg n=r:=by
 cases r with
 | none=>exact PySem.W.ns_none_of X G e
 | some v=>
  obtain ⟨o,es,ep,ho,hd,_,hf⟩:=G
  unfold PySem.W.nsIn at e
  split at e
  ·rename_i es' n' sl q
   have z:=X _ _ q
   rw [ho] at z
   cases z
   cases hd
   split at e
   ·rename_i en he
    cases e
    rw [← hf,nsFind,findBy,← Array.find?_toList,he]
    rfl
   ·split at e <;> cases e
  ·cases e
theorem excC_of {K:PySem.W.Frag} {h:Heap} {C:Addr} {ini:Option Value} (X:K.In h) (e:excK K C ini=true):ExcC K h C ini:=by
 unfold excK at e
 split at e
 ·rename_i dd cd sl ho
  split at e
  ·rename_i C' bm k0 k1 k2 k3 n k5 hm hs
   simp only [Bool.and_eq_true,beq_iff_eq,Bool.not_eq_true'] at e
   obtain ⟨⟨⟨⟨⟨⟨rfl,rfl⟩,hdel⟩,hdct⟩,ht⟩,hok⟩,hni⟩:=e
   obtain ⟨nm,bs,mro,ns,qn,hd,sn,sub,ab,col,del⟩:=cd
   dsimp only at hm hdel hok hni hdct
   subst hm hdel hdct
   have hsl:sl = #[k0,k1,k2,k3,some (.builtin "ValueError.__new__"),k5]:=by
    cases sl
    simpa using hs
   subst hsl
   have G:h.Ns ns (h.nsMap ns):=.of_isNs (PySem.W.isNs_of_in X hok)
   exact ⟨nm,qn,ns,bs,bm,sn,sub,ab,col,dd,k0,k1,k2,k3,k5,_,X _ _ ho,G,ns_some X G hni,PySem.W.tail_of_in X ht⟩
  ·cases e
 ·cases e
section
variable {prog:Program} {w:World} {A:Around} {E:Value→Shared→Prop} {s:Shared} {K:PySem.W.Frag} {C:Addr}
theorem exc_type {h:Heap} {g:Array GenState} {d:Drawn} {t:Nat} {os:OsState} {nm q:Str} {N f:Addr} {bs bm:List Value} {sn:List Str} {sub:List Value} {ab:Bool} {col:Option Bool} {dd:Option Addr} {k0 k1 k2 k3 k5:Option Value} {mN:Str→Option Value} {rest:List Value} {oI:Obj}
  {Q:Fin→Shared→Prop} (T:OwnTail h bmV bm) (hC:h.get? C=some (excClassObj nm q C N bs bm true sn sub ab col dd k0 k1 k2 k3 k5 "ValueError.__new__")) (hN:h.Ns N mN) (hi:mN "__init__" = some (.ref f)) (hf:h.get? f=some oI) (hfc:oI.cls=.type "function") (hr:rest.length≤sizeLine)
  (hq:∀ h' e,Heap.MadeExcOf h h' e (.ref C) rest→h.objs.size≤e→wpAny (model prog w) A (call (.ref f) (.ref e :: rest)) (fun r s'=>r=.none∧Q (.done (.ret (.ref e))) s') E ⟨h',g,d,t,os⟩) :
  wpAny (model prog w) A (Builtin.«type.__call__» ⟨.ref C :: rest,[]⟩) Q E ⟨h,g,d,t,os⟩:=by
 have F:=PySem.F.excBase_ValueError
 repeat (first | with_reducible refine wpAny_loadPart_at hC ?_ | with_reducible refine wpAny_madeBy_exc hC ?_ | wp_step)
 refine codeAny_call_builtin_code (Code.quiet_builtin _ F.quiet) (wpAny_check_new_subT F T hC (codeAny_exc_new_subT F T hC ?_ hr))
 show wpAny _ _ _ _ _ _
 have kp:∀ b o,h.get? b=some o→((h.push { cls:=.type "tuple",data:=.seq rest.toArray }).push { cls:=.ref C,data:=.fields #[.ref h.objs.size,.none,.none,.none,.bool false,.none] }).get? b=some o:=fun b o e=>Heap.get?_push_of_some _ (Heap.get?_push_of_some _ e)
 have hx:((h.push { cls:=.type "tuple",data:=.seq rest.toArray }).push { cls:=.ref C,data:=.fields #[.ref h.objs.size,.none,.none,.none,.bool false,.none] }).get? (h.objs.size+1)=some
   {cls:=.ref C,data:=.fields #[.ref h.objs.size,.none,.none,.none,.bool false,.none] }:=by heap_get
 have hC1:=kp _ _ hC
 have hf1:=kp _ _ hf
 have hN1:=hN.keeps kp
 have T1:=T.keeps kp
 have cc:(Value.ref C :: bm).contains (.ref C)=true:=by simp
 unfold isInstance
 repeat (first | with_reducible refine wpAny_loadPart_at hx ?_ | (with_reducible refine wpAny_isSubtype_exc hC1 ?_; rw [cc]) | wp_step)
 show wpAny _ _ (typeLookup (.ref C) _) _ _ _
 refine wpAny_typeLookup_tail hC1 hN1 T1 F.mroIs F.init.lookup ?_
 rw [hi]
 refine wpAny_holding (wpAny_bind ?_)
 unfold bindSpecial
 refine wpAny_bind (wpAny_typeOf (T:="function") ⟨_,hf1,hfc⟩ ?_)
 rw [if_pos (by decide)]
 refine wpAny_pure (wpAny_bind (wpAny_mono (hq _ (h.objs.size+1) ⟨kp,Heap.get?_none_of_le (Nat.le_succ _),h.objs.size,hx,Heap.get?_none_of_le (Nat.le_refl _),Heap.get?_push_of_some _ (Heap.get?_push_size _ rfl)⟩ (Nat.le_succ _)) (fun r s' z=>?_) fun _ _ z=>z))
 obtain ⟨rfl,hQ⟩:=z
 wp_walk
 exact hQ
theorem exc_call {h:Heap} {g:Array GenState} {d:Drawn} {t:Nat} {os:OsState} {nm q:Str} {N:Addr} {bs bm:List Value} {sn:List Str} {sub:List Value} {ab:Bool} {col:Option Bool} {dd:Option Addr} {k0 k1 k2 k3 k5:Option Value} {rest:List Value} {Q:Value→Shared→Prop}
  (hC:h.get? C=some (excClassObj nm q C N bs bm true sn sub ab col dd k0 k1 k2 k3 k5 "ValueError.__new__"))
  (hb:wpAny (model prog w) (A.under (.builtin "type.__call__" ⟨.ref C :: rest,[]⟩)) (Builtin.«type.__call__» ⟨.ref C :: rest,[]⟩) (fun fin s'=>∃ v,fin=.done (.ret v)∧Q v s') E ⟨h,g,d,t,os⟩) :
  wpAny (model prog w) A (call (.ref C) rest) Q E ⟨h,g,d,t,os⟩:=by
 have f1:=tc_lookup
 have f2:=tc_bind (.ref C)
 have hT:(⟨h,g,d,t,os⟩:Shared).TypeIs (.ref C) "type":=⟨_,hC,rfl⟩
 refine wpAny_call (codeAny_of_tree ?_)
 show wpAny _ _ (callAny (.ref C) _) _ _ _
 repeat (any_goals (first | assumption | with_reducible refine wpAny_loadPart_at hC ?_ | wp_step))
 refine ⟨rfl,?_⟩
 refine codeAny_call_builtin_at (Code.quiet_builtin _ (by decide +kernel)) entry_typeCall (wpAny_check_type_call_sub hC (wpAny_mono hb (fun fin s' z=>?_) fun _ _ z=>z))
 obtain ⟨v,rfl,hv⟩:=z
 exact hv
theorem exc_make {rest:List Value} {f:Addr} {oI:Obj} {Q:Value→Shared→Prop} (c:ExcC K s.heap C (some (.ref f))) (hf:s.heap.get? f=some oI) (hfc:oI.cls=.type "function") (hr:rest.length≤sizeLine)
  (hq:∀ h' e,Heap.MadeExcOf s.heap h' e (.ref C) rest→s.heap.objs.size≤e→wpAny (model prog w) (A.under (.builtin "type.__call__" ⟨.ref C :: rest,[]⟩)) (call (.ref f) (.ref e :: rest)) (fun r s'=>r=.none∧Q (.ref e) s') E { s with heap:=h' }) :
  wpAny (model prog w) A (call (.ref C) rest) Q E s:=by
 obtain ⟨nm,q,N,bs,bm,sn,sub,ab,col,dd,k0,k1,k2,k3,k5,mN,hC,hN,hi,T⟩:=c.obj
 obtain ⟨hh,g,d,t,os⟩:=s
 exact exc_call hC (exc_type T hC hN hi hf hfc hr fun h' e m le=>wpAny_mono (hq h' e m le) (fun r s' z=>⟨z.1,_,rfl,z.2⟩) fun _ _ z=>z)
end
abbrev exO (C T:Addr) (d:Option Addr):Obj:={ cls:=.ref C,dict:=d,data:=.fields #[.ref T,.none,.none,.none,.bool false,.none] }
section
variable {prog:Program} {w:World} {A:Around} {E:Value→Shared→Prop} {s:Shared} {K:PySem.W.Frag} {x C:Addr} {ox:Obj} {od:Option Obj} {name:Str}
theorem exc_ga {tk:Tok} {fill ex:Bool} {Q:Value→Shared→Prop} (X:K.In s.heap) (I:PySem.W.InstAt s.heap x ox C od) (hga:PySem.W.findIn K (.ref C) "__getattribute__" = some (some (.builtin "BaseException.__getattribute__")))
  (hgn:PySem.W.findIn K (.ref C) "__getattr__" = some none) (hbe:PySem.W.mroIn K C (.type "BaseException")=some true)
  (h:wpAny (model prog w) A.in1 (Builtin.«object.__getattribute__» ⟨[.ref x,.str name tk],[]⟩) (fun fin s'=>match fin with | .done (.ret v)=>wpAny (model prog w) A (handedOut v) Q E s' | _=>False) (fun _ _=>False) s) :
  wpAny (model prog w) A (getAttrBy (.ref x) (.str name tk) fill ex) Q E s:=by
 have L0:=I.type (M:=model prog w)
 have L1:=PySem.W.looks_findIn (M:=model prog w) X hga
 have L2:=PySem.W.looks_findIn (M:=model prog w) X hgn
 have L3:PySem.W.Looks (model prog w) s.heap (isInstance (.ref x) (.type "BaseException")) true:=L0.andThen (PySem.W.looks_mroIn X hbe)
 have G:=PySem.F.attr_ValueError.ga
 have hne:(Value.builtin "BaseException.__getattribute__" == Value.builtin "object.__getattribute__")=false:=by decide +kernel
 unfold getAttrBy
 refine wpAny_holding (wpAny_bind (L0.here (wpAny_bind (L1.here ?_))))
 show wpAny _ _ (if (onTheHeap (Value.ref C) && Value.builtin "BaseException.__getattribute__" == Value.builtin "object.__getattribute__")=true then getAttrEveryday (.ref x) (.str name tk) fill else getAttrByItsOwn (.ref x) (.str name tk) (.ref C) (.builtin "BaseException.__getattribute__") fill ex) _ _ _
 rw [if_neg (by rw [hne,Bool.and_false]; decide)]
 unfold getAttrByItsOwn
 refine wpAny_bind (m:=hookBefore (.ref C)) (show wpAny _ _ (typeLookup (.ref C) "__getattr__") _ _ _ from L2.here ?_)
 refine wpAny_bind (wpAny_attempt (wpAny_holding ?_))
 have hno:¬ (ex && onTheHeap (Value.builtin "BaseException.__getattribute__"))=true:=by
  show ¬ (ex && false)=true
  rw [Bool.and_false]
  decide
 unfold callGetattribute
 rw [if_neg hno]
 unfold boundAndCalled
 rw [G.bind]
 refine wpAny_bind (wpAny_pure ?_)
 show wpAny _ _ (call (.builtin "BaseException.__getattribute__") [.ref x,.str name tk]) _ _ _
 have k1:builtinKind "BaseException.__getattribute__" = some .slot:=by decide +kernel
 have k2:splitId "BaseException.__getattribute__" = some ("BaseException","__getattribute__"):=by decide +kernel
 refine wpAny_call ?_
 refine codeAny_call_builtin G.plain PySem.F.entry_bexc_ga ?_
 refine @PySem.W.check_slot (model prog w) _ _ s "BaseException.__getattribute__" "BaseException" "__getattribute__" (.ref x) [.str name tk] [] _ k1 k2 L3 (PySem.F.args_bexc_ga _ _) ?_
 refine wpAny_mono h (fun fin s' z=>?_) fun _ _ z=>z.elim
 rcases fin with (_ | _ | _ | _) | _ <;> first | exact z | exact z.elim
theorem exc_value {v:Value} {ex:Bool} {Q:Value→Shared→Prop} (X:K.In s.heap) (I:PySem.W.InstAt s.heap x ox C od) (hga:PySem.W.findIn K (.ref C) "__getattribute__" = some (some (.builtin "BaseException.__getattribute__")))
  (hgn:PySem.W.findIn K (.ref C) "__getattr__" = some none) (hbe:PySem.W.mroIn K C (.type "BaseException")=some true) (hf:PySem.W.findObj K C od name=some (.value v)) (hh:PySem.W.handedIn v=true)
  (h:Q v { s with toks:=s.toks+1 }):wpAny (model prog w) A (getAttr (.ref x) name ex) Q E s:=by
 unfold getAttr
 refine wpAny_bind (wpAny_mkText ?_)
 refine exc_ga (s:={ s with toks:=s.toks+1 }) X I hga hgn hbe ?_
 obtain ⟨hh',g,d,t,os⟩:=s
 have L0:=I.type (M:=model prog w)
 have L1:=PySem.W.looks_find (M:=model prog w) X I hf
 refine wpAny_bind (wpAny_pure ?_)
 refine wpAny_bind (wpAny_pure ?_)
 refine wpAny_bind (L0.at ?_)
 refine wpAny_bind (L1.at ?_)
 refine wpAny_pure ?_
 exact PySem.W.handed_on hh h
theorem exc_class {Q:Option Value→Shared→Prop} (X:K.In s.heap) (I:PySem.W.InstAt s.heap x ox C od) (hga:PySem.W.findIn K (.ref C) "__getattribute__" = some (some (.builtin "BaseException.__getattribute__")))
  (hgn:PySem.W.findIn K (.ref C) "__getattr__" = some none) (hbe:PySem.W.mroIn K C (.type "BaseException")=some true) (hm:PySem.W.mroIn K C (.type "object")=some true)
  (hf:PySem.W.findObj K C od "__class__" = some (.bind (.builtin "getset_descriptor.__get__") (.builtin "object.__class__"))) (h:Q (some (.ref C)) { s with toks:=s.toks+1 }):wpAny (model prog w) A (getAttr? (.ref x) "__class__") Q E s:=by
 unfold getAttr? getAttrBy?
 refine wpAny_bind (wpAny_mkText (wpAny_bind (wpAny_attempt ?_)))
 refine exc_ga (s:={ s with toks:=s.toks+1 }) X I hga hgn hbe ?_
 obtain ⟨hh',g,d,t,os⟩:=s
 have L0:=I.type (M:=model prog w)
 have L1:=PySem.W.looks_find (M:=model prog w) X I hf
 refine wpAny_bind (wpAny_pure ?_)
 refine wpAny_bind (wpAny_pure ?_)
 refine wpAny_bind (L0.at ?_)
 refine wpAny_bind (L1.at ?_)
 show wpAny _ _ (holding [Value.builtin "object.__class__"] (call (.builtin "getset_descriptor.__get__") [.builtin "object.__class__",.ref x,.ref C]) >>= ret) _ _ _
 refine wpAny_bind (wpAny_holding (wpAny_call (PySem.W.class_get (s:=⟨hh',g,d,t+1,os⟩) X I hm ?_)))
 refine wpAny_pure ?_
 exact PySem.W.handed_on rfl (wpAny_pure h)
def passB:List Value→Bool
 | []=>false
 | v :: r=>(v :: r)==bmV || match v with | .ref _=>passB r | _=>false
theorem pass_has:∀ {l:List Value},passB l=true→l.contains (.type "object")=true
 | [],e=>by cases e
 | v :: r,e=>by
  unfold passB at e
  rcases Bool.or_eq_true_iff.mp e with z | z
  ·rw [beq_iff_eq.mp z]; decide
  ·cases v with
   | ref a=>rw [List.contains_cons,pass_has (l:=r) z,Bool.or_true]
   | _=>cases z
theorem pass_ok (self:Value):∀ {l:List Value},passB l=true→refuseLoop self "__setattr__" l=pure ()
 | [],e=>by cases e
 | v :: r,e=>by
  unfold passB at e
  rcases Bool.or_eq_true_iff.mp e with z | z
  ·rw [beq_iff_eq.mp z]; exact PySem.F.store_ValueError.passes self
  ·cases v with
   | ref a=>rw [refuseLoop_ref]; exact pass_ok self z
   | _=>cases z
theorem exc_osa {v:Value} {tk:Tok} {cd:ClassData} {R:Result→Shared→Prop} (X:K.In s.heap) (I:PySem.W.InstAt s.heap x ox C od) (hc:PySem.W.clsIn K C=some cd) (hp:passB cd.mro=true) (ha:PySem.W.findIn K (.ref C) name=some none)
  (h:wpAny (model prog w) A.in1 (Builtin.ObjectAttr.storeInOwnDict (.ref x) (.ref C) (.str name tk) name v false) (fun fin s'=>match fin with | .done f=>R (.ok f) s' | .again c'=>c'.quiet=true∧codeAny (model prog w) A c' R s') (fun e s'=>R (.error e) s') s) :
  codeAny (model prog w) A (.call (.builtin "object.__setattr__") ⟨[.ref x,.str name tk,v],[]⟩) R s:=by
 have SF:=PySem.F.store_object
 have ne:cd.mro.isEmpty=false:=by cases q:cd.mro with | nil=>rw [q] at hp; cases hp | cons _ _=>rfl
 have L0:=I.type (M:=model prog w)
 have sub:PySem.W.Looks (model prog w) s.heap (isInstance (.ref x) (.type "object")) true:=L0.andThen (PySem.W.looks_mroIn X (by unfold PySem.W.mroIn; rw [hc,Option.bind_some,if_neg (by rw [ne]; decide),pass_has hp]))
 refine codeAny_call_builtin SF.slot.plain SF.entry ?_
 refine @PySem.W.check_slot (model prog w) _ _ s "object.__setattr__" "object" "__setattr__" (.ref x) [.str name tk,v] [] _ SF.kind SF.split sub (SF.args _ _ _) ?_
 have hm:PySem.W.Looks (model prog w) s.heap (mroOf (.ref C)) cd.mro:=(PySem.W.looks_clsIn X hc).andThen .now
 rw [PySem.W.osa_eq,refuse_eq]
 refine wpAny_bind (wpAny_bind (L0.here (wpAny_bind (hm.here ?_))))
 rw [pass_ok _ hp]
 refine wpAny_pure (wpAny_bind (L0.here (wpAny_bind ((PySem.W.looks_findIn X ha).here (wpAny_bind (wpAny_pure ?_))))))
 exact h
theorem exc_first {T:Addr} {v:Value} {tk:Tok} {cd:ClassData} {Q:Fin→Shared→Prop} (X:K.In s.heap) (hx:s.heap.get? x=some (exO C T none)) (hc:PySem.W.clsIn K C=some cd) (hd:cd.hasDict=true)
  (h:∀ h',h'.Ns1 s.heap.objs.size (fun y=>if y=name then some v else none)→Heap.SameBut s.heap.objs.size ((s.heap.push PySem.W.emptyDict).update x fun o=>{ o with dict:=some s.heap.objs.size }) h'→Q (.done (.ret .none)) { s with heap:=h',toks:=s.toks+1 }) :
  wpAny (model prog w) A (Builtin.ObjectAttr.storeInOwnDict (.ref x) (.ref C) (.str name tk) name v false) Q E s:=by
 have hx1:(s.heap.push PySem.W.emptyDict).get? x=some (exO C T none):=Heap.get?_push_of_some _ hx
 have hxs:x≠s.heap.objs.size:=Nat.ne_of_lt (Heap.lt_size hx)
 refine wpAny_bind (wpAny_pure (wpAny_bind (wpAny_bind (wpAny_loadPart hx (wpAny_bind (PySem.W.Looks.here (PySem.W.looks_clsIn X hc) ?_))))))
 rw [hd]
 refine wpAny_bind (wpAny_alloc ?_)
 refine wpAny_bind (wpAny_update hx1 ?_)
 refine wpAny_pure ?_
 have gd:((s.heap.push PySem.W.emptyDict).update x fun o=>{ o with dict:=some s.heap.objs.size }).get? s.heap.objs.size=some PySem.W.emptyDict:=(Heap.get?_update_ne _ _ _ _ hxs.symm).trans (Heap.get?_push_size _ rfl)
 have nd:((s.heap.push PySem.W.emptyDict).update x fun o=>{ o with dict:=some s.heap.objs.size }).Ns s.heap.objs.size (fun _=>none):=⟨_,#[],_,gd,rfl,fun e he=>absurd he (by simp),fun _=>rfl⟩
 show wpAny _ _ (Builtin.ObjectAttr.storeInDict s.heap.objs.size (.str name tk) name v) _ _ _
 unfold Builtin.ObjectAttr.storeInDict Builtin.ObjectAttr.newKeyGuard
 refine wpAny_bind (wpAny_pure (wpAny_bind (wpAny_nsSet1 (s:={ s with heap:=(s.heap.push PySem.W.emptyDict).update x fun o=>{ o with dict:=some s.heap.objs.size } }) (Heap.Ns1.of_empty nd) fun h' hn' hs=>?_)))
 obtain ⟨oD,esD,epD,hoD,hdD,hcD⟩:=hn'.count (Within.cons name v Within.nil)
 refine wpAny_bind (wpAny_lookBehind hoD (by rw [hdD]; exact pastItsLine_dict (Nat.le_trans hcD (by rw [List.length_cons,List.length_nil,sizeLine_eq]; omega))) ?_)
 exact wpAny_pure (h h' hn' hs)
theorem exc_next {T dx:Addr} {v:Value} {tk:Tok} {cd:ClassData} {mA:Str→Option Value} {ns:List Str} {Q:Fin→Shared→Prop} (X:K.In s.heap) (hx:s.heap.get? x=some (exO C T (some dx))) (hn:s.heap.Ns1 dx mA) (hw:Within mA ns) (hz:ns.length < 1000) (hc:PySem.W.clsIn K C=some cd) (hd:cd.hasDict=true)
  (h:∀ h',h'.Ns1 dx (fun y=>if y=name then some v else mA y)→Heap.SameBut dx s.heap h'→Q (.done (.ret .none)) { s with heap:=h',toks:=s.toks+1 }) :
  wpAny (model prog w) A (Builtin.ObjectAttr.storeInOwnDict (.ref x) (.ref C) (.str name tk) name v false) Q E s:=by
 refine wpAny_bind (wpAny_pure (wpAny_bind (wpAny_bind (wpAny_loadPart hx (wpAny_bind (PySem.W.Looks.here (PySem.W.looks_clsIn X hc) ?_))))))
 rw [hd]
 refine wpAny_pure (a:=some dx) ?_
 show wpAny _ _ (Builtin.ObjectAttr.storeInDict dx (.str name tk) name v) _ _ _
 unfold Builtin.ObjectAttr.storeInDict Builtin.ObjectAttr.newKeyGuard
 refine wpAny_bind (wpAny_pure (wpAny_bind (wpAny_nsSet1 hn fun h' hn' hs=>?_)))
 obtain ⟨oD,esD,epD,hoD,hdD,hcD⟩:=hn'.count (Within.cons name v hw)
 refine wpAny_bind (wpAny_lookBehind hoD (by rw [hdD]; exact pastItsLine_dict (Nat.le_trans hcD (by rw [List.length_cons,sizeLine_eq]; omega))) ?_)
 exact wpAny_pure (h h' hn' hs)
end
end L2
namespace L2
open PySem PySem.Spec PyProof.Rows
def exH (a C:Addr) (d:Option Addr):HO:=.ext fun h=>∃ T,h.get? a=some (exO C T d)
def xdH (dx:Addr) (fs:List (Str × V)):HO:=.ext fun h=>∃ mA,h.Ns1 dx mA∧(∀ f,RelO (fs.lookup f) (mA f))∧PySem.Within mA (fs.map (·.1))
def excF (K:PySem.W.Frag) (C:Addr):Bool:=
 PySem.W.findIn K (.ref C) "__getattribute__" == some (some (.builtin "BaseException.__getattribute__")) && PySem.W.findIn K (.ref C) "__getattr__" == some none && PySem.W.mroIn K C (.type "BaseException")==some true && PySem.W.mroIn K C (.type "object")==some true &&
  (PySem.W.clsIn K C).any (fun cd=>cd.hasDict && passB cd.mro) && PySem.W.findIn K (.ref C) "__setattr__" == some (some (.builtin "object.__setattr__")) && PySem.W.findIn K (.ref C) "__class__" == some (some (.builtin "object.__class__")) &&
  PySem.W.specialIn K (.builtin "object.__class__") "__get__" == some (some (.builtin "getset_descriptor.__get__")) && PySem.W.takesIn K (.builtin "object.__class__")==some true
structure ExcF (K:PySem.W.Frag) (C:Addr):Prop where
 ga:PySem.W.findIn K (.ref C) "__getattribute__" = some (some (.builtin "BaseException.__getattribute__"))
 gn:PySem.W.findIn K (.ref C) "__getattr__" = some none
 be:PySem.W.mroIn K C (.type "BaseException")=some true
 ob:PySem.W.mroIn K C (.type "object")=some true
 cl:∃ cd,PySem.W.clsIn K C=some cd∧cd.hasDict=true∧passB cd.mro=true
 sa:PySem.W.findIn K (.ref C) "__setattr__" = some (some (.builtin "object.__setattr__"))
 cc:PySem.W.findIn K (.ref C) "__class__" = some (some (.builtin "object.__class__"))
 cg:PySem.W.specialIn K (.builtin "object.__class__") "__get__" = some (some (.builtin "getset_descriptor.__get__"))
 ct:PySem.W.takesIn K (.builtin "object.__class__")=some true
theorem excF_of {K:PySem.W.Frag} {C:Addr} (e:excF K C=true):ExcF K C:=by
 unfold excF at e
 simp only [Bool.and_eq_true,beq_iff_eq] at e
 obtain ⟨⟨⟨⟨⟨⟨⟨⟨e1,e2⟩,e3⟩,e4⟩,e5⟩,e6⟩,e7⟩,e8⟩,e9⟩:=e
 obtain ⟨cd,h1,h2⟩:=PySem.W.any_some e5
 simp only [Bool.and_eq_true] at h2
 exact ⟨e1,e2,e3,e4,⟨cd,h1,h2.1,h2.2⟩,e6,e7,e8,e9⟩
theorem ExcF.hasD {K:PySem.W.Frag} {C:Addr} (c:ExcF K C):PySem.W.hasDictIn K C=true:=by
 obtain ⟨cd,h1,h2,_⟩:=c.cl
 unfold PySem.W.hasDictIn
 rw [h1]
 exact h2
section
variable {X:Cx} {pins:List (Addr × Obj)} {σ:St} {H:Hp} {s:Shared} {a C:Addr} {fs:List (Str × V)} {A:Around} {E:Value→Shared→Prop}
theorem setx_first {f:Str} {y:V} {u:Value} {Q:Unit→Shared→Prop} (I:Inv X pins σ H s) (e:H a=some (exH a C none)) (c:ExcF X.K C) (n:NoAttr X.K C f) (ry:RelV y u)
  (h:∀ dx s',H dx=none→Inv X pins σ (upd (upd H a (exH a C (some dx))) dx (xdH dx [(f,y)])) s'→Q () s'):wpAny (model X.prog X.w) A (setAttr (.ref a) f u) Q E s:=by
 obtain ⟨⟨T,g⟩,_,_⟩:=(show ObjOk X.prog X.w H s.heap a (exH a C none) from I.hok a _ e)
 have J:PySem.W.InstAt s.heap a (exO C T none) C none:=⟨g,rfl,rfl,True.intro⟩
 obtain ⟨cd,h1,h2,h3⟩:=c.cl
 refine PySem.W.set_plain I.kIn J c.sa ?_
 refine exc_osa (s:={ s with toks:=s.toks+1 }) I.kIn J h1 h3 n ?_
 refine exc_first (s:={ s with toks:=s.toks+1 }) I.kIn g h1 h2 fun h' hn hs=>?_
 show Q () _
 dsimp only at hn hs
 generalize hD:s.heap.objs.size=D at hn hs
 have hnD:H D=none:=I.hok.fresh (by rw [hD]; exact Nat.le_refl _)
 have naD:a≠D:=ne_of_none e hnD
 have I1:Inv X pins σ H { s with heap:=s.heap.push PySem.W.emptyDict }:=I.kept (t':=s.toks) fun b o q=>Heap.get?_push_of_some _ q
 have g1:(s.heap.push PySem.W.emptyDict).get? a=some (exO C T none):=Heap.get?_push_of_some _ g
 have g2:((s.heap.push PySem.W.emptyDict).update a fun o=>{ o with dict:=some D }).get? a=some (exO C T (some D)):=Heap.get?_update_self _ g1 rfl
 have I2:Inv X pins σ (upd H a (exH a C (some D))) { s with heap:=(s.heap.push PySem.W.emptyDict).update a fun o=>{ o with dict:=some D } }:=
  I1.write (t':=s.toks) (x:=a) (e:=a) (by rw [e]; exact True.intro) (.inl rfl) (fun b o hb q=>(Heap.get?_update_other _ _ (Ne.symm hb)).trans q) ⟨_,g2⟩ ⟨⟨T,g2⟩,⟨_,g2⟩,fun k1 k2 ⟨T',q⟩ k=>⟨T',k _ q⟩⟩
 have fD:Far X pins D:=I.far (by rw [hD]; exact Nat.le_refl _)
 have hn2:upd H a (exH a C (some D)) D=none:=(upd_ne (Ne.symm naD)).trans hnD
 have I3:Inv X pins σ (upd H a (exH a C (some D))) { s with heap:=h',toks:=s.toks+2 }:=Inv.turned (s:={ s with heap:=(s.heap.push PySem.W.emptyDict).update a fun o=>{ o with dict:=some D } }) (t':=s.toks+2) (it:=D) I2 (fun b o hb q=>(hs.2 b hb).trans q) hn2 fD.loc (.inr fD.new) fD.cell fD.pin
 have ok:ObjOk X.prog X.w (upd (upd H a (exH a C (some D))) D (xdH D [(f,y)])) h' D (xdH D [(f,y)]):=by
  refine ⟨⟨_,hn,fun k=>?_,fun k hk=>?_⟩,let ⟨o,_,_,q,_⟩:=hn; ⟨o,q⟩,fun k1 k2 ⟨mA,⟨o,es,ep,q1,q2⟩,q3⟩ k=>⟨mA,⟨o,es,ep,k _ q1,q2⟩,q3⟩⟩
  ·rw [List.lookup_cons]
   by_cases z:k=f
   ·rw [if_pos z,z]
    simp only [beq_self_eq_true]
    exact ry
   ·rw [if_neg z,show (k==f)=false from beq_eq_false_iff_ne.mpr z]
    exact True.intro
  ·by_cases z:k=f
   ·rw [z]; exact List.mem_cons_self
   ·exact absurd (if_neg z) hk
 exact h D _ hnD (I3.adopt (a:=D) (o:=xdH D [(f,y)]) fD.new hn2 fD.loc fD.cell fD.pin ok)
theorem setx_next {f:Str} {y:V} {u:Value} {dx:Addr} {Q:Unit→Shared→Prop} (I:Inv X pins σ H s) (e:H a=some (exH a C (some dx))) (ed:H dx=some (xdH dx fs)) (c:ExcF X.K C) (n:NoAttr X.K C f) (hl:fs.length < 900) (ry:RelV y u)
  (h:∀ s',Inv X pins σ (upd H dx (xdH dx (putF f y fs))) s'→Q () s'):wpAny (model X.prog X.w) A (setAttr (.ref a) f u) Q E s:=by
 obtain ⟨⟨T,g⟩,_,_⟩:=(show ObjOk X.prog X.w H s.heap a (exH a C (some dx)) from I.hok a _ e)
 obtain ⟨⟨mA,hn,r,wi⟩,⟨o,ho⟩,_⟩:=(show ObjOk X.prog X.w H s.heap dx (xdH dx fs) from I.hok dx _ ed)
 have J:PySem.W.InstAt s.heap a (exO C T (some dx)) C (some o):=⟨g,rfl,rfl,ho⟩
 obtain ⟨cd,h1,h2,h3⟩:=c.cl
 refine PySem.W.set_plain I.kIn J c.sa ?_
 refine exc_osa (s:={ s with toks:=s.toks+1 }) I.kIn J h1 h3 n ?_
 refine exc_next (s:={ s with toks:=s.toks+1 }) (ns:=fs.map (·.1)) I.kIn g hn wi (by rw [List.length_map]; omega) h1 h2 fun h' hn' hs=>?_
 refine h _ (I.write (t':=s.toks+2) (x:=dx) (e:=dx) (by rw [ed]; exact True.intro) (.inl rfl) (fun b o hb q=>(hs.2 b hb).trans q) (let ⟨o,_,_,q,_⟩:=hn'; ⟨o,q⟩) ?_)
 refine ⟨⟨_,hn',fun k=>?_,fun k hk=>?_⟩,let ⟨o,_,_,q,_⟩:=hn'; ⟨o,q⟩,fun k1 k2 ⟨mA,⟨o,es,ep,q1,q2⟩,q3⟩ k=>⟨mA,⟨o,es,ep,k _ q1,q2⟩,q3⟩⟩
 ·rw [lookup_putF]
  by_cases q:k=f
  ·rw [if_pos q,if_pos q]; exact ry
  ·rw [if_neg q,if_neg q]; exact r k
 ·by_cases q:k=f
  ·rw [q]; exact (keys_putF f y fs).1
  ·exact (keys_putF f y fs).2 k (wi k fun z=>hk ((if_neg q).trans z))
def sXFld (K:PySem.W.Frag) (ta tv:TE) (f:Str):TS:=fun D σ H=>tv σ H fun y H1=>ta σ H1 fun x H2=>∃ a C,x=.ref a∧ExcF K C∧NoAttr K C f∧
 ((H2 a=some (exH a C none)∧∀ dx,H2 dx=none→D.nx σ (upd (upd H2 a (exH a C (some dx))) dx (xdH dx [(f,y)])))∨
  ∃ dx fs,H2 a=some (exH a C (some dx))∧H2 dx=some (xdH dx fs)∧fs.length < 900∧D.nx σ (upd H2 dx (xdH dx (putF f y fs))))
theorem ps_xfld {K:PySem.W.Frag} {o value:Expr} {ta tv:TE} {f:Str} {pos pos':Pos} (ha:PE X o ta) (hv:PE X value tv) (hs:swapsWith value (some (.Attribute o f pos')) pos.line X.env=pure false:=by rfl) (hK:X.K=K:=by rfl) :
  PS X (.Assign [.Attribute o f pos'] value pos) (sXFld K ta tv f):=by
 subst hK
 intro pins s σ H D I h
 refine plainObj_wpAny_Assign_Attribute (thn (hv pins s σ H _ I h) fun u s1 ⟨y,H1,I1,ry,q⟩=>thn (ha pins s1 σ H1 _ I1 q) fun ov s2 ⟨x,H2,I2,rx,a,C,ex,c,n,q2⟩=>?_) hs
 subst ex
 obtain rfl:ov=Value.ref a:=rx
 rcases q2 with ⟨e,q2⟩ | ⟨dx,fs,e,ed,l,q2⟩
 ·exact setx_first I2 e c n ry fun dx s3 hd I3=>⟨σ,_,I3,q2 dx hd⟩
 ·exact setx_next I2 e ed c n l ry fun s3 I3=>⟨σ,_,I3,q2⟩
theorem ex_new {h':Heap} {e C:Addr} {us:List Value} (I:Inv X pins σ H s) (m:Heap.MadeExcOf s.heap h' e (.ref C) us) (le:s.heap.objs.size≤e):Inv X pins σ (upd H e (exH e C none)) { s with heap:=h' }:=by
 obtain ⟨T,g,_⟩:=m.there
 exact I.laid (t':=s.toks) m.keeps le ⟨⟨T,g⟩,⟨_,g⟩,fun k1 k2 ⟨T',q⟩ k=>⟨T',k _ q⟩⟩
def tExc (C:Addr) (sp:Sp) (t:TA):TE:=fun σ H Q=>t σ H fun vs H1=>vs.length≤1000∧∀ e,H1 e=none→sp (.ref e :: vs) (upd H1 e (exH e C none)) (fun v H2=>v=.non∧Q (.ref e) H2) E0
theorem pe_exc {k:Nat} {f:Addr} {fd:FuncData} {ps:List Str} {sp:Sp} {x:Str} {p pos:Pos} {e:Expr} {es:List Expr} {t:TA} {oI:Obj} (c:excK X.K C (some (.ref f))=true) (hk:PySem.W.keepIn X.K (.ref C)=true) (hm:X.mg x=some (.ref C)) (hf:X.K.lookup f=some oI) (hfc:oI.cls=.type "function")
  (F:FnOk X.prog X.w X.K X.mg X.base CX0 k f fd ps sp) (hb:Binds X.K fd ps []) (hr:Room (k+1) X.A) (ha:PA X (e :: es) t) (hg:Gl X x:=by rfl) (hdb:(x==("__debug__" : Str))=false:=by decide)
  (he:starEach (e :: es) X.env=(false,eval e X.env) :: starEach es X.env:=by rfl) (hpl:(backTo pos (starEach es X.env)).any (·.1)=false:=by rfl):PE X (.Call (.Name x p) (e :: es) [] pos) (tExc C sp t):=by
 intro pins s σ H Q I h
 refine wpAny_Call_Name_kw (ld_glob I hg hm ?_ hdb)
 refine PySem.W.callWith_K (h₀:=X.base) I.ok.mod.kin hk (thn (ha pos pins s σ H _ I h) fun us s1 ⟨vs,H1,I1,r,hz,q⟩=>⟨I1.kIn,?_⟩) he hpl
 refine exc_make (excC_of I1.kIn c) (I1.kIn _ _ hf) hfc (by show us.length≤_; rw [← r.length]; exact line_le hz) fun h' a m le=>?_
 have I2:=ex_new I1 m le
 have hq:=q a (I1.hok.fresh le)
 have r2:Vals (V.ref a :: vs) (Value.ref a :: us):=.cons rfl r
 have hl:(Value.ref a :: us ++ ([]:List Value)).length=ps.length:=by
  rw [List.append_nil,← r2.length]
  exact F.len _ _ _ _ hq
 refine wpAny_call (codeAny_mono (F.run _ X.stack _ _ ⟨Value.ref a :: us,[]⟩ (Value.ref a :: us) _ _ E0 (hr.make C us []) (I2.env0.make C us []) (by have:=hb { s1 with heap:=h' } (Value.ref a :: us) I2.kIn hl; rwa [List.append_nil] at this) r2 hq) fun r s' z=>?_)
 cases r with
 | error e=>exact False.elim z
 | ok fl=>
  cases fl with
  | ret u=>
   obtain ⟨v,H',I3,rv,ev,q3⟩:=I2.after z
   subst ev
   exact ⟨rv,.ref a,H',I3,rfl,q3⟩
  | next=>exact False.elim z
  | brk=>exact False.elim z
  | cont=>exact False.elim z
theorem kitx_exc {K:PySem.W.Frag} {x D:Addr} {ox:Obj} {od:Option Obj} (c:ExcF K D):PySem.W.KitX K (.ref x) (.ref D) (fun h=>PySem.W.InstAt h x ox D od) where
 ty:=fun _ _ _ I=>I.type
 it:=fun _ _ X _=>by
  obtain ⟨cd,hc,_⟩:=c.cl
  unfold PySem.W.clsIn at hc
  split at hc
  ·rename_i ho
   intro A' Q' E' s' k q
   unfold isType loadHead
   exact wpAny_bind (wpAny_loadPart (k _ _ (X _ _ ho)) (wpAny_pure q))
  ·cases hc
 ne:=fun h tp dd its n sl X htp=>by
  obtain ⟨cd,hc,_⟩:=c.cl
  refine Bool.eq_false_iff.mpr fun q=>?_
  obtain rfl:D=tp:=Value.ref.inj (beq_iff_eq.mp q)
  unfold PySem.W.clsIn at hc
  split at hc
  ·rename_i ho
   cases (X _ _ ho).symm.trans htp
  ·cases hc
 ca:=fun X I k=>by
  obtain ⟨cd,hc,_⟩:=c.cl
  refine exc_class X I c.ga c.gn c.be c.ob ?_ k
  unfold PySem.W.findObj
  rw [hc,Option.bind_some,c.cc,Option.bind_some]
  simp [c.cg,c.ct]
structure CalX (P:Program) (w:World) (K:PySem.W.Frag) (mg:Str→Option Value) (base:Heap) (x:Str) (k:Nat) (ps:List Str) (sp:Sp) (C:Addr) where
 f:Addr
 fd:FuncData
 oI:Obj
 exc:excK K C (some (.ref f))=true
 kp:PySem.W.keepIn K (.ref C)=true
 at_:mg x=some (.ref C)
 lk:K.lookup f=some oI
 fc:oI.cls=.type "function"
 ok:FnOk P w K mg base CX0 k f fd ps sp
 b:Binds K fd ps []
theorem pe_x {k:Nat} {ps:List Str} {sp:Sp} {x:Str} {p pos:Pos} {e:Expr} {es:List Expr} {t:TA} (c:CalX X.prog X.w X.K X.mg X.base x k ps sp C) (hr:Room (k+1) X.A) (ha:PA X (e :: es) t) (hg:Gl X x:=by rfl) (hdb:(x==("__debug__" : Str))=false:=by decide)
  (he:starEach (e :: es) X.env=(false,eval e X.env) :: starEach es X.env:=by rfl) (hpl:(backTo pos (starEach es X.env)).any (·.1)=false:=by rfl):PE X (.Call (.Name x p) (e :: es) [] pos) (tExc C sp t):=
 pe_exc c.exc c.kp c.at_ c.lk c.fc c.ok c.b hr ha hg hdb he hpl
end
theorem bt_ValueError:bootBuiltins "ValueError" = some (.type "ValueError"):=by decide +kernel
def clsBody (s:Stmt):List Stmt:=match s with
 | .ClassDef _ _ _ b _ _ _ _ _ _ _=>b
 | _=>[]
end L2
namespace L2
open PySem PySem.Spec PyProof.Rows
section
variable {P:Program} {w:World} {A:Around} {E:Value→Shared→Prop} {s:Shared}
end
section
variable {X:Cx}
def rNeE (K:PySem.W.Frag):R2:=fun x y H Q=>∃ a b xs,x=.ref a∧y=.ref b∧SqL K H a xs∧SqL K H b []∧Q (.bl (!xs.isEmpty)) H
theorem op_neE {K:PySem.W.Frag} (hu:X.A.units < cLine) (hK:X.K=K:=by rfl):OpR X (compareOp .NotEq) (rNeE K):=by
 subst hK
 intro pins s σ H x y v u Q I rx ry h
 obtain ⟨a,b,xs,rfl,rfl,ha,hb,q⟩:=h
 cases xs with
 | nil=>exact op_neS hu rfl pins s σ H _ _ _ _ Q I rx ry ⟨a,b,[],[],rfl,rfl,.inl ⟨ha,hb⟩,rfl,rfl,q⟩
 | cons x xs=>
  cases rx
  cases ry
  obtain ⟨i1,r1,p1,_⟩:=I.list ha
  obtain ⟨i2,r2,p2,_⟩:=I.list hb
  refine SeqAt.RcNeAt.lists_lengths p1.isList p2.isList (by rw [size_of r1,size_of r2]; exact bne_iff_ne.mpr (by simp)) hu _ _ _ _ ⟨.bl true,H,I,rfl,q⟩
end
end L2
namespace L2
open PySem PySem.Spec PyProof.Rows
section
variable {P:Program} {w:World} {A:Around} {E:Value→Shared→Prop} {s:Shared} {d:Addr} {vs:List Value} {ep:Nat}
end
section
variable {X:Cx} {pins:List (Addr × Obj)} {σ:St} {H:Hp} {s:Shared} {x:Str} {k:Nat} {ps:List Str} {sp:Sp}
end
end L2
namespace L2
open PySem PySem.Spec PyProof.Rows
section
open PySem.W (KasT kas_asc kas_desc kas_tail3 kas_descPart kas_count kas_place kas_bin kas_sort kas_rev)
variable {n:Nat} {key:Nat→Nat} {p:Array Nat}
structure Pf (n m:Nat) (p:Array Nat):Prop where
 per:Perm0 n p
 rest:∀ i,m≤i→i < n→p.getD i 0=i
theorem Pf.low {m:Nat} (h:Pf n m p) {i:Nat} (hi:i < m) (hn:i < n):p.getD i 0 < m:=by
 rcases Nat.lt_or_ge (p.getD i 0) m with z | z
 ·exact z
 ·have l:=h.per.lt i hn
  have:=h.per.inj (p.getD i 0) i l hn (h.rest _ z l)
  omega
theorem Pf.more {m:Nat} (h:Pf n m p):Pf n (m+1) p:=⟨h.per,fun i a b=>h.rest i (by omega) b⟩
def SUp (key:Nat→Nat) (p:Array Nat) (m:Nat):Prop:=∀ i j,i < j→j < m→key (p.getD i 0) < key (p.getD j 0)∨(key (p.getD i 0)=key (p.getD j 0)∧p.getD i 0 < p.getD j 0)
theorem SUp.le {m:Nat} (u:SUp key p m) {i j:Nat} (h:i≤j) (hj:j < m):key (p.getD i 0)≤key (p.getD j 0):=by
 by_cases e:i=j
 ·rw [e]; exact Nat.le_refl _
 ·rcases u i j (by omega) hj with z | z <;> omega
theorem SUp.succ {m:Nat} (u:SUp key p m) (h:1≤m) (lo:∀ i,i < m→p.getD i 0 < p.getD m 0) (c:key (p.getD (m - 1) 0)≤key (p.getD m 0)):SUp key p (m+1):=fun i j hij hj=>by
 by_cases e:j=m
 ·subst e
  have a:=u.le (i:=i) (j:=j - 1) (by omega) (by omega)
  have b:=lo i hij
  rcases Nat.lt_or_ge (key (p.getD i 0)) (key (p.getD j 0)) with z | z
  ·exact .inl z
  ·exact .inr ⟨by omega,b⟩
 ·exact u i j hij (by omega)
theorem Pf.lo {m:Nat} (h:Pf n m p) (hm:m < n):∀ i,i < m→p.getD i 0 < p.getD m 0:=fun i hi=>by
 rw [h.rest m (Nat.le_refl _) hm]
 exact h.low hi (by omega)
structure SDn (key:Nat→Nat) (p:Array Nat) (m q:Nat):Prop where
 fit:q+1≤m
 d1:∀ i j,i < j→j < m - (q+1)→key (p.getD j 0) < key (p.getD i 0)∨(key (p.getD i 0)=key (p.getD j 0)∧p.getD j 0 < p.getD i 0)
 d2:∀ i j,i < m - (q+1)→m - (q+1)≤j→j < m→key (p.getD j 0) < key (p.getD i 0)
 d3:∀ i j,m - (q+1)≤i→i < j→j < m→key (p.getD i 0)=key (p.getD j 0)∧p.getD i 0 < p.getD j 0
def STd (key:Nat→Nat) (p:Array Nat) (m:Nat):Prop:=∀ i j,i < j→j < m→key (p.getD j 0) < key (p.getD i 0)∨(key (p.getD i 0)=key (p.getD j 0)∧p.getD j 0 < p.getD i 0)
theorem rev_at (hp:Perm0 n p) {a b:Nat} (hab:a≤b) (hb:b≤n) (k:Nat):(kas_rev p a b).getD k 0=if a≤k∧k < b then p.getD (a+b - 1 - k) 0 else p.getD k 0:=by
 have h:=getElem?_mirror_all (xs:=p) (i:=a) (j:=b) (by rw [hp.size]; exact hb) k
 unfold PySem.W.kas_rev
 by_cases z:a≤k∧k < b
 ·rw [if_pos z] at h
  rw [if_pos z]
  exact getD_q h
 ·rw [if_neg z] at h
  rw [if_neg z]
  exact getD_q h
theorem SDn.turn {m q:Nat} (h:SDn key p m q) (hp:Perm0 n p) (hm:m≤n):STd key (kas_rev p (m - (q+1)) m) m:=fun i j hij hj=>by
 have fit:=h.fit
 rw [rev_at hp (by omega) hm,rev_at hp (by omega) hm]
 by_cases c1:j < m - (q+1)
 ·rw [if_neg (by omega),if_neg (by omega)]
  exact h.d1 i j hij c1
 ·by_cases c2:i < m - (q+1)
  ·rw [if_pos ⟨by omega,hj⟩,if_neg (by omega)]
   exact .inl (h.d2 i _ c2 (by omega) (by omega))
  ·rw [if_pos ⟨by omega,hj⟩,if_pos ⟨by omega,by omega⟩]
   have:=h.d3 (m - (q+1)+m - 1 - j) (m - (q+1)+m - 1 - i) (by omega) (by omega) (by omega)
   exact .inr ⟨this.1.symm,this.2⟩
theorem SDn.flat {m:Nat} (h:SDn key p m 0):STd key p m:=fun i j hij hj=>by
 have fit:=h.fit
 by_cases c1:j < m - (0+1)
 ·exact h.d1 i j hij c1
 ·exact .inl (h.d2 i j (by omega) (by omega) hj)
theorem STd.grow {m:Nat} (h:STd key p m) (h1:1≤m) (c:key (p.getD m 0) < key (p.getD (m - 1) 0)):SDn key p (m+1) 0:=by
 have le:∀ i,i < m→key (p.getD (m - 1) 0)≤key (p.getD i 0):=fun i hi=>by
  by_cases e:i=m - 1
  ·rw [e]; exact Nat.le_refl _
  ·rcases h i (m - 1) (by omega) (by omega) with z | z <;> omega
 refine ⟨by omega,fun i j a b=>h i j a (by omega),fun i j a b d=>?_,fun i j a b d=>absurd d (by omega)⟩
 obtain rfl:j=m:=by omega
 have:=le i (by omega)
 omega
theorem STd.turn {m:Nat} (h:STd key p m) (hp:Perm0 n p) (hm:m≤n):SUp key (kas_rev p 0 m) m:=fun i j hij hj=>by
 rw [rev_at hp (Nat.zero_le _) hm,rev_at hp (Nat.zero_le _) hm,if_pos ⟨Nat.zero_le _,by omega⟩,if_pos ⟨Nat.zero_le _,hj⟩]
 rcases h (0+m - 1 - j) (0+m - 1 - i) (by omega) (by omega) with z | z
 ·exact .inl z
 ·exact .inr ⟨z.1.symm,z.2⟩
end
end L2
namespace L2
open PySem PySem.Spec PyProof.Rows
section
open PySem.W (kas_sort kas_ask kas_item)
variable {X:Cx} {pins:List (Addr × Obj)} {σ:St} {H:Hp} {s:Shared}
end
end L2
namespace L2
open PySem PySem.Spec PyProof.Rows
section
variable {P:Program} {w:World} {A:Around} {E:Value→Shared→Prop} {s:Shared}
def TextAt (D:List Str) (i:Nat) (v:Value):Prop:=∃ z t,D[i]? = some z∧v=.str z t
theorem loop_texts {R:Result→Shared→Prop} {I:Addr} {fp wr:List Addr} {G:Array GenState→Array GenState→Prop} {D:List Str} {St:Nat→Shared→Prop} (W:WalksS P w A.in1 I fp wr G D.length (TextAt D) St) (S:Addr) (hSf:S∉fp)
  (hb:D.length+1 < 4096):∀ (k i:Nat) (s:Shared) (o:Obj),D.length - i=k→i≤D.length→St i s→s.heap.get? S=some o→SetTx w o (D.take i) i→
   (∀ s' o',Moved (S :: wr) G s s'→s'.heap.get? S=some o'→SetTx w o' D D.length→R (.ok (.ret .none)) s')→
   codeAny (model P w) A (.builtin "set.update.loop" ⟨[.ref S,.ref I],[]⟩) R s:=by
 have hSw:S∉wr:=fun h=>hSf (W.sub _ h)
 have hsub:∀ b∈wr,b∈S :: wr:=fun b hb=>List.mem_cons_of_mem _ hb
 intro k
 induction k with
 | zero=>
  intro i s o hk hi hst ho hS hR
  have hin:i=D.length:=by omega
  subst hin
  refine codeAny_builtin PyProof.Rows.F.entry_set_update_loop ?_
  rw [Around.under_plainId PyProof.Rows.F.plain_set_update_loop _]
  show wpAny _ A.in1 (pyNext (.ref I) >>= _) _ _ s
  refine wpAny_bind (W.done s _ _ hst fun s' hm=>wpAny_pure (hR s' o (hm.mono hsub) (hm.heap S _ hSw ho) ?_))
  rw [List.take_of_length_le (Nat.le_refl _)] at hS
  exact hS
 | succ k ih=>
  intro i s o hk hi hst ho hS hR
  have hlt:i < D.length:=by omega
  refine codeAny_builtin PyProof.Rows.F.entry_set_update_loop ?_
  rw [Around.under_plainId PyProof.Rows.F.plain_set_update_loop _]
  show wpAny _ A.in1 (pyNext (.ref I) >>= _) _ _ s
  refine wpAny_bind (W.item i s _ _ hlt hst fun v s' hP hst' hm=>?_)
  obtain ⟨z,u,hz,rfl⟩:=hP
  show wpAny _ A.in1 (holding [Value.str z u] (setAdd S (.str z u)) >>= _) _ _ s'
  unfold setAdd
  refine wpAny_bind (wpAny_holding (wpAny_holding (wpAny_bind ?_)))
  refine (PySem.strKind P w).pyHash (k:=z) (by show Value.isStrOf z (.str z u)=true; simp [Value.isStrOf]) ?_
  refine add_text (s:={ s' with toks:=s'.toks+1 }) (hm.heap S _ hSw ho) hS (by omega) z u fun _ h' o' hsb e2 hS2=>?_
  have hS3:SetTx w o' (D.take (i+1)) (i+1):=by
   have e:D.take (i+1)=D.take i ++ [z]:=by rw [List.take_add_one,hz]; rfl
   rw [e]
   exact hS2
  refine wpAny_pure ⟨plainId_quiet PyProof.Rows.F.plain_set_update_loop _,ih (i+1) _ o' (by omega) hlt (W.frame _ s' _ _ hst' (Nat.le_succ _) fun b hb o e=>?_) e2 hS3 fun s'' o'' hm'' e'' hS''=>?_⟩
  ·exact (hsb.2 b (fun z:b=S=>hSf (z▸hb))).trans e
  ·exact hR s'' o'' (Moved.trans W.gtrans ((hm.mono hsub).then_heap (Nat.le_succ _) fun b o hb e=>(hsb.2 b (fun z:b=S=>hb (by rw [z]; exact List.mem_cons_self))).trans e) hm'') e'' hS''
theorem sub_list_set:isSubtype (.type "list") (.type "set")=pure false:=by rw [isSubtype_type]; kernel_rfl
theorem sub_list_frozenset:isSubtype (.type "list") (.type "frozenset")=pure false:=by rw [isSubtype_type]; kernel_rfl
theorem walks_texts {I l:Addr} (hh:A.handled=none) (hne:l≠I) {items:Array Value} {D:List Str} (hn:items.size=D.length) (hD:∀ (i:Nat) v,items[i]? = some v→TextAt D i v):Walks P w A I [I,l] [I] D.length (TextAt D) (fun i h=>h.IsListIter I l i∧h.IsList l items):=
 let W:=Walks.list (prog:=P) (w:=w) (A:=A) hh I l hne items
 {sub:=W.sub,frame:=W.frame,self:=W.self,done:=fun s Q E st hQ=>W.done s Q E (by rw [hn]; exact st) hQ
  item:=fun i s Q E hi st hQ=>W.item i s Q E (by rw [hn]; exact hi) st fun v h' tk p=>hQ v h' tk (hD i v p) }
set_option maxHeartbeats 3200000 in
theorem call_set_texts {Q:Value→Shared→Prop} (hh:A.handled=none) {l:Addr} {items:Array Value} {D:List Str} (hl:s.heap.IsList l items) (hn:items.size=D.length) (hD:∀ (i:Nat) v,items[i]? = some v→TextAt D i v) (hb:D.length+1 < 4096)
  (hQ:∀ h' tk o,(∀ b o,s.heap.get? b=some o→h'.get? b=some o)→h'.get? s.heap.objs.size=some o→SetTx w o D D.length→Q (.ref s.heap.objs.size) { s with heap:=h',toks:=tk }) :
  wpAny (model P w) A (call (.type "set") [.ref l]) Q E s:=by
 obtain ⟨c,tl,hmro⟩:=PySem.F.called_set.mro
 have hmade:=PySem.F.called_set.made
 have hsub:=PySem.F.called_set.sub
 refine wpAny_call (codeAny_of_tree ?_)
 show wpAny _ _ (callAny (.type "set") _) _ _ _
 refine wpAny_pure ⟨Code.quiet_builtin _ (by decide +kernel),codeAny_builtin PySem.F.entry_type_call ?_⟩
 rw [Around.under_plain (weight_type_call_type "set" [.ref l] []) rfl]
 have h1:=PySem.F.called_set.notType
 have h2:=PySem.F.called_set.canCreate
 have hct:=PySem.F.typeCall_set_1 (.ref l)
 repeat (any_goals (first | assumption | wp_step))
 refine codeAny_mono (new_text (.ref l) (E:=E) (Q₁:=fun obj s₁=>obj=.ref s.heap.objs.size∧s₁ = { s with heap:=s.heap.push (newSetObj w) }) ⟨rfl,rfl⟩) fun r s₁ hr=>?_
 cases r with
 | error e=>exact hr
 | ok fl=>
  cases fl with
  | ret obj=>
   obtain ⟨rfl,rfl⟩:=hr
   have hS:(s.heap.push (newSetObj w)).get? s.heap.objs.size=some (newSetObj w):=Heap.get?_push_size _ rfl
   have hT:Shared.TypeIs { s with heap:=s.heap.push (newSetObj w) } (.ref s.heap.objs.size) "set":=⟨_,hS,rfl⟩
   have hl1:(s.heap.push (newSetObj w)).IsList l items:=let ⟨o,e,r⟩:=hl; ⟨o,Heap.get?_push_of_some _ e,r⟩
   have ll:l < s.heap.objs.size:=let ⟨_,e,_⟩:=hl; Heap.lt_size e
   have hTl:Shared.TypeIs { s with heap:=s.heap.push (newSetObj w) } (.ref l) "list":=hl1.typeIs
   have hli:=PySem.F.called_set.init.lookup
   have hbi:=PySem.F.called_set.init.bind (.ref s.heap.objs.size)
   repeat (any_goals (first | assumption | wp_step))
   refine codeAny_mono (codeAny_call_builtin (R:=wants (fun r s₂=>r=.none∧∃ h' tk o,s₂ = { s with heap:=h',toks:=tk }∧(∀ b o,s.heap.get? b=some o→h'.get? b=some o)∧h'.get? s.heap.objs.size=some o∧
    SetTx w o D D.length) E) PySem.F.called_set.init.plain PySem.F.entry_set_init (check_set_init_1 hT ?_)) fun r₂ s₂ hr₂=>?_
   ·have hsls:=sub_list_set
    have hslf:=sub_list_frozenset
    have hne:(Value.type "list" == Value.type "dict")=false:=by decide
    have hS':(s.heap.push (newSetObj w)).get? s.heap.objs.size=some { cls:=.type "set",dict:=none,data:=.set #[] 0 (.fresh 0 0 (!w.params.followText "set-order")) }:=hS
    unfold Builtin.«set.__init__» noKeywords Builtin.Frozenset.updateFrom
    generalize hPI:pyIter=PI
    wp_walk
    subst hPI
    refine wpAny_pyIter_list hl1 (wpAny_bind (wpAny_runValue ?_))
    have sz:(s.heap.push (newSetObj w)).objs.size=s.heap.objs.size+1:=Heap.size_push _ _
    have hSf:s.heap.objs.size∉[(s.heap.push (newSetObj w)).objs.size,l]:=by
     rw [sz]
     intro z
     rcases List.mem_cons.mp z with z | z
     ·exact absurd z (Nat.ne_of_lt (Nat.lt_succ_self _))
     ·exact absurd (List.mem_singleton.mp z) (Nat.ne_of_gt ll)
    refine loop_texts (walks_texts (A:=A.in1.in1.in1) (by simp [hh]) (by rw [sz]; exact Nat.ne_of_lt (Nat.lt_succ_of_lt ll)) hn hD).toS s.heap.objs.size hSf hb (D.length - 0) 0 _ (newSetObj w) (by omega) (Nat.zero_le _) ?_ ?_ (newTx w) fun s' o' hm e' hS2=>?_
    ·obtain ⟨o,e,r⟩:=hl1
     exact ⟨⟨_,Heap.get?_push_size _ rfl,rfl,rfl⟩,⟨o,Heap.get?_push_of_some _ e,r⟩⟩
    ·exact Heap.get?_push_of_some _ hS
    obtain ⟨h',g',d',tk',os'⟩:=s'
    have eg:g'=s.gens:=hm.gens
    have ed:d'=s.drawn:=hm.drawn
    have eo:os'=s.os:=hm.os
    subst eg; subst ed; subst eo
    show wpAny _ _ _ _ _ _
    refine wpAny_pure (wpAny_pure ⟨rfl,h',tk',o',rfl,fun b o e=>?_,e',hS2⟩)
    have lt:=Heap.lt_size e
    refine hm.heap b o (fun z=>?_) (Heap.get?_push_of_some _ (Heap.get?_push_of_some _ e))
    rcases List.mem_cons.mp z with z | z
    ·exact Nat.lt_irrefl _ (z▸lt)
    ·have z2:=List.mem_singleton.mp z
     rw [Heap.size_push] at z2
     have:=z2▸lt
     exact Nat.lt_irrefl _ (Nat.lt_of_succ_lt this)
   ·cases r₂ with
    | error e=>exact hr₂
    | ok fl₂=>
     cases fl₂ with
     | ret r=>
      obtain ⟨rfl,h',tk,o,rfl,hk',e',hS'⟩:=hr₂
      repeat (any_goals (first | assumption | wp_step))
      exact hQ h' tk o hk' e' hS'
     | _=>exact hr₂.elim
  | _=>exact hr.elim
end
section
variable {X:Cx}
def rSetT (K:PySem.W.Frag) (w:World):List V→Hp→VK→Prop:=fun xs H Q=>∃ p zs,xs=[.ref p]∧SqL K H p (zs.map V.str)∧zs.length+1 < 4096∧∀ l,H l=none→Q (.ref l) (upd H l (setH w l zs zs.length))
theorem vals_texts {zs:List Str} {its:List Value} (r:Vals (zs.map V.str) its) (i:Nat) (v:Value) (h:its[i]? = some v):TextAt zs i v:=by
 have hi:i < its.length:=(List.getElem?_eq_some_iff.mp h).1
 have hl:i < zs.length:=by rw [← r.length,List.length_map] at hi; exact hi
 obtain ⟨u,hu,t,rfl⟩:=Vals.get (i:=i) (x:=V.str zs[i]) r (by rw [List.getElem?_map,List.getElem?_eq_getElem hl]; rfl)
 rw [h] at hu
 exact ⟨zs[i],t,List.getElem?_eq_getElem hl,Option.some.inj hu⟩
theorem call_set_l {K:PySem.W.Frag} (hc:X.calm=true) (hK:X.K=K:=by rfl):CallR X (.type "set") (rSetT K X.w):=by
 subst hK
 intro pins s σ H xs us Q I r h
 obtain ⟨p,zs,rfl,hp,hz,q⟩:=h
 obtain ⟨u,rfl,ru⟩:=vals1 r
 obtain rfl:u=Value.ref p:=ru
 obtain ⟨its,rv,pl,_⟩:=I.list hp
 have hl:its.length=zs.length:=by rw [← rv.length,List.length_map]
 refine call_set_texts (I.ok.hd hc) pl.isList (by rw [List.size_toArray]; exact hl) (fun i v e=>vals_texts rv i v (by simpa using e)) hz fun h' tk o k e sx=>?_
 exact ⟨.ref s.heap.objs.size,_,I.laid k (Nat.le_refl _) (show ObjOk X.prog X.w _ h' _ (setH X.w s.heap.objs.size zs zs.length) from ⟨⟨o,e,sx⟩,⟨o,e⟩,fun h1 h2 ⟨o1,e1,x1⟩ k1=>⟨o1,k1 o1 e1,x1⟩⟩),rfl,q _ (I.hok.fresh (Nat.le_refl _))⟩
end
end L2
namespace L2
open PySem PySem.Spec PyProof.Rows
theorem slot_rv_next:Slot "reversed" "__next__" "reversed.__next__":=.of (owner:="reversed") (n:="__next__") (by rw [typeLookup_type,builtinLookup_eq_fast]; kernel_rfl) (by decide +kernel) (by decide +kernel) (by decide +kernel) (by first | exact .inl (by decide +kernel) | exact .inr (by decide +kernel)) (by rw [isSubtype_type]; kernel_rfl)
theorem slot_rv_iter:Slot "reversed" "__iter__" "reversed.__iter__":=.of (owner:="reversed") (n:="__iter__") (by rw [typeLookup_type,builtinLookup_eq_fast]; kernel_rfl) (by decide +kernel) (by decide +kernel) (by decide +kernel) (by first | exact .inl (by decide +kernel) | exact .inr (by decide +kernel)) (by rw [isSubtype_type]; kernel_rfl)
theorem slot_rv_hint:Slot "reversed" "__length_hint__" "reversed.__length_hint__":=.of (owner:="reversed") (n:="__length_hint__") (by rw [typeLookup_type,builtinLookup_eq_fast]; kernel_rfl) (by decide +kernel) (by decide +kernel) (by decide +kernel) (by first | exact .inl (by decide +kernel) | exact .inr (by decide +kernel)) (by rw [isSubtype_type]; kernel_rfl)
theorem entry_rv_next:entryFor table "reversed.__next__" = some Builtin.«reversed.__next__»:=entryFor_of_tree (by kernel_rfl)
theorem entry_rv_hint:entryFor table "reversed.__length_hint__" = some Builtin.«reversed.__length_hint__»:=entryFor_of_tree (by kernel_rfl)
theorem entry_rv_iter:entryFor table "reversed.__iter__" = some Builtin.«dict_keyiterator.__iter__»:=entryFor_alias (id':="dict_keyiterator.__iter__") (by kernel_rfl) (by first | rfl | decide +kernel | (unfold String.splitOn; simp +decide [String.splitOnAux])) (by decide +kernel) (by kernel_rfl)
theorem args_rv_next (a:Value):argsOk "reversed.__next__" ⟨[a],[]⟩:=by unfold argsOk; kernel_rfl
theorem args_rv_iter (a:Value):argsOk "reversed.__iter__" ⟨[a],[]⟩:=by unfold argsOk; kernel_rfl
theorem args_rv_hint (a:Value):argsOk "reversed.__length_hint__" ⟨[a],[]⟩:=by unfold argsOk; kernel_rfl
theorem rv_no_len:typeLookup (.type "reversed") "__len__" = pure none:=by rw [typeLookup_type,builtinLookup_eq_fast]; kernel_rfl
theorem tuple_no_rev:typeLookup (.type "tuple") "__reversed__" = pure none:=by rw [typeLookup_type,builtinLookup_eq_fast]; kernel_rfl
theorem sub_tuple_dict:isSubtype (.type "tuple") (.type "dict")=pure false:=by rw [isSubtype_type]; kernel_rfl
theorem sub_rv_rv:isSubtype (.type "reversed") (.type "reversed")=pure true:=by rw [isSubtype_type]; kernel_rfl
def rvO (t:Addr) (i:Int):Obj:={ cls:=.type "reversed",data:=.fields #[.ref t,rawInt i] }
def RvAt (h:Heap) (a t:Addr) (i:Int):Prop:=∃ o,h.get? a=some o∧o.cls=.type "reversed"∧o.data=.fields #[.ref t,rawInt i]
theorem RvAt.to {h h':Heap} {a t:Addr} {i:Int} (x:RvAt h a t i) (e:∀ o,h.get? a=some o→h'.get? a=some o):RvAt h' a t i:=let ⟨o,q,r⟩:=x; ⟨o,e _ q,r⟩
section
variable {P:Program} {w:World} {A:Around} {E:Value→Shared→Prop} {s:Shared} {t r:Addr} {items:Array Value}
theorem RvAt.typeIs {i:Int} (x:RvAt s.heap r t i):s.TypeIs (.ref r) "reversed":=let ⟨o,q,c,_⟩:=x; ⟨o,q,c⟩
theorem tup_to {h h':Heap} (x:IsTup h t items) (e:∀ o,h.get? t=some o→h'.get? t=some o):IsTup h' t items:=let ⟨o,q,r⟩:=x; ⟨o,e _ q,r⟩
theorem called_rv:TypeCalled "reversed" "reversed.__new__" "object.__init__":=⟨by decide +kernel,by decide +kernel,⟨_,_,PySem.F.mro_reversed⟩,PySem.F.made_reversed,by decide +kernel,sub_rv_rv,
 .of (owner:="object") (n:="__init__") (by rw [typeLookup_type,builtinLookup_eq_fast]; kernel_rfl) (by decide +kernel) (by decide +kernel) (by decide +kernel) (by first | exact .inl (by decide +kernel) | exact .inr (by decide +kernel)) (by rw [isSubtype_type]; kernel_rfl)⟩
theorem meets_rv (t:Addr) (items:Array Value) (hz:items.size≤sizeLine):MeetsIn P w (Builtin.«reversed.__new__» ⟨[.type "reversed",.ref t],[]⟩) (fun _ R s=>IsTup s.heap t items∧
  ∀ tk,R (.ok (.ret (.ref s.heap.objs.size))) { s with heap:=s.heap.push (rvO t ((items.size:Int) - 1)),toks:=tk }):=.of_wp fun A R s ⟨ht,h⟩=>by
 have hT:=ht.typeIs
 have l63:=line63
 unfold Builtin.«reversed.__new__»
 refine wpAny_bind (wpAny_of_eq (newClass_reversed _) ?_)
 try dsimp only
 refine wpAny_bind (wpAny_of_eq (a:=()) (by first | rfl | kernel_rfl) (wpAny_bind (wpAny_of_eq (a:=()) (by first | rfl | kernel_rfl) ?_)))
 try dsimp only
 refine wpAny_bind (wpAny_specialOf hT tuple_no_rev ?_)
 try dsimp only
 refine wpAny_bind ?_
 wp_delta
 refine wpAny_bind (wpAny_isInstance (T:="tuple") (b:=false) hT sub_tuple_dict ?_)
 refine wpAny_bind (wpAny_specialOf hT slot_tuple_getitem.lookup ?_)
 try dsimp only
 rw [if_pos (by decide)]
 refine wpAny_pure ?_
 refine wpAny_bind (len_tuple ht (by omega) ?_)
 refine wpAny_bind (wpAny_pure ?_)
 refine wpAny_bind (m:=Builtin.SmallTypes.newRecord _ _) ?_
 unfold Builtin.SmallTypes.newRecord
 exact wpAny_newObj_type (wpAny_pure ⟨_,rfl,h _⟩)
theorem call_rv {Q:Value→Shared→Prop} (ht:IsTup s.heap t items) (hz:items.size≤sizeLine) (h:∀ tk,Q (.ref s.heap.objs.size) { s with heap:=s.heap.push (rvO t ((items.size:Int) - 1)),toks:=tk }):wpAny (model P w) A (call (.type "reversed") [.ref t]) Q E s:=
 callType_newIn called_rv (by decide) (PySem.F.typeCall_reversed_1 _) (PySem.F.newCall_reversed_1 _) (fun obj=>PySem.F.args_object_init_2 obj _) PySem.F.entry_reversed_new (meets_rv t items hz) ⟨ht,fun tk=>⟨⟨_,Heap.get?_push_size _ rfl,rfl⟩,h tk⟩⟩
theorem next_rv {i:Nat} {x:Value} {Q:Option Value→Shared→Prop} (hr:RvAt s.heap r t (i:Int)) (ht:IsTup s.heap t items) (hz:items.size≤sizeLine) (hx:items[i]? = some x)
  (h:∀ h' tk,RvAt h' r t ((i:Int) - 1)→Heap.SameBut r s.heap h'→Q (some x) { s with heap:=h',toks:=tk }):wpAny (model P w) A (pyNext (.ref r)) Q E s:=by
 obtain ⟨o,g,c,d⟩:=id hr
 have hT:=hr.typeIs
 have l63:=line63
 have hi:i < items.size:=(Array.getElem?_eq_some_iff.mp hx).1
 unfold pyNext
 refine wpAny_bind (wpAny_attempt (wpAny_callSpecial?_slot (name:=Str.ofString "__next__") hT slot_rv_next (wpAny_call_entry slot_rv_next hT entry_rv_next ?_ (args_rv_next _))))
 unfold Builtin.«reversed.__next__»
 refine wpAny_bind (wpAny_of_eq (a:=(Value.ref r,[])) rfl ?_)
 try dsimp only
 refine wpAny_bind (wpAny_field g d (x:=.ref t) rfl (wpAny_bind (wpAny_field g d (x:=rawInt (i:Int)) rfl ?_)))
 show wpAny _ _ (if (i:Int) < 0 then _ else _) _ _ s
 rw [if_neg (by omega)]
 refine wpAny_bind (wpAny_specialOf ht.typeIs slot_tuple_getitem.lookup ?_)
 rw [if_neg (by simp)]
 refine wpAny_bind (wpAny_mkInt (wpAny_bind (wpAny_attempt (getItem_tuple (j:=i) (x:=x) (tup_to ht fun _ e=>e) (by omega) (by omega) ?_ hx ?_))))
 ·have e:¬ ((i:Int) < 0):=by omega
  unfold seqIndex?
  simp only [e,if_false]
  simp [hi]
 try dsimp only
 refine wpAny_bind (wpAny_field g d (x:=rawInt (i:Int)) rfl ?_)
 dsimp only [rawInt]
 refine wpAny_bind (wpAny_setField g d (by simp) (wpAny_pure ⟨x,rfl,wpAny_pure (h _ _ ?_ (Heap.SameBut.update ..))⟩))
 exact ⟨_,Heap.get?_update_self _ g (Obj.isFreed_of_fields (Obj.data_mapFields d _)),(Obj.cls_mapFields ..).trans c,by rw [Obj.data_mapFields d]; simp [rawInt]⟩
theorem end_rv {Q:Option Value→Shared→Prop} (hh:A.handled=none) (hr:RvAt s.heap r t (-1)) (h:∀ h',Heap.ExtBut r s.heap h'→Q none { s with heap:=h' }):wpAny (model P w) A (pyNext (.ref r)) Q E s:=by
 obtain ⟨o,g,c,d⟩:=id hr
 have hT:=hr.typeIs
 unfold pyNext
 refine wpAny_bind (wpAny_attempt (wpAny_callSpecial?_slot (name:=Str.ofString "__next__") hT slot_rv_next (wpAny_call_entry slot_rv_next hT entry_rv_next ?_ (args_rv_next _))))
 unfold Builtin.«reversed.__next__»
 refine wpAny_bind (wpAny_of_eq (a:=(Value.ref r,[])) rfl ?_)
 try dsimp only
 refine wpAny_bind (wpAny_field g d (x:=.ref t) rfl (wpAny_bind (wpAny_field g d (x:=rawInt (-1)) rfl ?_)))
 show wpAny _ _ (if (-1:Int) < 0 then _ else _) _ _ s
 rw [if_pos (by decide)]
 refine wpAny_bind (wpAny_rule (wpAny_bind ?_))
 wp_delta
 refine wpAny_bind (wpAny_setField g d (by simp) ?_)
 have d1:∀ f:Array Value→Array Value,(Obj.mapFields f o).data=.fields (f #[.ref t,rawInt (-1)]):=fun f=>Obj.data_mapFields d f
 refine wpAny_setField (Heap.get?_update_self _ g (Obj.isFreed_of_fields (d1 _))) (d1 _) (by simp) ?_
 refine wpAny_bind ?_
 unfold Builtin.SmallTypes.stopIteration
 refine wpAny_bind ?_
 simp only [newExc,newTuple]
 refine wpAny_bind (wpAny_newObj_type (wpAny_bind (m:=firstArgMember _ _) (wpAny_of_eq (a:=Value.none) (by first | rfl | (simp only [firstArgMember]; rfl)) (wpAny_newObj_type ?_ (by size_fits)))) (by size_fits))
 simp only [raiseNew]
 refine wpAny_bind (wpAny_handled ?_)
 rw [show A.in1.handled=none from hh]
 refine wpAny_bind (wpAny_pure (wpAny_throw ?_))
 refine wpAny_bind (wpAny_isInstance (T:="StopIteration") (b:=true) ⟨_,Heap.get?_push_size _ rfl,rfl⟩ isSubtype_stop (wpAny_pure (h _ fun b o' hb e=>?_)))
 exact Heap.get?_push_of_some _ (Heap.get?_push_of_some _ ((Heap.get?_update_other _ _ (Ne.symm hb)).trans ((Heap.get?_update_other _ _ (Ne.symm hb)).trans e)))
theorem iter_rv {i:Int} {Q:Value→Shared→Prop} (hr:RvAt s.heap r t i) (h:Q (.ref r) s):wpAny (model P w) A (pyIter (.ref r)) Q E s:=by
 refine wpAny_pyIter_slot hr.typeIs slot_rv_iter (wpAny_call_entry slot_rv_iter hr.typeIs entry_rv_iter ?_ (args_rv_iter _))
 exact (show wpAny _ _ (ret (.ref r)) _ _ s from wpAny_pure ⟨_,rfl,"reversed",_,hr.typeIs,slot_rv_next.lookup,h⟩)
theorem hint_rv {n:Nat} {Q:Bool→Shared→Prop} (hr:RvAt s.heap r t ((n:Int) - 1)) (ht:IsTup s.heap t items) (hz:items.size≤sizeLine) (hn:items.size=n) (h:∀ b tk,Q b { s with toks:=tk }):wpAny (model P w) A (Builtin.List.listLengthHint (.ref r)) Q E s:=by
 obtain ⟨o,g,c,d⟩:=id hr
 have hT:=hr.typeIs
 have l63:=line63
 unfold Builtin.List.listLengthHint
 refine wpAny_bind (wpAny_specialOf hT rv_no_len ?_)
 refine (show wpAny _ _ (specialOf (Value.ref r) (Str.ofString "__length_hint__") >>= _) _ _ _ from wpAny_bind (wpAny_specialOf hT slot_rv_hint.lookup ?_))
 generalize hid:("reversed.__length_hint__" : String)=id0
 wp_delta
 rw [show splitId id0=some ("reversed","__length_hint__") from by subst hid; decide +kernel]
 subst hid
 refine wpAny_bind (wpAny_isInstance (T:="reversed") (b:=true) hT sub_rv_rv ?_)
 refine wpAny_ite_split (fun hab=>absurd hab (by decide)) (fun _=>?_)
 refine wpAny_ite_split (fun hab=>absurd hab (by decide +kernel)) (fun _=>?_)
 refine wpAny_bind (wpAny_rule ?_)
 refine wpAny_bind (wpAny_of_eq (slot_rv_hint.bind _) ?_)
 try dsimp only
 refine wpAny_bind (wpAny_attempt (wpAny_call_entry slot_rv_hint hT entry_rv_hint ?_ (args_rv_hint _)))
 unfold Builtin.«reversed.__length_hint__»
 refine wpAny_bind (wpAny_of_eq (a:=Value.ref r) rfl ?_)
 refine wpAny_bind (wpAny_field g d (x:=.ref t) rfl ?_)
 show wpAny _ _ (if (Value.ref t==Value.none)=true then _ else _) _ _ s
 rw [if_neg (fun z=>nomatch z)]
 refine wpAny_bind (len_tuple ht (by omega) ?_)
 refine wpAny_bind (wpAny_pure ?_)
 try dsimp only
 refine wpAny_bind (wpAny_field g d (x:=rawInt ((n:Int) - 1)) rfl ?_)
 dsimp only [rawInt]
 rw [if_neg (by omega)]
 refine wpAny_bind (wpAny_mkInt (wpAny_pure ⟨_,rfl,?_⟩))
 have e0:(n:Int) - 1+1=(n:Int):=by omega
 rw [e0]
 have ea:∀ (i:Int) (u:Tok),asInt? (Value.int i u)=pure (some i):=fun _ _=>rfl
 simp only [ea,pure_bind]
 have f1:Builtin.List.listFitsIndex (n:Int)=true:=by
  unfold Builtin.List.listFitsIndex
  rw [Bool.and_eq_true]
  exact ⟨decide_eq_true (by omega),decide_eq_true (by omega)⟩
 have f2:Builtin.List.listTooLong (n:Int).toNat=false:=decide_eq_false (by rw [Int.toNat_natCast]; omega)
 rw [f1,if_neg (by decide),if_neg (by omega),f2,if_neg (by decide)]
 exact wpAny_pure (h _ _)
theorem walks_rv (hh:A.handled=none) (r t:Addr) (hne:t≠r) (items:Array Value) (hz:items.size≤sizeLine):Walks P w A r [r,t] [r] items.size (fun i v=>items[items.size - 1 - i]? = some v) (fun i h=>i≤items.size∧RvAt h r t ((items.size:Int) - 1 - (i:Int))∧IsTup h t items) where
 sub:=fun b hb=>by rw [List.mem_singleton.mp hb]; exact List.mem_cons_self
 frame:=fun _ _ _ x hk=>⟨x.1,x.2.1.to (hk r (by simp)),tup_to x.2.2 (hk t (by simp))⟩
 item:=fun i s Q E hi x hQ=>by
  have hit:=x.2.1
  rw [show (items.size:Int) - 1 - (i:Int)=((items.size - 1 - i:Nat):Int) by omega] at hit
  have hx:items[items.size - 1 - i]? = some (items[items.size - 1 - i]'(by omega)):=Array.getElem?_eq_getElem (by omega)
  refine next_rv hit x.2.2 hz hx fun h' tk hit' hs'=>?_
  rw [show ((items.size - 1 - i:Nat):Int) - 1=(items.size:Int) - 1 - ((i+1:Nat):Int) by omega] at hit'
  exact hQ _ h' tk hx ⟨hi,hit',tup_to x.2.2 fun o eo=>(hs'.2 t hne).trans eo⟩ fun b o hb eo=>hs'.extBut b o (fun z=>hb (by simp [z])) eo
 done:=fun s Q E x hQ=>by
  have hit:=x.2.1
  rw [show (items.size:Int) - 1 - (items.size:Int) = -1 by omega] at hit
  exact end_rv hh hit fun h' he=>hQ h' s.toks fun b o hb eo=>he b o (fun z=>hb (by simp [z])) eo
 self:=fun _ _ _ _ x hQ=>iter_rv x.2.1 hQ
theorem ext_rv {R:Result→Shared→Prop} {S:Addr} {res:Value} {c₀:Nat} (hh:A.handled=none) (hr:RvAt s.heap r t ((items.size:Int) - 1)) (ht:IsTup s.heap t items) (hz:items.size≤sizeLine) (hne:t≠r) (hSr:S≠r) (hSt:S≠t)
  (hS:s.heap.get? S=some { cls:=.type "list",data:=.seq #[] c₀ })
  (hR:∀ h' tk acc c,(∀ b o,b≠S→b≠r→s.heap.get? b=some o→h'.get? b=some o)→h'.get? S=some { cls:=.type "list",dict:=none,data:=.seq acc c,slots:=#[] }→ItemsOf (fun i v=>items[items.size - 1 - i]? = some v) acc items.size→R (.ok (.ret res)) { s with heap:=h',toks:=tk }) :
  wpAny (model P w) A.in1 (Builtin.List.listExtendWith (.ref S) (.ref r) res) (fun fin s'=>match fin with | .done f=>R (.ok f) s' | .again c'=>c'.quiet=true∧codeAny (model P w) A c' R s') (fun e s'=>R (.error e) s') s:=by
 have W:=walks_rv (P:=P) (w:=w) (A:=A.in1) hh r t hne items hz
 have hSf:S∉[r,t]:=fun z=>by
  rcases List.mem_cons.mp z with z | z
  ·exact hSr z
  ·exact hSt (List.mem_singleton.mp z)
 have hr0:RvAt s.heap r t ((items.size:Int) - 1 - ((0:Nat):Int)):=by simpa using hr
 have key:∀ (h:Heap) (c₁ tk:Nat),(∀ b o,b≠S→s.heap.get? b=some o→h.get? b=some o)→h.get? S=some { cls:=.type "list",data:=.seq #[] c₁ }→codeAny (model P w) A (.builtin "list.extend.loop" ⟨[.ref S,.ref r,res],[]⟩) R { s with heap:=h,toks:=tk }:=by
  intro h c₁ tk hk hS₁
  refine codeAny_extend_loopS W.toS hz S hSf res items.size 0 _ #[] c₁ rfl (Nat.zero_le _) ⟨Nat.zero_le _,(hr0.to fun o e=>hk r o hSr.symm e),tup_to ht fun o e=>hk t o hSt.symm e⟩ hS₁ (ItemsOf.nil _) fun s' acc' c' hm hS' hacc=>?_
  rw [Moved.eq_with hm]
  refine hR s'.heap s'.toks acc' c' (fun b o hb hb2 e=>hm.heap b o (fun z=>?_) (hk b o hb e)) hS' hacc
  rcases List.mem_cons.mp z with z | z
  ·exact hb z
  ·exact hb2 (List.mem_singleton.mp z)
 unfold Builtin.List.listExtendWith
 refine wpAny_bind (wpAny_typeOf (T:="reversed") hr.typeIs ?_)
 have h1:Builtin.List.listSameRef (.ref S) (.ref r)=false:=by simp [Builtin.List.listSameRef,hSr]
 have h2:(Value.type "reversed" == Value.type "list")=false:=by decide
 have h3:(Value.type "reversed" == Value.type "tuple")=false:=by decide
 simp only [h1,h2,h3,Bool.or_false,Bool.false_eq_true,if_false]
 refine wpAny_bind (iter_rv hr (wpAny_bind (wpAny_holding (hint_rv hr ht hz rfl fun b tk=>?_))))
 refine wpAny_ite_split (fun _=>wpAny_bind (wpAny_rule (wpAny_bind ?_))) (fun _=>wpAny_pure ⟨plainId_quiet PySem.F.plain_extend_loop _,key _ c₀ _ (fun b o _ e=>e) hS⟩)
 show wpAny _ _ (updateSeq S (·.push .none) >>= fun _=>updateSeq S (·.pop)) _ _ _
 refine wpAny_bind (wpAny_updateSeq hS rfl ?_)
 have hS₂:=Heap.get?_update_self (Obj.mapSeq (·.push Value.none)) hS rfl
 refine wpAny_updateSeq (hz:=by seq_fits) hS₂ rfl (wpAny_pure ⟨plainId_quiet PySem.F.plain_extend_loop _,key _ _ _ (fun b o hb e=>?_) (Heap.get?_update_self (Obj.mapSeq (·.pop)) hS₂ rfl)⟩)
 exact (Heap.get?_update_other _ _ (Ne.symm hb)).trans ((Heap.get?_update_other _ _ (Ne.symm hb)).trans e)
end
section
variable {X:Cx}
theorem vals_rev:∀ {xs:List V} {us:List Value},Vals xs us→Vals xs.reverse us.reverse
 | _,_,.nil=>.nil
 | _,_,.cons h r=>by
  rw [List.reverse_cons,List.reverse_cons]
  exact (vals_rev r).append (.cons h .nil)
def rSlW (K:PySem.W.Frag):V→Option Int→Option Int→Hp→VK→Prop:=fun x lo hi H Q=>∃ a xs,x=.ref a∧SqT K H a xs∧(HT.sIx xs.length 0 lo=0∧HT.sIx xs.length xs.length hi=xs.length)∧Q (.ref a) H
theorem sl_tupW {K:PySem.W.Frag} (hK:X.K=K:=by rfl):SlR X (rSlW K):=by
 subst hK
 intro pins s σ H x v vl vu lo hi sl Q I rx hs pl pu h
 obtain ⟨a,xs,rfl,hx,hw,q⟩:=h
 cases rx
 obtain ⟨its,r,ht,hz⟩:=I.tuple hx
 have hlen:its.toArray.size=xs.length:=by rw [List.size_toArray]; exact r.length.symm
 refine ⟨"tuple",_,PyProof.Rows.slot_tuple_getitem.lookup,ht.typeIs,?_⟩
 obtain ⟨os,hos,hcs,hds⟩:=id hs
 have hTs:s.TypeIs (.ref sl) "slice":=⟨os,hos,hcs⟩
 unfold getItem
 try with_reducible refine wpAny_holding ?_
 first | refine wpAny_bind (wpAny_pure ?_) | skip
 refine wpAny_bind (wpAny_sequenceKey ht.typeIs (by decide) (wpAny_bind (wpAny_callSpecial?_slot (name:=Str.ofString "__getitem__") ht.typeIs PyProof.Rows.slot_tuple_getitem (wpAny_call_entry PyProof.Rows.slot_tuple_getitem ht.typeIs entry_tuple_getitem ?_ (args_tuple_getitem _ _)))))
 refine (show wpAny _ _ (Builtin.Tuple.tupleItemsOf (.ref a) >>= _) _ _ s from wpAny_bind (tupleItemsOf_ ht (wpAny_bind (wpAny_typeOf hTs ?_))))
 rw [if_pos (by decide)]
 refine wpAny_bind (HT.sliceApplied_gen hs pl pu ?_)
 have yes:(((HT.sIx its.toArray.size 0 lo:Nat):Int)==0 && (1:Int)==1 && (HT.sIx its.toArray.size its.toArray.size hi - HT.sIx its.toArray.size 0 lo)==its.toArray.size)=true:=by
  rw [hlen,hw.1,hw.2]
  simp
 show wpAny _ _ (if (((HT.sIx its.toArray.size 0 lo:Nat):Int)==0 && (1:Int)==1 && (HT.sIx its.toArray.size its.toArray.size hi - HT.sIx its.toArray.size 0 lo)==its.toArray.size)=true then _ else _) _ _ s
 rw [if_pos yes]
 unfold Builtin.Tuple.tupleIsExact
 refine wpAny_bind (wpAny_bind (wpAny_typeOf ht.typeIs (wpAny_pure ?_)))
 rw [if_pos (by decide)]
 exact wpAny_bind (wpAny_rule (wpAny_pure ⟨_,rfl,wpAny_pure ⟨.ref a,H,I,rfl,q⟩⟩))
def rSlG (K:PySem.W.Frag):V→Option Int→Option Int→Hp→VK→Prop:=fun x lo hi H Q=>∃ a xs,x=.ref a∧H a=some (.tup xs)∧∀ g H',Same H H'→H' g=some (.tup (cutV xs lo hi))→Q (.ref g) H'
theorem sl_tupG {K:PySem.W.Frag} (hK:X.K=K:=by rfl):SlR X (rSlG K):=by
 intro pins s σ H x v vl vu lo hi sl Q I rx hs pl pu h
 obtain ⟨a,xs,e,hx,q⟩:=h
 by_cases z:HT.sIx xs.length 0 lo=0∧HT.sIx xs.length xs.length hi=xs.length
 ·refine sl_tupW hK pins s σ H x v vl vu lo hi sl Q I rx hs pl pu ⟨a,xs,e,SqT.of hx,z,q a H (Same.refl _) ?_⟩
  have:cutV xs lo hi=xs:=by
   unfold cutV
   rw [z.1,z.2,List.drop_zero,Nat.sub_zero,List.take_length]
  rw [this]
  exact hx
 ·exact sl_tupK hK pins s σ H x v vl vu lo hi sl Q I rx hs pl pu ⟨a,xs,e,SqT.of hx,z,fun p hp=>q p _ (same_new hp _) upd_same⟩
end
end L2
namespace L2
open PySem PySem.Spec PyProof.Rows
section
variable {X:Cx} {tg:Expr}
end
end L2
namespace L2
open PySem PySem.Spec PyProof.Rows
def CdO (c:Addr) (q:Str):HO:=.ext fun h=>h.CodeRec (.ref c) q
section
variable {P:Program} {w:World} {H:Hp} {h h':Heap} {f c a:Addr} {fd:FuncData} {q:Str}
end
def SameT (P:Addr) (H H':Hp):Prop:=∀ b o,b≠P→H b=some o→H' b=some o
theorem Same.t {P:Addr} {H H1:Hp} (a:Same H H1):SameT P H H1:=fun c o _ h=>a c o h
def Tb (P:Addr) (L:List (Pos × Str)) (H:Hp):Prop:=
 ∃ ps,H P=some (.tbl ps)∧TriplesOk ps.toList∧∀ x∈L,codeAmong x.1 ps.toList=none∨∃ c,codeAmong x.1 ps.toList=some (.ref c)∧H c=some (CdO c x.2)
theorem Tb.other {P P':Addr} {L:List (Pos × Str)} {H H':Hp} (t:Tb P L H) (e:SameT P' H H') (n:P≠P') (hP:Tb P' L' H):Tb P L H':=by
 obtain ⟨ps,h1,h2,h3⟩:=t
 obtain ⟨ps',g1,_⟩:=hP
 refine ⟨ps,e _ _ n h1,h2,fun x hx=>?_⟩
 rcases h3 x hx with h | ⟨c,a,b⟩
 ·exact .inl h
 ·refine .inr ⟨c,a,e _ _ (fun z=>?_) b⟩
  rw [z,g1] at b
  cases b
section
variable {fs ex:List Addr} {H:Hp} {h h':Heap} {P c f:Addr} {o1 o2:HO} {ps more:Array Value}
def made (H:Hp) (P c f:Addr) (ps:Array Value) (o1 o2:HO):Hp:=upd (upd (upd H P (.tbl ps)) c o1) f o2
theorem made_ne {b:Addr} (h1:b≠P) (h2:b≠c) (h3:b≠f):made H P c f ps o1 o2 b=H b:=by
 unfold made
 rw [upd_ne h3,upd_ne h2,upd_ne h1]
theorem made_f:made H P c f ps o1 o2 f=some o2:=upd_same
theorem made_c (n:c≠f):made H P c f ps o1 o2 c=some o1:=by
 unfold made
 rw [upd_ne n,upd_same]
theorem made_P (n1:P≠c) (n2:P≠f):made H P c f ps o1 o2 P=some (.tbl ps):=by
 unfold made
 rw [upd_ne n2,upd_ne n1,upd_same]
theorem Un.made (e:H P=some (.tbl ps)) (k:∀ b u,b≠P→h.get? b=some u→h'.get? b=some u) (hP:∃ u,h'.get? P=some u) (hc:h.objs.size≤c) (hf:h.objs.size≤f) (nc:H c=none) (nf:H f=none) :
  Un fs ex H (made H P c f (ps ++ more) o1 o2) h h':=by
 have nP:∀ b,H b=none→b≠P:=fun b n z=>by rw [z,e] at n; cases n
 have lo:∀ {b:Addr} {u:Obj},h.get? b=some u→b≠c∧b≠f:=fun {b u} q=>⟨Nat.ne_of_lt (Nat.lt_of_lt_of_le (Heap.lt_size q) hc),Nat.ne_of_lt (Nat.lt_of_lt_of_le (Heap.lt_size q) hf)⟩
 refine ⟨fun b u q n _ _=>k b u (nP b n) q,fun b u q n _ _=>⟨u.slots,k b u (nP b n) q⟩,fun b u q n _=>by rw [made_ne (nP b n) (lo q).1 (lo q).2]; exact n,fun b u q _=>?_,fun b xs q=>?_,fun b u xs q=>?_,fun b ps' q=>?_⟩
 ·by_cases hb:b=P
  ·rw [hb]; exact hP
  ·exact ⟨u,k b u hb q⟩
 ·rw [made_ne (fun z=>by rw [z,e] at q; cases q) (ne_of_none q nc) (ne_of_none q nf)]; exact q
 ·rw [made_ne (fun z=>by rw [z,e] at q; cases q) (ne_of_none q nc) (ne_of_none q nf)]; exact q
 ·by_cases hb:b=P
  ·subst hb
   rw [e] at q
   cases q
   exact ⟨more,made_P (ne_of_none e nc) (ne_of_none e nf)⟩
  ·exact ⟨#[],by rw [made_ne hb (ne_of_none q nc) (ne_of_none q nf),q]; simp⟩
theorem HOk.made {Pg:Program} {w:World} (ok:HOk Pg w H h) (e:H P=some (.tbl ps)) (k:∀ b u,b≠P→h.get? b=some u→h'.get? b=some u) (hP:h'.get? P=some (PySem.W.tabObj (ps ++ more))) (nc:H c=none) (nf:H f=none) (ncf:c≠f)
  (hc:ObjOk Pg w (made H P c f (ps ++ more) o1 o2) h' c o1) (hf:ObjOk Pg w (made H P c f (ps ++ more) o1 o2) h' f o2):HOk Pg w (made H P c f (ps ++ more) o1 o2) h':=fun b u q=>by
 by_cases b1:b=f
 ·subst b1; rw [made_f] at q; cases q; exact hf
 by_cases b2:b=c
 ·subst b2; rw [made_c ncf] at q; cases q; exact hc
 by_cases b3:b=P
 ·subst b3; rw [made_P b2 b1] at q; cases q; exact hP
 rw [made_ne b3 b2 b1] at q
 refine (ok b u q).stay (fun y v hy r=>k y v ?_ r) (fun y r=>?_) fun y xs r=>?_
 ·rcases hy with z | z
  ·rw [z]; exact b3
  ·intro z2
   rw [z2,e] at z
   cases z
 ·rw [made_ne (fun z=>by rw [z,e] at r; cases r) (ne_of_none r nc) (ne_of_none r nf)]; exact r
 ·rw [made_ne (fun z=>by rw [z,e] at r; cases r) (ne_of_none r nc) (ne_of_none r nf)]; exact r
end
def BltM (mg:Str→Option Value) (h:Heap):Prop:=∃ bm ob,mg "__builtins__" = some (.ref bm)∧bm≠builtinsNs∧h.get? bm=some ob∧ob.cls=.type "module"∧ob.dict=some builtinsNs∧ob.data=.plain
theorem BltM.keeps {mg:Str→Option Value} {h h':Heap} (b:BltM mg h) (k:∀ b o,h.get? b=some o→h'.get? b=some o):BltM mg h':=
 let ⟨bm,ob,h1,h2,h3,r⟩:=b; ⟨bm,ob,h1,h2,k _ _ h3,r⟩
section
variable {X:Cx} {params:Arguments} {body:Expr} {scope:Scope} {pos:Pos} {c P:Addr} {L:List (Pos × Str)}
end
structure LamCl (base:Heap) (N ps:List Str) (scope:Scope) (cl:List (Str × Addr)) (fv:List V):Prop where
 inj:∀ x y c,cl.lookup x=some c→cl.lookup y=some c→x=y
 has:∀ x,scope.names.lookup x=some .free→∃ c,cl.lookup x=some c
 cell:∀ x c,cl.lookup x=some c→∃ v,base.IsCell c v
 len:N.length=ps.length+fv.length
 val:∀ (j:Nat) x v,N[ps.length+j]? = some x→fv[j]? = some v→scope.names.lookup x=some .free∧∃ c u,cl.lookup x=some c∧RelV v u∧base.IsCell c (some u)
theorem LamCl.none {base:Heap} {N:List Str} {scope:Scope} (h:∀ x,scope.names.lookup x≠some .free):LamCl base N N scope [] []:=
 ⟨fun _ _ _ h=>by simp at h,fun x hx=>absurd hx (h x),fun _ _ h=>by simp at h,by simp,fun j x v _ h=>by simp at h⟩
end L2
namespace L2
open PySem PySem.Spec PyProof.Rows
theorem str_no_rev:typeLookup (.type "str") "__reversed__" = pure none:=by rw [typeLookup_type,builtinLookup_eq_fast]; kernel_rfl
theorem sub_str_dict:isSubtype (.type "str") (.type "dict")=pure false:=by rw [isSubtype_type]; kernel_rfl
def rsO (x:Str) (t:Tok) (i:Int):Obj:={ cls:=.type "reversed",data:=.fields #[.str x t,rawInt i] }
def RsAt (h:Heap) (a:Addr) (x:Str) (i:Int):Prop:=∃ o t,h.get? a=some o∧o.cls=.type "reversed"∧o.data=.fields #[.str x t,rawInt i]
theorem RsAt.to {h h':Heap} {a:Addr} {x:Str} {i:Int} (y:RsAt h a x i) (e:∀ o,h.get? a=some o→h'.get? a=some o):RsAt h' a x i:=let ⟨o,t,q,r⟩:=y; ⟨o,t,e _ q,r⟩
section
variable {P:Program} {w:World} {A:Around} {E:Value→Shared→Prop} {s:Shared} {r:Addr} {x:Str}
theorem RsAt.typeIs {i:Int} (y:RsAt s.heap r x i):s.TypeIs (.ref r) "reversed":=let ⟨o,_,q,c,_⟩:=y; ⟨o,q,c⟩
theorem meets_rs (x:Str) (t:Tok) (hz:x.length≤sizeLine):MeetsIn P w (Builtin.«reversed.__new__» ⟨[.type "reversed",.str x t],[]⟩) (fun _ R s=>
  ∀ tk,R (.ok (.ret (.ref s.heap.objs.size))) { s with heap:=s.heap.push (rsO x t ((x.length:Int) - 1)),toks:=tk }):=.of_wp fun A R s h=>by
 have hT:s.TypeIs (.str x t) "str":=typeIs_str s x t
 have l63:=line63
 unfold Builtin.«reversed.__new__»
 refine wpAny_bind (wpAny_of_eq (newClass_reversed _) ?_)
 try dsimp only
 refine wpAny_bind (wpAny_of_eq (a:=()) (by first | rfl | kernel_rfl) (wpAny_bind (wpAny_of_eq (a:=()) (by first | rfl | kernel_rfl) ?_)))
 try dsimp only
 refine wpAny_bind (wpAny_specialOf hT str_no_rev ?_)
 try dsimp only
 refine wpAny_bind ?_
 wp_delta
 refine wpAny_bind (wpAny_isInstance (T:="str") (b:=false) hT sub_str_dict ?_)
 refine wpAny_bind (wpAny_specialOf hT PySem.F.slot_str_getitem.lookup ?_)
 try dsimp only
 rw [if_pos (by decide)]
 refine wpAny_pure ?_
 refine wpAny_bind (PySem.P.len_str (by omega) ?_)
 refine wpAny_bind (wpAny_pure ?_)
 refine wpAny_bind (m:=Builtin.SmallTypes.newRecord _ _) ?_
 unfold Builtin.SmallTypes.newRecord
 exact wpAny_newObj_type (wpAny_pure ⟨_,rfl,h _⟩)
theorem call_rs {t:Tok} {Q:Value→Shared→Prop} (hz:x.length≤sizeLine) (h:∀ tk,Q (.ref s.heap.objs.size) { s with heap:=s.heap.push (rsO x t ((x.length:Int) - 1)),toks:=tk }):wpAny (model P w) A (call (.type "reversed") [.str x t]) Q E s:=
 callType_newIn called_rv (by decide) (PySem.F.typeCall_reversed_1 _) (PySem.F.newCall_reversed_1 _) (fun obj=>PySem.F.args_object_init_2 obj _) PySem.F.entry_reversed_new (meets_rs x t hz) (fun tk=>⟨⟨_,Heap.get?_push_size _ rfl,rfl⟩,h tk⟩)
theorem next_rs {i:Nat} {c:Nat} {Q:Option Value→Shared→Prop} (hr:RsAt s.heap r x (i:Int)) (hz:x.length≤sizeLine) (hx:x.cps[i]? = some c)
  (h:∀ h' u tk,RsAt h' r x ((i:Int) - 1)→Heap.SameBut r s.heap h'→Q (some (.str ⟨#[c]⟩ u)) { s with heap:=h',toks:=tk }):wpAny (model P w) A (pyNext (.ref r)) Q E s:=by
 obtain ⟨o,t,g,cl,d⟩:=id hr
 have hT:=hr.typeIs
 have l63:=line63
 have hi:i < x.length:=(Array.getElem?_eq_some_iff.mp hx).1
 unfold pyNext
 refine wpAny_bind (wpAny_attempt (wpAny_callSpecial?_slot (name:=Str.ofString "__next__") hT slot_rv_next (wpAny_call_entry slot_rv_next hT entry_rv_next ?_ (args_rv_next _))))
 unfold Builtin.«reversed.__next__»
 refine wpAny_bind (wpAny_of_eq (a:=(Value.ref r,[])) rfl ?_)
 try dsimp only
 refine wpAny_bind (wpAny_field g d (x:=.str x t) rfl (wpAny_bind (wpAny_field g d (x:=rawInt (i:Int)) rfl ?_)))
 show wpAny _ _ (if (i:Int) < 0 then _ else _) _ _ s
 rw [if_neg (by omega)]
 refine wpAny_bind (wpAny_specialOf (typeIs_str s x t) PySem.F.slot_str_getitem.lookup ?_)
 rw [if_neg (by simp)]
 refine wpAny_bind (wpAny_mkInt (wpAny_bind (wpAny_attempt (PySem.P.getItem_str (c:=c) ?_ ?_ ?_))))
 ·have h1:decide ((i:Int) < -(2 ^ 63:Int))=false:=decide_eq_false (by omega)
  have h2:decide ((i:Int) ≥ 2 ^ 63)=false:=decide_eq_false (by omega)
  rw [h1,h2]
  rfl
 ·have e:¬ ((i:Int) < 0):=by omega
  unfold seqIndex?
  simp only [e,if_false]
  simp [hi,hx]
 try dsimp only
 refine wpAny_bind (wpAny_field g d (x:=rawInt (i:Int)) rfl ?_)
 dsimp only [rawInt]
 refine wpAny_bind (wpAny_setField g d (by simp) (wpAny_pure ⟨_,rfl,wpAny_pure (h _ _ _ ?_ (Heap.SameBut.update ..))⟩))
 exact ⟨_,t,Heap.get?_update_self _ g (Obj.isFreed_of_fields (Obj.data_mapFields d _)),(Obj.cls_mapFields ..).trans cl,by rw [Obj.data_mapFields d]; simp [rawInt]⟩
theorem end_rs {Q:Option Value→Shared→Prop} (hh:A.handled=none) (hr:RsAt s.heap r x (-1)) (h:∀ h',Heap.ExtBut r s.heap h'→(∃ o,h'.get? r=some o)→Q none { s with heap:=h' }):wpAny (model P w) A (pyNext (.ref r)) Q E s:=by
 obtain ⟨o,t,g,c,d⟩:=id hr
 have hT:=hr.typeIs
 unfold pyNext
 refine wpAny_bind (wpAny_attempt (wpAny_callSpecial?_slot (name:=Str.ofString "__next__") hT slot_rv_next (wpAny_call_entry slot_rv_next hT entry_rv_next ?_ (args_rv_next _))))
 unfold Builtin.«reversed.__next__»
 refine wpAny_bind (wpAny_of_eq (a:=(Value.ref r,[])) rfl ?_)
 try dsimp only
 refine wpAny_bind (wpAny_field g d (x:=.str x t) rfl (wpAny_bind (wpAny_field g d (x:=rawInt (-1)) rfl ?_)))
 show wpAny _ _ (if (-1:Int) < 0 then _ else _) _ _ s
 rw [if_pos (by decide)]
 refine wpAny_bind (wpAny_rule (wpAny_bind ?_))
 wp_delta
 refine wpAny_bind (wpAny_setField g d (by simp) ?_)
 have d1:∀ f:Array Value→Array Value,(Obj.mapFields f o).data=.fields (f #[.str x t,rawInt (-1)]):=fun f=>Obj.data_mapFields d f
 have g1:=fun f=>Heap.get?_update_self (h:=s.heap) (Obj.mapFields f) g (Obj.isFreed_of_fields (d1 f))
 refine wpAny_setField (g1 _) (d1 _) (by simp) ?_
 refine wpAny_bind ?_
 unfold Builtin.SmallTypes.stopIteration
 refine wpAny_bind ?_
 simp only [newExc,newTuple]
 refine wpAny_bind (wpAny_newObj_type (wpAny_bind (m:=firstArgMember _ _) (wpAny_of_eq (a:=Value.none) (by first | rfl | (simp only [firstArgMember]; rfl)) (wpAny_newObj_type ?_ (by size_fits)))) (by size_fits))
 simp only [raiseNew]
 refine wpAny_bind (wpAny_handled ?_)
 rw [show A.in1.handled=none from hh]
 refine wpAny_bind (wpAny_pure (wpAny_throw ?_))
 refine wpAny_bind (wpAny_isInstance (T:="StopIteration") (b:=true) ⟨_,Heap.get?_push_size _ rfl,rfl⟩ isSubtype_stop (wpAny_pure (h _ (fun b o' hb e=>?_) ?_)))
 ·exact Heap.get?_push_of_some _ (Heap.get?_push_of_some _ ((Heap.get?_update_other _ _ (Ne.symm hb)).trans ((Heap.get?_update_other _ _ (Ne.symm hb)).trans e)))
 ·exact ⟨_,Heap.get?_push_of_some _ (Heap.get?_push_of_some _ (Heap.get?_update_self _ (g1 _) (Obj.isFreed_of_fields (Obj.data_mapFields (d1 _) _))))⟩
theorem iter_rs {i:Int} {Q:Value→Shared→Prop} (hr:RsAt s.heap r x i) (h:Q (.ref r) s):wpAny (model P w) A (pyIter (.ref r)) Q E s:=by
 refine wpAny_pyIter_slot hr.typeIs slot_rv_iter (wpAny_call_entry slot_rv_iter hr.typeIs entry_rv_iter ?_ (args_rv_iter _))
 exact (show wpAny _ _ (ret (.ref r)) _ _ s from wpAny_pure ⟨_,rfl,"reversed",_,hr.typeIs,slot_rv_next.lookup,h⟩)
theorem hint_rs {Q:Bool→Shared→Prop} (hr:RsAt s.heap r x ((x.length:Int) - 1)) (hz:x.length≤sizeLine) (h:∀ b tk,Q b { s with toks:=tk }):wpAny (model P w) A (Builtin.List.listLengthHint (.ref r)) Q E s:=by
 obtain ⟨o,t,g,c,d⟩:=id hr
 have hT:=hr.typeIs
 have l63:=line63
 unfold Builtin.List.listLengthHint
 refine wpAny_bind (wpAny_specialOf hT rv_no_len ?_)
 refine (show wpAny _ _ (specialOf (Value.ref r) (Str.ofString "__length_hint__") >>= _) _ _ _ from wpAny_bind (wpAny_specialOf hT slot_rv_hint.lookup ?_))
 generalize hid:("reversed.__length_hint__" : String)=id0
 wp_delta
 rw [show splitId id0=some ("reversed","__length_hint__") from by subst hid; decide +kernel]
 subst hid
 refine wpAny_bind (wpAny_isInstance (T:="reversed") (b:=true) hT sub_rv_rv ?_)
 refine wpAny_ite_split (fun hab=>absurd hab (by decide)) (fun _=>?_)
 refine wpAny_ite_split (fun hab=>absurd hab (by decide +kernel)) (fun _=>?_)
 refine wpAny_bind (wpAny_rule ?_)
 refine wpAny_bind (wpAny_of_eq (slot_rv_hint.bind _) ?_)
 try dsimp only
 refine wpAny_bind (wpAny_attempt (wpAny_call_entry slot_rv_hint hT entry_rv_hint ?_ (args_rv_hint _)))
 unfold Builtin.«reversed.__length_hint__»
 refine wpAny_bind (wpAny_of_eq (a:=Value.ref r) rfl ?_)
 refine wpAny_bind (wpAny_field g d (x:=.str x t) rfl ?_)
 show wpAny _ _ (if (Value.str x t==Value.none)=true then _ else _) _ _ s
 rw [if_neg (fun z=>nomatch z)]
 refine wpAny_bind (PySem.P.len_str (by omega) ?_)
 refine wpAny_bind (wpAny_pure ?_)
 try dsimp only
 refine wpAny_bind (wpAny_field g d (x:=rawInt ((x.length:Int) - 1)) rfl ?_)
 dsimp only [rawInt]
 rw [if_neg (by omega)]
 refine wpAny_bind (wpAny_mkInt (wpAny_pure ⟨_,rfl,?_⟩))
 have e0:(x.length:Int) - 1+1=(x.length:Int):=by omega
 rw [e0]
 have ea:∀ (i:Int) (u:Tok),asInt? (Value.int i u)=pure (some i):=fun _ _=>rfl
 simp only [ea,pure_bind]
 have f1:Builtin.List.listFitsIndex (x.length:Int)=true:=by
  unfold Builtin.List.listFitsIndex
  rw [Bool.and_eq_true]
  exact ⟨decide_eq_true (by omega),decide_eq_true (by omega)⟩
 have f2:Builtin.List.listTooLong (x.length:Int).toNat=false:=decide_eq_false (by rw [Int.toNat_natCast]; omega)
 rw [f1,if_neg (by decide),if_neg (by omega),f2,if_neg (by decide)]
 exact wpAny_pure (h _ _)
def RsSign (x:Str) (i:Nat) (v:Value):Prop:=∃ c u,x.cps[x.length - 1 - i]? = some c∧v=.str ⟨#[c]⟩ u
theorem walks_rs (hh:A.handled=none) (r:Addr) (x:Str) (hz:x.length≤sizeLine):Walks P w A r [r] [r] x.length (RsSign x) (fun i h=>i≤x.length∧RsAt h r x ((x.length:Int) - 1 - (i:Int))) where
 sub:=fun b hb=>hb
 frame:=fun _ _ _ y hk=>⟨y.1,y.2.to (hk r (by simp))⟩
 item:=fun i s Q E hi y hQ=>by
  have hit:=y.2
  rw [show (x.length:Int) - 1 - (i:Int)=((x.length - 1 - i:Nat):Int) by omega] at hit
  have hl:x.length=x.cps.size:=rfl
  have hx:x.cps[x.length - 1 - i]? = some (x.cps[x.length - 1 - i]'(by omega)):=Array.getElem?_eq_getElem (by omega)
  refine next_rs hit hz hx fun h' u tk hit' hs'=>?_
  rw [show ((x.length - 1 - i:Nat):Int) - 1=(x.length:Int) - 1 - ((i+1:Nat):Int) by omega] at hit'
  exact hQ _ h' tk ⟨_,u,hx,rfl⟩ ⟨hi,hit'⟩ fun b o hb eo=>hs'.extBut b o (fun z=>hb (by simp [z])) eo
 done:=fun s Q E y hQ=>by
  have hit:=y.2
  rw [show (x.length:Int) - 1 - (x.length:Int) = -1 by omega] at hit
  exact end_rs hh hit fun h' he _=>hQ h' s.toks fun b o hb eo=>he b o (fun z=>hb (by simp [z])) eo
 self:=fun _ _ _ _ y hQ=>iter_rs y.2 hQ
theorem ext_rs {R:Result→Shared→Prop} {S:Addr} {res:Value} {c₀:Nat} (hh:A.handled=none) (hr:RsAt s.heap r x ((x.length:Int) - 1)) (hz:x.length≤sizeLine) (hSr:S≠r)
  (hS:s.heap.get? S=some { cls:=.type "list",data:=.seq #[] c₀ })
  (hR:∀ h' tk acc c,(∀ b o,b≠S→b≠r→s.heap.get? b=some o→h'.get? b=some o)→h'.get? S=some { cls:=.type "list",dict:=none,data:=.seq acc c,slots:=#[] }→ItemsOf (RsSign x) acc x.length→R (.ok (.ret res)) { s with heap:=h',toks:=tk }) :
  wpAny (model P w) A.in1 (Builtin.List.listExtendWith (.ref S) (.ref r) res) (fun fin s'=>match fin with | .done f=>R (.ok f) s' | .again c'=>c'.quiet=true∧codeAny (model P w) A c' R s') (fun e s'=>R (.error e) s') s:=by
 have W:=walks_rs (P:=P) (w:=w) (A:=A.in1) hh r x hz
 have hSf:S∉[r]:=fun z=>hSr (List.mem_singleton.mp z)
 have hr0:RsAt s.heap r x ((x.length:Int) - 1 - ((0:Nat):Int)):=by simpa using hr
 have key:∀ (h:Heap) (c₁ tk:Nat),(∀ b o,b≠S→s.heap.get? b=some o→h.get? b=some o)→h.get? S=some { cls:=.type "list",data:=.seq #[] c₁ }→codeAny (model P w) A (.builtin "list.extend.loop" ⟨[.ref S,.ref r,res],[]⟩) R { s with heap:=h,toks:=tk }:=by
  intro h c₁ tk hk hS₁
  refine codeAny_extend_loopS W.toS hz S hSf res x.length 0 _ #[] c₁ rfl (Nat.zero_le _) ⟨Nat.zero_le _,(hr0.to fun o e=>hk r o hSr.symm e)⟩ hS₁ (ItemsOf.nil _) fun s' acc' c' hm hS' hacc=>?_
  rw [Moved.eq_with hm]
  refine hR s'.heap s'.toks acc' c' (fun b o hb hb2 e=>hm.heap b o (fun z=>?_) (hk b o hb e)) hS' hacc
  rcases List.mem_cons.mp z with z | z
  ·exact hb z
  ·exact hb2 (List.mem_singleton.mp z)
 unfold Builtin.List.listExtendWith
 refine wpAny_bind (wpAny_typeOf (T:="reversed") hr.typeIs ?_)
 have h1:Builtin.List.listSameRef (.ref S) (.ref r)=false:=by simp [Builtin.List.listSameRef,hSr]
 have h2:(Value.type "reversed" == Value.type "list")=false:=by decide
 have h3:(Value.type "reversed" == Value.type "tuple")=false:=by decide
 simp only [h1,h2,h3,Bool.or_false,Bool.false_eq_true,if_false]
 refine wpAny_bind (iter_rs hr (wpAny_bind (wpAny_holding (hint_rs hr hz fun b tk=>?_))))
 refine wpAny_ite_split (fun _=>wpAny_bind (wpAny_rule (wpAny_bind ?_))) (fun _=>wpAny_pure ⟨plainId_quiet PySem.F.plain_extend_loop _,key _ c₀ _ (fun b o _ e=>e) hS⟩)
 show wpAny _ _ (updateSeq S (·.push .none) >>= fun _=>updateSeq S (·.pop)) _ _ _
 refine wpAny_bind (wpAny_updateSeq hS rfl ?_)
 have hS₂:=Heap.get?_update_self (Obj.mapSeq (·.push Value.none)) hS rfl
 refine wpAny_updateSeq (hz:=by seq_fits) hS₂ rfl (wpAny_pure ⟨plainId_quiet PySem.F.plain_extend_loop _,key _ _ _ (fun b o hb e=>?_) (Heap.get?_update_self (Obj.mapSeq (·.pop)) hS₂ rfl)⟩)
 exact (Heap.get?_update_other _ _ (Ne.symm hb)).trans ((Heap.get?_update_other _ _ (Ne.symm hb)).trans e)
theorem collect_rs {Q:List Value→Shared→Prop} (hh:A.handled=none) (hr:RsAt s.heap r x ((x.length:Int) - 1)) (hz:x.length≤sizeLine)
  (hQ:∀ h' tk acc,(∀ b o,b≠r→s.heap.get? b=some o→h'.get? b=some o)→ItemsOf (RsSign x) acc x.length→Q acc.toList { s with heap:=h',toks:=tk }):wpAny (model P w) A (collect (.ref r)) Q E s:=by
 have lr:r < s.heap.objs.size:=let ⟨_,_,e,_⟩:=hr; Heap.lt_size e
 unfold collect
 refine wpAny_bind (wpAny_runValue (codeAny_builtin PySem.F.entry_proto_collect ?_))
 rw [Around.under_plainId PySem.F.plain_proto_collect _]
 show wpAny _ A.in1 (newList [] >>= fun l=>again (.builtin "list.__iadd__" ⟨[l,.ref r],[]⟩)) _ _ s
 refine wpAny_bind (wpAny_newObj_type ?_)
 refine wpAny_pure ⟨plainId_quiet PySem.F.plain_list_iadd _,codeAny_builtin PySem.F.entry_list_iadd ?_⟩
 rw [Around.under_plainId PySem.F.plain_list_iadd _]
 show wpAny _ A.in1 (Builtin.List.listExtendWith (.ref s.heap.objs.size) (.ref r) (.ref s.heap.objs.size)) _ _ _
 have hS:(s.heap.push { cls:=.type "list",data:=.seq ([]:List Value).toArray }).get? s.heap.objs.size=some { cls:=.type "list",data:=.seq #[] }:=Heap.get?_push_size _ rfl
 refine ext_rs (s:={ s with heap:=s.heap.push { cls:=.type "list",data:=.seq ([]:List Value).toArray } }) (R:=fun r s'=>match r with
  | .ok (.ret v)=>wpAny (model P w) A (match v with | .ref a=>(do match (← load a).data with | .seq xs _=>pure xs.toList | _=>unsupported "internal:collect") | _=>unsupported "internal:collect") Q E s'
  | .ok _=>False
  | .error e=>E e s') hh (hr.to fun o e=>Heap.get?_push_of_some _ e) hz (Nat.ne_of_gt lr) hS fun h' tk acc c hk hS' hacc=>?_
 show wpAny _ A (load s.heap.objs.size >>= _) _ _ _
 refine wpAny_bind (wpAny_load hS' ?_)
 exact wpAny_pure (hQ h' tk acc (fun b o hb e=>hk b o (Nat.ne_of_lt (Heap.lt_size e)) hb (Heap.get?_push_of_some _ e)) hacc)
theorem join_rs {z:Str} {t:Tok} {Q:Value→Shared→Prop} (hh:A.handled=none) (hr:RsAt s.heap r x ((x.length:Int) - 1)) (hz:x.length≤sizeLine) (hj:x.length+x.length * z.length≤16777216)
  (hQ:∀ h' tk u (ys:List Str),(∀ b o,b≠r→s.heap.get? b=some o→h'.get? b=some o)→ys=x.cps.toList.reverse.map (fun c=>⟨#[c]⟩)→Q (.str (Txt.join z ys) u) { s with heap:=h',toks:=tk }) :
  wpAny (model P w) A (call (.builtin "str.join") [.str z t,.ref r]) Q E s:=by
 refine wpAny_call (codeAny_call_builtin PySem.F.slot_str_join.plain PySem.F.entry_str_join (PySem.F.slot_str_join.check _ _ _ _ _ _ _ _ (typeIs_str _ _ _) (PySem.F.args_str_join_2 _ _) ?_))
 rw [join_tree_other]
 refine wpAny_bind (wpAny_typeOf hr.typeIs ?_)
 show wpAny _ A.in1 ((pyIter (.ref r)).tryCatch _ >>= fun it=>collect it >>= fun items=>joinTail z items) _ _ s
 refine wpAny_bind (wpAny_tryCatch (iter_rs hr ?_))
 refine wpAny_bind (collect_rs hh hr hz fun h' tk acc hk hacc=>?_)
 obtain ⟨l,hl⟩:=exists_strValues acc.toList fun v hv=>by
  obtain ⟨j,hj,rfl⟩:=Array.mem_iff_getElem.mp (Array.mem_toList_iff.mp hv)
  obtain ⟨c,u,_,e⟩:=hacc.2 j _ (Array.getElem?_eq_getElem hj)
  exact ⟨_,u,e⟩
 have hys:l.map (·.1)=x.cps.toList.reverse.map (fun c=>(⟨#[c]⟩:Str)):=by
  have hlen:l.length=x.length:=by
   have:=congrArg List.length hl
   unfold strValues at this
   rw [List.length_map] at this
   exact this.trans (Array.length_toList.trans hacc.1)
  refine List.ext_getElem? fun i=>?_
  rw [List.getElem?_map,List.getElem?_map]
  by_cases hi:i < l.length
  ·have h1:acc[i]? = some (.str l[i].1 l[i].2):=by
    rw [← Array.getElem?_toList,← hl]
    unfold strValues
    rw [List.getElem?_map,List.getElem?_eq_getElem hi]
    rfl
   obtain ⟨c,u,e1,e2⟩:=hacc.2 i _ h1
   rw [List.getElem?_eq_getElem hi,List.getElem?_reverse (by rw [Array.length_toList]; show i < x.length; omega),Array.length_toList,Array.getElem?_toList]
   have e1':x.cps[x.cps.size - 1 - i]? = some c:=e1
   rw [e1']
   injection e2 with e3 _
   show some l[i].1=some _
   rw [e3]
  ·rw [List.getElem?_eq_none (by omega),List.getElem?_eq_none (by rw [List.length_reverse,Array.length_toList]; show x.length≤i; omega)]
   rfl
 rw [← hl]
 have hok:PySem.Builtin.Str.tooLong ((l.map (·.1)).toArray.foldl (fun a p=>a+p.length+z.length) 0)=false:=by
  have:=StrLaws.joinFits (sep:=z) (texts:=l.map (·.1)) (B:=1) (fun y hy=>by
   rw [hys] at hy
   obtain ⟨c,_,rfl⟩:=List.mem_map.mp hy
   exact Nat.le_refl _) (by
   rw [hys,List.length_map,List.length_reverse,Array.length_toList]
   have:x.cps.size=x.length:=rfl
   rw [this]
   omega)
  unfold JoinOk at this
  simpa using this
 have g:Gives (joinTail z (strValues l)) (joinMade z l):=by
  have g0:=gives_joinTail z l hok
  cases l with
  | nil=>exact g0
  | cons p r=>cases r with
   | nil=>exact g0
   | cons q r'=>exact g0
 exact g P w A (wants Q E) _ (post_join l ⟨joinFit_length hok,fun t' k=>by
  rw [hys]
  exact hQ h' k t' _ hk rfl⟩)
end
section
variable {X:Cx}
def tJoinRs (to te:TE):TE:=fun σ H Q=>to σ H fun y H1=>∃ z,y=.str z∧te σ H1 fun x H2=>∃ t,x=.str t∧t.length≤sizeLine∧t.length+t.length * z.length≤16777216∧Q (.str (Txt.join z (t.cps.toList.reverse.map fun c=>⟨#[c]⟩))) H2
theorem pe_joinRs {o e:Expr} {to te:TE} {p2 pos2 apos cpos:Pos} (hc:X.calm=true) (hg2:Gl X "reversed") (hm2:X.mg "reversed" = none) (ho:PE X o to) (he:PE X e te)
  (hbase:attributeBase o "join" X.env (eval o X.env)=eval o X.env:=by rfl)
  (h1:starEach [.Call (.Name "reversed" p2) [e] [] pos2] X.env=(false,eval (.Call (.Name "reversed" p2) [e] [] pos2) X.env) :: starEach [] X.env:=by rfl)
  (h2:starEach [e] X.env=(false,eval e X.env) :: starEach [] X.env:=by rfl)
  (hfew:((backTo cpos (starEach [.Call (.Name "reversed" p2) [e] [] pos2] X.env)).all (fun x=>!x.1) && (backToKw cpos (keywordEach [] X.env)).all (fun x=>x.1.isSome)
   && decide ([Expr.Call (.Name "reversed" p2) [e] [] pos2].length+([]:List Keyword).length+(if ([]:List Keyword).isEmpty then 0 else 1) < 30))=true:=by rfl)
  (hline:(apos.endLine==cpos.line)=true:=by rfl) :
  PE X (.Call (.Attribute o "join" apos) [.Call (.Name "reversed" p2) [e] [] pos2] [] cpos) (tJoinRs to te):=by
 intro pins s σ H Q I h
 refine wpAny_Call_method_late hbase hfew hline rfl (thn (ho pins s σ H _ I h) fun v s1 ⟨x,H1,I1,r1,z,hx,q1⟩=>?_)
 subst hx
 obtain ⟨tz,rfl⟩:=r1
 refine ⟨"str",_,PySem.F.plainAttrs_str,PySem.F.slot_str_join,PySem.F.type_str_join,typeIs_str _ _ _,(fun _ e=>nomatch e),?_⟩
 rw [h1]
 refine Calls.callWith_builtin rfl (Calls.evalArgs_plain ?_)
 show wpAny _ _ (spliced ((false,eval _ X.env) :: backTo cpos (starEach [] X.env))) _ _ s1
 refine Calls.spliced_cons (wpAny_Call_Name_kw (ld_blt I1 hg2 hm2 bt_reversed (PyProof.Rows.callWith_type1 (thn (pa_cons he pa_nil h2 pos2 pins s1 σ H1 (fun vs H2=>match vs with | [x]=>∃ t,x=.str t∧t.length≤sizeLine∧t.length+t.length * z.length≤16777216∧Q (.str (Txt.join z (t.cps.toList.reverse.map fun c=>⟨#[c]⟩))) H2 | _=>False) I1 q1) fun us s2 ⟨vs,H2,I2,r2,q2⟩=>?_) h2 rfl)))
 obtain ⟨x0,e0,t,e1,hz,hj,q⟩:∃ x0,vs=[x0]∧∃ t,x0=.str t∧t.length≤sizeLine∧t.length+t.length * z.length≤16777216∧Q (.str (Txt.join z (t.cps.toList.reverse.map fun c=>⟨#[c]⟩))) H2:=by
  match vs,q2 with
  | [x0],q2=>exact ⟨x0,rfl,q2⟩
 subst e0 e1
 obtain ⟨u,rfl,tt,rfl⟩:=vals1 r2
 refine call_rs hz fun tk=>Calls.spliced_nil ?_
 refine join_rs (r:=s2.heap.objs.size) (I2.ok.hd hc) ⟨_,tt,Heap.get?_push_size _ rfl,rfl,rfl⟩ hz hj fun h' tk' u' ys kp hys=>?_
 have kp':∀ b o,s2.heap.get? b=some o→h'.get? b=some o:=fun b o e=>kp b o (Nat.ne_of_lt (Heap.lt_size e)) (Heap.get?_push_of_some _ e)
 subst hys
 exact ⟨.str _,H2,I2.kept (t':=tk') kp',⟨_,rfl⟩,q⟩
end
end L2
namespace L2
open PySem PySem.Spec PyProof.Rows
structure BaseX (X:Cx) (σ:St) (base':Heap):Prop where
 sub:∀ b o,X.base.get? b=some o→base'.get? b=some o
 inj:∀ x y c,X.env.cells.lookup x=some c→X.env.cells.lookup y=some c→x=y
 has:∀ x,(X.env.kindOf x=some .cell∨X.env.kindOf x=some .free)→∃ c,X.env.cells.lookup x=some c
 cell:∀ x c,X.env.cells.lookup x=some c→∃ v,base'.IsCell c v
 val:∀ (i:Nat) (x:Str) (v:V),X.N[i]? = some x→σ[i]? = some (some v)→(X.env.kindOf x=some .cell∨X.env.kindOf x=some .free)→∃ u c,RelV v u∧X.env.cells.lookup x=some c∧base'.IsCell c (some u)
section
variable {X:Cx} {pins:List (Addr × Obj)} {σ:St} {H:Hp} {s:Shared}
end
theorem BaseX.cl {X:Cx} {σ:St} {base':Heap} (B:BaseX X σ base') {N ps:List Str} {scope:Scope} {fv:List V} {sc:Scope} (fr:List Nat) (hsc:X.env.scope=sc) (hfr:∀ y∈scope.names,y.2=NameKind.free→sc.names.lookup y.1=some .cell∨sc.names.lookup y.1=some .free)
  (hlen:N.length=ps.length+fr.length) (hfl:fv.length=fr.length) (hN:∀ (j:Nat) i x,fr[j]? = some i→N[ps.length+j]? = some x→scope.names.lookup x=some .free∧X.N[i]? = some x)
  (hv:∀ (j:Nat) i v,fr[j]? = some i→fv[j]? = some v→σ[i]? = some (some v)):LamCl base' N ps scope (clOf X.env scope.names []) fv:=by
 subst hsc
 have kind:∀ x,scope.names.lookup x=some .free→(X.env.kindOf x=some .cell∨X.env.kindOf x=some .free):=fun x hx=>hfr _ (PySem.mem_of_lookup hx) rfl
 have good:ClGood X.env (clOf X.env scope.names []):=clOf_good _ _ fun y c e=>by simp at e
 have look:∀ x c,(clOf X.env scope.names []).lookup x=some c→X.env.cells.lookup x=some c:=fun x c e=>by
  have h1:=good x c e
  rcases clOf_mem _ _ e with z | z
  ·simp at z
  ·obtain ⟨c2,e2⟩:=B.has x (hfr _ z rfl)
   rw [e2] at h1
   rw [e2]
   exact congrArg some h1.symm
 have hasC:∀ x,scope.names.lookup x=some .free→∃ c,(clOf X.env scope.names []).lookup x=some c:=fun x hx=>clOf_has _ _ (.inr (PySem.mem_of_lookup hx))
 refine ⟨fun x y c h1 h2=>B.inj x y c (look x c h1) (look y c h2),hasC,fun x c e=>B.cell x c (look x c e),by rw [hlen,hfl],fun j x v h1 h2=>?_⟩
 have hj:j < fr.length:=by rw [← hfl]; exact (List.getElem?_eq_some_iff.mp h2).1
 have hfj:fr[j]? = some fr[j]:=List.getElem?_eq_getElem hj
 obtain ⟨hf,hX⟩:=hN j _ x hfj h1
 obtain ⟨u,c,r,e,z⟩:=B.val _ x v hX (hv j _ v hfj h2) (kind x hf)
 obtain ⟨c2,e2⟩:=hasC x hf
 have:=look x c2 e2
 rw [e] at this
 cases this
 exact ⟨hf,c,u,e2,r,z⟩
section
variable {X:Cx}
end
end L2
namespace L2
open PySem PySem.Spec PyProof.Rows
section
variable {P:Program} {w:World} {H:Hp} {s:Shared}
end
section
variable {X:Cx}
end
end L2
namespace L2
open PySem PySem.Spec PyProof.Rows
section
variable {X:Cx} {tg:Expr}
end
end L2
namespace L2
open PySem PySem.Spec PyProof.Rows
section
variable {P:Program} {w:World} {A:Around} {E:Value→Shared→Prop} {s:Shared}
theorem drawT_item {it t:Addr} {i:Nat} {us:Array Value} {x:Value} {Q:Value→Shared→Prop} (hi:s.heap.IsTupleIter it t i) (ht:s.heap.IsTuple t us) (hx:us[i]? = some x)
  (q:∀ h',h'.IsTupleIter it t (i+1)→Heap.SameBut it s.heap h'→Q x { s with heap:=h' }):wpAny (model P w) A (Builtin.SmallTypes.nextOf (.ref it)) Q E s:=by
 obtain ⟨o,e0,ec,ed⟩:=id hi
 obtain ⟨ot,e1,_,n,e2⟩:=ht
 unfold Builtin.SmallTypes.nextOf
 refine wpAny_bind (wpAny_callSpecial?_slot (name:=Str.ofString "__next__") hi.typeIs F.slot_tuple_iterator_next (wpAny_call_entry F.slot_tuple_iterator_next hi.typeIs F.entry_tuple_iterator_next ?_ (F.args_tuple_iterator_next_1 _)))
 refine wpAny_bind (m:=field (.ref it) 0) (wpAny_field e0 ed (x:=.ref t) rfl ?_)
 show wpAny _ _ (ite ((Value.ref t==Value.none)=true) _ _) _ _ s
 refine (if_neg (show ¬ (Value.ref t==Value.none)=true from Bool.false_ne_true))▸?_
 refine wpAny_bind (m:=field (.ref it) 1) (wpAny_field e0 ed (x:=.int i 0) rfl ?_)
 refine wpAny_bind (m:=seqItems? (.ref t)) (wpAny_seqItems e1 e2 ?_)
 simp only [Int.toNat_natCast,hx]
 refine wpAny_bind (wpAny_setField e0 ed (by simp) (wpAny_pure ⟨x,rfl,wpAny_pure (q _ ⟨_,Heap.get?_update_self _ e0 (Obj.isFreed_of_fields (Obj.data_mapFields ed _)),(Obj.cls_mapFields ..).trans ec,?_⟩ (Heap.SameBut.update ..))⟩))
 rw [Obj.data_mapFields ed]
 simp [rawInt]
theorem drawT_end {it t:Addr} {i:Nat} {us:Array Value} {Q:Value→Shared→Prop} (hh:A.handled=none) (hi:s.heap.IsTupleIter it t i) (ht:s.heap.IsTuple t us) (hx:us[i]? = none)
  (q:∀ h' e,Heap.ExtBut it s.heap h'→(∃ o,h'.get? e=some o∧o.cls=.type "StopIteration")→E (.ref e) { s with heap:=h' }):wpAny (model P w) A (Builtin.SmallTypes.nextOf (.ref it)) Q E s:=by
 obtain ⟨o,e0,ec,ed⟩:=id hi
 obtain ⟨ot,e1,_,n,e2⟩:=ht
 unfold Builtin.SmallTypes.nextOf
 refine wpAny_bind (wpAny_callSpecial?_slot (name:=Str.ofString "__next__") hi.typeIs F.slot_tuple_iterator_next (wpAny_call_entry F.slot_tuple_iterator_next hi.typeIs F.entry_tuple_iterator_next ?_ (F.args_tuple_iterator_next_1 _)))
 refine wpAny_bind (m:=field (.ref it) 0) (wpAny_field e0 ed (x:=.ref t) rfl ?_)
 show wpAny _ _ (ite ((Value.ref t==Value.none)=true) _ _) _ _ s
 refine (if_neg (show ¬ (Value.ref t==Value.none)=true from Bool.false_ne_true))▸?_
 refine wpAny_bind (m:=field (.ref it) 1) (wpAny_field e0 ed (x:=.int i 0) rfl ?_)
 refine wpAny_bind (m:=seqItems? (.ref t)) (wpAny_seqItems e1 e2 ?_)
 simp only [Int.toNat_natCast,hx]
 refine wpAny_bind (wpAny_rule (wpAny_bind (wpAny_setField e0 ed (by simp) (wpAny_bind (m:=newExc (.type "StopIteration") []) ?_))))
 simp only [newExc,newTuple,raiseNew]
 refine wpAny_bind (wpAny_newObj_type (wpAny_bind (m:=firstArgMember _ _) (wpAny_of_eq (a:=Value.none) (by first | rfl | (simp only [firstArgMember]; rfl)) (wpAny_newObj_type ?_ (by size_fits)))) (by size_fits))
 refine wpAny_bind (wpAny_handled ?_)
 first | rw [show A.in1.handled=none from hh] | rw [hh]
 exact wpAny_bind (wpAny_pure (wpAny_throw (q _ _ (((Heap.SameBut.update ..).extBut.push _).push _) ⟨_,Heap.get?_push_size _ rfl,rfl⟩)))
theorem drawsT (hh:A.handled=none) (it t:Addr) (hne:t≠it) (us:Array Value):Draws P w A it [it,t] us.size (fun i v=>us[i]? = some v) (fun i h=>h.IsTupleIter it t i∧h.IsTuple t us) where
 live:=fun _ _ ⟨⟨o,e,_⟩,_⟩=>⟨o,e⟩
 frame:=fun _ _ _ ⟨a,b⟩ k=>⟨a.at fun o e=>k it (by simp) o e,b.at fun o e=>k t (by simp) o e⟩
 item:=fun i s Q E hi st q=>drawT_item st.1 st.2 (x:=us[i]) (by simp [hi]) fun h' a b=>q _ h' s.toks (by simp [hi]) ⟨a,st.2.extBut b.extBut hne⟩ b
 done:=fun s Q E st q=>drawT_end hh st.1 st.2 (by simp) q
open AutoSeq1 (wpAny_loadPart') in
theorem enumNewT (t:Addr) (us:Array Value) (n:Nat) (dx:Option Addr) (sl:Array (Option Value)) :
  Meets (Builtin.«enumerate.__new__» ⟨[.type "enumerate",.ref t],[]⟩) (fun _ R s=>s.heap.get? t=some { cls:=.type "tuple",dict:=dx,data:=.seq us n,slots:=sl }∧
   R (.ok (.ret (.ref (s.heap.push { cls:=.type "tuple_iterator",data:=.fields #[.ref t,.int 0 0] }).objs.size))) { s with heap:=(s.heap.push { cls:=.type "tuple_iterator",data:=.fields #[.ref t,.int 0 0] }).push { cls:=.type "enumerate",data:=.fields #[.none,.bool false,.ref s.heap.objs.size,rawInt 0,.none,.none] } }):=
 .of_wp fun prog w A R s h=>by
  obtain ⟨hp,g,d,tk,os⟩:=s
  obtain ⟨ht,q⟩:=h
  have hsub:=sub_enumerate
  have hT:Heap.IsTuple (Shared.heap ⟨hp,g,d,tk,os⟩) t us:=⟨_,ht,rfl,n,rfl⟩
  wp_walk using wpAny_loadPart' ht
  refine wpAny_stack_any fun st=>wpAny_pure ?_
  split
  ·rename_i c _ _ _ _ _
   cases (c==Value.type "enumerate") <;> (wp_walk using wpAny_loadPart' ht,wpAny_pyIter_tuple hT; exact ⟨_,rfl,q⟩)
  ·wp_walk using wpAny_loadPart' ht,wpAny_pyIter_tuple hT
   exact ⟨_,rfl,q⟩
theorem call_enumT {t:Addr} {us:Array Value} {Q:Value→Shared→Prop} (hT:s.heap.IsTuple t us)
  (q:∀ h',IsEnum h' (s.heap.objs.size+1) s.heap.objs.size 0 .none→h'.IsTupleIter s.heap.objs.size t 0→h'.objs.size=s.heap.objs.size+2→(∀ b o,s.heap.get? b=some o→h'.get? b=some o)→Q (.ref (s.heap.objs.size+1)) { s with heap:=h' }) :
  wpAny (model P w) A (call (.type "enumerate") [.ref t]) Q E s:=by
 obtain ⟨⟨c,dx,dt,sl⟩,ht,ec,n,ed⟩:=hT
 obtain rfl:c=.type "tuple":=ec
 obtain rfl:dt=.seq us n:=ed
 refine callType_new F.called_enumerate (by decide) (F.typeCall_enumerate_1 _) (F.newCall_enumerate_1 _) (fun obj=>F.args_object_init_2 obj _) F.entry_enumerate_new (enumNewT t us n dx sl) ⟨ht,?_⟩
 have z:(s.heap.push { cls:=.type "tuple_iterator",data:=.fields #[.ref t,.int 0 0] }).objs.size=s.heap.objs.size+1:=Heap.size_push ..
 show _∧_
 have en:=Heap.get?_push_size (s.heap.push { cls:=.type "tuple_iterator",data:=.fields #[.ref t,.int 0 0] }) (o:={ cls:=.type "enumerate",data:=.fields #[.none,.bool false,.ref s.heap.objs.size,rawInt 0,.none,.none] }) rfl
 rw [z] at en ⊢
 exact ⟨⟨_,en,rfl⟩,q _ en ⟨_,Heap.get?_push_of_some _ (Heap.get?_push_size _ rfl),rfl,rfl⟩ (by rw [Heap.size_push,z]) fun b o x=>Heap.get?_push_of_some _ (Heap.get?_push_of_some _ x)⟩
end
theorem Inv.turnedL {X:Cx} {pins:List (Addr × Obj)} {σ:St} {H:Hp} {s:Shared} {h':Heap} {t':Nat} {fp:List Addr} (I:Inv X pins σ H s) (k:∀ b o,b∉fp→s.heap.get? b=some o→h'.get? b=some o) (hf:∀ b∈fp,FpOk X pins H b) :
  Inv X pins σ H { s with heap:=h',toks:=t' }:=by
 have nit:∀ b u,H b=some u→b∉fp:=fun b u e z=>by rw [(hf b z).1] at e; cases e
 refine I.step (g':=s.gens) (d':=s.drawn) (ch:=fp) (fun b hb=>?_) (fun b o _ _ hc e _=>k b o hc e) (fun b o _ _ hc e _=>⟨o.slots,k b o hc e⟩) (fun _ _ _ _ n=>n) (fun b o hc e=>⟨o,k b o hc e⟩) (fun _ _ e=>e) (fun _ _ _ e=>e) (fun b ps e=>⟨#[],by rw [e]; simp⟩) (fun m hm=>?_) (fun b u e=>?_) I.bare
 ·obtain ⟨_,f1,_,f3,f4,f5⟩:=hf b hb
  exact ⟨f3,f1,f4,f5⟩
 ·obtain ⟨o,es,ep,ho,r⟩:=hm
  exact ⟨o,es,ep,k _ o (fun z=>(hf _ z).2.1 rfl) ho,r⟩
 ·refine (I.hok b u e).stay (fun c v hc q=>k c v (fun y=>?_) q) (fun _ q=>q) fun _ _ q=>q
  rcases hc with z | z
  ·rw [z] at y
   exact nit b u e y
  ·exact nit c _ z y
def ItE (Sq:Hp→List V→Prop):It:=
 ⟨fun i H=>∃ xs x,Sq H xs∧xs[i]? = some x,fun i H x H'=>∃ p y,x=.ref p∧H p=none∧H'=upd H p (.tup [.int i,y])∧∀ xs,Sq H xs→xs[i]? = some y,fun i H=>∃ xs,Sq H xs∧xs.length=i⟩
theorem enum_step {X:Cx} {pins:List (Addr × Obj)} {σ:St} {H:Hp} {s:Shared} {h1 h2:Heap} {e it:Addr} {i:Nat} {tk t':Nat} {u:Value} {y:V} (I:Inv X pins σ H s) (hf:∀ b∈[e,it],FpOk X pins H b) (ru:RelV y u)
  (ht:h1.get? s.heap.objs.size=some { cls:=.type "tuple",data:=.seq #[.int i tk,u] }) (k:∀ b o,b≠e→b≠it→s.heap.get? b=some o→h1.get? b=some o) (sb:Heap.SameBut e h1 h2) (hel:e < s.heap.objs.size) (hil:it < s.heap.objs.size) :
  Inv X pins σ (upd H s.heap.objs.size (.tup [.int i,y])) { s with heap:=h2,toks:=t' }∧∀ b∈[e,it],upd H s.heap.objs.size (.tup [.int i,y]) b=none:=by
 have hn:∀ b∈[e,it],upd H s.heap.objs.size (.tup [.int i,y]) b=none:=fun b hb=>by
  have hb':b=e∨b=it:=by simpa using hb
  have hlt:b < s.heap.objs.size:=by
   rcases hb' with z | z
   ·rw [z]; exact hel
   ·rw [z]; exact hil
  rw [upd_ne (Nat.ne_of_lt hlt)]
  exact (hf b hb).1
 have I1:Inv X pins σ (upd H s.heap.objs.size (.tup [.int i,y])) { s with heap:=s.heap.push { cls:=.type "tuple",data:=.seq #[.int i tk,u] },toks:=s.toks }:=
  I.laid (fun b o q=>Heap.get?_push_of_some _ q) (Nat.le_refl _) ⟨(by show 2≤sizeLine; decide),[.int i tk,u],.cons ⟨tk,rfl⟩ (.cons ru .nil),⟨_,Heap.get?_push_size _ rfl,rfl,_,rfl⟩⟩
 have I2:=I1.turnedL (fp:=[e,it]) (h':=h2) (t':=t') (fun b o hb q=>?_) (fun b hb=>⟨hn b hb,(hf b hb).2⟩)
 ·exact ⟨I2,hn⟩
 have hb1:b≠e:=fun z=>hb (by simp [z])
 have hb2:b≠it:=fun z=>hb (by simp [z])
 refine (sb.2 b hb1).trans ?_
 rcases Heap.get?_push_cases q with ⟨z1,z2⟩ | z
 ·rw [z1,z2]
  exact ht
 ·exact k b o hb1 hb2 z
theorem turn_enumL {P:Program} {w:World} {K:PySem.W.Frag} {es:List Expr} {n:Nat} {pos:Pos} (a e it:Addr) (hei:e≠it) :
  Turn P w K (.Tuple es n pos) (ItE fun H xs=>SqL K H a xs) [e,it] e (fun i h=>(∃ old,IsEnum h e it i old)∧h.IsListIter it a i) where
 mem:=by simp
 obj:=fun i h st b hb=>by
  obtain ⟨⟨old,he⟩,oi,e1,c1,d1⟩:=st
  have hb':b=e∨b=it:=by simpa using hb
  rcases hb' with z | z
  ·subst z
   exact ⟨_,he,fun v z=>by cases z⟩
  ·subst z
   exact ⟨oi,e1,fun v z=>by rw [d1] at z; cases z⟩
 keep:=fun i h h' st k=>⟨let ⟨old,he⟩:=st.1; ⟨old,k e (by simp) _ he⟩,st.2.at fun o q=>k it (by simp) o q⟩
 item:=by
  intro X hP hw hK hc i pins s σ H E I hf st hg
  subst hP hw hK
  obtain ⟨xs,x,hq,hx⟩:=hg
  obtain ⟨its,rv,p,hz⟩:=I.list hq
  obtain ⟨u,hu,ru⟩:=rv.get hx
  obtain ⟨⟨old,he⟩,hit⟩:=st
  have hel:=Heap.lt_size he
  have hil:it < s.heap.objs.size:=by obtain ⟨o,q,_⟩:=id hit; exact Heap.lt_size q
  refine wpAny_pyNext_enum_item he hit p.isList (x:=u) (by simpa using hu) hei fun h1 heo hit1 ht1 hz1 hk1=>⟨_,rfl,?_⟩
  refine wpAny_letOwnedTupleGo_enum heo fun h2 he2 sb=>?_
  obtain ⟨I2,hn⟩:=enum_step (t':=s.toks+1) I hf ru ht1 hk1 sb hel hil
  exact ⟨.ref s.heap.objs.size,_,I2,rfl,⟨_,x,rfl,I.hok.fresh (Nat.le_refl _),rfl,fun ys hy=>by rw [I.list_inj hy hq]; exact hx⟩,⟨⟨_,by simpa using he2⟩,hit1.at fun o q=>(sb.2 it (Ne.symm hei)).trans q⟩,hn⟩
 done:=by
  intro X hP hw hK hc i pins s σ H E I hf st hg
  subst hP hw hK
  obtain ⟨xs,hq,hx⟩:=hg
  obtain ⟨its,rv,p,hz⟩:=I.list hq
  have hl:=rv.length
  obtain ⟨⟨old,he⟩,hit⟩:=st
  obtain ⟨f0,f1,f2,f3,f4,f5⟩:=hf it (by simp)
  exact wpAny_pyNext_enum_end (I.ok.hd hc) he hit p.isList (by simp; omega) fun h' eb=>⟨rfl,I.turned (t':=s.toks) (fun b o hb q=>eb b o hb q) f0 f1 f3 f4 f5⟩
 self:=fun _ _ _ _ _ st h=>let ⟨_,he⟩:=st.1; wpAny_pyIter_enum he h
theorem turn_enumT {P:Program} {w:World} {K:PySem.W.Frag} {es:List Expr} {n:Nat} {pos:Pos} (a e it:Addr) (hei:e≠it) :
  Turn P w K (.Tuple es n pos) (ItE fun H xs=>SqT K H a xs) [e,it] e (fun i h=>(∃ old,IsEnum h e it i old)∧h.IsTupleIter it a i) where
 mem:=by simp
 obj:=fun i h st b hb=>by
  obtain ⟨⟨old,he⟩,oi,e1,c1,d1⟩:=st
  have hb':b=e∨b=it:=by simpa using hb
  rcases hb' with z | z
  ·subst z
   exact ⟨_,he,fun v z=>by cases z⟩
  ·subst z
   exact ⟨oi,e1,fun v z=>by rw [d1] at z; cases z⟩
 keep:=fun i h h' st k=>⟨let ⟨old,he⟩:=st.1; ⟨old,k e (by simp) _ he⟩,st.2.at fun o q=>k it (by simp) o q⟩
 item:=by
  intro X hP hw hK hc i pins s σ H E I hf st hg
  subst hP hw hK
  obtain ⟨xs,x,hq,hx⟩:=hg
  obtain ⟨its,rv,p,hz⟩:=I.tuple hq
  have hl:=rv.length
  have hlt:i < its.toArray.size:=by
   have:=(List.getElem?_eq_some_iff.mp hx).1
   simp
   omega
  obtain ⟨⟨old,he⟩,hit⟩:=st
  have hel:=Heap.lt_size he
  have hT:s.heap.IsTuple a its.toArray:=p
  have hil:it < s.heap.objs.size:=by obtain ⟨o,q,_⟩:=id hit; exact Heap.lt_size q
  have nat:a≠it:=fun z=>by
   obtain ⟨o,q,c,_⟩:=id hit
   obtain ⟨o2,q2,c2,_⟩:=id hT
   rw [z,q] at q2
   cases q2
   rw [c] at c2
   injection c2 with c2
   exact absurd c2 (by decide)
  have nae:a≠e:=fun z=>by
   obtain ⟨o2,q2,c2,_⟩:=id hT
   rw [z,he] at q2
   cases q2
   injection c2 with c2
   exact absurd c2 (by decide)
  have hef:e∉[it,a]:=by simp [hei,Ne.symm nae]
  refine wpAny_pyNext_enum_itemD (drawsT (A:=X.A.in1) (I.ok.hd hc) it a nat its.toArray) he ⟨hit,hT⟩ hlt hei hef fun u h1 tk hu heo hit1 ht1 hz1 hk1=>⟨_,rfl,?_⟩
  refine wpAny_letOwnedTupleGo_enum heo fun h2 he2 sb=>?_
  obtain ⟨u',hu',ru⟩:=rv.get hx
  have eu:u=u':=by
   have h3:its[i]? = some u:=by simpa using hu
   rw [hu'] at h3
   exact (Option.some.inj h3).symm
  subst eu
  obtain ⟨I2,hn⟩:=enum_step (t':=tk+1) I hf ru ht1 hk1 sb hel hil
  exact ⟨.ref s.heap.objs.size,_,I2,rfl,⟨_,x,rfl,I.hok.fresh (Nat.le_refl _),rfl,fun ys hy=>by rw [I.tuple_inj hy hq]; exact hx⟩,⟨⟨_,by simpa using he2⟩,hit1.1.at fun o q=>(sb.2 it (Ne.symm hei)).trans q⟩,hn⟩
 done:=by
  intro X hP hw hK hc i pins s σ H E I hf st hg
  subst hP hw hK
  obtain ⟨xs,hq,hx⟩:=hg
  obtain ⟨its,rv,p,hz⟩:=I.tuple hq
  have hl:=rv.length
  obtain ⟨⟨old,he⟩,hit⟩:=st
  have hT:s.heap.IsTuple a its.toArray:=p
  have nat:a≠it:=fun z=>by
   obtain ⟨o,q,c,_⟩:=id hit
   obtain ⟨o2,q2,c2,_⟩:=id hT
   rw [z,q] at q2
   cases q2
   rw [c] at c2
   injection c2 with c2
   exact absurd c2 (by decide)
  obtain ⟨f0,f1,f2,f3,f4,f5⟩:=hf it (by simp)
  have ei:i=its.toArray.size:=by simp; omega
  subst ei
  exact wpAny_pyNext_enum_endD (drawsT (A:=X.A.in1) (I.ok.hd hc) it a nat its.toArray) he ⟨hit,hT⟩ fun h' eb=>⟨rfl,I.turned (t':=s.toks) (fun b o hb q=>eb b o hb q) f0 f1 f3 f4 f5⟩
 self:=fun _ _ _ _ _ st h=>let ⟨_,he⟩:=st.1; wpAny_pyIter_enum he h
section
variable {X:Cx} {es:List Expr} {n:Nat} {tp:Pos}
def iEnum (K:PySem.W.Frag) (te:TE):TI:=fun σ H R=>te σ H fun x H1=>∃ a xs,x=.ref a∧((SqL K H1 a xs∧R (ItE fun H xs=>SqL K H a xs) H1)∨(SqT K H1 a xs∧R (ItE fun H xs=>SqT K H a xs) H1))
theorem pi_enum {K:PySem.W.Frag} {e:Expr} {te:TE} {p pos:Pos} (hg:Gl X "enumerate") (hm:X.mg "enumerate" = none) (he:PE X e te) (hK:X.K=K:=by rfl)
  (h2:starEach [e] X.env=(false,eval e X.env) :: starEach [] X.env:=by rfl):PI X (.Tuple es n tp) (.Call (.Name "enumerate" p) [e] [] pos) (iEnum K te):=by
 subst hK
 intro pins s σ H R I h
 refine wpAny_Call_Name_kw (ld_blt I hg hm bt_enumerate (PyProof.Rows.callWith_type1 (thn (pa_cons he pa_nil h2 pos pins s σ H (fun vs H1=>match vs with | [x]=>∃ a xs,x=.ref a∧((SqL X.K H1 a xs∧R (ItE fun H xs=>SqL X.K H a xs) H1)∨(SqT X.K H1 a xs∧R (ItE fun H xs=>SqT X.K H a xs) H1)) | _=>False) I h) fun us s1 ⟨vs,H1,I1,r1,q1⟩=>?_) h2 rfl))
 obtain ⟨x0,e0,a,xs,e1,q⟩:∃ x0,vs=[x0]∧∃ a xs,x0=.ref a∧((SqL X.K H1 a xs∧R (ItE fun H xs=>SqL X.K H a xs) H1)∨(SqT X.K H1 a xs∧R (ItE fun H xs=>SqT X.K H a xs) H1)):=by
  match vs,q1 with
  | [x0],q1=>exact ⟨x0,rfl,q1⟩
 subst e0 e1
 obtain ⟨u,rfl,ru⟩:=Vals.one r1
 obtain rfl:u=Value.ref a:=ru
 have fp:∀ b∈[s1.heap.objs.size+1,s1.heap.objs.size],FpOk X pins H1 b:=fun b hb=>by
  have hb':b=s1.heap.objs.size+1∨b=s1.heap.objs.size:=by simpa using hb
  rcases hb' with z | z
  ·rw [z]; exact I1.fpOk (Nat.le_succ _) (I1.hok.fresh (Nat.le_succ _))
  ·rw [z]; exact I1.fpOk (Nat.le_refl _) (I1.hok.fresh (Nat.le_refl _))
 rcases q with ⟨hx,q⟩ | ⟨hx,q⟩
 ·obtain ⟨its,rv,pl,hz⟩:=I1.list hx
  refine call_enumerate_list pl.isList fun h' hE hI hsz hk=>wpAny_pyIter_enum hE ?_
  exact ⟨_,[s1.heap.objs.size+1,s1.heap.objs.size],_,_,H1,rfl,I1.kept (t':=s1.toks) hk,turn_enumL a _ _ (Nat.succ_ne_self _),⟨⟨_,hE⟩,hI⟩,fp,q⟩
 ·obtain ⟨its,rv,pl,hz⟩:=I1.tuple hx
  refine call_enumT (show s1.heap.IsTuple a its.toArray from pl) fun h' hE hI hsz hk=>wpAny_pyIter_enum hE ?_
  exact ⟨_,[s1.heap.objs.size+1,s1.heap.objs.size],_,_,H1,rfl,I1.kept (t':=s1.toks) hk,turn_enumT a _ _ (Nat.succ_ne_self _),⟨⟨_,hE⟩,hI⟩,fp,q⟩
end
theorem for_enum {Sq:Hp→List V→Prop} {xs:List V} {g:TG} {tb:TS} {D:Ends} {σ:St} {H:Hp} (Pv:Nat→St→Hp→Prop) (h0:Pv 0 σ H) (hl:∀ i σ H,i≤xs.length→Pv i σ H→Sq H xs)
  (hs:∀ i x σ H p,xs[i]? = some x→Pv i σ H→H p=none→g (.ref p) σ (upd H p (.tup [.int i,x])) fun σ2 H2=>tb { D with nx:=Pv (i+1),ct:=Pv (i+1),bk:=D.nx } σ2 H2) (hd:∀ σ H,Pv xs.length σ H→D.nx σ H) :
  ∃ W:Nat→Nat→St→Hp→Prop,(∃ m,W 0 m σ H)∧∀ i m σ H,W i m σ H→
   ((ItE Sq).stop i H∧D.nx σ H)∨((ItE Sq).go i H∧∃ N:St→Hp→Prop,(∀ σ' H',N σ' H'→∃ m',m' < m∧W (i+1) m' σ' H')∧∀ x H',(ItE Sq).yld i H x H'→g x σ H' fun σ2 H2=>tb { D with nx:=N,ct:=N,bk:=D.nx } σ2 H2):=by
 refine ⟨fun i m σ H=>m=xs.length - i∧i≤xs.length∧Pv i σ H,⟨xs.length,by simp,Nat.zero_le _,h0⟩,?_⟩
 rintro i m σ H ⟨rfl,hi,p⟩
 have q:=hl i σ H hi p
 by_cases hlt:i < xs.length
 ·refine .inr ⟨⟨xs,xs[i],q,by simp [hlt]⟩,Pv (i+1),fun σ' H' p'=>⟨xs.length - (i+1),by omega,rfl,hlt,p'⟩,fun x H' y=>?_⟩
  obtain ⟨a,y,e1,hn,e2,hy⟩:=y
  subst e1 e2
  exact hs i y σ H a (hy xs q) p hn
 ·have e:i=xs.length:=by omega
  subst e
  exact .inl ⟨⟨xs,q,rfl⟩,hd σ H p⟩
end L2
namespace L2
open PySem PySem.Spec PyProof.Rows
section
variable {P:Program} {w:World} {κ:Type} [DecidableEq κ] {knd:HeapKind P w κ} {A:Around} {E:Value→Shared→Prop} {s:Shared}
end
section
variable {X:Cx}
end
end L2
namespace L2
open PySem PySem.Spec PyProof.Rows
section
variable {X:Cx} {pos:Pos}
end
end L2
namespace L2
open PySem PySem.Spec PyProof.Rows
section
variable {X:Cx}
end
end L2
namespace L2
open PySem PySem.Spec PyProof.Rows
section
variable {X:Cx} {name:Str} {params:Arguments} {body:List Stmt} {scope:Scope} {pos:Pos} {c P:Addr} {L:List (Pos × Str)} {i:Nat}
end
end L2
namespace L2
open PySem PySem.Spec PyProof.Rows
section
variable {P:Program} {w:World} {κ:Type} [DecidableEq κ] {knd:PySem.KeyKind P w κ} {A:Around} {E:Value→Shared→Prop} {s:Shared}
open AutoSeq1 (wpAny_loadPart') in
end
section
variable {X:Cx} {ex:List Expr} {n:Nat} {tp:Pos}
end
end L2
namespace L2
open PySem PySem.Spec PyProof.Rows
section
variable {P:Program} {w:World} {κ:Type} [DecidableEq κ] {knd:HeapKind P w κ} {A:Around} {E:Value→Shared→Prop} {s:Shared}
end
section
variable {X:Cx}
end
end L2
namespace L2
open PySem PySem.Spec PyProof.Rows
section
variable {X:Cx}
def tListRg (te:TE):TE:=fun σ H Q=>te σ H fun x H1=>∃ n:Nat,x=.int (n:Int)∧n≤1000∧∀ l,H1 l=none→Q (.ref l) (upd H1 l (.lst ((List.range n).map fun i:Nat=>V.int (i:Int))))
theorem vals_rng:∀ (us:List Value) (k:Nat),(∀ (i:Nat) v,us[i]? = some v→∃ t,v=.int ((k:Int)+(i:Int)) t)→Vals ((List.range' k us.length).map fun i:Nat=>V.int (i:Int)) us
 | [],k,_=>.nil
 | u :: us,k,h=>by
  rw [List.length_cons,List.range'_succ,List.map_cons]
  refine .cons ?_ (vals_rng us (k+1) fun i v e=>?_)
  ·obtain ⟨t,e⟩:=h 0 u rfl
   exact ⟨t,by rw [e]; simp⟩
  ·obtain ⟨t,e'⟩:=h (i+1) v (by simpa using e)
   refine ⟨t,?_⟩
   rw [e']
   congr 1
   omega
theorem pe_listRg {e:Expr} {te:TE} {p p2 pos pos2:Pos} (hc:X.calm=true) (hg:Gl X "list") (hm:X.mg "list" = none) (hg2:Gl X "range") (hm2:X.mg "range" = none) (he:PE X e te)
  (h1:starEach [.Call (.Name "range" p2) [e] [] pos2] X.env=(false,eval (.Call (.Name "range" p2) [e] [] pos2) X.env) :: starEach [] X.env:=by rfl)
  (h2:starEach [e] X.env=(false,eval e X.env) :: starEach [] X.env:=by rfl):PE X (.Call (.Name "list" p) [.Call (.Name "range" p2) [e] [] pos2] [] pos) (tListRg te):=by
 intro pins s σ H Q I h
 refine wpAny_Call_Name_kw (ld_blt I hg hm bt_list ?_)
 refine PyProof.Rows.callWith_type1 ?_ h1 rfl
 rw [h1]
 show wpAny _ _ (spliced ((false,eval _ X.env) :: backTo pos (starEach [] X.env))) _ _ s
 refine Calls.spliced_cons (wpAny_Call_Name_kw (ld_blt I hg2 hm2 boot_range (PyProof.Rows.callWith_type1 (thn (pa_cons he pa_nil h2 pos2 pins s σ H (fun vs H1=>match vs with | [x]=>∃ n:Nat,x=.int (n:Int)∧n≤1000∧∀ l,H1 l=none→Q (.ref l) (upd H1 l (.lst ((List.range n).map fun i:Nat=>V.int (i:Int)))) | _=>False) I h) fun us s1 ⟨vs,H1,I1,r1,q1⟩=>?_) h2 rfl)))
 obtain ⟨x0,e0,n,e1,hn,q⟩:∃ x0,vs=[x0]∧∃ n:Nat,x0=.int (n:Int)∧n≤1000∧∀ l,H1 l=none→Q (.ref l) (upd H1 l (.lst ((List.range n).map fun i:Nat=>V.int (i:Int)))):=by
  match vs,q1 with
  | [x0],q1=>exact ⟨x0,rfl,q1⟩
 subst e0 e1
 obtain ⟨u,rfl,ru⟩:=Vals.one r1
 obtain ⟨t,rfl⟩:=ru
 refine call_range_1 (Calls.spliced_nil ?_)
 refine call_list_range (n:=n) (I1.ok.hd hc) (IsRange.new ..) (small_one (by omega) (by omega) (by omega) (by omega)) (by rw [rangeSize_one]; split <;> omega) (by omega) fun h' tk' acc c kp hD hacc=>?_
 have le:s1.heap.objs.size≤(s1.heap.push { cls:=.type "range",data:=.fields #[.int 0 s1.toks,.int (n:Int) t,.int 1 (s1.toks+1)] }).objs.size:=by rw [Heap.size_push]; exact Nat.le_succ _
 have kp':∀ b o,s1.heap.get? b=some o→h'.get? b=some o:=fun b o e=>kp b o (Heap.get?_push_of_some _ e)
 have hv:=vals_rng acc.toList 0 fun i v hi=>by
  obtain ⟨t,e⟩:=hacc.2 i v (by rw [← Array.getElem?_toList]; exact hi)
  exact ⟨t,by rw [e]; simp⟩
 rw [Array.length_toList,hacc.1,← List.range_eq_range'] at hv
 exact ⟨.ref _,_,I1.laid (t':=tk') kp' le (show ObjOk X.prog X.w _ h' _ (.lst ((List.range n).map fun i:Nat=>V.int (i:Int))) from ⟨by rw [List.length_map,List.length_range,sizeLine_eq]; omega,acc.toList,c,hv,by rw [Array.toArray_toList]; exact hD⟩),rfl,q _ (I1.hok.fresh le)⟩
end
end L2
namespace L2
open PySem PySem.Spec PyProof.Rows
section
variable {P:Program} {w:World} {A:Around} {E:Value→Shared→Prop} {s:Shared} {it d:Addr} {i ep:Nat} {es:Array DictEntry}
open AutoSeq1 (wpAny_loadPart') in
end
section
variable {X:Cx} {tg:Expr}
end
section
variable {X:Cx} {ex:List Expr} {n:Nat} {tp:Pos}
end
end L2
namespace L2
open PySem PySem.Spec PyProof.Rows
end L2
namespace L2
open PySem PySem.Spec PyProof.Rows
theorem noFill_tupMul:fillsNumberSlot (.type "tuple") "mul" = pure false:=
 PySem.fillsNumberSlot_seq (id:="tuple.__mul__") (r:=some (.builtin "tuple.__rmul__")) F.slot_tuple_mul.lookup (by decide +kernel) F.slot_tuple_rmul.lookup (by decide +kernel)
theorem rep_tup:seqRepeat? (.type "tuple")=pure (some (.builtin "tuple.__mul__")):=by
 unfold seqRepeat?
 rw [PySem.seqSlot_of (T:="tuple") (name:="__mul__") (id:="tuple.__mul__") F.slot_tuple_mul.lookup (by decide +kernel),PySem.seqSlot_of (T:="tuple") (name:="__rmul__") (id:="tuple.__rmul__") F.slot_tuple_rmul.lookup (by decide +kernel)]
 rfl
theorem rmul_tup (a:Int) (t:Tok) (l:Addr) (items:Array Value) (n:Nat) (dd:Option Addr) (sl:Array (Option Value)) :
  Meets (Builtin.«int.__rmul__» ⟨[.int a t,.ref l],[]⟩) (fun _ R s=>s.heap.get? l=some { cls:=.type "tuple",dict:=dd,data:=.seq items n,slots:=sl }∧R (.ok (.ret Value.notImplemented)) s):=
 .of_wp fun prog w A R s h=>by
  obtain ⟨hp,g,d,tk,os⟩:=s
  obtain ⟨hl,h⟩:=h
  wp_walk
  exact ⟨_,rfl,h⟩
open AutoSeq1 (wpAny_loadPart') in
theorem mul_tup1 (l:Addr) (items:Array Value) (n:Nat) (dd:Option Addr) (sl:Array (Option Value)) (u:Tok) :
  Meets (Builtin.«tuple.__mul__» ⟨[.ref l,.int 1 u],[]⟩) (fun _ R s=>s.heap.get? l=some { cls:=.type "tuple",dict:=dd,data:=.seq items n,slots:=sl }∧R (.ok (.ret (Value.ref l))) s):=
 .of_wp fun prog w A R s h=>by
  obtain ⟨hp,g,d,tk,os⟩:=s
  obtain ⟨hl,h⟩:=h
  have f1:=AutoSeq1.idx_int
  have f2:=AutoSeq1.sub_tuple_tuple
  wp_walk using wpAny_loadPart' hl
  exact ⟨_,rfl,h⟩
theorem rep_size (a:Array Value):∀ (n:Nat) (acc:Array Value),((List.replicate n a).foldl (· ++ ·) acc).size=acc.size+n * a.size
 | 0,acc=>by simp
 | n+1,acc=>by
  rw [List.replicate_succ,List.foldl_cons,rep_size a n,Array.size_append,Nat.succ_mul]
  omega
open AutoSeq1 (wpAny_loadPart') in
theorem mul_tupN (l:Addr) (items:Array Value) (n:Nat) (dd:Option Addr) (sl:Array (Option Value)) (k:Int) (u:Tok) (h1:2≤k) (h2:¬ items.isEmpty=true) (hz:items.size * k.toNat≤sizeLine) :
  Meets (Builtin.«tuple.__mul__» ⟨[.ref l,.int k u],[]⟩) (fun _ R s=>s.heap.get? l=some { cls:=.type "tuple",dict:=dd,data:=.seq items n,slots:=sl }∧R (.ok (.ret (Value.ref s.heap.objs.size))) { s with heap:=s.heap.push { cls:=Value.type "tuple",data:=Data.seq ((List.replicate k.toNat items).foldl (· ++ ·) #[]) } }):=
 .of_wp fun prog w A R s h=>by
  obtain ⟨hp,g,d,tk,os⟩:=s
  obtain ⟨hl,h⟩:=h
  have f1:=AutoSeq1.idx_int
  have f2:=AutoSeq1.sub_tuple_tuple
  have hs:0 < items.size:=by
   rcases Nat.eq_zero_or_pos items.size with z | z
   ·exact absurd (by simpa using z) h2
   ·exact z
  have hk:k.toNat≤sizeLine:=Nat.le_trans (Nat.le_mul_of_pos_left _ hs) hz
  have c1:¬ ((decide (k < -(2 ^ 63)) || decide (k ≥ 2 ^ 63))=true):=by
   rw [sizeLine_eq] at hk
   simp
   omega
  have c2:¬ ((items.isEmpty || k==1)=true):=by
   have:¬ k=1:=by omega
   simp [this]
   simpa using h2
  have c3:¬ ((decide (k≤0) || items.isEmpty)=true):=by
   have:¬ k≤0:=by omega
   simp [this]
   simpa using h2
  have hsz:((List.replicate k.toNat items).foldl (· ++ ·) #[]).size≤sizeLine:=by
   rw [rep_size,Array.size_empty,Nat.zero_add,Nat.mul_comm]
   exact hz
  wp_walk using wpAny_loadPart' hl
  rw [if_neg c1]
  wp_walk using wpAny_loadPart' hl
  rw [if_neg c2]
  show wpAny _ _ (ite ((decide (k≤0) || items.isEmpty)=true) _ _) _ _ _
  rw [if_neg c3]
  have em:(items.size:Int) * k=((items.size * k.toNat:Nat):Int):=by
   rw [Int.natCast_mul,show ((k.toNat:Nat):Int)=k by omega]
  have c4:¬ ((items.size:Int) * k > (2 ^ 63 - 1) / 8):=by
   rw [em]
   rw [sizeLine_eq] at hz
   omega
  have c5:¬ Builtin.Tuple.tupleTooMany ((items.size:Int) * k)=true:=by
   rw [em]
   intro z
   have z':((items.size * k.toNat:Nat):Int) > (sizeLine:Int):=of_decide_eq_true z
   omega
  show wpAny _ _ (ite ((items.size:Int) * k > (2 ^ 63 - 1) / 8) _ _) _ _ _
  rw [if_neg c4]
  show wpAny _ _ (ite (Builtin.Tuple.tupleTooMany ((items.size:Int) * k)=true) _ _) _ _ _
  rw [if_neg c5]
  wp_walk
  exact ⟨_,rfl,h⟩
section
variable {X:Cx}
def rRepT:R2:=fun x y H Q=>∃ (a:Addr) (xs:List V) (n:Nat),x=.ref a∧y=.int (n:Int)∧H a=some (.tup xs)∧xs≠[]∧0 < n∧xs.length * n≤1000∧∀ p H',Same H H'→H' p=some (.tup (List.replicate n xs).flatten)→Q (.ref p) H'
theorem op_repT:OpR X (binaryOp .Mult) rRepT:=by
 intro pins s σ H x y v u Q I rx ry h
 obtain ⟨a,xs,n,rfl,rfl,ha,hne,hn,hz,q⟩:=h
 obtain rfl:v=Value.ref a:=rx
 obtain ⟨t,rfl⟩:=ry
 obtain ⟨its,r,ht,_⟩:=I.tuple (SqT.of ha)
 obtain ⟨⟨cls,dd,data,sl⟩,ho,hc,m,hd⟩:=id ht
 simp only at hc hd
 subst hc hd
 have hl:=r.length
 refine wpAny_binaryOp_repeat_ref (T:="tuple") (U:="int") (by decide) ⟨_,ho,rfl⟩ (fun s'=>typeIs_int s' n t) noFill_tupMul F.fills_int_mul F.slot_int_rmul rep_tup F.slot_int_index.lookup
  (call_meets F.slot_int_rmul (typeIs_int s n t) F.entry_int_rmul (F.args_int_rmul_2 _ _) (rmul_tup n t a its.toArray m dd sl) ⟨ho,rfl,⟨_,ho,rfl⟩,?_⟩)
 by_cases c:n=1
 ·subst c
  refine call_meets F.slot_tuple_mul ⟨_,ho,rfl⟩ F.entry_tuple_mul (F.args_tuple_mul_2 _ _) (mul_tup1 a its.toArray m dd sl t) ⟨ho,.ref a,H,I,rfl,q a H (Same.refl _) ?_⟩
  simpa using ha
 ·have hnl:its.length * n≤sizeLine:=by rw [← hl,sizeLine_eq]; omega
  refine call_meets F.slot_tuple_mul ⟨_,ho,rfl⟩ F.entry_tuple_mul (F.args_tuple_mul_2 _ _) (mul_tupN a its.toArray m dd sl (n:Int) t (by omega) (fun z=>hne (r.nil_iff.mp (by simpa using z))) (by rw [List.size_toArray,Int.toNat_natCast]; exact hnl)) ⟨ho,?_⟩
  have e:List.foldl (fun x1 x2=>x1 ++ x2) #[] (List.replicate ((n:Int)).toNat its.toArray)=(List.replicate n its).flatten.toArray:=by
   have:=foldl_rep its n []
   rw [List.nil_append] at this
   rw [Int.toNat_natCast]
   exact this
  rw [e]
  have hnn:H s.heap.objs.size=none:=I.hok.fresh (Nat.le_refl _)
  refine ⟨.ref s.heap.objs.size,_,I.laid (t':=s.toks) (o:=.tup (List.replicate n xs).flatten) (fun b ob q=>Heap.get?_push_of_some _ q) (Nat.le_refl _) ?_,rfl,q _ _ (same_new hnn _) upd_same⟩
  exact ⟨by rw [len_rep,sizeLine_eq,Nat.mul_comm]; omega,_,r.rep n,IsTup.new _ _⟩
def rCatG (K:PySem.W.Frag):R2:=fun x y H Q=>∃ (a b:Addr) (xs ys:List V),x=.ref a∧y=.ref b∧H a=some (.tup xs)∧H b=some (.tup ys)∧xs.length+ys.length≤1000∧∀ p H',Same H H'→H' p=some (.tup (xs ++ ys))→Q (.ref p) H'
theorem op_catG {K:PySem.W.Frag} (hK:X.K=K:=by rfl):OpR X (binaryOp .Add) (rCatG K):=by
 subst hK
 intro pins s σ H x y v u Q I rx ry h
 obtain ⟨a,b,xs,ys,rfl,rfl,ha,hb,hz,q⟩:=h
 by_cases c:xs=[]
 ·obtain rfl:v=Value.ref a:=rx
  obtain rfl:u=Value.ref b:=ry
  obtain ⟨its,r1,p1,_⟩:=I.tuple (SqT.of ha)
  obtain ⟨its2,r2,p2,_⟩:=I.tuple (SqT.of hb)
  obtain ⟨⟨cls,dd,data,sl⟩,ho,hc,n,hd⟩:=id p1
  obtain ⟨⟨cls2,dd2,data2,sl2⟩,ho2,hc2,n2,hd2⟩:=id p2
  simp only at hc hd hc2 hd2
  subst hc hd hc2 hd2
  refine concat_meets ⟨_,ho,rfl⟩ ⟨_,ho2,rfl⟩ noFill_tuple_add seq_tuple_add PySem.F.slot_tuple_add PySem.F.entry_tuple_add (PySem.F.args_tuple_add_2 _ _) (tuple_addW0 a b its.toArray its2.toArray n n2 dd dd2 sl sl2 (by simpa using r1.nil_iff.mpr c)) ⟨ho,ho2,.ref b,H,I,rfl,q b H (Same.refl _) ?_⟩
  rw [c,List.nil_append]
  exact hb
 ·refine op_catT pins s σ H (.ref a) (.ref b) v u Q I rx ry ⟨a,b,xs,ys,rfl,rfl,SqT.of ha,SqT.of hb,c,by rw [sizeLine_eq]; omega,fun e=>q a H (Same.refl _) ?_,fun _ p hp=>q p _ (same_new hp _) upd_same⟩
  rw [e,List.append_nil]
  exact ha
end
end L2
namespace L2
open PySem PySem.Spec PyProof.Rows
def Fly (h:Heap) (e C:Addr) (d:Option Addr):Prop:=∃ (oe:Obj) (vs:Array Value),h.get? e=some oe∧oe.cls=.ref C∧oe.dict=d∧oe.data=.fields vs∧1 < vs.size∧
 (vs[1]? = some .none∨∃ T oT ts,vs[1]? = some (.ref T)∧h.get? T=some oT∧oT.data=.fields ts∧ts[3]? = some .none)
def exR (a C:Addr) (d:Option Addr):HO:=.ext fun h=>∃ (oe:Obj) (vs:Array Value),h.get? a=some oe∧oe.cls=.ref C∧oe.dict=d∧oe.data=.fields vs∧1 < vs.size
theorem exR_ok {P:Program} {w:World} {H:Hp} {h:Heap} {a C:Addr} {d:Option Addr} (q:∃ (oe:Obj) (vs:Array Value),h.get? a=some oe∧oe.cls=.ref C∧oe.dict=d∧oe.data=.fields vs∧1 < vs.size):ObjOk P w H h a (exR a C d):=
 ⟨q,let ⟨o,_,e,_⟩:=q; ⟨o,e⟩,fun _ _ ⟨o,vs,e,r⟩ k=>⟨o,vs,k _ e,r⟩⟩
theorem Fly.there {h:Heap} {a C:Addr} {d:Option Addr} (F:Fly h a C d):∃ (oe:Obj) (vs:Array Value),h.get? a=some oe∧oe.cls=.ref C∧oe.dict=d∧oe.data=.fields vs∧1 < vs.size:=
 let ⟨o,vs,e,c,q,f,z,_⟩:=F; ⟨o,vs,e,c,q,f,z⟩
section
variable {M:Model} {A:Around} {E:Value→Shared→Prop} {s:Shared} {base:Heap} {env:Env} {outer:List Env} {L e C:Addr} {d:Option Addr}
def NoteK (env:Env) (outer:List Env) (e:Addr) (h h':Heap):Prop:=
 (∀ b o,b≠e→b∉frs (env :: outer)→h.get? b=some o→h'.get? b=some o)∧∀ b o,b≠e→h.get? b=some o→∃ sl,h'.get? b=some { o with slots:=sl }
theorem entry_ok {oe:Obj} {vs:Array Value} {hd0:Value} {had:Bool} {Q:Unit→Shared→Prop} (hfr:A.frames=some (env :: outer)) (hl:s.heap.FunFrames base (env :: outer)) (hf:env.frame=some L)
  (he:s.heap.get? e=some oe) (hc:oe.cls=.ref C) (hdd:oe.dict=d) (hv:oe.data=.fields vs) (hz:1 < vs.size) (h:∀ h',NoteK env outer e s.heap h'→Fly h' e C d→Q () { s with heap:=h' }) :
  wpAny M A (do let fr ← frameOf env; let pl ← entryPlaceOf L had; let en ← EntryCells.newEntry hd0 fr .none (rawInt L) .none pl; setField (.ref e) 1 en) (fun _ s'=>wpAny M A (setFlight (.ref e) none) Q E s') E s:=by
 have nfr:e∉(env :: outer).filterMap (·.frame):=fun z=>by
  obtain ⟨_,o,q,nf⟩:=hl.mem z
  rw [he] at q
  cases q
  exact nf vs hv
 refine wpAny_bind (wpAny_frameOf_fun hfr hl hf fun h1 k1=>?_)
 refine wpAny_bind (wpAny_entryPlaceOf fun pl hpl=>?_)
 unfold EntryCells.newEntry newFields
 have sz5:=hpl.sizeOk5 hd0 (.ref L) .none (rawInt L) .none
 refine wpAny_bind (wpAny_newObj_type ?_ (hpl.sizeOk5 _ _ _ _ _))
 have g1:h1.get? e=some oe:=(k1.2.1 e nfr).trans he
 have ht3:(([hd0,.ref L,.none,rawInt L,.none] ++ (if pl.isEmpty then List.replicate 6 Value.none else pl)).toArray)[3]? = some (rawInt L):=by simp
 have hts:3 < (([hd0,.ref L,.none,rawInt L,.none] ++ (if pl.isEmpty then List.replicate 6 Value.none else pl)).toArray).size:=(Array.getElem?_eq_some_iff.mp ht3).1
 generalize hoT:([hd0,.ref L,.none,rawInt L,.none] ++ (if pl.isEmpty then List.replicate 6 Value.none else pl)).toArray=ts at ht3 hts
 have g2:=Heap.get?_push_of_some (h:=h1) { cls:=.type "traceback",dict:=none,data:=.fields ts } g1
 refine wpAny_setField g2 hv hz ?_
 have nT:h1.objs.size≠e:=Nat.ne_of_gt (Heap.lt_size g1)
 have v3:=Obj.data_mapFields hv (·.setIfInBounds 1 (Value.ref h1.objs.size))
 have g3:=Heap.get?_update_self (Obj.mapFields (·.setIfInBounds 1 (Value.ref h1.objs.size))) g2 (Obj.isFreed_of_fields v3)
 have t3:((h1.push { cls:=.type "traceback",dict:=none,data:=.fields ts }).update e (Obj.mapFields (·.setIfInBounds 1 (Value.ref h1.objs.size)))).get? h1.objs.size=some { cls:=.type "traceback",dict:=none,data:=.fields ts }:=
  (Heap.get?_update_other _ _ (Ne.symm nT)).trans (Heap.get?_push_size h1 rfl)
 unfold setFlight
 refine wpAny_bind (wpAny_field g3 v3 (x:=.ref h1.objs.size) (by simp [hz]) ?_)
 rw [if_pos (by simp)]
 refine wpAny_setField t3 rfl hts (h _ ⟨fun b o nb nf q=>?_,fun b o nb q=>?_⟩ ?_)
 ·have q1:h1.get? b=some o:=(k1.2.1 b nf).trans q
  rw [Heap.get?_update_other _ _ (Nat.ne_of_gt (Heap.lt_size q1)),Heap.get?_update_other _ _ (Ne.symm nb)]
  exact Heap.get?_push_of_some _ q1
 ·obtain ⟨sl,q1⟩:=k1.2.2 b o q
  refine ⟨sl,?_⟩
  rw [Heap.get?_update_other _ _ (Nat.ne_of_gt (Heap.lt_size q1)),Heap.get?_update_other _ _ (Ne.symm nb)]
  exact Heap.get?_push_of_some _ q1
 ·refine ⟨_,_,(Heap.get?_update_other _ _ nT).trans g3,(Obj.cls_mapFields _ _).trans hc,?_,v3,by simpa using hz,.inr ⟨h1.objs.size,_,_,by simp [hz],Heap.get?_update_self _ t3 (Obj.isFreed_of_fields (Obj.data_mapFields rfl _)),Obj.data_mapFields rfl _,?_⟩⟩
  ·cases oe
   cases hv
   exact hdd
  ·rw [Array.getElem?_setIfInBounds_self_of_lt hts]
   rfl
theorem note_ok {Q:Unit→Shared→Prop} (hfr:A.frames=some (env :: outer)) (hl:s.heap.FunFrames base (env :: outer)) (hf:env.frame=some L) (F:Fly s.heap e C d) (h:∀ h',NoteK env outer e s.heap h'→Fly h' e C d→Q () { s with heap:=h' }) :
  wpAny M A (noteFrame (.ref e) env) (fun _ s'=>wpAny M A (setFlight (.ref e) none) Q E s') E s:=by
 obtain ⟨oe,vs,he,hc,hdd,hv,hz,hT⟩:=F
 unfold noteFrame
 simp only [hf]
 rcases hT with h1 | ⟨T,oT,ts,h1,hT,hdT,h3⟩
 ·refine wpAny_bind (wpAny_field he hv h1 ?_)
  rw [if_neg (by decide)]
  exact entry_ok hfr hl hf he hc hdd hv hz h
 ·refine wpAny_bind (wpAny_field he hv h1 ?_)
  rw [if_pos (by simp)]
  refine wpAny_bind (wpAny_field hT hdT h3 ?_)
  rw [if_neg (show ¬ ((Value.none==rawInt L)=true) from by simp [rawInt])]
  refine wpAny_bind (wpAny_setField hT hdT (Array.getElem?_eq_some_iff.mp h3).1 ?_)
  rw [Heap.update_setField_same s.heap T oT ts 3 .none hT hdT h3]
  exact entry_ok hfr hl hf he hc hdd hv hz h
end
def CXE (P:Program) (w:World):CXT:=fun outer H s E e s'=>∃ (a C:Addr) (d:Option Addr) (H':Hp),e=.ref a∧s'.os=s.os∧AllBare s'.gens∧Un (frs outer) [] H H' s.heap s'.heap∧HOk P w H' s'.heap∧Fly s'.heap a C d∧H' a=some (exR a C d)∧E (.ref a) none H'
section
variable {X:Cx} {pins:List (Addr × Obj)} {σ:St} {H:Hp} {s:Shared} {a C:Addr} {d:Option Addr} {M:Model} {A:Around} {E':Value→Shared→Prop}
theorem note_inv {Q:Unit→Shared→Prop} (I:Inv X pins σ H s) (hA:A.frames=some X.stack) (hst:X.stack=X.env :: X.outer) (hfr:X.env.frame=some X.env.locals) (ha:H a=some (exR a C d)) (F:Fly s.heap a C d)
  (h:∀ h',Inv X pins σ H { s with heap:=h' }→Fly h' a C d→Q () { s with heap:=h' }):wpAny M A (noteFrame (.ref a) X.env) (fun _ s'=>wpAny M A (setFlight (.ref a) none) Q E' s') E' s:=by
 refine note_ok (base:=X.base) (outer:=X.outer) (by rw [hA,hst]) (by rw [← hst]; exact I.stack) hfr F fun h' ⟨k1,k2⟩ F'=>h h' ?_ F'
 have na:∀ b,H b=none→b≠a:=fun b n z=>by rw [z,ha] at n; cases n
 refine I.call (g':=s.gens) (t':=s.toks) (d':=s.drawn) (ch:=[]) ⟨fun b o q n nf _=>k1 b o (na b n) (by rw [← hst]; exact nf) q,fun b o q n _ _=>k2 b o (na b n) q,fun b o q n _=>n,fun b o q _=>?_,fun _ _ q=>q,fun _ _ _ q=>q,fun b ps q=>⟨#[],by rw [q]; simp⟩⟩ (fun b o q=>?_) I.bare (fun b z=>absurd z (by simp))
 ·by_cases z:b=a
  ·obtain ⟨oe,_,e,_⟩:=F'
   exact ⟨oe,by rw [z]; exact e⟩
  ·obtain ⟨sl,e⟩:=k2 b o z q
   exact ⟨_,e⟩
 ·by_cases z:b=a
  ·subst z
   rw [ha] at q
   cases q
   exact exR_ok F'.there
  ·refine (I.hok b o q).stay (fun c v hc r=>k1 c v ?_ ?_ r) (fun _ r=>r) fun _ _ r=>r
   ·rintro rfl
    rcases hc with rfl | hc
    ·exact z rfl
    ·rw [ha] at hc; cases hc
   ·intro hm
    rw [← hst] at hm
    have:=I.stkFree c hm
    rcases hc with rfl | hc
    ·rw [q] at this; cases this
    ·rw [hc] at this; cases this
end
def RX (X:Cx) (E:St→XK):Prop:=∀ (pins:List (Addr × Obj)) (σ:St) (H:Hp) (s:Shared) (a C:Addr) (d:Option Addr),Inv X pins σ H s→H a=some (exR a C d)→Fly s.heap a C d→E σ (.ref a) none H→X.xe (.ref a) s
theorem rx_def {P:Program} {w:World} {K:PySem.W.Frag} {mg:Str→Option Value} {base:Heap} {N:List Str} {qual:Str} {scope:Scope} {f:Addr} {cd:Value} {A:Around} {outer:List Env} {s:Shared} {H:Hp} {E:XK} :
  RX (cxOf (CXE P w) P w K mg base N qual scope f cd A outer s H E) fun _=>E:=by
 intro pins σ H1 s1 a C d I ha F e
 refine wpAny_bind (note_inv I I.ok.frames rfl rfl ha F fun h' I' F'=>?_)
 exact ⟨a,C,d,H1,rfl,I'.os,I'.bare,I'.base,I'.hok,F',ha,e⟩
section
variable {X:Cx} {E:St→XK}
theorem RX.passes {E:XK} (h:RX X fun _=>E):Passes (CXE X.prog X.w) X E:=by
 rintro pins σ H s e s' I ⟨a,C,d,H',rfl,os,bare,un,hok,F,ha,q⟩
 obtain ⟨hh,g,dd,t,os'⟩:=s'
 obtain rfl:os'=s.os:=os
 exact h pins σ H' _ a C d (I.call (h':=hh) (g':=g) (d':=dd) (t':=t) (ch:=[]) un hok bare fun b z=>absurd z (by simp)) ha F q
def tCallX (sp:Sp) (E:St→XK) (t:TA):TE:=fun σ H Q=>t σ H fun vs H1=>sp vs H1 Q (E σ)
theorem run_fnX {k:Nat} {f:Addr} {fd:FuncData} {ps:List Str} {sp:Sp} {pins:List (Addr × Obj)} {σ:St} {H:Hp} {s:Shared} {Q:VK} {us:List Value} {vs:List V} (F:FnOk X.prog X.w X.K X.mg X.base (CXE X.prog X.w) k f fd ps sp) (hr:Room k X.A) (hb:Binds X.K fd ps []) (hx:RX X E)
  (I:Inv X pins σ H s) (r:Vals vs us) (h:sp vs H Q (E σ)):wpAny (model X.prog X.w) X.A (call (.ref f) us) (EP X pins σ Q) X.xe s:=by
 have hl:us.length=ps.length:=r.length.symm.trans (F.len _ _ _ _ h)
 have bd:BindsTo s fd ⟨us,[]⟩ (ps.zip us):=by
  have:=hb s us I.kIn (by rw [List.append_nil]; exact hl)
  rwa [List.append_nil] at this
 refine wpAny_call (codeAny_mono (F.run X.A X.stack s H ⟨us,[]⟩ us vs Q (E σ) hr I.env0 bd r h) fun r s' q=>?_)
 cases r with
 | ok fl=>cases fl with
  | ret u=>exact I.after q
  | _=>exact False.elim q
 | error e=>
  obtain ⟨a,C,d,H',rfl,os,bare,un,hok,F,ha,q⟩:=q
  obtain ⟨hh,g,dd,t,os'⟩:=s'
  obtain rfl:os'=s.os:=os
  exact hx pins σ H' _ a C d (I.call (h':=hh) (g':=g) (d':=dd) (t':=t) (ch:=[]) un hok bare fun b z=>absurd z (by simp)) ha F q
theorem pe_callX {k:Nat} {f:Addr} {fd:FuncData} {ps:List Str} {sp:Sp} {x:Str} {p pos:Pos} {e:Expr} {es:List Expr} {t:TA} (F:FnOk X.prog X.w X.K X.mg X.base (CXE X.prog X.w) k f fd ps sp) (hr:Room k X.A) (hg:Gl X x) (hm:X.mg x=some (.ref f)) (hk:PySem.W.keepIn X.K (.ref f)=true) (hb:Binds X.K fd ps []) (hx:RX X E)
  (ha:PA X (e :: es) t) (hdb:(x==("__debug__" : Str))=false:=by decide) (he:starEach (e :: es) X.env=(false,eval e X.env) :: starEach es X.env:=by rfl) (hpl:(backTo pos (starEach es X.env)).any (·.1)=false:=by rfl) :
  PE X (.Call (.Name x p) (e :: es) [] pos) (tCallX sp E t):=by
 intro pins s σ H Q I h
 refine wpAny_Call_Name_kw (ld_glob I hg hm ?_ hdb)
 exact PySem.W.callWith_K (h₀:=X.base) I.ok.mod.kin hk (thn (ha pos pins s σ H _ I h) fun us s1 ⟨vs,H1,I1,r,q⟩=>⟨I1.kIn,run_fnX F hr hb hx I1 r q⟩) he hpl
def sRaise (K:PySem.W.Frag) (te:TE) (E:St→XK):TS:=fun _ σ H=>te σ H fun x H1=>∃ a C d ini,x=.ref a∧excK K C ini=true∧H1 a=some (exH a C d)∧E σ (.ref a) none (upd H1 a (exR a C d))
theorem raise_ok {s:Shared} {K:PySem.W.Frag} {A:Around} {M:Model} {E0:Value→Shared→Prop} {x:Sem Value} {env:Env} {Q:Flow→Shared→Prop} (hh:A.handled=none)
  (h:wpAny M A x (fun v s1=>∃ a C T d ini,v=.ref a∧ExcC K s1.heap C ini∧s1.heap.get? a=some (exO C T d)∧E0 (.ref a) s1) E0 s):wpAny M A (raiseStmt env (some x) none) Q E0 s:=by
 unfold raiseStmt
 refine wpAny_bind (wpAny_mono h (fun v s1 h1=>?_) fun _ _ z=>z)
 obtain ⟨a,C,T,d,ini,rfl,c,he,hE⟩:=h1
 obtain ⟨nm,q,N,bs,bm,sn,sub,ab,col,dd,k0,k1,k2,k3,k5,mN,hC,hN,hi,Tl⟩:=c.obj
 have hbe:bm.contains (.type "BaseException")=true:=Tl.hasType (by decide)
 have hcB:(Value.ref C :: bm).contains (.type "BaseException")=true:=by rw [List.contains_cons,hbe,Bool.or_true]
 obtain ⟨hp,g,dr,tk,os⟩:=s1
 repeat (first | with_reducible refine wpAny_loadPart_at he ?_ | with_reducible refine wpAny_loadPart_at hC ?_ | (with_reducible refine wpAny_isSubtype_exc hC ?_; rw [hcB]) | wp_step)
 exact wpAny_raiseNew_none hh hE
theorem ps_raise {e:Expr} {te:TE} {pos:Pos} {K:PySem.W.Frag} (he:PE X e te) (hx:RX X E) (hc:X.calm=true:=by rfl) (hK:X.K=K:=by rfl):PS X (.Raise (some e) none pos) (sRaise K te E):=by
 subst hK
 intro pins s σ H D I h
 rw [arm_exec_Raise]
 refine wpAny_bind (wpAny_standAt (raise_ok (K:=X.K) (I.ok.hd hc) (wpAny_bind (thn (he pins s σ H _ I h) fun u s1 ⟨x,H1,I1,rx,a,C,d,ini,ex,ck,ea,q⟩=>wpAny_bind (wpAny_standAt (wpAny_pure ?_))))))
 subst ex
 obtain rfl:u=Value.ref a:=rx
 obtain ⟨⟨T,g⟩,_,_⟩:=(show ObjOk X.prog X.w H1 s1.heap a (exH a C d) from I1.hok a _ ea)
 refine ⟨a,C,T,d,ini,rfl,excC_of I1.kIn ck,g,?_⟩
 have F:Fly s1.heap a C d:=⟨_,_,g,rfl,rfl,rfl,(by show 1 < 6; decide),.inl rfl⟩
 refine hx pins σ _ s1 a C d ?_ upd_same F q
 exact I1.write (t':=s1.toks) (h':=s1.heap) (x:=a) (e:=a) (by rw [ea]; exact True.intro) (.inl rfl) (fun b o _ q=>q) ⟨_,g⟩ (exR_ok F.there)
end
abbrev Cx.near (X:Cx) (A:Around) (c:Bool) (pn:List (Addr × Obj)) (xe:Value→Shared→Prop):Cx:={ X with A:=A,calm:=c,pn:=pn,xe:=xe }
section
variable {X:Cx} {pins pins':List (Addr × Obj)} {σ:St} {H:Hp} {s:Shared} {A:Around} {c:Bool} {pn:List (Addr × Obj)} {xe:Value→Shared→Prop}
theorem Inv.near (I:Inv X pins σ H s) (hA:A.frames=X.A.frames) (hc:c=true→A.handled=none) (hp:∀ p∈pn ++ pins',p∈X.pn ++ pins):Inv (X.near A c pn xe) pins' σ H s:=
 ⟨⟨I.ok.mod,I.ok.kind,I.ok.glob,I.ok.blt,I.ok.above,I.ok.inj,I.ok.has,I.ok.cab,hc,hA.trans I.ok.frames,I.ok.stk,I.ok.exf,I.ok.bs,I.ok.bsz,I.ok.noex,I.ok.exfs,I.ok.funs,I.ok.frf⟩,
  I.os,I.bare,I.base,I.loc,I.cell,I.free,I.freeC,fun p h=>I.pin p (hp p h),I.hok,I.len⟩
theorem Inv.unnear (I:Inv (X.near A c pn xe) pins' σ H s) (hA:X.A.frames=A.frames) (hc:X.calm=true→X.A.handled=none) (hp:∀ p∈X.pn ++ pins,p∈pn ++ pins'):Inv X pins σ H s:=
 ⟨⟨I.ok.mod,I.ok.kind,I.ok.glob,I.ok.blt,I.ok.above,I.ok.inj,I.ok.has,I.ok.cab,hc,hA.trans I.ok.frames,I.ok.stk,I.ok.exf,I.ok.bs,I.ok.bsz,I.ok.noex,I.ok.exfs,I.ok.funs,I.ok.frf⟩,
  I.os,I.bare,I.base,I.loc,I.cell,I.free,I.freeC,fun p h=>I.pin p (hp p h),I.hok,I.len⟩
theorem name_goes {M:Model} {E:Value→Shared→Prop} {i:Nat} {n:Str} {pos:Pos} {Q:Unit→Shared→Prop} (I:Inv X pins σ H s) (hN:X.N.Nodup) (hi:X.N[i]? = some n) (hx:X.env.scope.names.lookup n=some .local)
  (h:∀ s',Inv X pins (σ.set i none) H s'→Q () s'):wpAny M A (do bindName X.env n .none; unbindBehindTheSuite X.env n pos) Q E s:=by
 have hcls:(X.env.scope.kind==.class || (X.env.scope.kind==.module && X.env.locals != X.env.globals))=false:=by rw [I.ok.kind]; rfl
 refine wpAny_bind (wpAny_bindName (store_ok (v:=.non) I hN hi (.inl hx) rfl (fun s1 I1=>?_) (.inr hx)))
 obtain ⟨m,hn,hl⟩:=id I1.loc
 unfold unbindBehindTheSuite
 refine wpAny_onRaise ?_
 unfold unbindName
 refine wpAny_bind (wpAny_point (wpAny_bind ?_))
 unfold deleteName
 simp only [show X.env.kindOf n=some .local from hx,hcls]
 rw [if_neg (by decide)]
 have hm:(m n).isSome=true:=by
  obtain ⟨u,_,z⟩:=hl i n .non hi (List.getElem?_set_self (by rw [I.len]; exact (List.getElem?_eq_some_iff.mp hi).1)) (.inl hx)
  rcases z with ⟨_,e⟩ | ⟨z,_⟩
  ·rw [e]; rfl
  ·rcases z with z | z <;> (rw [show X.env.kindOf n=some .local from hx] at z; cases z)
 refine wpAny_bind (wpAny_nsDel_keeps hn fun h2 v2 hn2 hs=>?_)
 rw [hm]
 simp only [Bool.not_true,Bool.false_eq_true,if_false]
 refine wpAny_pure (wpAny_point (h { s1 with heap:=h2 } ?_))
 have cne:=I1.cne
 obtain ⟨oL,_,_,hoL,_⟩:=id hn
 have nL:∀ b o,X.s₀.heap.get? b=some o→b≠X.env.locals:=fun b o q=>Nat.ne_of_lt (Nat.lt_of_lt_of_le (Heap.lt_size q) I.ok.above)
 refine ⟨I1.ok,I1.os,I1.bare,⟨fun b o e n hb hx=>?_,fun b o e n hb hx=>?_,I1.base.free,fun b o e hx=>?_,I1.base.tups,I1.base.frzs,I1.base.tbls⟩,⟨_,hn2,fun j y v' e1 e2 e3=>?_⟩,fun y c e=>?_,I1.free,I1.freeC,fun p hp=>?_,fun b ob e=>?_,by simpa using I.len⟩
 ·exact (hs.2 b (nL b o e)).trans (I1.base.keep b o e n hb hx)
 ·obtain ⟨sl,q⟩:=I1.base.slot b o e n hb hx
  exact ⟨sl,(hs.2 b (nL b o e)).trans q⟩
 ·obtain ⟨o',q⟩:=I1.base.there b o e hx
  exact ⟨o',(hs.2 b (nL b o e)).trans q⟩
 ·by_cases hj:j=i
  ·subst hj
   rw [List.getElem?_set_self (by rw [I.len]; exact (List.getElem?_eq_some_iff.mp hi).1)] at e2
   cases e2
  ·rw [List.getElem?_set_ne (Ne.symm hj)] at e2
   obtain ⟨u',r',q⟩:=hl j y v' e1 (by rw [List.getElem?_set_ne (Ne.symm hj)]; exact e2) e3
   refine ⟨u',r',?_⟩
   rcases q with ⟨k,e⟩ | ⟨k,c,e,z⟩
   ·have ny:y≠n:=fun e=>hj (nodup_ix hN e1 (e▸hi))
    exact .inl ⟨k,(if_neg ny).trans e⟩
   ·exact .inr ⟨k,c,e,z.sameBut hs (cne y c e)⟩
 ·obtain ⟨w',z⟩:=I1.cell y c e
  exact ⟨w',z.sameBut hs (cne y c e)⟩
 ·obtain ⟨e,n,ne,nf,d⟩:=I1.pin p hp
  exact ⟨(hs.2 p.1 ne).trans e,n,ne,nf,d⟩
 ·refine (I1.hok b ob e).stay (fun c w' hc q=>(hs.2 c ?_).trans q) (fun _ q=>q) fun _ _ q=>q
  rintro rfl
  rcases hc with rfl | hc
  ·rw [I1.free] at e; cases e
  ·rw [I1.free] at hc; cases hc
theorem flight_ok {M:Model} {E:Value→Shared→Prop} {a C:Addr} {d:Option Addr} {Q:Unit→Shared→Prop} (F:Fly s.heap a C d) (h:Q () s):wpAny M A (setFlight (.ref a) none) Q E s:=by
 obtain ⟨oe,vs,he,hc,hdd,hv,hz,hT⟩:=F
 unfold setFlight
 rcases hT with h1 | ⟨T,oT,ts,h1,hT,hdT,h3⟩
 ·refine wpAny_bind (wpAny_field he hv h1 ?_)
  rw [if_neg (by decide)]
  exact wpAny_pure h
 ·refine wpAny_bind (wpAny_field he hv h1 ?_)
  rw [if_pos (by simp)]
  refine wpAny_setField hT hdT (Array.getElem?_eq_some_iff.mp h3).1 ?_
  show Q () { s with heap:=s.heap.update T (Obj.mapFields (·.setIfInBounds 3 .none)) }
  rw [Heap.update_setField_same s.heap T oT ts 3 .none hT hdT h3]
  exact h
end
def EX (K:PySem.W.Frag) (Cs:Addr) (i j:Nat) (D:Ends):St→XK:=fun σ v _ H=>∃ a C d,v=.ref a∧H a=some (exR a C d)∧PySem.W.exmOne K (.ref C) (.ref Cs)=some true∧D.nx (((σ.set i (some (.ref a))).set j (some (.ref a))).set i none) H
def tTry (K:PySem.W.Frag) (Cs:Addr) (i j:Nat) (tb:(St→XK)→TS):TS:=fun D σ H=>tb (EX K Cs i j D) D σ H
theorem ps_try {X:Cx} {K:PySem.W.Frag} {Cs:Addr} {i j:Nat} {cls n x:Str} {body:List Stmt} {p p1 p2 p3 hp pos:Pos} {tb:(St→XK)→TS} (hN:X.N.Nodup) (hi:X.N[i]? = some n) (hj:X.N[j]? = some x) (hxn:X.env.scope.names.lookup n=some .local) (hxx:X.env.scope.names.lookup x=some .local)
  (hm:X.mg cls=some (.ref Cs)) (hst:X.stack=X.env :: X.outer) (hfr:X.env.frame=some X.env.locals)
  (hb:∀ (pn:List (Addr × Obj)) (xe:Value→Shared→Prop) (E:St→XK),RX (X.near X.A X.calm pn xe) E→PSs (X.near X.A X.calm pn xe) body (tb E))
  (hg:Gl X cls:=by rfl) (hK:X.K=K:=by rfl) (hdb:(cls==("__debug__" : Str))=false:=by decide) (hd1:(n==("__debug__" : Str))=false:=by decide) (hd2:(n==("__classdict__" : Str))=false:=by decide) (hs:swapsWith (.Name n p2) (some (.Name x p1)) p3.line X.env=pure false:=by rfl) :
  PS X (.Try body [.ExceptHandler (some (.Name cls p)) (some n) [.Assign [.Name x p1] (.Name n p2) p3] hp] [] [] pos) (tTry K Cs i j tb):=by
 subst hK
 intro pins s σ H D I h
 refine wpAny_Try_except ?_
 generalize hXE:(fun (e:Value) (s1:Shared)=>wpAny (model X.prog X.w) X.A (noteFrame e X.env) (fun _ s2=>wpAny (model X.prog X.w) X.A (setFlight e none) (fun _ s3=>wpAny (model X.prog X.w) X.A (handleBy e X.env [.ExceptHandler (some (.Name cls p)) (some n) [.Assign [.Name x p1] (.Name n p2) p3] hp]) (SP X pins D) X.xe s3) X.xe s2) X.xe s1)=XE
 have mA:∀ p∈X.pn ++ pins,p∈(X.pn ++ pins) ++ ([]:List (Addr × Obj)):=fun p h=>by rw [List.append_nil]; exact h
 have I':Inv (X.near X.A X.calm (X.pn ++ pins) XE) [] σ H s:=I.near rfl I.ok.hd fun p h=>by rw [List.append_nil] at h; exact h
 have back:∀ {pins' σ H s},Inv (X.near X.A X.calm (X.pn ++ pins) XE) pins' σ H s→Inv X pins σ H s:=fun I=>I.unnear rfl I.ok.hd fun p h=>List.mem_append_left _ h
 have rx:RX (X.near X.A X.calm (X.pn ++ pins) XE) (EX X.K Cs i j D):=by
  rintro pins' σ1 H1 s1 a C d I1 ha F ⟨a',C',d',e,ha',hex,q⟩
  cases e
  rw [ha] at ha'
  have hCC:C'=C:=by
   obtain ⟨o1,v1,g1,c1,_⟩:=F.there
   obtain ⟨⟨o2,v2,g2,c2,_⟩,_⟩:=(show ObjOk X.prog X.w H1 s1.heap a (exR a C' d') from I1.hok a _ (ha.trans ha'))
   rw [g1] at g2
   cases g2
   rw [c1] at c2
   cases c2
   rfl
  subst hCC
  have I1:=back I1
  show XE (.ref a) s1
  rw [← hXE]
  refine note_inv I1 I1.ok.frames hst hfr ha F fun h2 I2 F2=>?_
  have F2:Fly ({ s1 with heap:=h2 }:Shared).heap a C' d:=F2
  generalize ({ s1 with heap:=h2 }:Shared)=s2 at I2 F2
  have I3:Inv (X.near (X.A.mark (some (.ref a))) false X.pn fun _ _=>False) pins σ1 H1 s2:=I2.near rfl (fun z=>nomatch z) fun p h=>h
  refine wpAny_handleBy_cons (codeAny_handlers_test (ld_glob (X:=X.near (X.A.mark (some (.ref a))) false X.pn fun _ _=>False) I3 hg hm ?_ hdb)) (by intro z; cases z)
  have LT:PySem.W.Looks (model X.prog X.w) s2.heap (typeOf (.ref a)) (.ref C'):=by
   obtain ⟨oe,vs,ge,hc,_⟩:=F2
   exact hc▸(PySem.W.Looks.ld ge).andThen .now
  refine (PySem.W.exm_one I2.kIn LT hex).here ?_
  refine codeAny_handlers_suite_as (flight_ok F2 (store_ok (v:=.ref a) I2 hN hi (.inl hxn) rfl (fun s4 I4=>?_) (.inr hxn)))
  have I4:Inv (X.near (X.A.mark (some (.ref a))) false X.pn fun _ _=>False) pins (σ1.set i (some (.ref a))) H1 s4:=I4.near rfl (fun z=>nomatch z) fun p h=>h
  refine wpAny_mono (pss_one (ps_set (X:=X.near (X.A.mark (some (.ref a))) false X.pn fun _ _=>False) hN hj (.inl hxx) (pe_var hi (.inl hxn) hd1 hd2) hs (.inr hxx)) pins s4 _ H1 { nx:=fun σ' H'=>σ'=(σ1.set i (some (.ref a))).set j (some (.ref a))∧H'=H1,rt:=fun _ _=>False } I4 ?_) (fun f s5 q5=>?_) fun _ _ z=>z.elim
  ·exact ⟨_,List.getElem?_set_self (by rw [I2.len]; exact (List.getElem?_eq_some_iff.mp hi).1),rfl,rfl⟩
  ·cases f with
   | next=>
    obtain ⟨σ5,H5,I5,rfl,rfl⟩:=q5
    have I6:Inv X pins ((σ1.set i (some (.ref a))).set j (some (.ref a))) H5 s5:=I5.unnear rfl I2.ok.hd fun p h=>h
    exact name_goes I6 hN hi hxn fun s7 I7=>⟨_,H5,I7,q⟩
   | ret u=>obtain ⟨_,_,_,_,_,z⟩:=q5; exact z.elim
   | brk=>obtain ⟨_,_,_,z⟩:=q5; exact z.elim
   | cont=>obtain ⟨_,_,_,z⟩:=q5; exact z.elim
 refine wpAny_mono (hb _ XE _ rx [] s σ H D I' h) (fun f s1 q=>?_) fun _ _ q=>q
 cases f with
 | next=>
  obtain ⟨σ1,H1,I1,q⟩:=q
  exact wpAny_execs_nil ⟨σ1,H1,back I1,q⟩
 | ret u=>
  obtain ⟨v,σ1,H1,I1,r,q⟩:=q
  exact ⟨v,σ1,H1,back I1,r,q⟩
 | brk=>obtain ⟨σ1,H1,I1,q⟩:=q; exact ⟨σ1,H1,back I1,q⟩
 | cont=>obtain ⟨σ1,H1,I1,q⟩:=q; exact ⟨σ1,H1,back I1,q⟩
end L2
namespace L2
open PySem PySem.Spec PyProof.Rows
def ExnR (H:Hp) (a C:Addr) (fs:List (Str × V)):Prop:=(H a=some (exR a C none)∧fs=[])∨∃ dx,H a=some (exR a C (some dx))∧H dx=some (xdH dx fs)
theorem ExnR.same {H H':Hp} {a C:Addr} {fs:List (Str × V)} (h:ExnR H a C fs) (e:Same H H'):ExnR H' a C fs:=by
 rcases h with ⟨h1,h2⟩ | ⟨dx,h1,h2⟩
 ·exact .inl ⟨e _ _ h1,h2⟩
 ·exact .inr ⟨dx,e _ _ h1,e _ _ h2⟩
section
variable {X:Cx} {pins:List (Addr × Obj)} {σ:St} {H:Hp} {s:Shared} {a C:Addr} {fs:List (Str × V)} {A:Around} {E:Value→Shared→Prop}
theorem ExnR.inst (I:Inv X pins σ H s) (e:ExnR H a C fs):∃ ox od,PySem.W.InstAt s.heap a ox C od∧∀ f v,fs.lookup f=some v→∃ o u,od=some o∧PySem.W.lookIn f o=some (some u)∧RelV v u:=by
 rcases e with ⟨h1,rfl⟩ | ⟨dx,h1,h2⟩
 ·obtain ⟨⟨oe,vs,g,c,d,fl,_⟩,_,_⟩:=(show ObjOk X.prog X.w H s.heap a (exR a C none) from I.hok a _ h1)
  obtain ⟨cls,dct,dat,sl⟩:=oe
  cases c
  cases d
  cases fl
  exact ⟨_,none,⟨g,rfl,rfl,True.intro⟩,fun f v z=>by cases z⟩
 ·obtain ⟨⟨oe,vs,g,c,d,fl,_⟩,_,_⟩:=(show ObjOk X.prog X.w H s.heap a (exR a C (some dx)) from I.hok a _ h1)
  obtain ⟨cls,dct,dat,sl⟩:=oe
  cases c
  cases d
  cases fl
  obtain ⟨⟨mA,n,r,_⟩,_,_⟩:=(show ObjOk X.prog X.w H s.heap dx (xdH dx fs) from I.hok dx _ h2)
  obtain ⟨od,ho,hl⟩:=lookIn_ns n
  refine ⟨_,some od,⟨g,rfl,rfl,ho⟩,fun f v z=>?_⟩
  obtain ⟨u,hu,ru⟩:=RelO.some_of (v:=v) (o:=mA f) (by rw [← z]; exact r f)
  exact ⟨od,u,rfl,by rw [hl,hu],ru⟩
def tXFldR (K:PySem.W.Frag) (ta:TE) (f:Str):TE:=fun σ H Q=>ta σ H fun x H1=>∃ a C fs v,x=.ref a∧ExnR H1 a C fs∧ExcF K C∧NoAttr K C f∧fs.lookup f=some v∧Q v H1
theorem pe_xfldR {K:PySem.W.Frag} {e:Expr} {ta:TE} {f:Str} {pos:Pos} (he:PE X e ta) (hb:attributeBase e f X.env (eval e X.env)=eval e X.env:=by rfl) (hK:X.K=K:=by rfl):PE X (.Attribute e f pos) (tXFldR K ta f):=by
 subst hK
 intro pins s σ H Q I h
 refine attr_of hb (thn (he pins s σ H _ I h) fun u s1 ⟨x,H1,I1,rx,a,C,fs,v,ex,ea,c,n,l,q⟩=>?_)
 subst ex
 obtain rfl:u=Value.ref a:=rx
 obtain ⟨ox,od,J,hl⟩:=ea.inst I1
 obtain ⟨o,u,rfl,h1,ru⟩:=hl f v l
 exact exc_value I1.kIn J c.ga c.gn c.be (PySem.W.findObj_own c.hasD n rfl h1) (handed_of ru) ⟨v,H1,I1.tok _,ru,q⟩
def rIsR (K:PySem.W.Frag):List V→Hp→VK→Prop:=fun xs H Q=>∃ a C fs c u b,xs=[.ref a,c]∧ExnR H a C fs∧ExcF K C∧RelV c u∧((∃ n,c=.ty n)∨∃ d,c=.ref d)∧PySem.W.kitOne K (.ref C) u=some b∧Q (.bl b) H
theorem call_isR {K:PySem.W.Frag} (hK:X.K=K:=by rfl):CallR X (.builtin "isinstance") (rIsR K):=by
 subst hK
 intro pins s σ H xs us Q I r h
 obtain ⟨a,C,fs,c,u,b,rfl,e,cf,rc,kc,hk,q⟩:=h
 obtain ⟨u1,u2,rfl,r1,r2⟩:=Vals.two r
 obtain rfl:u1=Value.ref a:=r1
 obtain rfl:u2=u:=RelV.ty_inj r2 rc kc
 obtain ⟨ox,od,J,_⟩:=e.inst I
 exact PySem.W.kia_one (kitx_exc cf) I.kIn J hk (fun z=>nomatch z) fun tk=>⟨.bl b,H,I.tok _,rfl,q⟩
theorem flat_bls (bs:List Bool):(bs.map V.bl).all flatV=true:=by
 induction bs with
 | nil=>rfl
 | cons e r ih=>rw [List.map_cons,List.all_cons,ih]; rfl
theorem vals_bl:∀ {bs:List Bool} {us:List Value},Vals (bs.map V.bl) us→us=bs.map Value.bool
 | [],_,.nil=>rfl
 | _ :: _,_,.cons r t=>by
  rw [vals_bl t]
  cases r
  rfl
theorem eqU_bl (b:Bool):eqU (.bl true) (.bool b)=b:=by cases b <;> decide
def rCountB:V→List V→Hp→VK→Prop:=fun x vs H Q=>∃ (l:Addr) (bs:List Bool),x=.ref l∧vs=[.bl true]∧H l=some (.lst (bs.map V.bl))∧Q (.int (bs.countP id:Nat)) H
theorem mt_countB:MtM X "list.count" rCountB:=by
 intro pins s σ H x vs v us Q I rx rv h
 obtain ⟨l,bs,rfl,rfl,hH,q⟩:=h
 cases rx
 obtain ⟨u,rfl,ru⟩:=rv.one
 obtain ⟨z,its,n,r,hl,e⟩:=I.lstM hH
 have hc:its.toArray.toList.countP (eqU (.bl true))=bs.countP id:=by
  rw [List.toList_toArray,vals_bl r,List.countP_map]
  congr 1
  funext b
  exact eqU_bl b
 refine call_meets F.slot_list_count ⟨_,e,rfl⟩ F.entry_list_count (F.args_list_count_2 _ _) (SeqAt.list_countAt l its.toArray n none #[] u (eqU (.bl true))) ⟨e,fun w hw=>?_,?_⟩
 ·exact mem_eqAt ru rfl r (flat_bls bs) w (by simpa using hw)
 ·rw [hc]
  exact ⟨.int (bs.countP id:Nat),H,I.tok _,⟨_,rfl⟩,q⟩
def rIndexB:V→List V→Hp→VK→Prop:=fun x vs H Q=>∃ (l:Addr) (bs:List Bool) (j:Nat),x=.ref l∧vs=[.bl true]∧H l=some (.lst (bs.map V.bl))∧bs[j]? = some true∧(∀ m,m < j→bs[m]? = some false)∧Q (.int (j:Nat)) H
theorem mt_indexB:MtM X "list.index" rIndexB:=by
 intro pins s σ H x vs v us Q I rx rv h
 obtain ⟨l,bs,j,rfl,rfl,hH,hj,hm,q⟩:=h
 cases rx
 obtain ⟨u,rfl,ru⟩:=rv.one
 obtain ⟨z,its,n,r,hl,e⟩:=I.lstM hH
 have hlen:its.length=bs.length:=by have:=r.length; rw [List.length_map] at this; exact this.symm
 have hjl:=(List.getElem?_eq_some_iff.mp hj).1
 have hat:∀ (m:Nat) (hm:m < its.toArray.size) (b:Bool),bs[m]? = some b→eqU (.bl true) its.toArray[m]=b:=fun m hm b hb=>by
  have e1:its[m]? = some (Value.bool b):=by rw [vals_bl r,List.getElem?_map,hb]; rfl
  have e2:its.toArray[m]=Value.bool b:=by
   rw [List.getElem_toArray]
   exact (List.getElem?_eq_some_iff.mp e1).2
  rw [e2]
  exact eqU_bl b
 refine call_meets F.slot_list_index ⟨_,e,rfl⟩ F.entry_list_index (F.args_list_index_2 _ _)
  (SeqAt.list_indexAt l its.toArray n none #[] u (eqU (.bl true)) j (by rw [List.size_toArray]; omega) (by rw [List.length_map,sizeLine_eq] at z; omega) (hat _ _ _ hj) fun m hm' hlt=>hat _ _ _ (hm m hlt)) ⟨e,fun w hw=>?_,?_⟩
 ·exact mem_eqAt ru rfl r (flat_bls bs) w (by simpa using hw)
 ·exact ⟨.int (j:Nat),H,I.tok _,⟨_,rfl⟩,q⟩
end
section
variable {P:Program} {w:World} {K:PySem.W.Frag} {mg:Str→Option Value} {base:Heap}
theorem Fun.okX {x qual:Str} {st:Stmt} {f:Addr} {fd:FuncData} {N ps:List Str} {k:Nat} {sp:Sp} (F:Fun K x qual st f fd) (S:FnScope N ps (defScope st)) (len:∀ vs H Q E,sp vs H Q E→vs.length=ps.length)
  (hbody:∀ (A:Around) (outer:List Env) (s:Shared) (H:Hp) (vs:List V) (Q:VK) (E:XK),Room k (A.deeper (envOfC qual (defScope st) s.heap.objs.size f fd.code))→sp vs H Q E→
   ∃ t,PSs (cxOf (CXE P w) P w K mg base N qual (defScope st) f fd.code A outer s H E) (defBody st) t∧t { nx:=fun _ H'=>Q .non H',rt:=Q } (start N vs) H):FnOk P w K mg base (CXE P w) (k+1) f fd ps sp:=by
 obtain ⟨oc,od,kV,doc,pm,an,cdv,ct,osl,rfl,lk,hcd⟩:=F.ex
 exact fn_of lk hcd S len fun A outer s H vs Q E hr hsp=>hbody A outer s H vs Q E hr hsp
structure CalR (P:Program) (w:World) (K:PySem.W.Frag) (mg:Str→Option Value) (base:Heap) (x:Str) (k:Nat) (ps:List Str) (sp:Sp) where
 f:Addr
 fd:FuncData
 ok:FnOk P w K mg base (CXE P w) k f fd ps sp
 at_:mg x=some (.ref f)
 kp:PySem.W.keepIn K (.ref f)=true
 b:Binds K fd ps []
theorem FnOk.calm {k:Nat} {f:Addr} {fd:FuncData} {ps:List Str} {sp:Sp} (F:FnOk P w K mg base (CXE P w) k f fd ps sp):FnOk P w K mg base CX0 k f fd ps (fun vs H Q _=>sp vs H Q fun _ _ _=>False):=
 ⟨fun vs H Q E h=>F.len vs H Q _ h,fun A outer s H args us vs Q E hr he hb hv hs=>codeAny_mono (F.run A outer s H args us vs Q _ hr he hb hv hs) fun r s' q=>by
  cases r with
  | error e=>obtain ⟨a,C,d,H',_,_,_,_,_,_,_,z⟩:=q; exact z.elim
  | ok fl=>cases fl <;> exact q⟩
def CalR.calm {x:Str} {k:Nat} {ps:List Str} {sp:Sp} (C:CalR P w K mg base x k ps sp):Cal P w K mg base x k ps (fun vs H Q _=>sp vs H Q fun _ _ _=>False):=⟨C.f,C.fd,C.ok.calm,C.at_,C.kp,C.b⟩
end
theorem pe_r {X:Cx} {E:St→XK} {x:Str} {k:Nat} {ps:List Str} {sp:Sp} {p pos:Pos} {e:Expr} {es:List Expr} {t:TA} (C:CalR X.prog X.w X.K X.mg X.base x k ps sp) (hr:Room k X.A) (hx:RX X E) (ha:PA X (e :: es) t) (hg:Gl X x:=by rfl)
  (hdb:(x==("__debug__" : Str))=false:=by decide) (he:starEach (e :: es) X.env=(false,eval e X.env) :: starEach es X.env:=by rfl) (hpl:(backTo pos (starEach es X.env)).any (·.1)=false:=by rfl) :
  PE X (.Call (.Name x p) (e :: es) [] pos) (tCallX sp E t):=pe_callX C.ok hr hg C.at_ C.kp C.b hx ha hdb he hpl
end L2
namespace L2
open PySem PySem.Spec PyProof.Rows
section
variable {X:Cx} {es:List Expr} {n:Nat} {tp:Pos}
end
end L2
namespace L2
open PySem PySem.Spec PyProof.Rows
section
variable {P:Program} {w:World} {A:Around} {E:Value→Shared→Prop} {s:Shared} {r t:Addr} {items:Array Value}
theorem collect_rv {Q:List Value→Shared→Prop} (hh:A.handled=none) (hr:RvAt s.heap r t ((items.size:Int) - 1)) (ht:IsTup s.heap t items) (hz:items.size≤sizeLine) (hne:t≠r)
  (hQ:∀ h' tk acc,(∀ b o,b≠r→s.heap.get? b=some o→h'.get? b=some o)→ItemsOf (fun i v=>items[items.size - 1 - i]? = some v) acc items.size→Q acc.toList { s with heap:=h',toks:=tk }) :
  wpAny (model P w) A (collect (.ref r)) Q E s:=by
 have lr:r < s.heap.objs.size:=let ⟨_,e,_⟩:=hr; Heap.lt_size e
 have lt:t < s.heap.objs.size:=let ⟨_,e,_⟩:=ht; Heap.lt_size e
 unfold collect
 refine wpAny_bind (wpAny_runValue (codeAny_builtin F.entry_proto_collect ?_))
 rw [Around.under_plainId F.plain_proto_collect _]
 show wpAny _ A.in1 (newList [] >>= fun l=>again (.builtin "list.__iadd__" ⟨[l,.ref r],[]⟩)) _ _ s
 refine wpAny_bind (wpAny_newObj_type ?_)
 refine wpAny_pure ⟨plainId_quiet F.plain_list_iadd _,codeAny_builtin F.entry_list_iadd ?_⟩
 rw [Around.under_plainId F.plain_list_iadd _]
 show wpAny _ A.in1 (Builtin.List.listExtendWith (.ref s.heap.objs.size) (.ref r) (.ref s.heap.objs.size)) _ _ _
 have hS:(s.heap.push { cls:=.type "list",data:=.seq ([]:List Value).toArray }).get? s.heap.objs.size=some { cls:=.type "list",data:=.seq #[] 0 }:=Heap.get?_push_size _ rfl
 have fin':∀ h' tk acc c,(∀ b o,b≠r→s.heap.get? b=some o→h'.get? b=some o)→h'.get? s.heap.objs.size=some { cls:=.type "list",dict:=none,data:=.seq acc c,slots:=#[] }→ItemsOf (fun i v=>items[items.size - 1 - i]? = some v) acc items.size→
   wpAny (model P w) A (match Value.ref s.heap.objs.size with
   | Value.ref a=>do
    match (← load a).data with
     | Data.seq xs _=>pure xs.toList
     | _=>unsupported "internal:collect"
   | _=>unsupported "internal:collect") Q E { s with heap:=h',toks:=tk }:=fun h' tk acc c kp hD hacc=>by
  show wpAny _ A (load s.heap.objs.size >>= _) _ _ _
  refine wpAny_bind (wpAny_load hD ?_)
  exact wpAny_pure (hQ h' tk acc kp hacc)
 refine wpAny_mono (ext_rv (A:=A) (S:=s.heap.objs.size) (res:=.ref s.heap.objs.size) (R:=fun q s'=>∃ h' tk acc c,q=.ok (.ret (.ref s.heap.objs.size))∧s' = { s with heap:=h',toks:=tk }∧(∀ b o,b≠r→s.heap.get? b=some o→h'.get? b=some o)∧h'.get? s.heap.objs.size=some { cls:=.type "list",dict:=none,data:=.seq acc c,slots:=#[] }∧ItemsOf (fun i v=>items[items.size - 1 - i]? = some v) acc items.size)
  (s:={ s with heap:=s.heap.push { cls:=.type "list",data:=.seq ([]:List Value).toArray } }) hh (hr.to fun o e=>Heap.get?_push_of_some _ e) (tup_to ht fun o e=>Heap.get?_push_of_some _ e) hz hne (Nat.ne_of_gt lr) (Nat.ne_of_gt lt) hS
  fun h' tk acc c kp hD hacc=>⟨h',tk,acc,c,rfl,rfl,fun b o hb e=>kp b o (Nat.ne_of_lt (Heap.lt_size e)) hb (Heap.get?_push_of_some _ e),hD,hacc⟩) (fun fin s' h=>?_) (fun e s' h=>?_)
 ·cases fin with
  | done f=>
   obtain ⟨h',tk,acc,c,e,rfl,kp,hD,hacc⟩:=h
   cases e
   exact fin' h' tk acc c kp hD hacc
  | again c'=>exact ⟨h.1,codeAny_mono h.2 fun q s'' hq=>by obtain ⟨h',tk,acc,c,rfl,rfl,kp,hD,hacc⟩:=hq; exact fin' h' tk acc c kp hD hacc⟩
 ·obtain ⟨_,_,_,_,e,_⟩:=h
  cases e
open AutoSeq1 (wpAny_loadPart') in
theorem tupNewRv (r t:Addr) (items:Array Value) (hz:items.size≤sizeLine) (hne:t≠r) :
  Meets (Builtin.«tuple.__new__» ⟨[.type "tuple",.ref r],[]⟩) (fun A R s=>A.handled=none∧RvAt s.heap r t ((items.size:Int) - 1)∧IsTup s.heap t items∧
   ∀ (h':Heap) (tk:Nat) (acc:Array Value),(∀ b o,b≠r→s.heap.get? b=some o→h'.get? b=some o)→ItemsOf (fun i v=>items[items.size - 1 - i]? = some v) acc items.size→
    R (.ok (.ret (.ref h'.objs.size))) { s with heap:=h'.push { cls:=.type "tuple",data:=.seq acc },toks:=tk }):=
 .of_wp fun prog w A R s h=>by
  obtain ⟨hh,hr,ht,h⟩:=h
  have hsub:=sub_tuple_self
  have hinit:=init_tuple_lookup
  have hmh:=madeHere_tuple
  have hT:=hr.typeIs
  obtain ⟨o,ho,oc,od⟩:=id hr
  have hh1:A.in1.handled=none:=hh
  obtain ⟨hp,g,d,tk,os⟩:=s
  wp_walk using wpAny_loadPart' ho,wpAny_typeOf hT,collect_rv hh1 hr ht hz hne
  intro h' tk acc kp hacc
  show wpAny _ _ (Builtin.Tuple.tupleExact acc.toList.toArray >>= fun v=>ret v) _ _ _
  unfold Builtin.Tuple.tupleExact
  refine wpAny_bind (wpAny_newObj_type ?_ (show acc.toList.toArray.size≤sizeLine by simp only [Array.toArray_toList]; rw [hacc.1]; exact hz))
  refine wpAny_pure ⟨_,rfl,?_⟩
  have e:acc.toList.toArray=acc:=by simp
  rw [e]
  exact h h' tk acc kp hacc
theorem tup_rv {Q:Value→Shared→Prop} (hh:A.handled=none) (hr:RvAt s.heap r t ((items.size:Int) - 1)) (ht:IsTup s.heap t items) (hz:items.size≤sizeLine) (hne:t≠r)
  (hQ:∀ (h':Heap) (tk:Nat) (acc:Array Value),(∀ b o,b≠r→s.heap.get? b=some o→h'.get? b=some o)→ItemsOf (fun i v=>items[items.size - 1 - i]? = some v) acc items.size→Q (.ref h'.objs.size) { s with heap:=h'.push { cls:=.type "tuple",data:=.seq acc },toks:=tk }) :
  wpAny (model P w) A (call (.type "tuple") [.ref r]) Q E s:=
 callType_new F.called_tuple (by decide) (F.typeCall_tuple_1 _) (F.newCall_tuple_1 _) (fun obj=>F.args_object_init_2 obj _) F.entry_tuple_new
  (tupNewRv r t items hz hne) ⟨hh,hr,ht,fun h' tk acc kp hacc=>⟨⟨_,Heap.get?_push_size _ rfl,rfl⟩,hQ h' tk acc kp hacc⟩⟩
end
section
variable {X:Cx}
def tTupRv (K:PySem.W.Frag) (te:TE):TE:=fun σ H Q=>te σ H fun x H1=>∃ a xs,x=.ref a∧SqT K H1 a xs∧∀ l,H1 l=none→Q (.ref l) (upd H1 l (.tup xs.reverse))
theorem pe_tupRv {K:PySem.W.Frag} {e:Expr} {te:TE} {p p2 pos pos2:Pos} (hc:X.calm=true) (hg:Gl X "tuple") (hm:X.mg "tuple" = none) (hg2:Gl X "reversed") (hm2:X.mg "reversed" = none) (he:PE X e te) (hK:X.K=K:=by rfl)
  (h1:starEach [.Call (.Name "reversed" p2) [e] [] pos2] X.env=(false,eval (.Call (.Name "reversed" p2) [e] [] pos2) X.env) :: starEach [] X.env:=by rfl)
  (h2:starEach [e] X.env=(false,eval e X.env) :: starEach [] X.env:=by rfl):PE X (.Call (.Name "tuple" p) [.Call (.Name "reversed" p2) [e] [] pos2] [] pos) (tTupRv K te):=by
 subst hK
 intro pins s σ H Q I h
 refine wpAny_Call_Name_kw (ld_blt I hg hm bt_tuple ?_)
 refine PyProof.Rows.callWith_type1 ?_ h1 rfl
 rw [h1]
 show wpAny _ _ (spliced ((false,eval _ X.env) :: backTo pos (starEach [] X.env))) _ _ s
 refine Calls.spliced_cons (wpAny_Call_Name_kw (ld_blt I hg2 hm2 bt_reversed (PyProof.Rows.callWith_type1 (thn (pa_cons he pa_nil h2 pos2 pins s σ H (fun vs H1=>match vs with | [x]=>∃ a xs,x=.ref a∧SqT X.K H1 a xs∧∀ l,H1 l=none→Q (.ref l) (upd H1 l (.tup xs.reverse)) | _=>False) I h) fun us s1 ⟨vs,H1,I1,r1,q1⟩=>?_) h2 rfl)))
 obtain ⟨x0,e0,a,xs,e1,hx,q⟩:∃ x0,vs=[x0]∧∃ a xs,x0=.ref a∧SqT X.K H1 a xs∧∀ l,H1 l=none→Q (.ref l) (upd H1 l (.tup xs.reverse)):=by
  match vs,q1 with
  | [x0],q1=>exact ⟨x0,rfl,q1⟩
 subst e0 e1
 obtain ⟨u,rfl,ru⟩:=Vals.one r1
 obtain rfl:u=Value.ref a:=ru
 obtain ⟨its,r,ht,hz⟩:=I1.tuple hx
 have hlen:its.toArray.size=xs.length:=by rw [List.size_toArray]; exact r.length.symm
 refine call_rv ht (by rw [hlen]; exact hz) fun tk=>Calls.spliced_nil ?_
 have la:a < s1.heap.objs.size:=let ⟨_,e,_⟩:=ht; Heap.lt_size e
 refine tup_rv (r:=s1.heap.objs.size) (I1.ok.hd hc) ⟨_,Heap.get?_push_size _ rfl,rfl,rfl⟩ (tup_to ht fun o e=>Heap.get?_push_of_some _ e) (by rw [hlen]; exact hz) (Nat.ne_of_lt la) fun h' tk' acc kp hacc=>?_
 have kp':∀ b o,s1.heap.get? b=some o→h'.get? b=some o:=fun b o e=>kp b o (Nat.ne_of_lt (Heap.lt_size e)) (Heap.get?_push_of_some _ e)
 have hv:acc.toList=its.reverse:=by
  refine List.ext_getElem ?_ fun i a1 a2=>?_
  ·rw [Array.length_toList,hacc.1,List.length_reverse,List.size_toArray]
  ·have:=hacc.2 i acc.toList[i] (by rw [← Array.getElem?_toList]; exact List.getElem?_eq_getElem a1)
   rw [List.size_toArray,List.getElem?_toArray] at this
   rw [List.getElem_reverse]
   have hl:its.length - 1 - i < its.length:=by rw [List.length_reverse] at a2; omega
   rw [List.getElem?_eq_getElem hl] at this
   exact (Option.some.inj this).symm
 have I2:Inv X pins σ H1 { s1 with heap:=h',toks:=tk' }:=I1.kept (t':=tk') kp'
 refine ⟨.ref h'.objs.size,_,I2.laid (t':=tk') (fun b o e=>Heap.get?_push_of_some _ e) (Nat.le_refl _) (show ObjOk X.prog X.w _ _ _ (.tup xs.reverse) from ⟨by rw [List.length_reverse]; exact hz,acc.toList,by rw [hv]; exact vals_rev r,⟨_,Heap.get?_push_size _ rfl,rfl,_,by rw [Array.toArray_toList]⟩⟩),rfl,q _ (I2.hok.fresh (Nat.le_refl _))⟩
end
end L2
namespace My
open PySem PySem.Spec PyProof.Rows L2
def top (i:Nat):Stmt:=PySem.Challenge.pw_spreadwords_k16_machines_looked_at.main.body.getD i (.Pass ⟨0,0,0,0⟩)
abbrev s_rising:Stmt:=top 8
abbrev s_is_word:Stmt:=top 9
abbrev s_is_letters:Stmt:=top 10
abbrev s_all_there:Stmt:=top 13
abbrev s_look_steps:Stmt:=top 14
abbrev s_look_machine:Stmt:=top 15
abbrev s_law_flow:Stmt:=top 17
abbrev s_law_pick:Stmt:=top 18
abbrev s_law_alike:Stmt:=top 19
abbrev s_law_letters:Stmt:=top 20
abbrev s_law_machine:Stmt:=top 21
abbrev s_law_caught:Stmt:=top 22
abbrev s_law_spoilt_letters:Stmt:=top 23
abbrev s_law_spoilt_ends:Stmt:=top 24
abbrev s_law_spoilt_steps:Stmt:=top 25
abbrev s_law_spoilt:Stmt:=top 26
abbrev s_law_due:Stmt:=top 27
abbrev s_law_told:Stmt:=top 28
abbrev s_law:Stmt:=top 29
theorem sc_rising:FnScope ["row"] ["row"] (defScope s_rising):=⟨rfl,rfl,rfl,by decide +kernel,rfl,by decide +kernel,by decide +kernel⟩
theorem sc_is_word:FnScope ["text"] ["text"] (defScope s_is_word):=⟨rfl,rfl,rfl,by decide +kernel,rfl,by decide +kernel,by decide +kernel⟩
theorem sc_is_letters:FnScope ["text"] ["text"] (defScope s_is_letters):=⟨rfl,rfl,rfl,by decide +kernel,rfl,by decide +kernel,by decide +kernel⟩
theorem sc_all_there:FnScope ["rooms","count"] ["rooms","count"] (defScope s_all_there):=⟨rfl,rfl,rfl,by decide +kernel,rfl,by decide +kernel,by decide +kernel⟩
theorem sc_look_steps:FnScope ["letters","steps","number","row"] ["letters","steps"] (defScope s_look_steps):=⟨rfl,rfl,rfl,by decide +kernel,rfl,by decide +kernel,by decide +kernel⟩
theorem sc_look_machine:FnScope ["machine","letters","ends","steps"] ["machine"] (defScope s_look_machine):=⟨rfl,rfl,rfl,by decide +kernel,rfl,by decide +kernel,by decide +kernel⟩
theorem sc_law_flow:FnScope ["_law_script"] ["_law_script"] (defScope s_law_flow):=⟨rfl,rfl,rfl,by decide +kernel,rfl,by decide +kernel,by decide +kernel⟩
theorem sc_law_pick:FnScope ["_law_flow_here","_law_many","_law_cell","_law_digit"] ["_law_flow_here","_law_many"] (defScope s_law_pick):=⟨rfl,rfl,rfl,by decide +kernel,rfl,by decide +kernel,by decide +kernel⟩
theorem sc_law_alike:FnScope ["_law_found","_law_due_here"] ["_law_found","_law_due_here"] (defScope s_law_alike):=⟨rfl,rfl,rfl,by decide +kernel,rfl,by decide +kernel,by decide +kernel⟩
theorem sc_law_letters:FnScope ["_law_flow_here","_law_many","_law_left"] ["_law_flow_here","_law_many"] (defScope s_law_letters):=⟨rfl,rfl,rfl,by decide +kernel,rfl,by decide +kernel,by decide +kernel⟩
theorem sc_law_machine:FnScope ["_law_flow_here","_law_letters_here","_law_most","_law_rooms","_law_ends","_law_steps","_law_room"] ["_law_flow_here","_law_letters_here","_law_most"] (defScope s_law_machine):=⟨rfl,rfl,rfl,by decide +kernel,rfl,by decide +kernel,by decide +kernel⟩
theorem sc_law_caught:FnScope ["_law_e","_law_sorts"] ["_law_e"] (defScope s_law_caught):=⟨rfl,rfl,rfl,by decide +kernel,rfl,by decide +kernel,by decide +kernel⟩
theorem sc_law_spoilt_letters:FnScope ["_law_flow_here","_law_letters_here","_law_way","_law_at","_law_some"] ["_law_flow_here","_law_letters_here"] (defScope s_law_spoilt_letters):=⟨rfl,rfl,rfl,by decide +kernel,rfl,by decide +kernel,by decide +kernel⟩
theorem sc_law_spoilt_ends:FnScope ["_law_flow_here","_law_ends","_law_many","_law_way","_law_at"] ["_law_flow_here","_law_ends","_law_many"] (defScope s_law_spoilt_ends):=⟨rfl,rfl,rfl,by decide +kernel,rfl,by decide +kernel,by decide +kernel⟩
theorem sc_law_spoilt_steps:FnScope ["_law_flow_here","_law_steps","_law_way","_law_at","_law_row","_law_spot","_law_number"] ["_law_flow_here","_law_steps"] (defScope s_law_spoilt_steps):=⟨rfl,rfl,rfl,by decide +kernel,rfl,by decide +kernel,by decide +kernel⟩
theorem sc_law_spoilt:FnScope ["_law_flow_here","_law_machine_here","_law_letters_here","_law_begin","_law_ends","_law_steps","_law_way"] ["_law_flow_here","_law_machine_here"] (defScope s_law_spoilt):=⟨rfl,rfl,rfl,by decide +kernel,rfl,by decide +kernel,by decide +kernel⟩
theorem sc_law_due:FnScope ["_law_machine_here","_law_letters_here","_law_begin","_law_ends","_law_steps","_law_rooms","_law_small","_law_at","_law_row"] ["_law_machine_here"] (defScope s_law_due):=⟨rfl,rfl,rfl,by decide +kernel,rfl,by decide +kernel,by decide +kernel⟩
theorem sc_law_told:FnScope ["_law_machine_here","_law_caught_here","_law_e"] ["_law_machine_here"] (defScope s_law_told):=⟨rfl,rfl,rfl,by decide +kernel,rfl,by decide +kernel,by decide +kernel⟩
theorem sc_law:FnScope ["_law_script","_law_flow_here","_law_machine_here","_law_k","_law_other","_law_turn"] ["_law_script"] (defScope s_law):=⟨rfl,rfl,rfl,by decide +kernel,rfl,by decide +kernel,by decide +kernel⟩
abbrev s_NoMachine_init:Stmt:=(clsBody (top 3)).getD 0 (.Pass ⟨0,0,0,0⟩)
theorem sc_NoMachine_init:FnScope ["self","word","at"] ["self","word","at"] (defScope s_NoMachine_init):=⟨rfl,rfl,rfl,by decide +kernel,rfl,by decide +kernel,by decide +kernel⟩
theorem nd_law_alike_0:(inNm ["_law_k"] ["_law_found","_law_due_here"] [0,1]).Nodup:=by decide +kernel
theorem nd_law_letters_0:(inNm ["_law_k"] ["_law_flow_here","_law_many","_law_left"] [0,2]).Nodup:=by decide +kernel
theorem nd_rising_0:(inNm ["n"] ["row"] [0]).Nodup:=by decide +kernel
theorem nd_is_word_0:(inNm ["sign"] ["text"] []).Nodup:=by decide +kernel
theorem nd_all_there_0:(inNm ["room"] ["rooms","count"] [1]).Nodup:=by decide +kernel
theorem nd_law_due_0:(inNm ["_law_letter"] ["_law_machine_here","_law_letters_here","_law_begin","_law_ends","_law_steps","_law_rooms","_law_small","_law_at","_law_row"] []).Nodup:=by decide +kernel
theorem nd_law_due_1:(inNm ["_law_room"] ["_law_machine_here","_law_letters_here","_law_begin","_law_ends","_law_steps","_law_rooms","_law_small","_law_at","_law_row"] [3]).Nodup:=by decide +kernel
theorem nd_law_due_2:(inNm ["_law_to"] ["_law_machine_here","_law_letters_here","_law_begin","_law_ends","_law_steps","_law_rooms","_law_small","_law_at","_law_row"] [5]).Nodup:=by decide +kernel
theorem nd_law_machine_0:(inNm ["_law_room"] ["_law_flow_here","_law_letters_here","_law_most","_law_rooms","_law_ends","_law_steps","_law_room"] [0]).Nodup:=by decide +kernel
theorem nd_law_machine_1:(inNm ["_law_letter"] ["_law_flow_here","_law_letters_here","_law_most","_law_rooms","_law_ends","_law_steps","_law_room"] [0,3]).Nodup:=by decide +kernel
structure Blt (mg:Str→Option Value):Prop where
 ValueError:mg "ValueError" = none
 all:mg "all" = none
 bool:mg "bool" = none
 enumerate:mg "enumerate" = none
 isinstance:mg "isinstance" = none
 len:mg "len" = none
 list:mg "list" = none
 range:mg "range" = none
 reversed:mg "reversed" = none
 set:mg "set" = none
 sorted:mg "sorted" = none
 tuple:mg "tuple" = none
theorem iteD {p A B:Prop} [Decidable p] (hp:p) (h:A):if decide p=true then A else B:=by
 rw [if_pos (decide_eq_true hp)]
 exact h
def spLaw (K:PySem.W.Frag):Sp:=fun vs H Q _=>∃ (a:Addr) (ns:List Int),vs=[.ref a]∧SqL K H a (ns.map V.int)∧ns.length≤63∧∀ H',Q (.bl true) H'
section
variable {P:Program} {w:World} {K:PySem.W.Frag} {mg:Str→Option Value} {base:Heap}
theorem rd_ix {K:PySem.W.Frag} {σ:L2.St} {H:Hp} {Q:VK} {p:Addr} {xs:List V} {i:Int} {v:V} {j:Nat} (h0:σ[j]? = some (some (.ref p))) (hp:H p=some (.lst xs)) (hv:atI xs i=some v) (q:Q v H):tOp (rIxL K) (tVar j) (tC (.int i)) σ H Q:=
 ⟨_,h0,p,xs,i,v,rfl,rfl,SqL.of hp,hv,q⟩
theorem ok_law_flow {f:Addr} {fd:FuncData} (F:Fun K "_law_flow" "_law_flow" s_law_flow f fd) (Z:Blt mg):FnOk P w K mg base CX0 1 f fd ["_law_script"] (spFlow K):=by
 refine F.ok sc_law_flow (fun vs H Q E h=>?_) (fun cdv A outer s H vs Q E hr h=>?_)
 ·obtain ⟨a,ns,rfl,_⟩:=h
  rfl
 obtain ⟨a,ns,rfl,hS,k⟩:=h
 refine ⟨_,(pss_one (ps_ret (pe_lst (pa_cons (pe_callTy (call_listK (K:=K)) (by rfl) Z.list bt_list (pa_cons (pv 0) pa_nil)) (pa_cons pe_int (pa_cons pe_int (pa_cons pe_int (pa_cons pe_int pa_nil)))))))),?_⟩
 refine ⟨_,rfl,a,_,rfl,.inl hS,fun l hl=>?_⟩
 refine ⟨(by show 5≤sizeLine; decide),fun p hp=>?_⟩
 have e1:Same H (upd H l (.lst (ns.map V.int))):=same_new hl _
 refine k p l _ (e1.free hp) (e1.trans (same_new hp _)) ⟨⟨_,upd_same,0,0,1,0,rfl,by decide,by decide,by decide,by decide,by decide⟩,ns,?_⟩
 rw [upd_ne (ne_of_none upd_same hp)]
 exact upd_same
theorem pick_last (c:Int) (m:Int) (hm:0 < m):0≤c % m∧c % m < m:=⟨Int.emod_nonneg _ (by omega),Int.emod_lt_of_pos _ hm⟩
theorem atI_ints {ns:List Int} {a:Int} (h0:0≤a) (h1:a < ((ns.map V.int).length:Int)):∃ z,atI (ns.map V.int) a=some (.int z):=by
 have hk:a.toNat < ns.length:=by
  rw [List.length_map] at h1
  omega
 have q:atI (ns.map V.int) ((a.toNat:Nat):Int)=some (.int ns[a.toNat]):=atI_nat (by rw [List.getElem?_map,List.getElem?_eq_getElem hk]; rfl)
 rw [show ((a.toNat:Nat):Int)=a by omega] at q
 exact ⟨_,q⟩
theorem ok_law_pick {f:Addr} {fd:FuncData} (F:Fun K "_law_pick" "_law_pick" s_law_pick f fd) (Z:Blt mg):FnOk P w K mg base CX0 1 f fd ["_law_flow_here","_law_many"] spPick:=by
 refine F.ok sc_law_pick (fun vs H Q E h=>?_) (fun cdv A outer s H vs Q E hr h=>?_)
 ·obtain ⟨p,sc,m,rfl,_⟩:=h
  rfl
 obtain ⟨p,sc,m,rfl,hm0,hm1,FA,k⟩:=h
 obtain ⟨xs,hp,a,b,c,d,rfl,ha,hb,hc0,hc1,hd⟩:=FA.here
 obtain ⟨ns,hs⟩:=FA.cells
 refine ⟨_,(pss_cut (ps_if (PW.pt (pw_and (pt_cmpR op_eq (pe_ix (ix_listK (K:=K)) (pv 0) pe_int (fun _ _=>rfl)) pe_int (nomark _)) (pw_and1 (pt_cmpR op_lt (pe_ix (ix_listK (K:=K)) (pv 0) pe_int (fun _ _=>rfl)) (pe_callB (call_lenK (K:=K)) (by rfl) Z.len bt_len (pa_cons (pe_ix (ix_listK (K:=K)) (pv 0) pe_int (fun _ _=>rfl)) pa_nil)) (nomark _))))) 
    (pss_cons (ps_set (i:=2) sc_law_pick.nd (by rfl) (Or.inl (by rfl)) (pe_ix (ix_listK (K:=K)) (pe_ix (ix_listK (K:=K)) (pv 0) pe_int (fun _ _=>rfl)) (pe_ix (ix_listK (K:=K)) (pv 0) pe_int (fun _ _=>rfl)) (fun _ _=>rfl))) 
    (pss_cons (ps_asg (pe_op op_add (pe_ix (ix_listK (K:=K)) (pv 0) pe_int (fun _ _=>rfl)) pe_int) (pg_sub (pv 0) pe_int set_list)) 
    (pss_one (ps_if (pt_cmpR op_ge (pv 2) (pe_op op_pow pe_int pe_int) (nomark _)) 
     (pss_one (ps_asg (pv 2) (pg_sub (pv 0) pe_int set_list))) 
     (pss_one (ps_asg (pe_op op_mod (pe_op op_add (pe_op op_add (pe_op op_mul (pe_ix (ix_listK (K:=K)) (pv 0) pe_int (fun _ _=>rfl)) pe_int) (pe_op op_mod (pv 2) pe_int)) pe_int) pe_int) (pg_sub (pv 0) pe_int set_list))))))) pss_nil) 
   (pss_cons (ps_if (pt_cmpR op_gt (pe_ix (ix_listK (K:=K)) (pv 0) pe_int (fun _ _=>rfl)) pe_int (nomark _)) 
    (pss_cons (ps_set (i:=3) sc_law_pick.nd (by rfl) (Or.inl (by rfl)) (pe_op op_mod (pe_ix (ix_listK (K:=K)) (pv 0) pe_int (fun _ _=>rfl)) (pv 1))) 
    (pss_cons (ps_asg (pe_op op_fdiv (pe_ix (ix_listK (K:=K)) (pv 0) pe_int (fun _ _=>rfl)) (pv 1)) (pg_sub (pv 0) pe_int set_list)) 
    (pss_one (ps_ret (pv 3))))) pss_nil) 
   (pss_cons (ps_asg (pe_op op_add (pe_ix (ix_listK (K:=K)) (pv 0) pe_int (fun _ _=>rfl)) pe_int) (pg_sub (pv 0) pe_int set_list)) 
   (pss_cons (ps_asg (pe_op op_mod (pe_op op_add (pe_op op_add (pe_op op_mul (pe_ix (ix_listK (K:=K)) (pv 0) pe_int (fun _ _=>rfl)) pe_int) pe_int) (pe_ix (ix_listK (K:=K)) (pv 0) pe_int (fun _ _=>rfl))) pe_int) (pg_sub (pv 0) pe_int set_list)) 
   (pss_one (ps_ret (pe_op op_mod (pe_op op_fdiv (pe_op op_mod (pe_op op_mul (pe_op op_add (pe_op op_mod (pe_ix (ix_listK (K:=K)) (pv 0) pe_int (fun _ _=>rfl)) pe_int) pe_int) (pe_op op_add (pe_op op_fdiv (pe_ix (ix_listK (K:=K)) (pv 0) pe_int (fun _ _=>rfl)) pe_int) pe_int)) pe_int) pe_int) (pv 1)))))))),?_⟩
 refine ⟨fun σ' H'=>∃ cv xs',σ'=[some (V.ref p),some (V.int m),cv,none]∧H' p=some (.lst xs')∧(∀ o,upd H' p o=upd H p o)∧FlowXs sc xs',?_,?_⟩
 ·have stay:∃ cv xs',[some (V.ref p),some (V.int m),none,none]=[some (V.ref p),some (V.int m),cv,none]∧H p=some (.lst xs')∧(∀ o,upd H p o=upd H p o)∧FlowXs sc xs':=⟨_,_,rfl,hp,fun _=>rfl,a,b,c,d,rfl,ha,hb,hc0,hc1,hd⟩
  refine rd_ix rfl hp (atI_nat (j:=2) rfl) ?_
  refine ⟨rfl,_,rfl,?_⟩
  refine ite2 (fun _=>?_) (fun _=>stay)
  refine rd_ix rfl hp (atI_nat (j:=1) rfl) ?_
  refine rd_ix rfl hp (atI_nat (j:=0) rfl) ?_
  refine ⟨sc,_,rfl,.inl (SqL.of hs),_,_,rfl,rfl,_,rfl,?_⟩
  refine ite2 (fun lt=>?_) (fun _=>stay)
  obtain ⟨z,hz⟩:=atI_ints (ns:=ns) ha (of_decide_eq_true lt)
  refine rd_ix rfl hp (atI_nat (j:=0) rfl) ?_
  refine rd_ix rfl hp (atI_nat (j:=1) rfl) ?_
  refine ⟨sc,_,_,_,rfl,rfl,SqL.of hs,hz,?_⟩
  refine rd_ix rfl hp (atI_nat (j:=1) rfl) ?_
  refine ⟨_,_,rfl,rfl,_,rfl,p,_,_,1,rfl,rfl,hp,rfl,?_⟩
  have hp1:upd H p (.lst [.ref sc,.int (a+1),.int b,.int c,.int d]) p=some (.lst [.ref sc,.int (a+1),.int b,.int c,.int d]):=upd_same
  refine ⟨_,rfl,_,_,rfl,rfl,⟨by decide,by decide,by decide⟩,_,_,rfl,rfl,_,rfl,?_⟩
  refine ite2 (fun big=>?_) (fun _=>?_)
  ·have big':(10:Int) ^ 18≤z:=of_decide_eq_true big
   refine ⟨_,rfl,_,rfl,p,_,_,2,rfl,rfl,hp1,rfl,?_⟩
   exact ⟨_,_,rfl,upd_same,fun o=>by rw [upd_upd,upd_upd],a+1,z,c,d,rfl,by omega,by omega,hc0,hc1,hd⟩
  ·refine rd_ix rfl hp1 (atI_nat (j:=3) rfl) ?_
   refine ⟨_,_,rfl,rfl,.inl ⟨by omega,by omega⟩,?_⟩
   refine ⟨_,rfl,_,_,rfl,rfl,(by show (0:Int) < 1000003; decide),_,_,rfl,rfl,_,_,rfl,rfl,_,_,rfl,rfl,(by show (0:Int) < 2147483647; decide),?_⟩
   refine ⟨_,rfl,p,_,_,3,rfl,rfl,hp1,rfl,?_⟩
   have q:=pick_last (c * 40013+z % 1000003+1) 2147483647 (by decide)
   exact ⟨_,_,rfl,upd_same,fun o=>by rw [upd_upd,upd_upd],a+1,b,_,d,rfl,by omega,hb,q.1,q.2,hd⟩
 ·rintro σ' H' ⟨cv,xs',rfl,hp',hu,a',b',c',d',rfl,ha',hb',hc0',hc1',hd'⟩
  refine rd_ix rfl hp' (atI_nat (j:=2) rfl) ?_
  refine ⟨_,_,rfl,rfl,_,rfl,?_⟩
  refine ite2 (fun pos=>?_) (fun _=>?_)
  ·have pos':0 < b':=of_decide_eq_true pos
   refine rd_ix rfl hp' (atI_nat (j:=2) rfl) ?_
   refine ⟨_,rfl,_,_,rfl,rfl,hm0,?_⟩
   refine rd_ix rfl hp' (atI_nat (j:=2) rfl) ?_
   refine ⟨_,rfl,_,_,rfl,rfl,⟨hm0,hm1⟩,_,rfl,p,_,_,2,rfl,rfl,hp',rfl,?_⟩
   refine ⟨_,rfl,?_⟩
   have q:=pick_last b' m hm0
   have e:=k (b' % m) [.ref sc,.int a',.int (b' / m),.int c',.int d'] q.1 q.2 ⟨a',b' / m,c',d',rfl,ha',Int.ediv_nonneg hb' (by omega),hc0',hc1',hd'⟩
   rw [← hu] at e
   exact e
  ·refine rd_ix rfl hp' (atI_nat (j:=4) rfl) ?_
   refine ⟨_,_,rfl,rfl,_,rfl,p,_,_,4,rfl,rfl,hp',rfl,?_⟩
   have hp2:upd H' p (.lst [.ref sc,.int a',.int b',.int c',.int (d'+1)]) p=some (.lst [.ref sc,.int a',.int b',.int c',.int (d'+1)]):=upd_same
   refine rd_ix rfl hp2 (atI_nat (j:=3) rfl) ?_
   refine ⟨_,_,rfl,rfl,.inl ⟨by omega,by omega⟩,_,_,rfl,rfl,?_⟩
   refine rd_ix rfl hp2 (atI_nat (j:=4) rfl) ?_
   refine ⟨_,_,rfl,rfl,_,_,rfl,rfl,(by show (0:Int) < 2147483647; decide),?_⟩
   refine ⟨_,rfl,p,_,_,3,rfl,rfl,hp2,rfl,?_⟩
   have q:=pick_last (c' * 48271+12820163+(d'+1)) 2147483647 (by decide)
   have hp3:∀ H3:Hp,upd H3 p (.lst [.ref sc,.int a',.int b',.int ((c' * 48271+12820163+(d'+1)) % 2147483647),.int (d'+1)]) p=some (.lst [.ref sc,.int a',.int b',.int ((c' * 48271+12820163+(d'+1)) % 2147483647),.int (d'+1)]):=fun _=>upd_same
   refine rd_ix rfl (hp3 _) (atI_nat (j:=3) rfl) ?_
   refine ⟨_,_,rfl,rfl,(by show (0:Int) < 65521; decide),_,_,rfl,rfl,?_⟩
   refine rd_ix rfl (hp3 _) (atI_nat (j:=3) rfl) ?_
   have q2:=pick_last ((c' * 48271+12820163+(d'+1)) % 2147483647) 65521 (by decide)
   refine ⟨_,_,rfl,rfl,⟨by decide,by decide⟩,_,_,rfl,rfl,_,_,rfl,rfl,.inl ⟨by omega,by omega⟩,_,_,rfl,rfl,(by show (0:Int) < 1000003; decide),_,_,rfl,rfl,⟨by decide,by decide⟩,_,rfl,_,_,rfl,rfl,hm0,?_⟩
   have q3:=pick_last (((c' * 48271+12820163+(d'+1)) % 2147483647 % 65521+1) * ((c' * 48271+12820163+(d'+1)) % 2147483647 / 65521+7919) % 1000003 / 7) m hm0
   have e:=k _ [.ref sc,.int a',.int b',.int ((c' * 48271+12820163+(d'+1)) % 2147483647),.int (d'+1)] q3.1 q3.2 ⟨a',b',_,d'+1,rfl,ha',hb',q.1,q.2,by omega⟩
   rw [← hu,← upd_upd (H:=H') (o:=.lst [.ref sc,.int a',.int b',.int c',.int (d'+1)])] at e
   exact e
theorem atI_0 {α:Type} {xs:List α} {i:Nat} {v:α} (h:xs[i]? = some v):atI xs (0+(i:Int))=some v:=by
 rw [Int.zero_add]
 exact atI_nat h
def Sq2 (H:Hp) (a:Addr) (xs:List V):Prop:=H a=some (.lst xs)∨H a=some (.tup xs)
theorem Sq2.rd {K:PySem.W.Frag} {H:Hp} {a:Addr} {xs:List V} (h:Sq2 H a xs):SqL K H a xs∨SqT K H a xs:=by
 rcases h with h | h
 ·exact .inl (SqL.of h)
 ·exact .inr (SqT.of h)
theorem Sq2.ix {K:PySem.W.Frag} {H:Hp} {a:Addr} {xs:List V} {i:Int} {v:V} {Q:VK} (h:Sq2 H a xs) (hv:atI xs i=some v) (q:Q v H):rIx K (.ref a) (.int i) H Q:=by
 rcases h with h | h
 ·exact .inl ⟨a,xs,i,v,rfl,rfl,SqL.of h,hv,q⟩
 ·exact .inr (.inl ⟨a,xs,i,v,rfl,rfl,SqT.of h,hv,q⟩)
theorem Sq2.same {H H':Hp} {a:Addr} {xs:List V} (h:Sq2 H a xs) (e:Same H H'):Sq2 H' a xs:=by
 rcases h with h | h
 ·exact .inl (e _ _ h)
 ·exact .inr (e _ _ h)
theorem all_true (n:Nat):(List.replicate n true).all id=true:=by
 induction n with
 | zero=>rfl
 | succ n ih=>rw [List.replicate_succ,List.all_cons,ih]; rfl
theorem alike_turn {n:Nat} {a b:Addr} {xs ys:List V} {ds:List Dt} {H1 H2:Hp} {i:Nat} {σ:L2.St} (ha:Sq2 H1 a xs) (hb:Sq2 H1 b ys) (hx:xs.length=ds.length) (hy:ys.length=ds.length) (hdp:∀ d'∈ds,d'.dep < n)
  (dx:∀ (i:Nat) x d',xs[i]? = some x→ds[i]? = some d'→Den H1 x d') (dy:∀ (i:Nat) x d',ys[i]? = some x→ds[i]? = some d'→Den H1 x d') (e2:Same H1 H2) (hi':i < ys.length)
  (h0:σ[0]? = some (some (.int (0+(i:Int))))) (h1:σ[1]? = some (some (.ref a))) (h2:σ[2]? = some (some (.ref b))) :
  tCall (spAlike n) [] E0 (tCons (tOp (rIx K) (tVar 1) (tVar 0)) (tCons (tOp (rIx K) (tVar 2) (tVar 0)) tNil)) σ H2 fun v H6=>List.replicate i (V.bl true) ++ [v]=List.replicate (i+1) (V.bl true)∧Same H1 H6:=by
 have hix:i < xs.length:=by omega
 have hid:i < ds.length:=by omega
 refine ⟨_,h1,_,h0,(ha.same e2).ix (atI_0 (List.getElem?_eq_getElem hix)) ?_⟩
 refine ⟨_,h2,_,h0,(hb.same e2).ix (atI_0 (List.getElem?_eq_getElem hi')) ?_⟩
 refine ⟨xs[i],ys[i],ds[i],rfl,hdp _ (List.getElem_mem hid),(dx i _ _ (List.getElem?_eq_getElem hix) (List.getElem?_eq_getElem hid)).same e2,(dy i _ _ (List.getElem?_eq_getElem hi') (List.getElem?_eq_getElem hid)).same e2,fun H3 e3=>⟨?_,e2.trans e3⟩⟩
 rw [List.replicate_succ']
theorem alike_step {n:Nat} {f:Addr} {fd:FuncData} (F:Fun K "_law_alike" "_law_alike" s_law_alike f fd) (Z:Blt mg) (C_law_alike:Cal P w K mg base "_law_alike" n ["_law_found","_law_due_here"] (spAlike n)) :
  FnOk P w K mg base CX0 (n+1) f fd ["_law_found","_law_due_here"] (spAlike (n+1)):=by
 refine F.ok sc_law_alike (fun vs H Q E h=>?_) (fun cdv A outer s H vs Q E hr h=>?_)
 ·obtain ⟨u,v,d,rfl,_⟩:=h
  rfl
 obtain ⟨u,v,d,rfl,hd,du,dv,k⟩:=h
 refine ⟨_,(pss_cons (ps_if (pt_truthK (K:=K) (pe_callB (call_is2K (K:=K)) (by rfl) Z.isinstance bt_isinstance (pa_cons (pv 1) (pa_cons (pe_tup (pa_cons (pe_bltn (v:=V.ty "list") (by rfl) Z.list bt_list rfl) (pa_cons (pe_bltn (v:=V.ty "tuple") (by rfl) Z.tuple bt_tuple rfl) pa_nil))) pa_nil))) (fun _=>rfl)) 
    (pss_cons (ps_if (pt_cmpR op_ne (pe_callB (call_isK (K:=K)) (by rfl) Z.isinstance bt_isinstance (pa_cons (pv 0) (pa_cons (pe_bltn (v:=V.ty "list") (by rfl) Z.list bt_list rfl) pa_nil))) (pe_callB (call_isK (K:=K)) (by rfl) Z.isinstance bt_isinstance (pa_cons (pv 1) (pa_cons (pe_bltn (v:=V.ty "list") (by rfl) Z.list bt_list rfl) pa_nil))) (nomark _)) 
     (pss_one (ps_ret pe_bl)) pss_nil) 
    (pss_cons (ps_if (pt_cmpR op_ne (pe_callB (call_isK (K:=K)) (by rfl) Z.isinstance bt_isinstance (pa_cons (pv 0) (pa_cons (pe_bltn (v:=V.ty "tuple") (by rfl) Z.tuple bt_tuple rfl) pa_nil))) (pe_callB (call_isK (K:=K)) (by rfl) Z.isinstance bt_isinstance (pa_cons (pv 1) (pa_cons (pe_bltn (v:=V.ty "tuple") (by rfl) Z.tuple bt_tuple rfl) pa_nil))) (nomark _)) 
     (pss_one (ps_ret pe_bl)) pss_nil) 
    (pss_cons (ps_if (pt_cmpR op_ne (pe_callB (call_lenK (K:=K)) (by rfl) Z.len bt_len (pa_cons (pv 0) pa_nil)) (pe_callB (call_lenK (K:=K)) (by rfl) Z.len bt_len (pa_cons (pv 1) pa_nil)) (nomark _)) 
     (pss_one (ps_ret pe_bl)) pss_nil) 
    (pss_one (ps_ret (pe_callB (call_allK (K:=K)) (by rfl) Z.all bt_all (pa_cons (pe_comp (sc:=defScope s_law_alike) (Nm:=["_law_found","_law_due_here"]) (own:=["_law_k"]) (fr:=[0,1]) ⟨rfl,by decide +kernel,by decide +kernel,by decide +kernel,by decide +kernel⟩ (by rfl) (gfr_name (by decide)) (pi_range1 (by rfl) Z.range (pa_cons (pe_callB (call_lenK (K:=K)) (by rfl) Z.len bt_len (pa_cons (pv 1) pa_nil)) pa_nil)) (fun d=>(pg_name (i:=0) nd_law_alike_0 (by rfl) (Or.inl (by rfl)))) (fun d=>pts_nil) (fun d=>(pe_c C_law_alike hr (pa_cons (pe_ix (ix_seqK (K:=K)) (pv 1) (pv 0) (fun _ _=>rfl)) (pa_cons (pe_ix (ix_seqK (K:=K)) (pv 2) (pv 0) (fun _ _=>rfl)) pa_nil))))) pa_nil))))))) pss_nil) 
   (pss_one (ps_ret (pe_and (pe_cmpR op_eq (pe_callB (call_isK (K:=K)) (by rfl) Z.isinstance bt_isinstance (pa_cons (pv 0) (pa_cons (pe_bltn (v:=V.ty "bool") (by rfl) Z.bool bt_bool rfl) pa_nil))) (pe_callB (call_isK (K:=K)) (by rfl) Z.isinstance bt_isinstance (pa_cons (pv 1) (pa_cons (pe_bltn (v:=V.ty "bool") (by rfl) Z.bool bt_bool rfl) pa_nil))) (nomark _)) (pe_one (pe_cmpR op_eq (pv 0) (pv 1) (nomark _))))))),?_⟩
 have hz2:sizeLine=16777216:=sizeLine_eq
 cases du with
 | non=>
  cases dv
  refine ⟨_,rfl,(by show 2≤sizeLine; decide),fun tp htp=>?_⟩
  refine ⟨_,tp,_,_,_,_,rfl,upd_same,.non,kit_tt K "NoneType" _ _ _ (kit_n_l K) (kit_n_t K) rfl,_,rfl,iteF ?_⟩
  refine ⟨_,rfl,_,_,_,_,rfl,.non,kit_n_b K,_,rfl,_,_,_,_,rfl,.non,kit_n_b K,rfl,_,rfl,iteD rfl ?_⟩
  refine ⟨_,rfl,_,rfl,rfl,?_⟩
  rw [decide_eq_true rfl]
  exact k _ (same_new htp _)
 | bl b=>
  cases dv
  refine ⟨_,rfl,(by show 2≤sizeLine; decide),fun tp htp=>?_⟩
  refine ⟨_,tp,_,_,_,_,rfl,upd_same,.bl b,kit_tt K "bool" _ _ _ (kit_b_l K) (kit_b_t K) rfl,_,rfl,iteF ?_⟩
  refine ⟨_,rfl,_,_,_,_,rfl,.bl b,kit_b_b K,_,rfl,_,_,_,_,rfl,.bl b,kit_b_b K,rfl,_,rfl,iteD rfl ?_⟩
  refine ⟨_,rfl,_,rfl,rfl,?_⟩
  rw [decide_eq_true rfl]
  exact k _ (same_new htp _)
 | int i=>
  cases dv
  refine ⟨_,rfl,(by show 2≤sizeLine; decide),fun tp htp=>?_⟩
  refine ⟨_,tp,_,_,_,_,rfl,upd_same,.int i,kit_tt K "int" _ _ _ (kit_i_l K) (kit_i_t K) rfl,_,rfl,iteF ?_⟩
  refine ⟨_,rfl,_,_,_,_,rfl,.int i,kit_i_b K,_,rfl,_,_,_,_,rfl,.int i,kit_i_b K,rfl,_,rfl,iteD rfl ?_⟩
  refine ⟨_,rfl,_,rfl,rfl,?_⟩
  rw [decide_eq_true rfl]
  exact k _ (same_new htp _)
 | str x=>
  cases dv
  refine ⟨_,rfl,(by show 2≤sizeLine; decide),fun tp htp=>?_⟩
  refine ⟨_,tp,_,_,_,_,rfl,upd_same,.str x,kit_tt K "str" _ _ _ (kit_s_l K) (kit_s_t K) rfl,_,rfl,iteF ?_⟩
  refine ⟨_,rfl,_,_,_,_,rfl,.str x,kit_s_b K,_,rfl,_,_,_,_,rfl,.str x,kit_s_b K,rfl,_,rfl,iteD rfl ?_⟩
  refine ⟨_,rfl,_,rfl,rfl,?_⟩
  rw [decide_eq_true rfl]
  exact k _ (same_new htp _)
 | @lst a xs ds h hz hl hdd=>
  cases dv with
  | @lst b ys _ h' hz' hl' hdd'=>
   refine ⟨_,rfl,(by show 2≤sizeLine; decide),fun tp htp=>?_⟩
   have e1:Same H (upd H tp (.tup [.ty "list",.ty "tuple"])):=same_new htp _
   refine ⟨_,tp,_,_,_,_,rfl,upd_same,.lst (e1 _ _ h'),kit_tt K "list" _ _ _ (kit_l_l K) (kit_l_t K) rfl,_,rfl,iteT ?_⟩
   refine ⟨_,rfl,_,_,_,_,rfl,.lst (e1 _ _ h),kit_l_l K,_,rfl,_,_,_,_,rfl,.lst (e1 _ _ h'),kit_l_l K,rfl,_,rfl,iteNS rfl ?_⟩
   refine ⟨_,rfl,_,_,_,_,rfl,.lst (e1 _ _ h),kit_l_t K,_,rfl,_,_,_,_,rfl,.lst (e1 _ _ h'),kit_l_t K,rfl,_,rfl,iteNS rfl ?_⟩
   refine ⟨_,rfl,a,xs,rfl,.inl (SqL.of (e1 _ _ h)),_,rfl,b,ys,rfl,.inl (SqL.of (e1 _ _ h')),rfl,_,rfl,iteNS (by rw [hl,hl']) ?_⟩
   refine ⟨_,rfl,b,ys,rfl,.inl (SqL.of (e1 _ _ h')),_,rfl,by omega,by omega,?_⟩
   have sa:Sq2 (upd H tp (.tup [.ty "list",.ty "tuple"])) a xs:=.inl (e1 _ _ h)
   have sb:Sq2 (upd H tp (.tup [.ty "list",.ty "tuple"])) b ys:=.inl (e1 _ _ h')
   refine comp_range (lo:=0) (k:=((ys.length:Int)).toNat) (fun i acc H2=>acc=List.replicate i (V.bl true)∧Same (upd H tp (.tup [.ty "list",.ty "tuple"])) H2) (by omega) ⟨rfl,Same.refl _⟩ (fun i acc H2 p=>by rw [p.1,List.length_replicate]; exact Nat.le_refl _)
    (fun i acc H2 hi p=>?_) (fun acc H2 p l hl2=>?_)
   ·obtain ⟨rfl,e2⟩:=p
    exact cyes (alike_turn sa sb hl hl' (fun d' hd'=>by have:=Dt.dep_lst hd'; omega) (fun i x d' z1 z2=>(hdd i x d' z1 z2).same e1) (fun i x d' z1 z2=>(hdd' i x d' z1 z2).same e1) e2 (by omega) rfl rfl rfl)
   ·obtain ⟨rfl,e2⟩:=p
    refine ⟨l,List.replicate ((ys.length:Int)).toNat true,rfl,SqL.of (by rw [upd_same,List.map_replicate]),?_⟩
    rw [all_true]
    exact k _ ((e1.trans e2).trans (same_new hl2 _))
 | @tup a xs ds h hz hl hdd=>
  cases dv with
  | @tup b ys _ h' hz' hl' hdd'=>
   refine ⟨_,rfl,(by show 2≤sizeLine; decide),fun tp htp=>?_⟩
   have e1:Same H (upd H tp (.tup [.ty "list",.ty "tuple"])):=same_new htp _
   refine ⟨_,tp,_,_,_,_,rfl,upd_same,.tup (e1 _ _ h'),kit_tt K "tuple" _ _ _ (kit_t_l K) (kit_t_t K) rfl,_,rfl,iteT ?_⟩
   refine ⟨_,rfl,_,_,_,_,rfl,.tup (e1 _ _ h),kit_t_l K,_,rfl,_,_,_,_,rfl,.tup (e1 _ _ h'),kit_t_l K,rfl,_,rfl,iteNS rfl ?_⟩
   refine ⟨_,rfl,_,_,_,_,rfl,.tup (e1 _ _ h),kit_t_t K,_,rfl,_,_,_,_,rfl,.tup (e1 _ _ h'),kit_t_t K,rfl,_,rfl,iteNS rfl ?_⟩
   refine ⟨_,rfl,a,xs,rfl,.inr (SqT.of (e1 _ _ h)),_,rfl,b,ys,rfl,.inr (SqT.of (e1 _ _ h')),rfl,_,rfl,iteNS (by rw [hl,hl']) ?_⟩
   refine ⟨_,rfl,b,ys,rfl,.inr (SqT.of (e1 _ _ h')),_,rfl,by omega,by omega,?_⟩
   have sa:Sq2 (upd H tp (.tup [.ty "list",.ty "tuple"])) a xs:=.inr (e1 _ _ h)
   have sb:Sq2 (upd H tp (.tup [.ty "list",.ty "tuple"])) b ys:=.inr (e1 _ _ h')
   refine comp_range (lo:=0) (k:=((ys.length:Int)).toNat) (fun i acc H2=>acc=List.replicate i (V.bl true)∧Same (upd H tp (.tup [.ty "list",.ty "tuple"])) H2) (by omega) ⟨rfl,Same.refl _⟩ (fun i acc H2 p=>by rw [p.1,List.length_replicate]; exact Nat.le_refl _)
    (fun i acc H2 hi p=>?_) (fun acc H2 p l hl2=>?_)
   ·obtain ⟨rfl,e2⟩:=p
    exact cyes (alike_turn sa sb hl hl' (fun d' hd'=>by have:=Dt.dep_tup hd'; omega) (fun i x d' z1 z2=>(hdd i x d' z1 z2).same e1) (fun i x d' z1 z2=>(hdd' i x d' z1 z2).same e1) e2 (by omega) rfl rfl rfl)
   ·obtain ⟨rfl,e2⟩:=p
    refine ⟨l,List.replicate ((ys.length:Int)).toNat true,rfl,SqL.of (by rw [upd_same,List.map_replicate]),?_⟩
    rw [all_true]
    exact k _ ((e1.trans e2).trans (same_new hl2 _))
theorem alike_none {f:Addr} {fd:FuncData}:FnOk P w K mg base CX0 0 f fd ["_law_found","_law_due_here"] (spAlike 0):=by
 have no:∀ vs H Q E,¬ spAlike 0 vs H Q E:=fun vs H Q E h=>by
  obtain ⟨u,v,d,_,hd,_⟩:=h
  omega
 exact ⟨fun vs H Q E h=>absurd h (no vs H Q E),fun A outer s H args us vs Q E _ _ _ _ h=>absurd h (no vs H Q E)⟩
theorem ok_law_alike {f:Addr} {fd:FuncData} (F:Fun K "_law_alike" "_law_alike" s_law_alike f fd) (b:Binds K fd ["_law_found","_law_due_here"] []) (m:mg "_law_alike" = some (.ref f)) (Z:Blt mg):∀ n:Nat,FnOk P w K mg base CX0 n f fd ["_law_found","_law_due_here"] (spAlike n)
 | 0=>alike_none
 | n+1=>alike_step F Z ⟨f,fd,ok_law_alike F b m Z n,m,F.kp,b⟩
def one (c:Nat):Str:=⟨#[c]⟩
theorem one_list (c:Nat):(one c).cps.toList=[c]:=rfl
theorem strs_ones {ys':List Str} {cs:List Nat} (h:ys'.Perm (cs.map one)):∃ cs':List Nat,cs'.Perm cs∧ys'=cs'.map one:=by
 have e:∀ y∈ys',y=one (y.cps.toList.headD 0):=fun y hy=>by
  obtain ⟨c,_,rfl⟩:=List.mem_map.mp (h.mem_iff.mp hy)
  rfl
 have e2:ys'=(ys'.map fun y=>y.cps.toList.headD 0).map one:=by
  rw [List.map_map]
  have:∀ (l:List Str),(∀ y∈l,y=one (y.cps.toList.headD 0))→l=l.map (one ∘ fun y=>y.cps.toList.headD 0):=by
   intro l
   induction l with
   | nil=>intro _; rfl
   | cons y r ih=>
    intro hl
    rw [List.map_cons,← ih fun z hz=>hl z (List.mem_cons_of_mem _ hz)]
    exact congrArg (· :: r) (hl y List.mem_cons_self)
  exact this ys' e
 refine ⟨_,?_,e2⟩
 have p:=h.map fun y:Str=>y.cps.toList.headD 0
 rw [List.map_map] at p
 have:(fun y:Str=>y.cps.toList.headD 0) ∘ one=id:=rfl
 rw [this,List.map_id] at p
 exact p
theorem lt_cps_one (a b:Nat):ltCps (one a).cps.toList (one b).cps.toList=decide (a < b):=by
 rw [ltCps_eq]
 exact lt_one a b
theorem rising_ones:∀ (p:Nat) (cs:List Nat),risingS (one p) (cs.map one)=true→∀ c∈cs,p≤c
 | _,[],_,c,hc=>by cases hc
 | p,x :: r,h,c,hc=>by
  have h':(!ltCps (one x).cps.toList (one p).cps.toList && risingS (one x) (r.map one))=true:=h
  rw [Bool.and_eq_true,lt_cps_one] at h'
  have h1:p≤x:=by
   have:=h'.1
   simp at this
   exact this
  rcases List.mem_cons.mp hc with e | e
  ·subst e; exact h1
  ·exact Nat.le_trans h1 (rising_ones x r h'.2 c e)
theorem sorted_ones:∀ (cs:List Nat),sortedS (cs.map one)=true→cs.Pairwise (·≤·)
 | [],_=>.nil
 | p :: r,h=>by
  have h':risingS (one p) (r.map one)=true:=h
  refine List.Pairwise.cons (rising_ones p r h') (sorted_ones r ?_)
  cases r with
  | nil=>rfl
  | cons x r=>
   have h2:(!ltCps (one x).cps.toList (one p).cps.toList && risingS (one x) (r.map one))=true:=h'
   rw [Bool.and_eq_true] at h2
   exact h2.2
theorem lt_of_le_nodup:∀ {cs:List Nat},cs.Pairwise (·≤·)→cs.Nodup→cs.Pairwise (· < ·)
 | [],_,_=>.nil
 | p :: r,h,n=>by
  cases h with
  | cons h1 h2=>
   rw [List.nodup_cons] at n
   refine List.Pairwise.cons (fun c hc=>?_) (lt_of_le_nodup h2 n.2)
   have:=h1 c hc
   have:p≠c:=fun e=>n.1 (e▸hc)
   omega
theorem erase_perm {α:Type}:∀ {l:List α} {n:Nat} {v:α},l[n]? = some v→(v :: l.eraseIdx n).Perm l
 | [],n,v,h=>by simp at h
 | x :: r,0,v,h=>by
  have e:x=v:=by simpa using h
  subst e
  exact List.Perm.refl _
 | x :: r,n+1,v,h=>by
  have ih:=erase_perm (l:=r) (n:=n) (v:=v) (by simpa using h)
  rw [List.eraseIdx_cons_succ]
  exact (List.Perm.swap x v _).trans (List.Perm.cons x ih)
theorem erase_map {α β:Type} (f:α→β):∀ (l:List α) (i:Nat),(l.map f).eraseIdx i=(l.eraseIdx i).map f
 | [],_=>rfl
 | _ :: _,0=>rfl
 | x :: r,i+1=>by
  rw [List.map_cons,List.eraseIdx_cons_succ,List.eraseIdx_cons_succ,List.map_cons,erase_map f r i]
theorem flat_ones (cs:List Nat):((cs.map one).map fun y=>y.cps.toList).flatten=cs:=by
 induction cs with
 | nil=>rfl
 | cons c r ih=>rw [List.map_cons,List.map_cons,List.flatten_cons,ih]; rfl
theorem sum_ones (cs:List Nat):((cs.map one).map (·.length)).sum=cs.length:=by
 induction cs with
 | nil=>rfl
 | cons c r ih=>rw [List.map_cons,List.map_cons,List.sum_cons,ih,List.length_cons,Nat.add_comm]; rfl
def abc:List Nat:=(List.range 26).map (· + 97)
theorem abc_is:(Str.ofString "abcdefghijklmnopqrstuvwxyz").cps.toList=abc:=by decide +kernel
theorem abc_nodup:abc.Nodup:=by decide +kernel
theorem abc_mem {c:Nat} (h:c∈abc):97≤c∧c≤122:=by
 unfold abc at h
 obtain ⟨i,hi,rfl⟩:=List.mem_map.mp h
 have:=List.mem_range.mp hi
 omega
theorem oneS_map (cs:List Nat):cs.map oneS=(cs.map one).map V.str:=by
 rw [List.map_map]
 rfl
theorem ok_law_letters {f:Addr} {fd:FuncData} (F:Fun K "_law_letters" "_law_letters" s_law_letters f fd) (Z:Blt mg) (C_law_pick:Cal P w K mg base "_law_pick" 1 ["_law_flow_here","_law_many"] spPick) :
  FnOk P w K mg base CX0 2 f fd ["_law_flow_here","_law_many"] spLetters:=by
 refine F.ok sc_law_letters (fun vs H Q E h=>?_) (fun cdv A outer s H vs Q E hr h=>?_)
 ·obtain ⟨p,sc,m,rfl,_⟩:=h
  rfl
 obtain ⟨p,sc,m,rfl,hm0,hm1,FA,k⟩:=h
 refine ⟨_,(pss_cons (ps_set (i:=2) sc_law_letters.nd (by rfl) (Or.inr (by rfl)) (pe_callTy (call_list_text (by rfl)) (by rfl) Z.list bt_list (pa_cons pe_str pa_nil))) 
   (pss_one (ps_ret (pe_bmK (K:=K) PySem.F.plainAttrs_str PySem.F.slot_str_join PySem.F.type_str_join (mt_joinK (K:=K)) pe_str (pa_cons (pe_callB (call_sortK (K:=K)) (by rfl) Z.sorted bt_sorted (pa_cons (pe_comp (sc:=defScope s_law_letters) (Nm:=["_law_flow_here","_law_many","_law_left"]) (own:=["_law_k"]) (fr:=[0,2]) ⟨rfl,by decide +kernel,by decide +kernel,by decide +kernel,by decide +kernel⟩ (by rfl) (gfr_name (by decide)) (pi_range1 (by rfl) Z.range (pa_cons (pv 1) pa_nil)) (fun d=>(pg_name (i:=0) nd_law_letters_0 (by rfl) (Or.inl (by rfl)))) (fun d=>pts_nil) (fun d=>(pe_bmK (K:=K) PySem.F.plainAttrs_list PySem.F.slot_list_pop PySem.F.type_list_pop mt_popAt (pv 2) (pa_cons (pe_c C_law_pick (hr.mono (by decide)) (pa_cons (pv 1) (pa_cons (pe_callB (call_lenK (K:=K)) (by rfl) Z.len bt_len (pa_cons (pv 2) pa_nil)) pa_nil))) pa_nil)))) pa_nil)) pa_nil))))),?_⟩
 refine ⟨_,rfl,(by decide +kernel),fun l hl=>?_⟩
 have e1:Same H (upd H l (.lst ((Str.ofString "abcdefghijklmnopqrstuvwxyz").cps.toList.map oneS))):=same_new hl _
 have npl:p≠l:=by
  obtain ⟨xs,hp,_⟩:=FA.here
  exact ne_of_none hp hl
 refine ⟨rfl,_,rfl,_,rfl,by omega,by omega,?_⟩
 refine comp_range (lo:=0) (k:=m.toNat) (fun i acc H2=>∃ ys rem:List Nat,acc=ys.map oneS∧ys.length=i∧H2 l=some (.lst (rem.map oneS))∧(ys ++ rem).Perm abc∧FlowAt H2 p sc∧Drew H H2 p) (Nat.lt_of_le_of_lt (show m.toNat≤26 by omega) (by decide))
  ⟨[],abc,rfl,rfl,by rw [upd_same,abc_is],List.Perm.refl _,FA.same e1,Drew.same e1⟩ (fun i acc H2 ⟨ys,rem,e,hl',_⟩=>by rw [e,List.length_map,hl']; exact Nat.le_refl _) (fun i acc H2 hi hp=>?_) (fun acc H2 hp q hq=>?_)
 ·obtain ⟨ys,rem,rfl,hyl,hrem,hperm,FA2,dr⟩:=hp
  have hlen:ys.length+rem.length=26:=by
   have:=hperm.length_eq
   rw [List.length_append] at this
   exact this
  refine cyes ?_
  refine ⟨_,rfl,.inl ⟨rfl,_,SqL.of hrem⟩,_,rfl,_,rfl,l,_,rfl,.inl (SqL.of hrem),p,sc,_,rfl,?_,?_,FA2,fun r xs hr0 hr1 hxs=>?_⟩
  ·rw [List.length_map]; omega
  ·rw [List.length_map]; omega
  ·have hr1':r < (rem.length:Int):=by
    rw [List.length_map] at hr1
    exact hr1
   have hrn:r.toNat < rem.length:=by omega
   have hv:rem[r.toNat]? = some rem[r.toNat]:=List.getElem?_eq_getElem hrn
   have hl2:upd H2 p (.lst xs) l=some (.lst (rem.map oneS)):=by rw [upd_ne (Ne.symm npl)]; exact hrem
   refine ⟨l,_,r,r.toNat,oneS rem[r.toNat],rfl,rfl,hl2,by omega,by omega,?_,?_,?_⟩
   ·rw [List.length_map]
    exact seqIndex_of hr0 hr1'
   ·rw [List.getElem?_map,hv]
    rfl
   ·refine ⟨ys ++ [rem[r.toNat]],rem.eraseIdx r.toNat,by rw [List.map_append]; rfl,by rw [List.length_append,hyl]; rfl,?_,?_,?_,?_⟩
    ·rw [upd_same,erase_map]
    ·rw [List.append_assoc]
     exact (List.Perm.append_left ys (erase_perm hv)).trans hperm
    ·have FA3:=FA2.go hxs
     obtain ⟨xs',h1,h2⟩:=FA3.here
     obtain ⟨ns,h3⟩:=FA3.cells
     refine ⟨⟨xs',by rw [upd_ne npl]; exact h1,h2⟩,ns,?_⟩
     rw [upd_ne ?_]
     ·exact h3
     ·obtain ⟨ns0,h0⟩:=FA.cells
      exact ne_of_none h0 hl
    ·intro b o hb hne
     rw [upd_ne (ne_of_none hb hl),upd_ne hne]
     exact dr b o hb hne
 ·obtain ⟨ys,rem,rfl,hyl,hrem,hperm,FA2,dr⟩:=hp
  have hn:ys.Nodup:=(List.nodup_append.mp (hperm.nodup_iff.mpr abc_nodup)).1
  refine ⟨q,ys.map one,rfl,SqL.of (by rw [upd_same,oneS_map]),by rw [List.length_map]; omega,fun ys' l2 hp2 hs2 hl2=>?_⟩
  obtain ⟨cs,hc,rfl⟩:=strs_ones hp2
  have hclen:=hc.length_eq
  refine ⟨_,l2,cs.map one,rfl,rfl,SqL.of upd_same,?_,?_⟩
  ·rw [sum_ones,List.length_map]
   have:(Str.ofString "").length=0:=by decide +kernel
   rw [this]
   omega
  ·have e3:=join_nil_list (cs.map one)
   rw [flat_ones] at e3
   refine k _ _ ⟨?_,?_,fun c hcm=>?_⟩ ?_ ?_
   ·rw [e3]; omega
   ·rw [e3]
    exact lt_of_le_nodup (sorted_ones cs hs2) (hc.nodup_iff.mpr hn)
   ·rw [e3] at hcm
    exact abc_mem (hperm.mem_iff.mp (List.mem_append_left _ (hc.mem_iff.mp hcm)))
   ·exact dr.trans (Drew.trans (Drew.same (same_new hq _)) (Drew.same (same_new hl2 _)))
   ·exact (FA2.same (same_new hq _)).same (same_new hl2 _)
theorem drew_go {H0 H:Hp} {p:Addr} (d:Drew H0 H p) (o:HO):Drew H0 (upd H p o) p:=d.trans (Drew.upd o)
def Drawn (H:Hp) (p sc:Addr) (l:Str) (i:Nat) (acc:List V) (H2:Hp):Prop:=∃ ys:List Nat,acc=ys.map oneS∧ys.length=i∧(∀ c∈ys,c∈l.cps.toList)∧FlowAt H2 p sc∧Drew H H2 p
theorem join_ones_len (ys:List Nat) (h:ys.length≤1000):((ys.map one).map (·.length)).sum+(ys.map one).length * (Str.ofString "").length≤16777216:=by
 have:(Str.ofString "").length=0:=by decide +kernel
 rw [sum_ones,this]
 omega
theorem join_ones (ys:List Nat):(Txt.join (Str.ofString "") (ys.map one)).cps.toList=ys:=by
 rw [join_nil_list,flat_ones]
def wB (c:Nat):Bool:=decide (97≤c) && decide (c≤122)
def rB (cs:List Nat) (i:Nat):Bool:=decide (cs.getD i 0 < cs.getD (i+1) 0)
def risB (cs:List Nat):Bool:=((List.range (cs.length - 1)).map (rB cs)).all id
def wordB (cs:List Nat):Bool:=(cs.map wB).all id
def spRising:Sp:=fun vs H Q _=>∃ z:Str,vs=[.str z]∧z.length≤1000∧∀ H',Same H H'→Q (.bl (risB z.cps.toList)) H'
def spIsWord:Sp:=fun vs H Q _=>∃ z:Str,vs=[.str z]∧z.length≤1000∧∀ H',Same H H'→Q (.bl (wordB z.cps.toList)) H'
def letB (cs:List Nat):Bool:=(decide (1≤cs.length) && decide (cs.length≤3)) && (wordB cs && risB cs)
def spIsLetters:Sp:=fun vs H Q _=>∃ z:Str,vs=[.str z]∧z.length≤1000∧∀ H',Same H H'→Q (.bl (letB z.cps.toList)) H'
theorem len_list (z:Str):z.cps.toList.length=z.length:=by simp [Str.length]
theorem a_list:(Str.ofString "a").cps.toList=[97]:=by decide +kernel
theorem z_list:(Str.ofString "z").cps.toList=[122]:=by decide +kernel
theorem chain_az {σ:L2.St} {H:Hp} {c:Nat} {Q:VK} {j:Nat} (hj:σ[j]? = some (some (.str ⟨#[c]⟩))) (q:Q (.bl (wB c)) H) :
  tChain (fun x y H Q=>∃ i j,x=V.str i∧y=V.str j∧Q (.bl (!decide (j.cps.toList < i.cps.toList))) H) (fun x y H Q=>∃ i j,x=V.str i∧y=V.str j∧Q (.bl (!decide (j.cps.toList < i.cps.toList))) H) (tC (.str (Str.ofString "a"))) (tVar j) (tC (.str (Str.ofString "z"))) σ H Q:=by
 refine ⟨_,hj,_,_,rfl,rfl,_,rfl,?_⟩
 have e1:decide ((⟨#[c]⟩:Str).cps.toList < (Str.ofString "a").cps.toList)=decide (c < 97):=by rw [a_list]; exact lt_one c 97
 have e2:decide ((Str.ofString "z").cps.toList < (⟨#[c]⟩:Str).cps.toList)=decide (122 < c):=by rw [z_list]; exact lt_one 122 c
 rw [e1]
 by_cases h:c < 97
 ·have:wB c=false:=by unfold wB; rw [decide_eq_false (by omega)]; rfl
  rw [decide_eq_true h]
  rw [this] at q
  exact iteF q
 ·rw [decide_eq_false h]
  refine iteT ⟨_,_,rfl,rfl,?_⟩
  rw [e2]
  have:wB c = !decide (122 < c):=by
   unfold wB
   rw [decide_eq_true (show 97≤c by omega),Bool.true_and]
   by_cases h2:122 < c
   ·rw [decide_eq_true h2,decide_eq_false (by omega)]; rfl
   ·rw [decide_eq_false h2,decide_eq_true (by omega)]; rfl
  rw [this] at q
  exact q
def Seen (H:Hp) (f:Nat→Bool) (cs:List Nat) (i:Nat) (acc:List V) (H2:Hp):Prop:=acc=((cs.take i).map f).map V.bl∧i≤cs.length∧Same H H2
theorem seen_len {H:Hp} {f:Nat→Bool} {cs:List Nat}:∀ i acc H2,Seen H f cs i acc H2→acc.length≤i:=fun i acc H2 ⟨e,_,_⟩=>by
 rw [e,List.length_map,List.length_map,List.length_take]
 exact Nat.min_le_left _ _
theorem seen_step {H H2:Hp} {f:Nat→Bool} {cs:List Nat} {i:Nat} {acc:List V} {c:Nat} (hc:cs[i]? = some c) (h:Seen H f cs i acc H2):Seen H f cs (i+1) (acc ++ [.bl (f c)]) H2:=by
 obtain ⟨rfl,hi,e⟩:=h
 have hlt:i < cs.length:=(List.getElem?_eq_some_iff.mp hc).1
 refine ⟨?_,hlt,e⟩
 rw [List.take_add_one,hc,List.map_append,List.map_append]
 rfl
theorem chain_13 {σ:L2.St} {H:Hp} {z:Str} {Q:VK} {j:Nat} (hj:σ[j]? = some (some (.str z))) (hz:z.length≤1000) (q:Q (.bl (decide (1≤z.cps.toList.length) && decide (z.cps.toList.length≤3))) H) :
  tChain (rI0 fun i j=>.bl (decide (i≤j))) (rI0 fun i j=>.bl (decide (i≤j))) (tC (.int 1)) (tCB (fun xs H Q=>∃ z,xs=[V.str z]∧z.length≤sizeLine∧Q (.int z.length) H) (tCons (tVar j) tNil)) (tC (.int 3)) σ H Q:=by
 refine ⟨_,hj,z,rfl,line_le hz,_,_,rfl,rfl,_,rfl,?_⟩
 rw [len_list] at q
 by_cases h:(1:Int)≤(z.length:Int)
 ·rw [decide_eq_true h]
  refine iteT ⟨_,_,rfl,rfl,?_⟩
  rw [decide_eq_true (show 1≤z.length by omega),Bool.true_and] at q
  have:decide ((z.length:Int)≤3)=decide (z.length≤3):=by
   rw [Bool.eq_iff_iff,decide_eq_true_eq,decide_eq_true_eq]
   omega
  show Q (.bl (decide ((z.length:Int)≤3))) H
  rw [this]
  exact q
 ·rw [decide_eq_false h]
  rw [decide_eq_false (show ¬ 1≤z.length by omega),Bool.false_and] at q
  exact iteF q
theorem atI_at {cs:List Nat} {i:Nat} (h:i < cs.length):atI cs (0+(i:Int))=some (cs.getD i 0):=by
 rw [List.getD_eq_getElem?_getD,List.getElem?_eq_getElem h]
 exact atI_0 (List.getElem?_eq_getElem h)
theorem atI_at1 {cs:List Nat} {i:Nat} (h:i+1 < cs.length):atI cs (0+(i:Int)+1)=some (cs.getD (i+1) 0):=by
 have:=atI_at h
 rw [show (0:Int)+((i+1:Nat):Int)=0+(i:Int)+1 by omega] at this
 exact this
theorem less_next {σ:L2.St} {H:Hp} {z:Str} {Q:VK} {i:Nat} {jr jn:Nat} (hz:z.length≤1000) (hi:i+1 < z.cps.toList.length) (hr:σ[jr]? = some (some (.str z))) (hn:σ[jn]? = some (some (.int (0+(i:Int))))) (q:Q (.bl (rB z.cps.toList i)) H) :
  tOp (fun x y H Q=>∃ i j,x=V.str i∧y=V.str j∧Q (.bl (decide (i.cps.toList < j.cps.toList))) H) (tOp rIxS (tVar jr) (tVar jn)) (tOp rIxS (tVar jr) (tOp (rI0 fun i j=>.int (i+j)) (tVar jn) (tC (.int 1)))) σ H Q:=by
 refine ⟨_,hr,_,hn,z,_,_,rfl,rfl,line_le hz,atI_at (by omega),_,hr,_,hn,_,_,rfl,rfl,z,_,_,rfl,rfl,line_le hz,atI_at1 hi,_,_,rfl,rfl,?_⟩
 have e:decide ((⟨#[z.cps.toList.getD i 0]⟩:Str).cps.toList < (⟨#[z.cps.toList.getD (i+1) 0]⟩:Str).cps.toList)=rB z.cps.toList i:=lt_one _ _
 rw [e]
 exact q
def SeenR (H:Hp) (cs:List Nat) (i:Nat) (acc:List V) (H2:Hp):Prop:=acc=((List.range i).map (rB cs)).map V.bl∧Same H H2
theorem seenR_len {H:Hp} {cs:List Nat}:∀ i acc H2,SeenR H cs i acc H2→acc.length≤i:=fun i acc H2 ⟨e,_⟩=>by
 rw [e,List.length_map,List.length_map,List.length_range]
 exact Nat.le_refl _
theorem seenR_step {H H2:Hp} {cs:List Nat} {i:Nat} {acc:List V} (h:SeenR H cs i acc H2):SeenR H cs (i+1) (acc ++ [.bl (rB cs i)]) H2:=by
 obtain ⟨rfl,e⟩:=h
 refine ⟨?_,e⟩
 rw [List.range_succ,List.map_append,List.map_append]
 rfl
theorem ok_rising {f:Addr} {fd:FuncData} (F:Fun K "rising" "rising" s_rising f fd) (Z:Blt mg):FnOk P w K mg base CX0 1 f fd ["row"] spRising:=by
 refine F.ok sc_rising (fun vs H Q E h=>?_) (fun cdv A outer s H vs Q E hr h=>?_)
 ·obtain ⟨z,rfl,_⟩:=h
  rfl
 obtain ⟨z,rfl,hz,k⟩:=h
 refine ⟨_,(pss_one (ps_ret (pe_callB (call_allK (K:=K)) (by rfl) Z.all bt_all (pa_cons (pe_comp (sc:=defScope s_rising) (Nm:=["row"]) (own:=["n"]) (fr:=[0]) ⟨rfl,by decide +kernel,by decide +kernel,by decide +kernel,by decide +kernel⟩ (by rfl) (gfr_name (by decide)) (pi_range1 (by rfl) Z.range (pa_cons (pe_op op_sub (pe_callB call_len_str (by rfl) Z.len bt_len (pa_cons (pv 0) pa_nil)) pe_int) pa_nil)) (fun d=>(pg_name (i:=0) nd_rising_0 (by rfl) (Or.inl (by rfl)))) (fun d=>pts_nil) (fun d=>(pe_cmpR op_lt_str (pe_ix ix_str (pv 1) (pv 0) (fun _ _=>rfl)) (pe_ix ix_str (pv 1) (pe_op op_add (pv 0) pe_int) (fun _ _=>rfl)) (nomark _)))) pa_nil)))),?_⟩
 have hl:=len_list z
 refine ⟨_,rfl,z,rfl,line_le hz,_,_,rfl,rfl,_,rfl,by omega,by omega,?_⟩
 refine comp_range (lo:=0) (k:=((z.length:Int) - 1).toNat) (SeenR H z.cps.toList) (Nat.lt_of_le_of_lt (show ((z.length:Int) - 1).toNat≤1000 by omega) (by decide)) ⟨rfl,Same.refl _⟩ seenR_len
  (fun i acc H2 hi hp=>cyes (less_next hz (by omega) rfl rfl (seenR_step hp))) (fun acc H2 hp l hl2=>?_)
 obtain ⟨rfl,e⟩:=hp
 refine ⟨l,_,rfl,SqL.of upd_same,?_⟩
 have q:=k _ (e.trans (same_new hl2 (.lst (((List.range ((z.length:Int) - 1).toNat).map (rB z.cps.toList)).map V.bl))))
 unfold risB at q
 rw [hl,show z.length - 1=((z.length:Int) - 1).toNat by omega] at q
 exact q
theorem ok_is_word {f:Addr} {fd:FuncData} (F:Fun K "is_word" "is_word" s_is_word f fd) (Z:Blt mg):FnOk P w K mg base CX0 1 f fd ["text"] spIsWord:=by
 refine F.ok sc_is_word (fun vs H Q E h=>?_) (fun cdv A outer s H vs Q E hr h=>?_)
 ·obtain ⟨z,rfl,_⟩:=h
  rfl
 obtain ⟨z,rfl,hz,k⟩:=h
 refine ⟨_,(pss_one (ps_ret (pe_callB (call_allK (K:=K)) (by rfl) Z.all bt_all (pa_cons (pe_comp (sc:=defScope s_is_word) (Nm:=["text"]) (own:=["sign"]) (fr:=[]) ⟨rfl,by decide +kernel,by decide +kernel,by decide +kernel,by decide +kernel⟩ (by rfl) (gfr_name (by decide)) (pi_str (pv 0)) (fun d=>(pg_name (i:=0) nd_is_word_0 (by rfl) (Or.inl (by rfl)))) (fun d=>pts_nil) (fun d=>(pe_chain op_le_str op_le_str pe_str (pv 0) pe_str))) pa_nil)))),?_⟩
 have hl:=len_list z
 refine ⟨_,rfl,z,rfl,?_⟩
 refine comp_str (cs:=z.cps.toList) (Seen H wB z.cps.toList) (by rw [hl]; exact small1000 hz) ⟨rfl,Nat.zero_le _,Same.refl _⟩ seen_len
  (fun i acc H2 c hc hp=>cyes (chain_az rfl (seen_step hc hp))) (fun acc H2 hp l hl2=>?_)
 obtain ⟨rfl,_,e⟩:=hp
 rw [List.take_length]
 exact ⟨l,_,rfl,SqL.of upd_same,k _ (e.trans (same_new hl2 _))⟩
theorem ok_is_letters {f:Addr} {fd:FuncData} (F:Fun K "is_letters" "is_letters" s_is_letters f fd) (Z:Blt mg) (C_is_word:Cal P w K mg base "is_word" 1 ["text"] spIsWord) (C_rising:Cal P w K mg base "rising" 1 ["row"] spRising) :
  FnOk P w K mg base CX0 2 f fd ["text"] spIsLetters:=by
 refine F.ok sc_is_letters (fun vs H Q E h=>?_) (fun cdv A outer s H vs Q E hr h=>?_)
 ·obtain ⟨z,rfl,_⟩:=h
  rfl
 obtain ⟨z,rfl,hz,k⟩:=h
 refine ⟨_,(pss_one (ps_ret (pe_and (pe_chain op_le op_le pe_int (pe_callB call_len_str (by rfl) Z.len bt_len (pa_cons (pv 0) pa_nil)) pe_int) (pe_and (pe_c C_is_word (hr.mono (by decide)) (pa_cons (pv 0) pa_nil)) (pe_one (pe_c C_rising (hr.mono (by decide)) (pa_cons (pv 0) pa_nil))))))),?_⟩
 refine chain_13 rfl hz ⟨_,rfl,?_⟩
 unfold letB at k
 generalize (decide (1≤z.cps.toList.length) && decide (z.cps.toList.length≤3))=b at k ⊢
 cases b with
 | false=>exact iteF (k H (Same.refl _))
 | true=>
  refine iteT ⟨_,rfl,z,rfl,hz,fun H1 e1=>⟨_,rfl,?_⟩⟩
  rw [Bool.true_and] at k
  generalize wordB z.cps.toList=b2 at k ⊢
  cases b2 with
  | false=>exact iteF (k H1 e1)
  | true=>exact iteT ⟨_,rfl,z,rfl,hz,fun H2 e2=>k H2 (e1.trans e2)⟩
def Tk (H H':Hp):Prop:=∀ b ys,H b=some (.tup ys)→H' b=some (.tup ys)
theorem Tk.same {H H':Hp} (e:Same H H'):Tk H H':=fun b ys h=>e b _ h
theorem Tk.trans {H H1 H2:Hp} (a:Tk H H1) (b:Tk H1 H2):Tk H H2:=fun c ys h=>b c ys (a c ys h)
theorem Tk.dct {H:Hp} {l:Addr} {xs:List (List Key × V)} (h:H l=some (.dT xs)) (o:HO):Tk H (upd H l o):=fun b ys e=>by
 rw [upd_ne (ne_of e h fun z=>nomatch z)]
 exact e
theorem map_take {α β:Type} {f:α→β} {l:List α} {i:Nat} {x:α} (h:l[i]? = some x):(l.take (i+1)).map f=(l.take i).map f ++ [f x]:=by
 rw [List.take_add_one,h,List.map_append]
 rfl
theorem Tk.drew {H H':Hp} {p sc:Addr} (F:FlowAt H p sc) (d:Drew H H' p):Tk H H':=fun b ys h=>by
 obtain ⟨xs,hp,_⟩:=F.here
 exact d _ _ h (ne_of h hp fun z=>nomatch z)
inductive TR {α:Type} (tv:α→List V) (H:Hp):List V→List α→Prop where
 | nil:TR tv H [] []
 | cons {a:Addr} {r:α} {vs:List V} {rs:List α} (h:H a=some (.tup (tv r))) (t:TR tv H vs rs):TR tv H (.ref a :: vs) (r :: rs)
section
variable {α:Type} {tv:α→List V}
theorem TR.len {H:Hp}:∀ {vs:List V} {rs:List α},TR tv H vs rs→vs.length=rs.length
 | _,_,.nil=>rfl
 | _,_,.cons _ t=>by rw [List.length_cons,List.length_cons,t.len]
end
def kitB (K:PySem.W.Frag) (cS c0 c1 c2 c3 c4:Addr):Bool:=
 let cs:=[(c0,0),(c1,1),(c2,2),(c3,3),(c4,4)]
 (cs.all fun p=>cs.all fun q=>PySem.W.kitOne K (.ref p.1) (.ref q.1)==some (decide (p.2=q.2))) && (cs.all fun p=>PySem.W.kitOne K (.ref p.1) (.ref cS)==some true && PySem.W.kitOne K (.ref p.1) (.type "ValueError")==some true) &&
  (cs.all fun q=>PySem.W.kitOne K (.ref cS) (.ref q.1)==some false) && PySem.W.kitOne K (.ref cS) (.type "ValueError")==some true
def exmB (K:PySem.W.Frag) (cS c0 c1 c2 c3 c4:Addr):Bool:=[c0,c1,c2,c3,c4].all fun c=>PySem.W.exmOne K (.ref c) (.ref cS)==some true
structure Kls (K:PySem.W.Frag) (mg:Str→Option Value) (cSpreadError cNoText cNoMachine cNoFit cNoName cNoRow:Addr):Prop where
 mSpreadError:mg "SpreadError" = some (.ref cSpreadError)
 mNoText:mg "NoText" = some (.ref cNoText)
 mNoMachine:mg "NoMachine" = some (.ref cNoMachine)
 mNoFit:mg "NoFit" = some (.ref cNoFit)
 mNoName:mg "NoName" = some (.ref cNoName)
 mNoRow:mg "NoRow" = some (.ref cNoRow)
 fNoText:ExcF K cNoText
 fNoMachine:ExcF K cNoMachine
 fNoFit:ExcF K cNoFit
 fNoName:ExcF K cNoName
 fNoRow:ExcF K cNoRow
 kNoFit:PySem.W.keepIn K (.ref cNoFit)=true
 kNoRow:PySem.W.keepIn K (.ref cNoRow)=true
 eNoFit:excK K cNoFit none=true
 eNoRow:excK K cNoRow none=true
 kit:kitB K cSpreadError cNoText cNoMachine cNoFit cNoName cNoRow=true
 exm:exmB K cSpreadError cNoText cNoMachine cNoFit cNoName cNoRow=true
structure Kind (K:PySem.W.Frag) (cS c0 c1 c2 c3 c4:Addr) (C:Addr) (i:Nat):Prop where
 up:PySem.W.kitOne K (.ref C) (.ref cS)=some true
 ve:PySem.W.kitOne K (.ref C) (.type "ValueError")=some true
 k0:PySem.W.kitOne K (.ref C) (.ref c0)=some (decide (i=0))
 k1:PySem.W.kitOne K (.ref C) (.ref c1)=some (decide (i=1))
 k2:PySem.W.kitOne K (.ref C) (.ref c2)=some (decide (i=2))
 k3:PySem.W.kitOne K (.ref C) (.ref c3)=some (decide (i=3))
 k4:PySem.W.kitOne K (.ref C) (.ref c4)=some (decide (i=4))
theorem kinds_of {K:PySem.W.Frag} {cS c0 c1 c2 c3 c4:Addr} (h:kitB K cS c0 c1 c2 c3 c4=true) :
  (Kind K cS c0 c1 c2 c3 c4 c0 0∧Kind K cS c0 c1 c2 c3 c4 c1 1∧Kind K cS c0 c1 c2 c3 c4 c2 2∧Kind K cS c0 c1 c2 c3 c4 c3 3∧Kind K cS c0 c1 c2 c3 c4 c4 4)∧
  (PySem.W.kitOne K (.ref cS) (.ref c0)=some false∧PySem.W.kitOne K (.ref cS) (.ref c1)=some false∧PySem.W.kitOne K (.ref cS) (.ref c2)=some false∧PySem.W.kitOne K (.ref cS) (.ref c3)=some false∧PySem.W.kitOne K (.ref cS) (.ref c4)=some false)∧PySem.W.kitOne K (.ref cS) (.type "ValueError")=some true:=by
 unfold kitB at h
 simp only [List.all_cons,List.all_nil,Bool.and_true,Bool.and_eq_true,beq_iff_eq] at h
 obtain ⟨⟨⟨⟨a0,a1,a2,a3,a4⟩,b0,b1,b2,b3,b4⟩,s0,s1,s2,s3,s4⟩,v⟩:=h
 exact ⟨⟨⟨b0.1,b0.2,a0.1,a0.2.1,a0.2.2.1,a0.2.2.2.1,a0.2.2.2.2⟩,⟨b1.1,b1.2,a1.1,a1.2.1,a1.2.2.1,a1.2.2.2.1,a1.2.2.2.2⟩,⟨b2.1,b2.2,a2.1,a2.2.1,a2.2.2.1,a2.2.2.2.1,a2.2.2.2.2⟩,⟨b3.1,b3.2,a3.1,a3.2.1,a3.2.2.1,a3.2.2.2.1,a3.2.2.2.2⟩,⟨b4.1,b4.2,a4.1,a4.2.1,a4.2.2.1,a4.2.2.2.1,a4.2.2.2.2⟩⟩,⟨s0,s1,s2,s3,s4⟩,v⟩
theorem exm_of {K:PySem.W.Frag} {cS c0 c1 c2 c3 c4 c:Addr} (h:exmB K cS c0 c1 c2 c3 c4=true) (hc:c∈[c0,c1,c2,c3,c4]):PySem.W.exmOne K (.ref c) (.ref cS)=some true:=by
 unfold exmB at h
 exact beq_iff_eq.mp (List.all_eq_true.mp h c hc)
def spCaught (K:PySem.W.Frag) (cS c0 c1 c2 c3 c4:Addr):Sp:=fun vs H Q _=>∃ (a C:Addr) (fs:List (Str × V)) (i:Nat),vs=[.ref a]∧ExnR H a C fs∧ExcF K C∧Kind K cS c0 c1 c2 c3 c4 C i∧i < 5∧∀ H',Same H H'→Q (.int (i:Nat)) H'
theorem sorts_count:∀ i,i < 5→[decide (i=0),decide (i=1),decide (i=2),decide (i=3),decide (i=4)].countP id=1
 | 0,_=>by decide
 | 1,_=>by decide
 | 2,_=>by decide
 | 3,_=>by decide
 | 4,_=>by decide
theorem sorts_at:∀ i,i < 5→[decide (i=0),decide (i=1),decide (i=2),decide (i=3),decide (i=4)][i]? = some true∧∀ m,m < i→[decide (i=0),decide (i=1),decide (i=2),decide (i=3),decide (i=4)][m]? = some false
 | 0,_=>⟨by decide,by decide⟩
 | 1,_=>⟨by decide,by decide⟩
 | 2,_=>⟨by decide,by decide⟩
 | 3,_=>⟨by decide,by decide⟩
 | 4,_=>⟨by decide,by decide⟩
theorem ok_law_caught {f:Addr} {fd:FuncData} {cSpreadError cNoText cNoMachine cNoFit cNoName cNoRow:Addr} (F:Fun K "_law_caught" "_law_caught" s_law_caught f fd) (Z:Blt mg) (kl:Kls K mg cSpreadError cNoText cNoMachine cNoFit cNoName cNoRow) :
  FnOk P w K mg base CX0 1 f fd ["_law_e"] (spCaught K cSpreadError cNoText cNoMachine cNoFit cNoName cNoRow):=by
 refine F.ok sc_law_caught (fun vs H Q E h=>?_) (fun cdv A outer s H vs Q E hr h=>?_)
 ·obtain ⟨a,C,fs,i,rfl,_⟩:=h
  rfl
 obtain ⟨a,C,fs,i,rfl,ex,cf,kd,hi,k⟩:=h
 refine ⟨_,(pss_cons (ps_set (i:=1) sc_law_caught.nd (by rfl) (Or.inl (by rfl)) (pe_lst (pa_cons (pe_callB (call_isR (K:=K)) (by rfl) Z.isinstance bt_isinstance (pa_cons (pv 0) (pa_cons (pe_glob (v:=.ref cNoText) (by rfl) kl.mNoText rfl) pa_nil))) (pa_cons (pe_callB (call_isR (K:=K)) (by rfl) Z.isinstance bt_isinstance (pa_cons (pv 0) (pa_cons (pe_glob (v:=.ref cNoMachine) (by rfl) kl.mNoMachine rfl) pa_nil))) (pa_cons (pe_callB (call_isR (K:=K)) (by rfl) Z.isinstance bt_isinstance (pa_cons (pv 0) (pa_cons (pe_glob (v:=.ref cNoFit) (by rfl) kl.mNoFit rfl) pa_nil))) pa_nil))))) 
   (pss_cons (ps_set (i:=1) sc_law_caught.nd (by rfl) (Or.inl (by rfl)) (pe_op op_cat (pv 1) (pe_lst (pa_cons (pe_callB (call_isR (K:=K)) (by rfl) Z.isinstance bt_isinstance (pa_cons (pv 0) (pa_cons (pe_glob (v:=.ref cNoName) (by rfl) kl.mNoName rfl) pa_nil))) (pa_cons (pe_callB (call_isR (K:=K)) (by rfl) Z.isinstance bt_isinstance (pa_cons (pv 0) (pa_cons (pe_glob (v:=.ref cNoRow) (by rfl) kl.mNoRow rfl) pa_nil))) pa_nil))))) 
   (pss_cons (ps_if (PW.pt (pw_or (pt_cmpR op_ne (pe_bmK (K:=K) PySem.F.plainAttrs_list PySem.F.slot_list_count PySem.F.type_list_count mt_countB (pv 1) (pa_cons pe_bl pa_nil)) pe_int (nomark _)) (pw_or1 (pt_not (pt_truthK (K:=K) (pe_callB (call_isR (K:=K)) (by rfl) Z.isinstance bt_isinstance (pa_cons (pv 0) (pa_cons (pe_bltn (v:=V.ty "ValueError") (by rfl) Z.ValueError bt_ValueError rfl) pa_nil))) (fun _=>rfl)))))) 
    (pss_one (ps_ret (pe_un un_neg pe_int))) pss_nil) 
   (pss_one (ps_ret (pe_bmK (K:=K) PySem.F.plainAttrs_list PySem.F.slot_list_index PySem.F.type_list_index mt_indexB (pv 1) (pa_cons pe_bl pa_nil))))))),?_⟩
 refine ⟨_,rfl,a,C,fs,_,_,_,rfl,ex,cf,rfl,.inr ⟨_,rfl⟩,kd.k0,_,rfl,a,C,fs,_,_,_,rfl,ex,cf,rfl,.inr ⟨_,rfl⟩,kd.k1,_,rfl,a,C,fs,_,_,_,rfl,ex,cf,rfl,.inr ⟨_,rfl⟩,kd.k2,(by show 3≤sizeLine; decide),fun p hp=>?_⟩
 have s1:=same_new hp (.lst [.bl (decide (i=0)),.bl (decide (i=1)),.bl (decide (i=2))])
 refine ⟨_,rfl,_,rfl,a,C,fs,_,_,_,rfl,ex.same s1,cf,rfl,.inr ⟨_,rfl⟩,kd.k3,_,rfl,a,C,fs,_,_,_,rfl,ex.same s1,cf,rfl,.inr ⟨_,rfl⟩,kd.k4,(by show 2≤sizeLine; decide),fun q hq=>?_⟩
 have s2:=same_new hq (.lst [.bl (decide (i=3)),.bl (decide (i=4))])
 refine ⟨p,q,_,_,rfl,rfl,s2 _ _ upd_same,upd_same,(by show 5≤sizeLine; decide),fun l hl=>?_⟩
 have s3:=(s1.trans s2).trans (same_new hl (.lst ([decide (i=0),decide (i=1),decide (i=2),decide (i=3),decide (i=4)].map V.bl)))
 have hL:upd (upd (upd H p (.lst [.bl (decide (i=0)),.bl (decide (i=1)),.bl (decide (i=2))])) q (.lst [.bl (decide (i=3)),.bl (decide (i=4))])) l (.lst ([decide (i=0),decide (i=1),decide (i=2),decide (i=3),decide (i=4)].map V.bl)) l=some (.lst ([decide (i=0),decide (i=1),decide (i=2),decide (i=3),decide (i=4)].map V.bl)):=upd_same
 have e5:[V.bl (decide (i=0)),V.bl (decide (i=1)),V.bl (decide (i=2))] ++ [V.bl (decide (i=3)),V.bl (decide (i=4))]=[decide (i=0),decide (i=1),decide (i=2),decide (i=3),decide (i=4)].map V.bl:=rfl
 rw [e5]
 generalize upd (upd (upd H p (.lst [.bl (decide (i=0)),.bl (decide (i=1)),.bl (decide (i=2))])) q (.lst [.bl (decide (i=3)),.bl (decide (i=4))])) l (.lst ([decide (i=0),decide (i=1),decide (i=2),decide (i=3),decide (i=4)].map V.bl))=H3 at s3 hL
 refine ⟨_,rfl,.inl ⟨rfl,_,SqL.of hL⟩,l,[decide (i=0),decide (i=1),decide (i=2),decide (i=3),decide (i=4)],rfl,rfl,hL,?_⟩
 rw [sorts_count i hi]
 obtain ⟨at1,at2⟩:=sorts_at i hi
 refine ⟨rfl,_,rfl,iteF ?_⟩
 refine ⟨_,rfl,a,C,fs,_,_,_,rfl,ex.same s3,cf,rfl,.inl ⟨_,rfl⟩,kd.ve,_,rfl,iteF ?_⟩
 exact ⟨_,rfl,.inl ⟨rfl,_,SqL.of hL⟩,l,[decide (i=0),decide (i=1),decide (i=2),decide (i=3),decide (i=4)],i,rfl,rfl,hL,at1,at2,k _ s3⟩
structure RawAt (H:Hp) (m:Addr) (l:Str) (b:Int) (es:List Int) (st:List (List Int)):Prop where
 lay:∃ (e s:Addr) (ras:List Addr),H m=some (.tup [.str l,.int b,.ref e,.ref s])∧H e=some (.tup (es.map V.int))∧H s=some (.tup (ras.map V.ref))∧ras.length=st.length∧∀ (i:Nat) a r,ras[i]? = some a→st[i]? = some r→H a=some (.tup (r.map V.int))
 few:l.length≤100∧es.length≤100∧st.length≤100∧∀ r∈st,r.length≤100
theorem RawAt.keep {H H':Hp} {m:Addr} {l:Str} {b:Int} {es:List Int} {st:List (List Int)} (h:RawAt H m l b es st) (k:Tk H H'):RawAt H' m l b es st:=by
 obtain ⟨⟨e,s,ras,h1,h2,h3,h4,h5⟩,f⟩:=h
 exact ⟨⟨e,s,ras,k _ _ h1,k _ _ h2,k _ _ h3,h4,fun i a r q1 q2=>k _ _ (h5 i a r q1 q2)⟩,f⟩
theorem RawAt.same {H H':Hp} {m:Addr} {l:Str} {b:Int} {es:List Int} {st:List (List Int)} (h:RawAt H m l b es st) (e:Same H H'):RawAt H' m l b es st:=h.keep (Tk.same e)
def thB (n:Int) (x:Int):Bool:=decide (0≤x) && decide (x < n)
def rI (es:List Int) (i:Nat):Bool:=decide (es.getD i 0 < es.getD (i+1) 0)
def risI (es:List Int):Bool:=((List.range (es.length - 1)).map (rI es)).all id
def allB (n:Int) (es:List Int):Bool:=(es.map (thB n)).all id
def rowB (l:Str) (n:Int) (r:List Int):Bool:=decide (r.length=l.length) && allB n r
def verd (l:Str) (b:Int) (es:List Int) (st:List (List Int)):Option (Str × Int):=
 if letB l.cps.toList=false then some ("letters",(l.length:Int)) else if ¬ (1≤st.length∧st.length≤6) then some ("rooms",(st.length:Int)) else if thB st.length b=false then some ("begin",0)
 else if (risI es && allB st.length es)=false then some ("ends",(es.length:Int)) else (st.findIdx? fun r=>!rowB l st.length r).map fun i:Nat=>(Str.ofString "steps",(i:Int))
def vDt:Option (Str × Int)→Dt
 | none=>.tup [.str "told",.bl true]
 | some (w,n)=>.lst [.str "refused",.str w,.int n]
theorem ifN {c:Bool} {A B:Prop} (h:c=false) (b:B):if c=true then A else B:=by rw [h]; exact b
theorem ifY {c:Bool} {A B:Prop} (h:c=true) (a:A):if c=true then A else B:=by rw [if_pos h]; exact a
def spTwoD (C:Addr) (f g:Str):Sp:=fun vs H Q _=>∃ a y z,vs=[.ref a,y,z]∧H a=some (exH a C none)∧∀ H' dx,a≠dx→(∀ b o,b≠a→H b=some o→H' b=some o)→H' a=some (exH a C (some dx))→H' dx=some (xdH dx [(f,y),(g,z)])→Q .non H'
theorem ok_NoMachine_init {C f:Addr} {fd:FuncData} (F:Fun K "__init__" "NoMachine.__init__" s_NoMachine_init f fd) (cf:ExcF K C) (n:NoAttr K C "word") (n2:NoAttr K C "at"):FnOk P w K mg base CX0 1 f fd ["self","word","at"] (spTwoD C "word" "at"):=by
 refine F.ok sc_NoMachine_init (fun vs H Q E h=>?_) (fun cdv A outer s H vs Q E hr h=>?_)
 ·obtain ⟨a,y,z,rfl,_⟩:=h
  rfl
 obtain ⟨a,y,z,rfl,e,k⟩:=h
 refine ⟨_,(pss_cons (ps_xfld (K:=K) (pv 0) (pv 1)) 
   (pss_one (ps_xfld (K:=K) (pv 0) (pv 2)))),?_⟩
 refine ⟨_,rfl,_,rfl,a,C,rfl,cf,n,.inl ⟨e,fun dx hd=>?_⟩⟩
 have nad:a≠dx:=ne_of_none e hd
 refine ⟨_,rfl,_,rfl,a,C,rfl,cf,n2,.inr ⟨dx,[(Str.ofString "word",y)],(upd_ne nad).trans upd_same,upd_same,(show (1:Nat) < 900 by decide),?_⟩⟩
 rw [upd_upd]
 have ep:putF (Str.ofString "at") z [(Str.ofString "word",y)]=[(Str.ofString "word",y),(Str.ofString "at",z)]:=rfl
 rw [ep]
 refine k _ dx nad (fun b o nb q=>?_) ((upd_ne nad).trans upd_same) upd_same
 rw [upd_ne (ne_of_none q hd),upd_ne nb]
 exact q
abbrev twoF (wd:Str) (n:Int):List (Str × V):=[(Str.ofString "word",.str wd),(Str.ofString "at",.int n)]
theorem raise_two {K:PySem.W.Frag} {H:Hp} {C:Addr} {wd:Str} {n:Int} {E:XK} {g:Addr} (hx:excK K C (some (.ref g))=true) (k:∀ a H',Same H H'→ExnR H' a C (twoF wd n)→E (.ref a) none H') :
  ([V.str wd,V.int n].length≤1000∧∀ e,H e=none→spTwoD C "word" "at" (.ref e :: [V.str wd,V.int n]) (upd H e (exH e C none)) (fun v H2=>v=.non∧∃ a C' d ini,V.ref e=.ref a∧excK K C' ini=true∧H2 a=some (exH a C' d)∧E (.ref a) none (upd H2 a (exR a C' d))) E0):=by
 refine ⟨(by show 2≤1000; decide),fun e he=>⟨e,_,_,rfl,upd_same,fun H' dx nd kp h1 h2=>⟨rfl,e,C,some dx,_,rfl,hx,h1,?_⟩⟩⟩
 refine k e _ (fun b o q=>?_) (.inr ⟨dx,upd_same,(upd_ne nd.symm).trans h2⟩)
 have nb:=ne_of_none q he
 rw [upd_ne nb]
 exact kp b o nb ((upd_ne nb).trans q)
theorem chain_0n {σ:L2.St} {H:Hp} {x n:Int} {Q:VK} {j j2:Nat} (hj:σ[j]? = some (some (.int x))) (hj2:σ[j2]? = some (some (.int n))) (q:Q (.bl (thB n x)) H) :
  tChain (rI0 fun i j=>.bl (decide (i≤j))) (rI0 fun i j=>.bl (decide (i < j))) (tC (.int 0)) (tVar j) (tVar j2) σ H Q:=by
 refine ⟨_,hj,_,_,rfl,rfl,_,rfl,?_⟩
 unfold thB at q
 by_cases h:(0:Int)≤x
 ·rw [decide_eq_true h] at q ⊢
  rw [Bool.true_and] at q
  exact iteT ⟨_,hj2,_,_,rfl,rfl,q⟩
 ·rw [decide_eq_false h] at q ⊢
  rw [Bool.false_and] at q
  exact iteF q
def spThere:Sp:=fun vs H Q _=>∃ (a:Addr) (es:List Int) (n:Int),vs=[.ref a,.int n]∧H a=some (.tup (es.map V.int))∧es.length≤100∧∀ H',Same H H'→Q (.bl (allB n es)) H'
theorem ok_all_there {f:Addr} {fd:FuncData} (F:Fun K "all_there" "all_there" s_all_there f fd) (Z:Blt mg):FnOk P w K mg base CX0 1 f fd ["rooms","count"] spThere:=by
 refine F.ok sc_all_there (fun vs H Q E h=>?_) (fun cdv A outer s H vs Q E hr h=>?_)
 ·obtain ⟨a,es,n,rfl,_⟩:=h
  rfl
 obtain ⟨a,es,n,rfl,ha,hz,k⟩:=h
 refine ⟨_,(pss_one (ps_ret (pe_callB (call_allK (K:=K)) (by rfl) Z.all bt_all (pa_cons (pe_comp (sc:=defScope s_all_there) (Nm:=["rooms","count"]) (own:=["room"]) (fr:=[1]) ⟨rfl,by decide +kernel,by decide +kernel,by decide +kernel,by decide +kernel⟩ (by rfl) (gfr_name (by decide)) (pi_tupK (K:=K) (pv 0)) (fun d=>(pg_name (i:=0) nd_all_there_0 (by rfl) (Or.inl (by rfl)))) (fun d=>pts_nil) (fun d=>(pe_chain op_le op_lt pe_int (pv 0) (pv 1)))) pa_nil)))),?_⟩
 have hl:(es.map V.int).length=es.length:=List.length_map ..
 refine ⟨_,rfl,a,rfl,⟨_,SqT.of ha⟩,?_⟩
 refine comp_tup (K:=K) (a:=a) (xs:=es.map V.int) (fun i acc H2=>acc=((es.take i).map (thB n)).map V.bl∧Same H H2) (by rw [hl]; exact small1000 (by omega)) ⟨rfl,Same.refl _⟩ (fun i acc H2 q=>by rw [q.1,List.length_map,List.length_map,List.length_take]; exact Nat.min_le_left _ _)
  (fun i acc H2 q=>SqT.of (q.2 _ _ ha)) (fun i acc H2 x hx q=>?_) (fun acc H2 q y hy=>?_)
 ·obtain ⟨rfl,e⟩:=q
  rw [List.getElem?_map] at hx
  cases hc:es[i]? with
  | none=>rw [hc] at hx; cases hx
  | some c=>
   rw [hc] at hx
   cases hx
   refine cyes (chain_0n rfl rfl ⟨?_,e⟩)
   rw [List.take_add_one,hc,List.map_append,List.map_append]
   rfl
 ·obtain ⟨rfl,e⟩:=q
  rw [hl,List.take_length]
  exact ⟨y,es.map (thB n),rfl,SqL.of upd_same,k _ (e.trans (same_new hy _))⟩
theorem atI_i {es:List Int} {i:Nat} (h:i < es.length):atI (es.map V.int) (0+(i:Int))=some (.int (es.getD i 0)):=by
 rw [List.getD_eq_getElem?_getD,List.getElem?_eq_getElem h]
 exact atI_0 (by rw [List.getElem?_map,List.getElem?_eq_getElem h]; rfl)
theorem atI_i1 {es:List Int} {i:Nat} (h:i+1 < es.length):atI (es.map V.int) (0+(i:Int)+1)=some (.int (es.getD (i+1) 0)):=by
 have:=atI_i h
 rw [show (0:Int)+((i+1:Nat):Int)=0+(i:Int)+1 by omega] at this
 exact this
def spRisingT:Sp:=fun vs H Q _=>∃ (a:Addr) (es:List Int),vs=[.ref a]∧H a=some (.tup (es.map V.int))∧es.length≤100∧∀ H',Same H H'→Q (.bl (risI es)) H'
theorem ok_risingT {f:Addr} {fd:FuncData} (F:Fun K "rising" "rising" s_rising f fd) (Z:Blt mg):FnOk P w K mg base CX0 1 f fd ["row"] spRisingT:=by
 refine F.ok sc_rising (fun vs H Q E h=>?_) (fun cdv A outer s H vs Q E hr h=>?_)
 ·obtain ⟨a,es,rfl,_⟩:=h
  rfl
 obtain ⟨a,es,rfl,ha,hz,k⟩:=h
 refine ⟨_,(pss_one (ps_ret (pe_callB (call_allK (K:=K)) (by rfl) Z.all bt_all (pa_cons (pe_comp (sc:=defScope s_rising) (Nm:=["row"]) (own:=["n"]) (fr:=[0]) ⟨rfl,by decide +kernel,by decide +kernel,by decide +kernel,by decide +kernel⟩ (by rfl) (gfr_name (by decide)) (pi_range1 (by rfl) Z.range (pa_cons (pe_op op_sub (pe_callB (call_lenK (K:=K)) (by rfl) Z.len bt_len (pa_cons (pv 0) pa_nil)) pe_int) pa_nil)) (fun d=>(pg_name (i:=0) nd_rising_0 (by rfl) (Or.inl (by rfl)))) (fun d=>pts_nil) (fun d=>(pe_cmpR op_lt (pe_ix (ix_tupK (K:=K)) (pv 1) (pv 0) (fun _ _=>rfl)) (pe_ix (ix_tupK (K:=K)) (pv 1) (pe_op op_add (pv 0) pe_int) (fun _ _=>rfl)) (nomark _)))) pa_nil)))),?_⟩
 have hl:(es.map V.int).length=es.length:=List.length_map ..
 refine ⟨_,rfl,a,_,rfl,.inr (SqT.of ha),_,_,rfl,rfl,_,rfl,by omega,by omega,?_⟩
 refine comp_range (lo:=0) (k:=(((es.map V.int).length:Int) - 1).toNat) (fun i acc H2=>acc=((List.range i).map (rI es)).map V.bl∧Same H H2) (Nat.lt_of_le_of_lt (show (((es.map V.int).length:Int) - 1).toNat≤1000 by omega) (by decide)) ⟨rfl,Same.refl _⟩
  (fun i acc H2 q=>by rw [q.1,List.length_map,List.length_map,List.length_range]; exact Nat.le_refl _) (fun i acc H2 hi q=>cyes ?_) (fun acc H2 q y hy=>?_)
 ·obtain ⟨rfl,e⟩:=q
  have h2:=e _ _ ha
  refine ⟨_,rfl,_,rfl,a,_,_,_,rfl,rfl,SqT.of h2,atI_i (by omega),_,rfl,_,rfl,_,_,rfl,rfl,a,_,_,_,rfl,rfl,SqT.of h2,atI_i1 (by omega),_,_,rfl,rfl,?_,e⟩
  rw [List.range_succ,List.map_append,List.map_append]
  rfl
 ·obtain ⟨rfl,e⟩:=q
  refine ⟨y,_,rfl,SqL.of upd_same,?_⟩
  have q:=k _ (e.trans (same_new hy (.lst (((List.range (((es.map V.int).length:Int) - 1).toNat).map (rI es)).map V.bl))))
  unfold risI at q
  rw [show es.length - 1=(((es.map V.int).length:Int) - 1).toNat by omega] at q
  exact q
def spSteps (cM:Addr):Sp:=fun vs H Q E=>∃ (l:Str) (s:Addr) (ras:List Addr) (st:List (List Int)),vs=[.str l,.ref s]∧H s=some (.tup (ras.map V.ref))∧ras.length=st.length∧(∀ (i:Nat) a r,ras[i]? = some a→st[i]? = some r→H a=some (.tup (r.map V.int)))∧l.length≤100∧st.length≤100∧(∀ r∈st,r.length≤100)∧
 ((st.findIdx? fun r=>!rowB l st.length r)=none→∀ H',Same H H'→Q .non H')∧∀ i,(st.findIdx? fun r=>!rowB l st.length r)=some i→∀ a H',Same H H'→ExnR H' a cM (twoF "steps" (i:Nat))→E (.ref a) none H'
theorem find_steps {l:Str} {n:Int} {st:List (List Int)} {i:Nat} (h0:∀ (k:Nat) r,k < i→st[k]? = some r→rowB l n r=true) {r:List Int} (hr:st[i]? = some r) (hb:rowB l n r=false):(st.findIdx? fun r=>!rowB l n r)=some i:=by
 rw [List.findIdx?_eq_some_iff_getElem]
 obtain ⟨hi,e⟩:=List.getElem?_eq_some_iff.mp hr
 refine ⟨hi,by rw [e,hb]; rfl,fun j hj=>?_⟩
 rw [h0 j _ hj (List.getElem?_eq_getElem (Nat.lt_trans hj hi))]
 simp
theorem find_none {l:Str} {n:Int} {st:List (List Int)} (h0:∀ (k:Nat) r,k < st.length→st[k]? = some r→rowB l n r=true):(st.findIdx? fun r=>!rowB l n r)=none:=by
 rw [List.findIdx?_eq_none_iff]
 intro r hr
 obtain ⟨k,hk,e⟩:=List.mem_iff_getElem.mp hr
 rw [h0 k r hk (by rw [List.getElem?_eq_getElem hk,e])]
 rfl
theorem ok_look_steps {f:Addr} {fd:FuncData} {g cSpreadError cNoText cNoMachine cNoFit cNoName cNoRow:Addr} (F:Fun K "look_steps" "look_steps" s_look_steps f fd) (Z:Blt mg) (kl:Kls K mg cSpreadError cNoText cNoMachine cNoFit cNoName cNoRow) (hx:excK K cNoMachine (some (.ref g))=true)
  (C_NoMachine:CalX P w K mg base "NoMachine" 1 ["self","word","at"] (spTwoD cNoMachine "word" "at") cNoMachine) (C_all_there:Cal P w K mg base "all_there" 1 ["rooms","count"] spThere):FnOk P w K mg base (CXE P w) 3 f fd ["letters","steps"] (spSteps cNoMachine):=by
 refine F.okX sc_look_steps (fun vs H Q E h=>?_) (fun A outer s H vs Q E hr h=>?_)
 ·obtain ⟨l,s,ras,st,rfl,_⟩:=h
  rfl
 obtain ⟨l,s',ras,st,rfl,hs,hlen,hrow,hl,hst,hr100,kq,kx⟩:=h
 refine ⟨_,(pss_one (ps_for PassesOwn.leaving (by rfl) (pi_enum (K:=K) (by rfl) Z.enumerate (pv 1)) (pg_tupK (K:=K) (n:=2) (by rfl) (pgs_cons (pg_name (i:=2) sc_look_steps.nd (by rfl) (Or.inl (by rfl))) (pgs_cons (pg_name (i:=3) sc_look_steps.nd (by rfl) (Or.inl (by rfl))) pgs_nil))) 
    (pss_one (ps_if (PW.pt (pw_or (pt_cmpR op_ne (pe_callB (call_lenK (K:=K)) (by rfl) Z.len bt_len (pa_cons (pv 3) pa_nil)) (pe_callB call_len_str (by rfl) Z.len bt_len (pa_cons (pv 0) pa_nil)) (nomark _)) (pw_or1 (pt_not (pt_truthK (K:=K) (pe_c C_all_there (hr.mono (by decide)) (pa_cons (pv 3) (pa_cons (pe_callB (call_lenK (K:=K)) (by rfl) Z.len bt_len (pa_cons (pv 1) pa_nil)) pa_nil))) (fun _=>rfl)))))) 
     (pss_one (ps_raise (K:=K) (pe_x C_NoMachine (hr.mono (by decide)) (pa_cons pe_str (pa_cons (pv 2) pa_nil))) rx_def)) pss_nil)))),?_⟩
 refine ⟨_,rfl,s',ras.map V.ref,rfl,.inr ⟨SqT.of hs,?_⟩⟩
 refine for_enum (xs:=ras.map V.ref) (fun i σ H2=>∃ (v2 v3:Option V),σ=[some (.str l),some (.ref s'),v2,v3]∧Same H H2∧∀ (k:Nat) r,k < i→st[k]? = some r→rowB l st.length r=true) ⟨none,none,rfl,Same.refl _,fun k r h=>absurd h (Nat.not_lt_zero _)⟩ (fun i σ H2 _ h=>?_) ?_ ?_
 ·obtain ⟨_,_,_,e,_⟩:=h
  exact SqT.of (e _ _ hs)
 ·rintro i x σ H2 p hx' ⟨v2,v3,rfl,e2,hall⟩ hp
  rw [List.getElem?_map] at hx'
  cases hc:ras[i]? with
  | none=>rw [hc] at hx'; cases hx'
  | some a=>
   rw [hc] at hx'
   cases hx'
   have hi:=(List.getElem?_eq_some_iff.mp hc).1
   have hri:st[i]? = some (st[i]'(by omega)):=List.getElem?_eq_getElem (by omega)
   generalize st[i]'(by omega)=r at hri
   have ha:=hrow i a r hc hri
   have s3:=same_new hp (.tup [.int i,.ref a])
   have h3p:upd H2 p (.tup [.int i,.ref a]) p=some (.tup [.int i,.ref a]):=upd_same
   generalize upd H2 p (.tup [.int i,.ref a])=H3 at s3 h3p
   have e3:=e2.trans s3
   have hrl:=hr100 r (List.mem_of_getElem? hri)
   have hml:(r.map V.int).length=r.length:=List.length_map ..
   refine ⟨p,_,rfl,SqT.of h3p,rfl,_,_,rfl,_,_,rfl,rfl,?_⟩
   refine ⟨_,rfl,a,_,rfl,.inr (SqT.of (e3 _ _ ha)),_,rfl,l,rfl,line_le (by omega),rfl,_,rfl,ite2 (fun c=>?_) (fun c=>?_)⟩
   ·refine iteT ⟨_,rfl,raise_two hx fun a' H' e' ex=>kx i (find_steps hall hri ?_) a' H' (e3.trans e') ex⟩
    have c':(!decide (V.int ((r.map V.int).length:Nat)=V.int (l.length:Nat)))=true:=c
    have:¬ r.length=l.length:=fun e=>by
     rw [hml,e] at c'
     simp at c'
    unfold rowB
    rw [decide_eq_false this,Bool.false_and]
   ·have hrr:r.length=l.length:=by
     have c':¬ (!decide (V.int ((r.map V.int).length:Nat)=V.int (l.length:Nat)))=true:=c
     refine Classical.byContradiction fun e=>c' ?_
     rw [decide_eq_false (fun z=>e (by have:=V.int.inj z; rw [hml] at this; omega))]
     rfl
    refine ⟨_,rfl,_,rfl,s',_,rfl,.inr (SqT.of (e3 _ _ hs)),a,r,_,rfl,e3 _ _ ha,hrl,fun H4 e4=>⟨_,rfl,?_⟩⟩
    have hll:((ras.map V.ref).length:Int)=(st.length:Int):=by rw [List.length_map,hlen]
    have hrb:rowB l st.length r=allB ((ras.map V.ref).length:Nat) r:=by
     unfold rowB
     rw [decide_eq_true hrr,Bool.true_and]
     show _=allB ((ras.map V.ref).length:Int) r
     rw [hll]
    rw [← hrb]
    cases hbb:rowB l st.length r with
    | false=>exact iteT ⟨_,rfl,raise_two hx fun a' H' e' ex=>kx i (find_steps hall hri hbb) a' H' ((e3.trans e4).trans e') ex⟩
    | true=>
     refine iteF ⟨_,_,rfl,e3.trans e4,fun k r' hk hr'=>?_⟩
     by_cases z:k=i
     ·subst z
      rw [hri] at hr'
      cases hr'
      exact hbb
     ·exact hall k r' (by omega) hr'
 ·rintro σ H2 ⟨v2,v3,rfl,e2,hall⟩
  rw [List.length_map,hlen] at hall
  exact kq (find_none fun k r hk hr=>hall k r hk hr) _ e2
def spLookM (cM:Addr):Sp:=fun vs H Q E=>∃ (m:Addr) (l:Str) (b:Int) (es:List Int) (st:List (List Int)),vs=[.ref m]∧RawAt H m l b es st∧(verd l b es st=none→∀ H',Same H H'→Q (.bl true) H')∧∀ wd n,verd l b es st=some (wd,n)→∀ a H',Same H H'→ExnR H' a cM (twoF wd n)→E (.ref a) none H'
theorem ok_look_machine {f:Addr} {fd:FuncData} {g cSpreadError cNoText cNoMachine cNoFit cNoName cNoRow:Addr} (F:Fun K "look_machine" "look_machine" s_look_machine f fd) (Z:Blt mg) (kl:Kls K mg cSpreadError cNoText cNoMachine cNoFit cNoName cNoRow) (hx:excK K cNoMachine (some (.ref g))=true) {uM:Value} (c_MOST_ROOMS:mg "MOST_ROOMS" = some uM) (r_MOST_ROOMS:RelV (.int 6) uM)
  (C_NoMachine:CalX P w K mg base "NoMachine" 1 ["self","word","at"] (spTwoD cNoMachine "word" "at") cNoMachine) (C_all_there:Cal P w K mg base "all_there" 1 ["rooms","count"] spThere) (C_rising:Cal P w K mg base "rising" 1 ["row"] spRisingT) (C_is_letters:Cal P w K mg base "is_letters" 2 ["text"] spIsLetters)
  (C_look_steps:CalR P w K mg base "look_steps" 3 ["letters","steps"] (spSteps cNoMachine)):FnOk P w K mg base (CXE P w) 4 f fd ["machine"] (spLookM cNoMachine):=by
 refine F.okX sc_look_machine (fun vs H Q E h=>?_) (fun A outer s H vs Q E hr h=>?_)
 ·obtain ⟨m,l,b,es,st,rfl,_⟩:=h
  rfl
 obtain ⟨m,l,b,es,st,rfl,M,kq,kx⟩:=h
 refine ⟨_,(pss_cons (ps_set (i:=1) sc_look_machine.nd (by rfl) (Or.inl (by rfl)) (pe_ix (ix_tupK (K:=K)) (pv 0) pe_int (fun _ _=>rfl))) 
   (pss_cons (ps_set (i:=2) sc_look_machine.nd (by rfl) (Or.inl (by rfl)) (pe_ix (ix_tupK (K:=K)) (pv 0) pe_int (fun _ _=>rfl))) 
   (pss_cons (ps_set (i:=3) sc_look_machine.nd (by rfl) (Or.inl (by rfl)) (pe_ix (ix_tupK (K:=K)) (pv 0) pe_int (fun _ _=>rfl))) 
   (pss_cons (ps_if (pt_not (pt_truthK (K:=K) (pe_c C_is_letters (hr.mono (by decide)) (pa_cons (pv 1) pa_nil)) (fun _=>rfl))) 
    (pss_one (ps_raise (K:=K) (pe_x C_NoMachine (hr.mono (by decide)) (pa_cons pe_str (pa_cons (pe_callB call_len_str (by rfl) Z.len bt_len (pa_cons (pv 1) pa_nil)) pa_nil))) rx_def)) pss_nil) 
   (pss_cons (ps_if (pt_not (pt_chain op_le op_le pe_int (pe_callB (call_lenK (K:=K)) (by rfl) Z.len bt_len (pa_cons (pv 3) pa_nil)) (pe_glob (by rfl) c_MOST_ROOMS r_MOST_ROOMS))) 
    (pss_one (ps_raise (K:=K) (pe_x C_NoMachine (hr.mono (by decide)) (pa_cons pe_str (pa_cons (pe_callB (call_lenK (K:=K)) (by rfl) Z.len bt_len (pa_cons (pv 3) pa_nil)) pa_nil))) rx_def)) pss_nil) 
   (pss_cons (ps_if (pt_not (pt_chain op_le op_lt pe_int (pe_ix (ix_tupK (K:=K)) (pv 0) pe_int (fun _ _=>rfl)) (pe_callB (call_lenK (K:=K)) (by rfl) Z.len bt_len (pa_cons (pv 3) pa_nil)))) 
    (pss_one (ps_raise (K:=K) (pe_x C_NoMachine (hr.mono (by decide)) (pa_cons pe_str (pa_cons pe_int pa_nil))) rx_def)) pss_nil) 
   (pss_cons (ps_if (pt_not (PW.pt (pw_and (pt_truthK (K:=K) (pe_c C_rising (hr.mono (by decide)) (pa_cons (pv 2) pa_nil)) (fun _=>rfl)) (pw_and1 (pt_truthK (K:=K) (pe_c C_all_there (hr.mono (by decide)) (pa_cons (pv 2) (pa_cons (pe_callB (call_lenK (K:=K)) (by rfl) Z.len bt_len (pa_cons (pv 3) pa_nil)) pa_nil))) (fun _=>rfl)))))) 
    (pss_one (ps_raise (K:=K) (pe_x C_NoMachine (hr.mono (by decide)) (pa_cons pe_str (pa_cons (pe_callB (call_lenK (K:=K)) (by rfl) Z.len bt_len (pa_cons (pv 2) pa_nil)) pa_nil))) rx_def)) pss_nil) 
   (pss_cons (ps_expr (pe_r C_look_steps (hr.mono (by decide)) rx_def (pa_cons (pv 1) (pa_cons (pv 3) pa_nil)))) 
   (pss_one (ps_ret pe_bl)))))))))),?_⟩
 obtain ⟨⟨e,s',ras,h1,h2,h3,h4,h5⟩,f1,f2,f3,f4⟩:=M
 have hll:((ras.map V.ref).length:Int)=(st.length:Int):=by rw [List.length_map,h4]
 have hle:((es.map V.int).length:Int)=(es.length:Int):=by rw [List.length_map]
 unfold verd at kq kx
 refine ⟨_,rfl,m,_,_,_,rfl,rfl,SqT.of h1,atI_nat (j:=0) rfl,_,rfl,m,_,_,_,rfl,rfl,SqT.of h1,atI_nat (j:=2) rfl,_,rfl,m,_,_,_,rfl,rfl,SqT.of h1,atI_nat (j:=3) rfl,?_⟩
 refine ⟨_,rfl,l,rfl,by omega,fun H1 e1=>⟨_,rfl,?_⟩⟩
 cases hL:letB l.cps.toList with
 | false=>exact iteT ⟨_,rfl,l,rfl,line_le (by omega),raise_two hx fun a H' e' ex=>kx _ _ (by rw [if_pos hL]) a H' (e1.trans e') ex⟩
 | true=>
 refine iteF ?_
 rw [if_neg (by rw [hL]; decide)] at kq kx
 have h31:=e1 _ _ h3
 have room:∀ {H2:Hp},Same H H2→¬ (1≤st.length∧st.length≤6)→∀ a H',Same H2 H'→ExnR H' a cNoMachine (twoF "rooms" ((ras.map V.ref).length:Nat))→E (.ref a) none H':=fun {H2} e2 hn a H' e' ex=>kx "rooms" ((ras.map V.ref).length:Nat) (by rw [if_pos hn]; show some (_,(st.length:Int))=some (_,((ras.map V.ref).length:Int)); rw [hll]) a H' (e2.trans e') ex
 refine ⟨_,rfl,s',_,rfl,.inr (SqT.of h31),_,_,rfl,rfl,_,rfl,?_⟩
 by_cases hA:1≤st.length
 ·refine ifY (decide_eq_true (show (1:Int)≤((ras.map V.ref).length:Int) by omega)) ⟨_,_,rfl,rfl,_,rfl,?_⟩
  by_cases hB:st.length≤6
  ·rw [if_neg (fun z=>z ⟨hA,hB⟩)] at kq kx
   refine ifN (by rw [decide_eq_true (show ((ras.map V.ref).length:Int)≤6 by omega)]; rfl) ?_
   refine ⟨_,rfl,m,_,_,_,rfl,rfl,SqT.of (e1 _ _ h1),atI_nat (j:=1) rfl,_,_,rfl,rfl,_,rfl,?_⟩
   have beg:∀ a H',Same H1 H'→thB st.length b=false→ExnR H' a cNoMachine (twoF "begin" 0)→E (.ref a) none H':=fun a H' e' hb ex=>kx "begin" 0 (by rw [if_pos hb]) a H' (e1.trans e') ex
   by_cases hC:(0:Int)≤b
   ·refine ifY (decide_eq_true hC) ⟨_,rfl,s',_,rfl,.inr (SqT.of h31),_,_,rfl,rfl,_,rfl,?_⟩
    by_cases hD:b < (st.length:Int)
    ·have hb:thB st.length b=true:=by unfold thB; rw [decide_eq_true hC,decide_eq_true hD]; rfl
     rw [if_neg (by rw [hb]; decide)] at kq kx
     refine ifN (by rw [decide_eq_true (show b < ((ras.map V.ref).length:Int) by omega)]; rfl) ?_
     refine ⟨_,rfl,e,es,rfl,e1 _ _ h2,f2,fun H2 e2=>⟨_,rfl,?_⟩⟩
     have e02:=e1.trans e2
     have ends:∀ {H3:Hp},Same H H3→(risI es && allB st.length es)=false→∀ a H',Same H3 H'→ExnR H' a cNoMachine (twoF "ends" ((es.map V.int).length:Nat))→E (.ref a) none H':=fun {H3} e3 hn a H' e' ex=>kx "ends" ((es.map V.int).length:Nat) (by rw [if_pos hn]; show some (_,(es.length:Int))=some (_,((es.map V.int).length:Int)); rw [hle]) a H' (e3.trans e') ex
     cases hR:risI es with
     | false=>
      refine iteF (iteT ⟨_,rfl,e,_,rfl,.inr (SqT.of (e02 _ _ h2)),raise_two hx (ends e02 (by rw [hR]; rfl))⟩)
     | true=>
      refine iteT ⟨_,rfl,_,rfl,s',_,rfl,.inr (SqT.of (e02 _ _ h3)),e,es,_,rfl,e02 _ _ h2,f2,fun H3 e3=>⟨_,rfl,?_⟩⟩
      have e03:=e02.trans e3
      have hal:allB ((ras.map V.ref).length:Nat) es=allB st.length es:=by show allB ((ras.map V.ref).length:Int) es=_; rw [hll]
      rw [hal]
      cases hE:allB st.length es with
      | false=>exact iteT ⟨_,rfl,e,_,rfl,.inr (SqT.of (e03 _ _ h2)),raise_two hx (ends e03 (by rw [hE,Bool.and_false]))⟩
      | true=>
       rw [if_neg (by rw [hR,hE]; decide)] at kq kx
       refine iteF ⟨_,rfl,_,rfl,l,s',ras,st,rfl,e03 _ _ h3,h4,fun i a r q1 q2=>e03 _ _ (h5 i a r q1 q2),f1,f3,f4,fun hn H4 e4=>?_,fun i hi a H4 e4 ex=>kx "steps" (i:Nat) (by rw [hi]; rfl) a H4 (e03.trans e4) ex⟩
       exact kq (by rw [hn]; rfl) H4 (e03.trans e4)
    ·refine ifY (by rw [decide_eq_false (show ¬ b < ((ras.map V.ref).length:Int) by omega)]; rfl) (raise_two hx fun a H' e' ex=>beg a H' e' ?_ ex)
     unfold thB
     rw [decide_eq_false hD,Bool.and_false]
   ·refine ifN (decide_eq_false hC) ⟨_,rfl,iteT (raise_two hx fun a H' e' ex=>beg a H' e' ?_ ex)⟩
    unfold thB
    rw [decide_eq_false hC,Bool.false_and]
  ·exact ifY (by rw [decide_eq_false (show ¬ ((ras.map V.ref).length:Int)≤6 by omega)]; rfl) ⟨_,rfl,s',_,rfl,.inr (SqT.of h31),raise_two hx (room e1 fun z=>hB z.2)⟩
 ·exact ifN (decide_eq_false (show ¬ (1:Int)≤((ras.map V.ref).length:Int) by omega)) ⟨_,rfl,iteT ⟨_,rfl,s',_,rfl,.inr (SqT.of h31),raise_two hx (room e1 fun z=>hA z.1)⟩⟩
theorem cut_take (xs:List V) (k:Nat):cutV xs none (some ((k:Nat):Int))=xs.take k:=by
 unfold cutV
 rw [HT.sIx_nat,HT.sIx_none,List.drop_zero,Nat.sub_zero]
 rcases Nat.lt_or_ge k xs.length with z | z
 ·rw [Nat.min_eq_left (by omega)]
 ·rw [Nat.min_eq_right z,List.take_of_length_le z,List.take_length]
theorem cut_drop (xs:List V) (k:Nat) (h:k≤xs.length):cutV xs (some ((k:Nat):Int)) none=xs.drop k:=by
 unfold cutV
 rw [HT.sIx_nat,HT.sIx_none,Nat.min_eq_left h,List.take_of_length_le (by rw [List.length_drop]; exact Nat.le_refl _)]
theorem add_len (a b:Str):(a ++ b).length=a.length+b.length:=by
 show (a.cps ++ b.cps).size=a.cps.size+b.cps.size
 exact Array.size_append
theorem cut_ints (es:List Int) (lo hi:Option Int):∃ es':List Int,cutV (es.map V.int) lo hi=es'.map V.int∧es'.length≤es.length:=by
 unfold cutV
 refine ⟨_,by rw [← List.map_drop,← List.map_take],?_⟩
 rw [List.length_take,List.length_drop]
 omega
theorem rev_join_len (t:Str):(Txt.join (Str.ofString "") (t.cps.toList.reverse.map fun c=>⟨#[c]⟩)).length=t.length:=by
 have e:=join_nil_list (t.cps.toList.reverse.map one)
 rw [flat_ones] at e
 have h1:=len_list (Txt.join (Str.ofString "") (t.cps.toList.reverse.map one))
 rw [e,List.length_reverse,len_list] at h1
 exact h1.symm
def spSpoiltL:Sp:=fun vs H Q _=>∃ (p sc:Addr) (l:Str),vs=[.ref p,.str l]∧l.length≤36∧FlowAt H p sc∧∀ z H',z.length≤2 * l.length+4→Drew H H' p→FlowAt H' p sc→Q (.str z) H'
theorem ok_law_spoilt_letters {f:Addr} {fd:FuncData} (F:Fun K "_law_spoilt_letters" "_law_spoilt_letters" s_law_spoilt_letters f fd) (Z:Blt mg) (C_law_pick:Cal P w K mg base "_law_pick" 1 ["_law_flow_here","_law_many"] spPick):FnOk P w K mg base CX0 2 f fd ["_law_flow_here","_law_letters_here"] spSpoiltL:=by
 refine F.ok sc_law_spoilt_letters (fun vs H Q E h=>?_) (fun cdv A outer s H vs Q E hr h=>?_)
 ·obtain ⟨p,sc,l,rfl,_⟩:=h
  rfl
 obtain ⟨p,sc,l,rfl,hl,FA,k⟩:=h
 refine ⟨_,(pss_cons (ps_set (i:=2) sc_law_spoilt_letters.nd (by rfl) (Or.inl (by rfl)) (pe_c C_law_pick (hr.mono (by decide)) (pa_cons (pv 0) (pa_cons pe_int pa_nil)))) 
   (pss_cons (ps_set (i:=3) sc_law_spoilt_letters.nd (by rfl) (Or.inl (by rfl)) (pe_c C_law_pick (hr.mono (by decide)) (pa_cons (pv 0) (pa_cons (pe_op op_add (pe_callB call_len_str (by rfl) Z.len bt_len (pa_cons (pv 1) pa_nil)) pe_int) pa_nil)))) 
   (pss_cons (ps_set (i:=4) sc_law_spoilt_letters.nd (by rfl) (Or.inl (by rfl)) (pe_lst (pa_cons pe_str (pa_cons pe_str (pa_cons (pe_op op_add_str (pv 1) (pe_slice sl_str (pv 1) (po_some (pe_un un_neg pe_int)) po_none)) (pa_cons (pe_joinRs (by rfl) (by rfl) Z.reversed pe_str (pv 1)) (pa_cons (pe_op op_add_str (pe_op op_add_str (pe_slice sl_str (pv 1) po_none (po_some (pv 3))) pe_str) (pe_slice sl_str (pv 1) (po_some (pv 3)) po_none)) pa_nil))))))) 
   (pss_cons (ps_set (i:=4) sc_law_spoilt_letters.nd (by rfl) (Or.inl (by rfl)) (pe_op op_cat (pv 4) (pe_lst (pa_cons (pe_op op_add_str (pe_op op_add_str (pe_slice sl_str (pv 1) po_none (po_some (pv 3))) pe_str) (pe_slice sl_str (pv 1) (po_some (pv 3)) po_none)) (pa_cons (pe_op op_add_str (pe_op op_add_str (pe_slice sl_str (pv 1) po_none (po_some (pv 3))) pe_str) (pe_slice sl_str (pv 1) (po_some (pv 3)) po_none)) (pa_cons (pe_slice sl_str pe_str po_none (po_some (pe_op op_add pe_int (pv 3)))) pa_nil)))))) 
   (pss_one (ps_ret (pe_ix (ix_listK (K:=K)) (pv 4) (pv 2) (fun _ _=>rfl)))))))),?_⟩
 refine ⟨_,rfl,p,sc,8,rfl,by decide,by decide,FA,fun r xs hr0 hr1 hx=>?_⟩
 have FA1:=FA.go hx
 have d1:=Drew.upd (H:=H) (p:=p) (.lst xs)
 generalize upd H p (.lst xs)=H1 at FA1 d1
 refine ⟨_,rfl,_,rfl,l,rfl,line_le (by omega),_,_,rfl,rfl,p,sc,_,rfl,by omega,by omega,FA1,fun a ys ha0 ha1 hy=>?_⟩
 have FA2:=FA1.go hy
 have d2:=d1.trans (Drew.upd (H:=H1) (p:=p) (.lst ys))
 generalize upd H1 p (.lst ys)=H2 at FA2 d2
 have b:∀ lo hi,(Txt.slice l lo hi).length≤l.length:=fun lo hi=>Txt.slice_le l lo hi
 have b1:=b none (some a)
 have b2:=b (some a) none
 have b3:=b (some (-1)) none
 have o1:(Str.ofString "A").length=1:=by decide +kernel
 have o2:(Str.ofString "1").length=1:=by decide +kernel
 have o3:(Str.ofString " ").length=1:=by decide +kernel
 have o4:(Str.ofString "acbd").length=4:=by decide +kernel
 have o5:(Str.ofString "abcd").length=4:=by decide +kernel
 have o6:(Str.ofString "").length=0:=by decide +kernel
 have b4:=Txt.slice_le (Str.ofString "acbd") none (some (2+a))
 have c1:=add_len (Txt.slice l none (some a)) (Str.ofString "A")
 have c2:=add_len (Txt.slice l none (some a)) (Str.ofString "1")
 have c3:=add_len (Txt.slice l none (some a)) (Str.ofString " ")
 refine ⟨_,rfl,_,rfl,_,rfl,_,rfl,l,rfl,line_le (by omega),_,_,rfl,rfl,line_le (by omega),?_⟩
 refine ⟨_,rfl,_,rfl,l,rfl,line_le (by omega),(by rw [o6]; omega),?_⟩
 refine ⟨_,rfl,_,rfl,_,rfl,l,rfl,line_le (by omega),_,_,rfl,rfl,line_le (by omega),_,rfl,_,rfl,_,rfl,l,rfl,line_le (by omega),_,_,rfl,rfl,line_le (by omega),(by show 5≤sizeLine; decide),fun q1 hq1=>?_⟩
 have five:∃ Z:List Str,[V.str (Str.ofString ""),V.str (Str.ofString "abcd"),V.str (l ++ Txt.slice l (some (-1)) none),V.str (Txt.join (Str.ofString "") (List.map (fun c=>{ cps:=#[c] }) l.cps.toList.reverse)),V.str (Txt.slice l none (some a) ++ Str.ofString "A" ++ Txt.slice l (some a) none)]=Z.map V.str∧Z.length=5∧∀ z∈Z,z.length≤2 * l.length+4:=by
  refine ⟨[_,_,_,_,_],rfl,rfl,fun z hz=>?_⟩
  have d1:=add_len l (Txt.slice l (some (-1)) none)
  have d2:=rev_join_len l
  have d3:=add_len (Txt.slice l none (some a) ++ Str.ofString "A") (Txt.slice l (some a) none)
  rcases List.mem_cons.mp hz with rfl | hz
  ·omega
  rcases List.mem_cons.mp hz with rfl | hz
  ·omega
  rcases List.mem_cons.mp hz with rfl | hz
  ·omega
  rcases List.mem_cons.mp hz with rfl | hz
  ·rw [d2]; omega
  rw [List.mem_singleton.mp hz]
  omega
 obtain ⟨Z1,e1,hz1,hb1⟩:=five
 rw [e1]
 have s3:=same_new hq1 (.lst (Z1.map V.str))
 have h3:upd H2 q1 (.lst (Z1.map V.str)) q1=some (.lst (Z1.map V.str)):=upd_same
 generalize upd H2 q1 (.lst (Z1.map V.str))=H3 at s3 h3
 refine ⟨_,rfl,?_⟩
 refine ⟨_,rfl,_,rfl,_,rfl,l,rfl,line_le (by omega),_,_,rfl,rfl,line_le (by omega),_,rfl,_,rfl,_,rfl,l,rfl,line_le (by omega),_,_,rfl,rfl,line_le (by omega),?_⟩
 refine ⟨_,rfl,_,rfl,_,rfl,l,rfl,line_le (by omega),_,_,rfl,rfl,line_le (by omega),_,rfl,_,rfl,_,rfl,l,rfl,line_le (by omega),_,_,rfl,rfl,line_le (by omega),?_⟩
 refine ⟨_,rfl,_,_,rfl,rfl,_,rfl,Str.ofString "acbd",rfl,line_le (by omega),(by show 3≤sizeLine; decide),fun q2 hq2=>?_⟩
 have three:∃ Z:List Str,[V.str (Txt.slice l none (some a) ++ Str.ofString "1" ++ Txt.slice l (some a) none),V.str (Txt.slice l none (some a) ++ Str.ofString " " ++ Txt.slice l (some a) none),V.str (Txt.slice (Str.ofString "acbd") none (some (2+a)))]=Z.map V.str∧Z.length=3∧∀ z∈Z,z.length≤2 * l.length+4:=by
  refine ⟨[_,_,_],rfl,rfl,fun z hz=>?_⟩
  have d1:=add_len (Txt.slice l none (some a) ++ Str.ofString "1") (Txt.slice l (some a) none)
  have d3:=add_len (Txt.slice l none (some a) ++ Str.ofString " ") (Txt.slice l (some a) none)
  rcases List.mem_cons.mp hz with rfl | hz
  ·omega
  rcases List.mem_cons.mp hz with rfl | hz
  ·omega
  rw [List.mem_singleton.mp hz]
  omega
 obtain ⟨Z2,e2,hz2,hb2⟩:=three
 rw [e2]
 have s4:=same_new hq2 (.lst (Z2.map V.str))
 have h4:upd H3 q2 (.lst (Z2.map V.str)) q2=some (.lst (Z2.map V.str)):=upd_same
 generalize upd H3 q2 (.lst (Z2.map V.str))=H4 at s4 h4
 refine ⟨q1,q2,_,_,rfl,rfl,s4 _ _ h3,h4,(by rw [List.length_map,List.length_map,hz1,hz2]; decide),fun q3 hq3=>?_⟩
 rw [← List.map_append]
 have s5:=same_new hq3 (.lst ((Z1 ++ Z2).map V.str))
 have h5:upd H4 q3 (.lst ((Z1 ++ Z2).map V.str)) q3=some (.lst ((Z1 ++ Z2).map V.str)):=upd_same
 have s25:=(s3.trans s4).trans s5
 generalize upd H4 q3 (.lst ((Z1 ++ Z2).map V.str))=H5 at s5 h5 s25
 have hlen:(Z1 ++ Z2).length=8:=by rw [List.length_append,hz1,hz2]
 have hrn:r.toNat < (Z1 ++ Z2).length:=by omega
 have hat:atI ((Z1 ++ Z2).map V.str) r=some (.str (Z1 ++ Z2)[r.toNat]):=by
  have q:atI ((Z1 ++ Z2).map V.str) ((r.toNat:Nat):Int)=some (.str (Z1 ++ Z2)[r.toNat]):=atI_nat (by rw [List.getElem?_map,List.getElem?_eq_getElem hrn]; rfl)
  rwa [show ((r.toNat:Nat):Int)=r by omega] at q
 have hm:(Z1 ++ Z2)[r.toNat]∈Z1 ++ Z2:=List.getElem_mem hrn
 refine ⟨_,rfl,_,rfl,q3,_,_,_,rfl,rfl,SqL.of h5,hat,k _ _ ?_ (d2.trans (Drew.same s25)) (FA2.same s25)⟩
 rcases List.mem_append.mp hm with z | z
 ·exact hb1 _ z
 ·exact hb2 _ z
def spSpoiltE:Sp:=fun vs H Q _=>∃ (p sc e:Addr) (es:List Int) (n:Int),vs=[.ref p,.ref e,.int n]∧H e=some (.tup (es.map V.int))∧es.length≤36∧0≤n∧n≤100∧FlowAt H p sc∧∀ (e':Addr) (es':List Int) (H':Hp),H' e'=some (.tup (es'.map V.int))→es'.length≤2 * es.length+4→Drew H H' p→FlowAt H' p sc→Q (.ref e') H'
theorem tup_p {H:Hp} {p sc e:Addr} {xs:List V} (FA:FlowAt H p sc) (h:H e=some (.tup xs)):e≠p:=by
 obtain ⟨ys,h1,_⟩:=FA.here
 exact ne_of h h1 (by intro z; cases z)
theorem ok_law_spoilt_ends {f:Addr} {fd:FuncData} (F:Fun K "_law_spoilt_ends" "_law_spoilt_ends" s_law_spoilt_ends f fd) (Z:Blt mg) (C_law_pick:Cal P w K mg base "_law_pick" 1 ["_law_flow_here","_law_many"] spPick):FnOk P w K mg base CX0 2 f fd ["_law_flow_here","_law_ends","_law_many"] spSpoiltE:=by
 refine F.ok sc_law_spoilt_ends (fun vs H Q E h=>?_) (fun cdv A outer s H vs Q E hr h=>?_)
 ·obtain ⟨p,sc,e,es,n,rfl,_⟩:=h
  rfl
 obtain ⟨p,sc,e,es,n,rfl,he,hl,hn0,hn1,FA,k⟩:=h
 refine ⟨_,(pss_cons (ps_set (i:=3) sc_law_spoilt_ends.nd (by rfl) (Or.inl (by rfl)) (pe_c C_law_pick (hr.mono (by decide)) (pa_cons (pv 0) (pa_cons pe_int pa_nil)))) 
   (pss_cons (ps_set (i:=4) sc_law_spoilt_ends.nd (by rfl) (Or.inl (by rfl)) (pe_c C_law_pick (hr.mono (by decide)) (pa_cons (pv 0) (pa_cons (pe_op op_add (pe_callB (call_lenK (K:=K)) (by rfl) Z.len bt_len (pa_cons (pv 1) pa_nil)) pe_int) pa_nil)))) 
   (pss_cons (ps_if (pt_cmpR op_lt (pv 3) pe_int (nomark _)) 
    (pss_one (ps_ret (pe_op (op_catG (K:=K)) (pe_op (op_catG (K:=K)) (pe_slice (sl_tupG (K:=K)) (pv 1) po_none (po_some (pv 4))) (pe_tup (pa_cons (pe_op op_sub (pe_c C_law_pick (hr.mono (by decide)) (pa_cons (pv 0) (pa_cons (pe_op op_add (pv 2) pe_int) pa_nil))) pe_int) pa_nil))) (pe_slice (sl_tupG (K:=K)) (pv 1) (po_some (pv 4)) po_none)))) pss_nil) 
   (pss_cons (ps_if (pt_cmpR op_eq (pv 3) pe_int (nomark _)) 
    (pss_one (ps_ret (pe_tupRv (K:=K) (by rfl) (by rfl) Z.tuple (by rfl) Z.reversed (pv 1)))) pss_nil) 
   (pss_one (ps_ret (pe_op (op_catG (K:=K)) (pe_op (op_catG (K:=K)) (pe_slice (sl_tupG (K:=K)) (pv 1) po_none (po_some (pv 4))) (pe_slice (sl_tupG (K:=K)) (pv 1) (po_some (pe_op op_sub (pv 4) pe_int)) (po_some (pv 4)))) (pe_slice (sl_tupG (K:=K)) (pv 1) (po_some (pv 4)) po_none)))))))),?_⟩
 have hml:(es.map V.int).length=es.length:=List.length_map ..
 refine ⟨_,rfl,p,sc,4,rfl,by decide,by decide,FA,fun r xs hr0 hr1 hx=>?_⟩
 have FA1:=FA.go hx
 have d1:=Drew.upd (H:=H) (p:=p) (.lst xs)
 have he1:=d1 _ _ he (tup_p FA he)
 generalize upd H p (.lst xs)=H1 at FA1 d1 he1
 refine ⟨_,rfl,_,rfl,e,_,rfl,.inr (SqT.of he1),_,_,rfl,rfl,p,sc,_,rfl,by omega,by omega,FA1,fun a ys ha0 ha1 hy=>?_⟩
 have FA2:=FA1.go hy
 have he2:=Drew.upd (H:=H1) (p:=p) (.lst ys) _ _ he1 (tup_p FA1 he1)
 have d2:=d1.trans (Drew.upd (H:=H1) (p:=p) (.lst ys))
 generalize upd H1 p (.lst ys)=H2 at FA2 d2 he2
 obtain ⟨j,rfl⟩:∃ j:Nat,a=(j:Int):=⟨a.toNat,by omega⟩
 have hj:j≤(es.map V.int).length:=by omega
 refine ⟨_,rfl,_,_,rfl,rfl,_,rfl,ite2 (fun _=>?_) (fun _=>?_)⟩
 ·refine ⟨_,rfl,_,rfl,_,rfl,e,_,rfl,he2,fun g1 H3 s3 h3=>?_⟩
  have FA3:=FA2.same s3
  refine ⟨_,rfl,_,rfl,_,_,rfl,rfl,p,sc,_,rfl,by omega,by omega,FA3,fun r2 xs2 h20 h21 hx2=>⟨_,_,rfl,rfl,(by show 1≤sizeLine; decide),fun g2 hg2=>?_⟩⟩
  have FA4:=FA3.go hx2
  have d4:=(d2.trans (Drew.same s3)).trans (Drew.upd (H:=H3) (p:=p) (.lst xs2))
  have h34:=Drew.upd (H:=H3) (p:=p) (.lst xs2) _ _ h3 (tup_p FA3 h3)
  have he4:=Drew.upd (H:=H3) (p:=p) (.lst xs2) _ _ (s3 _ _ he2) (tup_p FA3 (s3 _ _ he2))
  generalize upd H3 p (.lst xs2)=H4 at FA4 d4 h34 he4 hg2
  have s5:=same_new hg2 (.tup [V.int (r2 - 1)])
  have h5:upd H4 g2 (.tup [V.int (r2 - 1)]) g2=some (.tup [V.int (r2 - 1)]):=upd_same
  generalize upd H4 g2 (.tup [V.int (r2 - 1)])=H5 at s5 h5
  rw [cut_take] at h34
  refine ⟨g1,g2,_,_,rfl,rfl,s5 _ _ h34,h5,(by rw [List.length_take]; show _+1≤1000; omega),fun g3 H6 s6 h6=>?_⟩
  refine ⟨_,rfl,_,rfl,_,rfl,e,_,rfl,s6 _ _ (s5 _ _ he4),fun g4 H7 s7 h7=>?_⟩
  rw [cut_drop _ _ hj] at h7
  refine ⟨g3,g4,_,_,rfl,rfl,s7 _ _ h6,h7,(by rw [List.length_append,List.length_take,List.length_drop]; show _+1+_≤1000; omega),fun g5 H8 s8 h8=>?_⟩
  have s48:=((s5.trans s6).trans s7).trans s8
  refine k g5 (es.take j ++ [r2 - 1] ++ es.drop j) H8 ?_ ?_ (d4.trans (Drew.same s48)) (FA4.same s48)
  ·rw [h8,List.map_append,List.map_append,List.map_take,List.map_drop]
   rfl
  ·rw [List.length_append,List.length_append,List.length_take,List.length_drop]
   show _+1+_≤_
   omega
 ·refine ⟨_,rfl,rfl,_,rfl,ite2 (fun _=>?_) (fun _=>?_)⟩
  ·refine ⟨_,rfl,e,_,rfl,SqT.of he2,fun g hg=>?_⟩
   have s3:=same_new hg (.tup (es.map V.int).reverse)
   refine k g es.reverse _ (by rw [List.map_reverse]; exact upd_same) (by rw [List.length_reverse]; omega) (d2.trans (Drew.same s3)) (FA2.same s3)
  ·refine ⟨_,rfl,_,rfl,_,rfl,e,_,rfl,he2,fun g1 H3 s3 h3=>?_⟩
   refine ⟨_,rfl,_,rfl,_,_,rfl,rfl,_,rfl,_,rfl,_,rfl,e,_,rfl,s3 _ _ he2,fun g2 H4 s4 h4=>?_⟩
   obtain ⟨es2,e2,hl2⟩:=cut_ints es (some ((j:Int) - 1)) (some (j:Int))
   rw [e2] at h4
   rw [cut_take] at h3
   have hl2':(es2.map V.int).length=es2.length:=List.length_map ..
   refine ⟨g1,g2,_,_,rfl,rfl,s4 _ _ h3,h4,(by rw [List.length_take]; omega),fun g3 H5 s5 h5=>?_⟩
   refine ⟨_,rfl,_,rfl,_,rfl,e,_,rfl,s5 _ _ (s4 _ _ (s3 _ _ he2)),fun g4 H6 s6 h6=>?_⟩
   rw [cut_drop _ _ hj] at h6
   refine ⟨g3,g4,_,_,rfl,rfl,s6 _ _ h5,h6,(by rw [List.length_append,List.length_take,List.length_drop]; omega),fun g5 H7 s7 h7=>?_⟩
   have s27:=(((s3.trans s4).trans s5).trans s6).trans s7
   refine k g5 (es.take j ++ es2 ++ es.drop j) H7 ?_ ?_ (d2.trans (Drew.same s27)) (FA2.same s27)
   ·rw [h7,List.map_append,List.map_append,List.map_take,List.map_drop]
   ·rw [List.length_append,List.length_append,List.length_take,List.length_drop]
    omega
theorem cut_refs (ras:List Addr) (k:Nat) (h:k≤ras.length):cutV (ras.map V.ref) none (some ((k:Nat):Int))=(ras.take k).map V.ref∧cutV (ras.map V.ref) (some ((k:Nat):Int)) none=(ras.drop k).map V.ref:=by
 rw [cut_take,cut_drop _ _ (by rw [List.length_map]; exact h),List.map_take,List.map_drop]
 exact ⟨rfl,rfl⟩
def Rows (H:Hp) (ras:List Addr) (N:Nat):Prop:=∀ a∈ras,∃ r:List Int,H a=some (.tup (r.map V.int))∧r.length≤N
theorem Rows.keep {H H':Hp} {ras:List Addr} {N:Nat} (h:Rows H ras N) (k:Tk H H'):Rows H' ras N:=fun a ha=>let ⟨r,e,l⟩:=h a ha; ⟨r,k _ _ e,l⟩
theorem Rows.le {H:Hp} {ras:List Addr} {N N':Nat} (h:Rows H ras N) (k:N≤N'):Rows H ras N':=fun a ha=>let ⟨r,e,l⟩:=h a ha; ⟨r,e,by omega⟩
def spSpoiltS:Sp:=fun vs H Q _=>∃ (p sc s:Addr) (ras:List Addr) (N:Nat),vs=[.ref p,.ref s]∧H s=some (.tup (ras.map V.ref))∧ras.length≤12∧Rows H ras N∧N≤36∧FlowAt H p sc∧∀ (s':Addr) (ras':List Addr) (H':Hp),H' s'=some (.tup (ras'.map V.ref))→ras'.length≤12→Rows H' ras' (2 * N+4)→Drew H H' p→FlowAt H' p sc→Q (.ref s') H'
theorem ok_law_spoilt_steps {f:Addr} {fd:FuncData} (F:Fun K "_law_spoilt_steps" "_law_spoilt_steps" s_law_spoilt_steps f fd) (Z:Blt mg) (C_law_pick:Cal P w K mg base "_law_pick" 1 ["_law_flow_here","_law_many"] spPick):FnOk P w K mg base CX0 2 f fd ["_law_flow_here","_law_steps"] spSpoiltS:=by
 refine F.ok sc_law_spoilt_steps (fun vs H Q E h=>?_) (fun cdv A outer s H vs Q E hr h=>?_)
 ·obtain ⟨p,sc,s,ras,N,rfl,_⟩:=h
  rfl
 obtain ⟨p,sc,s',ras,N,rfl,hs,hl,hrw,hN,FA,k⟩:=h
 refine ⟨_,(pss_cons (ps_set (i:=2) sc_law_spoilt_steps.nd (by rfl) (Or.inl (by rfl)) (pe_c C_law_pick (hr.mono (by decide)) (pa_cons (pv 0) (pa_cons pe_int pa_nil)))) 
   (pss_cons (ps_if (pt_cmpR op_eq (pe_callB (call_lenK (K:=K)) (by rfl) Z.len bt_len (pa_cons (pv 1) pa_nil)) pe_int (nomark _)) 
    (pss_one (ps_ret (pv 1))) pss_nil) 
   (pss_cons (ps_set (i:=3) sc_law_spoilt_steps.nd (by rfl) (Or.inl (by rfl)) (pe_c C_law_pick (hr.mono (by decide)) (pa_cons (pv 0) (pa_cons (pe_callB (call_lenK (K:=K)) (by rfl) Z.len bt_len (pa_cons (pv 1) pa_nil)) pa_nil)))) 
   (pss_cons (ps_set (i:=4) sc_law_spoilt_steps.nd (by rfl) (Or.inl (by rfl)) (pe_ix (ix_tupK (K:=K)) (pv 1) (pv 3) (fun _ _=>rfl))) 
   (pss_cons (ps_set (i:=5) sc_law_spoilt_steps.nd (by rfl) (Or.inl (by rfl)) (pe_c C_law_pick (hr.mono (by decide)) (pa_cons (pv 0) (pa_cons (pe_op op_add (pe_callB (call_lenK (K:=K)) (by rfl) Z.len bt_len (pa_cons (pv 4) pa_nil)) pe_int) pa_nil)))) 
   (pss_cons (ps_set (i:=6) sc_law_spoilt_steps.nd (by rfl) (Or.inl (by rfl)) (pe_op op_sub (pe_c C_law_pick (hr.mono (by decide)) (pa_cons (pv 0) (pa_cons (pe_op op_add (pe_callB (call_lenK (K:=K)) (by rfl) Z.len bt_len (pa_cons (pv 1) pa_nil)) pe_int) pa_nil))) pe_int)) 
   (pss_cut (ps_if (pt_cmpR op_eq (pv 2) pe_int (nomark _)) 
    (pss_one (ps_set (i:=4) sc_law_spoilt_steps.nd (by rfl) (Or.inl (by rfl)) (pe_op (op_catG (K:=K)) (pe_op (op_catG (K:=K)) (pe_slice (sl_tupG (K:=K)) (pv 4) po_none (po_some (pv 5))) (pe_tup (pa_cons (pv 6) pa_nil))) (pe_slice (sl_tupG (K:=K)) (pv 4) (po_some (pv 5)) po_none)))) 
    (pss_one (ps_if (pt_cmpR op_eq (pv 2) pe_int (nomark _)) 
     (pss_one (ps_set (i:=4) sc_law_spoilt_steps.nd (by rfl) (Or.inl (by rfl)) (pe_op (op_catG (K:=K)) (pe_slice (sl_tupG (K:=K)) (pv 4) po_none (po_some (pv 5))) (pe_slice (sl_tupG (K:=K)) (pv 4) (po_some (pe_op op_add (pv 5) pe_int)) po_none)))) 
     (pss_one (ps_if (pt_cmpR op_lt (pv 2) pe_int (nomark _)) 
      (pss_one (ps_set (i:=4) sc_law_spoilt_steps.nd (by rfl) (Or.inl (by rfl)) (pe_op (op_catG (K:=K)) (pe_op (op_catG (K:=K)) (pe_slice (sl_tupG (K:=K)) (pv 4) po_none (po_some (pv 5))) (pe_tup (pa_cons (pv 6) pa_nil))) (pe_slice (sl_tupG (K:=K)) (pv 4) (po_some (pe_op op_add (pv 5) pe_int)) po_none)))) 
      (pss_one (ps_ret (pe_slice (sl_tupG (K:=K)) (pe_op op_repT (pv 1) pe_int) po_none (po_some (pe_ix (ix_listK (K:=K)) (pe_lst (pa_cons pe_int (pa_cons pe_int (pa_cons pe_int (pa_cons pe_int pa_nil))))) (pe_c C_law_pick (hr.mono (by decide)) (pa_cons (pv 0) (pa_cons pe_int pa_nil))) (fun _ _=>rfl))))))))))) 
   (pss_one (ps_ret (pe_op (op_catG (K:=K)) (pe_op (op_catG (K:=K)) (pe_slice (sl_tupG (K:=K)) (pv 1) po_none (po_some (pv 3))) (pe_tup (pa_cons (pv 4) pa_nil))) (pe_slice (sl_tupG (K:=K)) (pv 1) (po_some (pe_op op_add (pv 3) pe_int)) po_none))))))))))),?_⟩
 have hml:(ras.map V.ref).length=ras.length:=List.length_map ..
 refine ⟨_,rfl,p,sc,5,rfl,by decide,by decide,FA,fun w0 xs hr0 hr1 hx=>?_⟩
 have FA1:=FA.go hx
 have d1:=Drew.upd (H:=H) (p:=p) (.lst xs)
 have k1:=Tk.drew FA d1
 generalize upd H p (.lst xs)=H1 at FA1 d1 k1
 refine ⟨_,rfl,s',_,rfl,.inr (SqT.of (k1 _ _ hs)),rfl,_,rfl,ite2 (fun _=>?_) (fun c=>?_)⟩
 ·exact ⟨_,rfl,k s' ras H1 (k1 _ _ hs) hl ((hrw.keep k1).le (by omega)) d1 FA1⟩
 have hne:ras.length≠0:=fun e=>c (decide_eq_true (congrArg V.int (by show ((ras.map V.ref).length:Int)=0; rw [hml,e]; rfl)))
 refine ⟨_,rfl,_,rfl,s',_,rfl,.inr (SqT.of (k1 _ _ hs)),p,sc,_,rfl,by omega,by omega,FA1,fun a ys ha0 ha1 hy=>?_⟩
 have FA2:=FA1.go hy
 have k2:=k1.trans (Tk.drew FA1 (Drew.upd (H:=H1) (p:=p) (.lst ys)))
 have d2:=d1.trans (Drew.upd (H:=H1) (p:=p) (.lst ys))
 generalize upd H1 p (.lst ys)=H2 at FA2 d2 k2
 obtain ⟨j,rfl⟩:∃ j:Nat,a=(j:Int):=⟨a.toNat,by omega⟩
 have hj:j < ras.length:=by omega
 have hat:atI (ras.map V.ref) (j:Int)=some (.ref ras[j]):=atI_nat (by rw [List.getElem?_map,List.getElem?_eq_getElem hj]; rfl)
 obtain ⟨r,hra,hrl⟩:=hrw ras[j] (List.getElem_mem hj)
 generalize ras[j]=ra at hat hra
 refine ⟨_,rfl,_,rfl,s',_,_,_,rfl,rfl,SqT.of (k2 _ _ hs),hat,?_⟩
 have hrm:(r.map V.int).length=r.length:=List.length_map ..
 refine ⟨_,rfl,_,rfl,ra,_,rfl,.inr (SqT.of (k2 _ _ hra)),_,_,rfl,rfl,p,sc,_,rfl,by omega,by omega,FA2,fun a2 ys2 hb0 hb1 hy2=>?_⟩
 have FA3:=FA2.go hy2
 have k3:=k2.trans (Tk.drew FA2 (Drew.upd (H:=H2) (p:=p) (.lst ys2)))
 have d3:=d2.trans (Drew.upd (H:=H2) (p:=p) (.lst ys2))
 generalize upd H2 p (.lst ys2)=H3 at FA3 d3 k3
 obtain ⟨i,rfl⟩:∃ i:Nat,a2=(i:Int):=⟨a2.toNat,by omega⟩
 have hi:i≤(r.map V.int).length:=by omega
 refine ⟨_,rfl,_,rfl,s',_,rfl,.inr (SqT.of (k3 _ _ hs)),_,_,rfl,rfl,p,sc,_,rfl,by omega,by omega,FA3,fun n0 ys3 hc0 hc1 hy3=>⟨_,_,rfl,rfl,?_⟩⟩
 have FA4:=FA3.go hy3
 have k4:=k3.trans (Tk.drew FA3 (Drew.upd (H:=H3) (p:=p) (.lst ys3)))
 have d4:=d3.trans (Drew.upd (H:=H3) (p:=p) (.lst ys3))
 generalize upd H3 p (.lst ys3)=H4 at FA4 d4 k4
 have hr4:=k4 _ _ hra
 refine ⟨fun σ' H'=>∃ (g:Addr) (r':List Int),σ'=[some (.ref p),some (.ref s'),some (.int w0),some (.int (j:Int)),some (.ref g),some (.int (i:Int)),some (.int (n0 - 1))]∧H' g=some (.tup (r'.map V.int))∧r'.length≤2 * N+4∧Same H4 H',?_,?_⟩
 ·refine ⟨_,rfl,rfl,_,rfl,ite2 (fun _=>?_) (fun _=>⟨_,rfl,rfl,_,rfl,ite2 (fun _=>?_) (fun _=>⟨_,rfl,_,_,rfl,rfl,_,rfl,ite2 (fun _=>?_) (fun _=>?_)⟩)⟩)⟩
  ·refine ⟨_,rfl,_,rfl,_,rfl,ra,_,rfl,hr4,fun g1 H5 s5 h5=>?_⟩
   rw [cut_take] at h5
   refine ⟨_,rfl,(by show 1≤sizeLine; decide),fun g2 hg2=>?_⟩
   have s6:=same_new hg2 (.tup [V.int (n0 - 1)])
   have h6:upd H5 g2 (.tup [V.int (n0 - 1)]) g2=some (.tup [V.int (n0 - 1)]):=upd_same
   generalize upd H5 g2 (.tup [V.int (n0 - 1)])=H6 at s6 h6
   refine ⟨g1,g2,_,_,rfl,rfl,s6 _ _ h5,h6,(by rw [List.length_take]; show _+1≤1000; omega),fun g3 H7 s7 h7=>?_⟩
   refine ⟨_,rfl,_,rfl,_,rfl,ra,_,rfl,s7 _ _ (s6 _ _ (s5 _ _ hr4)),fun g4 H8 s8 h8=>?_⟩
   rw [cut_drop _ _ hi] at h8
   refine ⟨g3,g4,_,_,rfl,rfl,s8 _ _ h7,h8,(by rw [List.length_append,List.length_take,List.length_drop]; show _+1+_≤1000; omega),fun g5 H9 s9 h9=>?_⟩
   refine ⟨g5,r.take i ++ [n0 - 1] ++ r.drop i,rfl,by rw [h9,List.map_append,List.map_append,List.map_take,List.map_drop]; rfl,?_,(((s5.trans s6).trans s7).trans s8).trans s9⟩
   rw [List.length_append,List.length_append,List.length_take,List.length_drop]
   show _+1+_≤_
   omega
  ·refine ⟨_,rfl,_,rfl,_,rfl,ra,_,rfl,hr4,fun g1 H5 s5 h5=>?_⟩
   rw [cut_take] at h5
   refine ⟨_,rfl,_,rfl,_,_,rfl,rfl,_,rfl,ra,_,rfl,s5 _ _ hr4,fun g2 H6 s6 h6=>?_⟩
   obtain ⟨r2,e2,hl2⟩:=cut_ints r (some ((i:Int)+1)) none
   have hm2:(r2.map V.int).length=r2.length:=List.length_map ..
   rw [e2] at h6
   refine ⟨g1,g2,_,_,rfl,rfl,s6 _ _ h5,h6,(by rw [List.length_take,hm2]; omega),fun g3 H7 s7 h7=>?_⟩
   refine ⟨g3,r.take i ++ r2,rfl,by rw [h7,List.map_append,List.map_take],?_,(s5.trans s6).trans s7⟩
   rw [List.length_append,List.length_take]
   omega
  ·refine ⟨_,rfl,_,rfl,_,rfl,ra,_,rfl,hr4,fun g1 H5 s5 h5=>?_⟩
   rw [cut_take] at h5
   refine ⟨_,rfl,(by show 1≤sizeLine; decide),fun g2 hg2=>?_⟩
   have s6:=same_new hg2 (.tup [V.int (n0 - 1)])
   have h6:upd H5 g2 (.tup [V.int (n0 - 1)]) g2=some (.tup [V.int (n0 - 1)]):=upd_same
   generalize upd H5 g2 (.tup [V.int (n0 - 1)])=H6 at s6 h6
   refine ⟨g1,g2,_,_,rfl,rfl,s6 _ _ h5,h6,(by rw [List.length_take]; show _+1≤1000; omega),fun g3 H7 s7 h7=>?_⟩
   refine ⟨_,rfl,_,rfl,_,_,rfl,rfl,_,rfl,ra,_,rfl,s7 _ _ (s6 _ _ (s5 _ _ hr4)),fun g4 H8 s8 h8=>?_⟩
   obtain ⟨r2,e2,hl2⟩:=cut_ints r (some ((i:Int)+1)) none
   have hm2:(r2.map V.int).length=r2.length:=List.length_map ..
   rw [e2] at h8
   refine ⟨g3,g4,_,_,rfl,rfl,s8 _ _ h7,h8,(by rw [List.length_append,List.length_take,hm2]; show _+1+_≤1000; omega),fun g5 H9 s9 h9=>?_⟩
   refine ⟨g5,r.take i ++ [n0 - 1] ++ r2,rfl,by rw [h9,List.map_append,List.map_append,List.map_take]; rfl,?_,(((s5.trans s6).trans s7).trans s8).trans s9⟩
   rw [List.length_append,List.length_append,List.length_take]
   show _+1+_≤_
   omega
  ·refine ⟨_,rfl,s',_,7,rfl,rfl,k4 _ _ hs,(fun e=>hne (by rw [← hml,e]; rfl)),by decide,by omega,fun g1 H5 s5 h5=>?_⟩
   refine ⟨(by show 4≤sizeLine; decide),fun q4 hq4=>?_⟩
   have s6:=same_new hq4 (.lst [V.int 0,V.int 7,V.int 8,V.int 12])
   have h6q:upd H5 q4 (.lst [V.int 0,V.int 7,V.int 8,V.int 12]) q4=some (.lst [V.int 0,V.int 7,V.int 8,V.int 12]):=upd_same
   have FA6:=(FA4.same s5).same s6
   have nqp:q4≠p:=by
    obtain ⟨xs',hp',_⟩:=(FA4.same s5).here
    exact (ne_of_none hp' hq4).symm
   generalize upd H5 q4 (.lst [V.int 0,V.int 7,V.int 8,V.int 12])=H6 at s6 h6q FA6
   refine ⟨_,rfl,p,sc,4,rfl,by decide,by decide,FA6,fun r4 xs4 h40 h41 hx4=>?_⟩
   have FA7:=FA6.go hx4
   have k47:=(Tk.same (s5.trans s6)).trans (Tk.drew FA6 (Drew.upd (H:=H6) (p:=p) (.lst xs4)))
   have d7:=(d4.trans (Drew.same (s5.trans s6))).trans (Drew.upd (H:=H6) (p:=p) (.lst xs4))
   have h7:=Tk.drew FA6 (Drew.upd (H:=H6) (p:=p) (.lst xs4)) _ _ (s6 _ _ h5)
   have h7q:upd H6 p (.lst xs4) q4=some (.lst [V.int 0,V.int 7,V.int 8,V.int 12]):=(upd_ne nqp).trans h6q
   generalize upd H6 p (.lst xs4)=H7 at FA7 d7 h7 h7q k47
   obtain ⟨n,hatn,hn12⟩:∃ n:Nat,atI [V.int 0,V.int 7,V.int 8,V.int 12] r4=some (.int (n:Int))∧n≤12:=by
    have:r4=0∨r4=1∨r4=2∨r4=3:=by omega
    rcases this with rfl | rfl | rfl | rfl
    ·exact ⟨0,rfl,by decide⟩
    ·exact ⟨7,rfl,by decide⟩
    ·exact ⟨8,rfl,by decide⟩
    ·exact ⟨12,rfl,by decide⟩
   refine ⟨q4,_,_,_,rfl,rfl,SqL.of h7q,hatn,_,rfl,g1,_,rfl,h7,fun g2 H8 s8 h8=>?_⟩
   rw [cut_take] at h8
   refine k g2 (((List.replicate 7 ras).flatten).take n) H8 ?_ (by rw [List.length_take]; omega) ?_ (d7.trans (Drew.same s8)) (FA7.same s8)
   ·rw [h8,List.map_take,List.map_flatten,List.map_replicate]
   ·intro a ha
    have ham:a∈ras:=by
     obtain ⟨l2,hl2,hm2⟩:=List.mem_flatten.mp (List.mem_of_mem_take ha)
     rw [(List.mem_replicate.mp hl2).2] at hm2
     exact hm2
    exact ((hrw.keep ((k4.trans k47).trans (Tk.same s8))).le (by omega)) a ham
 ·rintro σ' H5 ⟨g,r',rfl,hg,hgl,s5⟩
  refine ⟨_,rfl,_,rfl,_,rfl,s',_,rfl,s5 _ _ (k4 _ _ hs),fun g1 H6 s6 h6=>?_⟩
  rw [(cut_refs ras j (by omega)).1] at h6
  refine ⟨_,rfl,(by show 1≤sizeLine; decide),fun g2 hg2=>?_⟩
  have s7:=same_new hg2 (.tup [V.ref g])
  have h7:upd H6 g2 (.tup [V.ref g]) g2=some (.tup [V.ref g]):=upd_same
  generalize upd H6 g2 (.tup [V.ref g])=H7 at s7 h7
  refine ⟨g1,g2,_,_,rfl,rfl,s7 _ _ h6,h7,(by rw [List.length_map,List.length_take]; show _+1≤1000; omega),fun g3 H8 s8 h8=>?_⟩
  refine ⟨_,rfl,_,rfl,_,_,rfl,rfl,_,rfl,s',_,rfl,s8 _ _ (s7 _ _ (s6 _ _ (s5 _ _ (k4 _ _ hs)))),fun g4 H9 s9 h9=>?_⟩
  rw [show ((j:Nat):Int)+1=((j+1:Nat):Int) by omega,(cut_refs ras (j+1) (by omega)).2] at h9
  refine ⟨g3,g4,_,_,rfl,rfl,s9 _ _ h8,h9,(by rw [List.length_append,List.length_map,List.length_map,List.length_take,List.length_drop]; show _+1+_≤1000; omega),fun g5 H10 s10 h10=>?_⟩
  have s510:=(((s6.trans s7).trans s8).trans s9).trans s10
  have s410:=s5.trans s510
  refine k g5 (ras.take j ++ [g] ++ ras.drop (j+1)) H10 (by rw [h10,List.map_append,List.map_append]; rfl) ?_ ?_ (d4.trans (Drew.same s410)) (FA4.same s410)
  ·rw [List.length_append,List.length_append,List.length_take,List.length_drop]
   show _+1+_≤_
   omega
  ·have hk:=(hrw.keep (k4.trans (Tk.same s410))).le (show N≤2 * N+4 by omega)
   intro a ha
   rcases List.mem_append.mp ha with z | z
   ·rcases List.mem_append.mp z with z | z
    ·exact hk a (List.mem_of_mem_take z)
    ·rw [List.mem_singleton.mp z]
     exact ⟨r',s510 _ _ hg,hgl⟩
   ·exact hk a (List.mem_of_mem_drop z)
structure RawM (N:Nat) (H:Hp) (m:Addr):Prop where
 lay:∃ (l:Str) (b:Int) (e s:Addr) (es:List Int) (ras:List Addr),H m=some (.tup [.str l,.int b,.ref e,.ref s])∧H e=some (.tup (es.map V.int))∧H s=some (.tup (ras.map V.ref))∧Rows H ras N∧l.length≤N∧es.length≤N∧ras.length≤12
theorem RawM.keep {N:Nat} {H H':Hp} {m:Addr} (h:RawM N H m) (k:Tk H H'):RawM N H' m:=by
 obtain ⟨l,b,e,s,es,ras,h1,h2,h3,h4,r⟩:=h.lay
 exact ⟨l,b,e,s,es,ras,k _ _ h1,k _ _ h2,k _ _ h3,h4.keep k,r⟩
theorem rows_st {H:Hp} {N:Nat}:∀ {ras:List Addr},Rows H ras N→∃ st:List (List Int),ras.length=st.length∧(∀ (i:Nat) a r,ras[i]? = some a→st[i]? = some r→H a=some (.tup (r.map V.int)))∧∀ r∈st,r.length≤N
 | [],_=>⟨[],rfl,fun i a r h=>by simp at h,fun r h=>absurd h (by simp)⟩
 | a :: ras,h=>by
  obtain ⟨r,e,l⟩:=h a List.mem_cons_self
  obtain ⟨st,h1,h2,h3⟩:=rows_st (ras:=ras) fun b hb=>h b (List.mem_cons_of_mem _ hb)
  refine ⟨r :: st,by rw [List.length_cons,List.length_cons,h1],fun i b q g1 g2=>?_,fun q hq=>?_⟩
  ·cases i with
   | zero=>cases g1; cases g2; exact e
   | succ i=>exact h2 i b q (by simpa using g1) (by simpa using g2)
  ·rcases List.mem_cons.mp hq with z | z
   ·rw [z]; exact l
   ·exact h3 q z
theorem RawM.raw {N:Nat} {H:Hp} {m:Addr} (h:RawM N H m) (hN:N≤100):∃ l b es st,RawAt H m l b es st:=by
 obtain ⟨l,b,e,s,es,ras,h1,h2,h3,h4,h5,h6,h7⟩:=h.lay
 obtain ⟨st,g1,g2,g3⟩:=rows_st h4
 exact ⟨l,b,es,st,⟨e,s,ras,h1,h2,h3,g1,g2⟩,by omega,by omega,by omega,fun r hr=>by have:=g3 r hr; omega⟩
def spSpoilt:Sp:=fun vs H Q _=>∃ (p sc m:Addr) (N:Nat),vs=[.ref p,.ref m]∧RawM N H m∧N≤36∧FlowAt H p sc∧∀ (m':Addr) (H':Hp),RawM (2 * N+4) H' m'→Drew H H' p→FlowAt H' p sc→Q (.ref m') H'
theorem ok_law_spoilt {f:Addr} {fd:FuncData} (F:Fun K "_law_spoilt" "_law_spoilt" s_law_spoilt f fd) (Z:Blt mg) (C_law_pick:Cal P w K mg base "_law_pick" 1 ["_law_flow_here","_law_many"] spPick) (C_law_spoilt_letters:Cal P w K mg base "_law_spoilt_letters" 2 ["_law_flow_here","_law_letters_here"] spSpoiltL) (C_law_spoilt_ends:Cal P w K mg base "_law_spoilt_ends" 2 ["_law_flow_here","_law_ends","_law_many"] spSpoiltE)
  (C_law_spoilt_steps:Cal P w K mg base "_law_spoilt_steps" 2 ["_law_flow_here","_law_steps"] spSpoiltS):FnOk P w K mg base CX0 3 f fd ["_law_flow_here","_law_machine_here"] spSpoilt:=by
 refine F.ok sc_law_spoilt (fun vs H Q E h=>?_) (fun cdv A outer s H vs Q E hr h=>?_)
 ·obtain ⟨p,sc,m,N,rfl,_⟩:=h
  rfl
 obtain ⟨p,sc,m,N,rfl,M,hN,FA,k⟩:=h
 refine ⟨_,(pss_cons (ps_asg (pv 1) (pg_tupK (K:=K) (n:=4) (by rfl) (pgs_cons (pg_name (i:=2) sc_law_spoilt.nd (by rfl) (Or.inl (by rfl))) (pgs_cons (pg_name (i:=3) sc_law_spoilt.nd (by rfl) (Or.inl (by rfl))) (pgs_cons (pg_name (i:=4) sc_law_spoilt.nd (by rfl) (Or.inl (by rfl))) (pgs_cons (pg_name (i:=5) sc_law_spoilt.nd (by rfl) (Or.inl (by rfl))) pgs_nil)))))) 
   (pss_cons (ps_set (i:=6) sc_law_spoilt.nd (by rfl) (Or.inl (by rfl)) (pe_c C_law_pick (hr.mono (by decide)) (pa_cons (pv 0) (pa_cons pe_int pa_nil)))) 
   (pss_cut (ps_if (pt_cmpR op_eq (pv 6) pe_int (nomark _)) 
    (pss_one (ps_set (i:=2) sc_law_spoilt.nd (by rfl) (Or.inl (by rfl)) (pe_c C_law_spoilt_letters (hr.mono (by decide)) (pa_cons (pv 0) (pa_cons (pv 2) pa_nil))))) 
    (pss_one (ps_if (pt_cmpR op_eq (pv 6) pe_int (nomark _)) 
     (pss_one (ps_set (i:=3) sc_law_spoilt.nd (by rfl) (Or.inl (by rfl)) (pe_ix (ix_listK (K:=K)) (pe_lst (pa_cons (pe_op op_sub pe_int pe_int) (pa_cons (pe_callB (call_lenK (K:=K)) (by rfl) Z.len bt_len (pa_cons (pv 5) pa_nil)) (pa_cons (pe_op op_sub (pe_callB (call_lenK (K:=K)) (by rfl) Z.len bt_len (pa_cons (pv 5) pa_nil)) pe_int) (pa_cons pe_int (pa_cons (pe_op op_sub pe_int (pe_callB (call_lenK (K:=K)) (by rfl) Z.len bt_len (pa_cons (pv 5) pa_nil))) pa_nil)))))) (pe_c C_law_pick (hr.mono (by decide)) (pa_cons (pv 0) (pa_cons pe_int pa_nil))) (fun _ _=>rfl)))) 
     (pss_one (ps_if (pt_cmpR op_lt (pv 6) pe_int (nomark _)) 
      (pss_one (ps_set (i:=4) sc_law_spoilt.nd (by rfl) (Or.inl (by rfl)) (pe_c C_law_spoilt_ends (hr.mono (by decide)) (pa_cons (pv 0) (pa_cons (pv 4) (pa_cons (pe_callB (call_lenK (K:=K)) (by rfl) Z.len bt_len (pa_cons (pv 5) pa_nil)) pa_nil)))))) 
      (pss_one (ps_set (i:=5) sc_law_spoilt.nd (by rfl) (Or.inl (by rfl)) (pe_c C_law_spoilt_steps (hr.mono (by decide)) (pa_cons (pv 0) (pa_cons (pv 5) pa_nil)))))))))) 
   (pss_one (ps_ret (pe_tup (pa_cons (pv 2) (pa_cons (pv 3) (pa_cons (pv 4) (pa_cons (pv 5) pa_nil)))))))))),?_⟩
 obtain ⟨l,b,e,s',es,ras,h1,h2,h3,h4,h5,h6,h7⟩:=M.lay
 have hml:(ras.map V.ref).length=ras.length:=List.length_map ..
 refine ⟨_,rfl,m,_,rfl,SqT.of h1,rfl,_,_,rfl,_,_,rfl,_,_,rfl,_,_,rfl,rfl,?_⟩
 refine ⟨_,rfl,p,sc,6,rfl,by decide,by decide,FA,fun w0 xs hr0 hr1 hx=>?_⟩
 have FA1:=FA.go hx
 have d1:=Drew.upd (H:=H) (p:=p) (.lst xs)
 have k1:=Tk.drew FA d1
 generalize upd H p (.lst xs)=H1 at FA1 d1 k1
 refine ⟨fun σ' H'=>∃ (l':Str) (b':Int) (e' s2:Addr) (es':List Int) (ras':List Addr),σ'=[some (.ref p),some (.ref m),some (.str l'),some (.int b'),some (.ref e'),some (.ref s2),some (.int w0)]∧H' e'=some (.tup (es'.map V.int))∧H' s2=some (.tup (ras'.map V.ref))∧Rows H' ras' (2 * N+4)∧l'.length≤2 * N+4∧es'.length≤2 * N+4∧ras'.length≤12∧Drew H H' p∧FlowAt H' p sc,?_,?_⟩
 ·refine ⟨_,rfl,rfl,_,rfl,ite2 (fun _=>?_) (fun _=>⟨_,rfl,rfl,_,rfl,ite2 (fun _=>?_) (fun _=>⟨_,rfl,_,_,rfl,rfl,_,rfl,ite2 (fun _=>?_) (fun _=>?_)⟩)⟩)⟩
  ·refine ⟨_,rfl,_,rfl,p,sc,l,rfl,by omega,FA1,fun z H2 hz d2 FA2=>?_⟩
   have k2:=k1.trans (Tk.drew FA1 d2)
   exact ⟨z,b,e,s',es,ras,rfl,k2 _ _ h2,k2 _ _ h3,(h4.keep k2).le (by omega),by omega,by omega,h7,d1.trans d2,FA2⟩
  ·refine ⟨_,_,rfl,rfl,?_⟩
   have hs1:=k1 _ _ h3
   refine ⟨_,rfl,s',_,rfl,.inr (SqT.of hs1),_,rfl,s',_,rfl,.inr (SqT.of hs1),_,_,rfl,rfl,?_⟩
   refine ⟨_,rfl,s',_,rfl,.inr (SqT.of hs1),_,_,rfl,rfl,(by show 5≤sizeLine; decide),fun q5 hq5=>?_⟩
   generalize hL:[V.int (0 - 1),V.int ((ras.map V.ref).length:Nat),V.int (((ras.map V.ref).length:Nat) - 1),V.int 999,V.int (0 - ((ras.map V.ref).length:Nat))]=L5
   have hL5:∀ (i:Int),0≤i→i < 5→∃ n:Int,atI L5 i=some (.int n):=fun i i0 i1=>by
    rw [← hL]
    have:i=0∨i=1∨i=2∨i=3∨i=4:=by omega
    rcases this with rfl | rfl | rfl | rfl | rfl <;> exact ⟨_,rfl⟩
   have s2:=same_new hq5 (.lst L5)
   have h2q:upd H1 q5 (.lst L5) q5=some (.lst L5):=upd_same
   have FA2:=FA1.same s2
   have nqp:q5≠p:=by
    obtain ⟨xs',hp',_⟩:=FA1.here
    exact (ne_of_none hp' hq5).symm
   have k2:=k1.trans (Tk.same s2)
   have d2:=d1.trans (Drew.same (p:=p) s2)
   generalize upd H1 q5 (.lst L5)=H2 at s2 h2q FA2 k2 d2
   refine ⟨_,rfl,p,sc,5,rfl,by decide,by decide,FA2,fun r5 xs5 h50 h51 hx5=>?_⟩
   have FA3:=FA2.go hx5
   have k3:=k2.trans (Tk.drew FA2 (Drew.upd (H:=H2) (p:=p) (.lst xs5)))
   have d3:=d2.trans (Drew.upd (H:=H2) (p:=p) (.lst xs5))
   have h3q:upd H2 p (.lst xs5) q5=some (.lst L5):=(upd_ne nqp).trans h2q
   generalize upd H2 p (.lst xs5)=H3 at FA3 d3 k3 h3q
   obtain ⟨n,hn⟩:=hL5 r5 h50 h51
   exact ⟨q5,_,_,_,rfl,rfl,SqL.of h3q,hn,l,n,e,s',es,ras,rfl,k3 _ _ h2,k3 _ _ h3,(h4.keep k3).le (by omega),by omega,by omega,h7,d3,FA3⟩
  ·refine ⟨_,rfl,_,rfl,_,rfl,s',_,rfl,.inr (SqT.of (k1 _ _ h3)),p,sc,e,es,_,rfl,k1 _ _ h2,by omega,by omega,by omega,FA1,fun e' es' H2 he' hel d2 FA2=>?_⟩
   have k2:=k1.trans (Tk.drew FA1 d2)
   exact ⟨l,b,e',s',es',ras,rfl,he',k2 _ _ h3,(h4.keep k2).le (by omega),by omega,by omega,h7,d1.trans d2,FA2⟩
  ·refine ⟨_,rfl,_,rfl,p,sc,s',ras,N,rfl,k1 _ _ h3,h7,h4.keep k1,hN,FA1,fun s2 ras' H2 hs2 hl2 hr2 d2 FA2=>?_⟩
   have k2:=k1.trans (Tk.drew FA1 d2)
   exact ⟨l,b,e,s2,es,ras',rfl,k2 _ _ h2,hs2,hr2,by omega,by omega,hl2,d1.trans d2,FA2⟩
 ·rintro σ' H2 ⟨l',b',e',s2,es',ras',rfl,g2,g3,g4,g5,g6,g7,d2,FA2⟩
  refine ⟨_,rfl,_,rfl,_,rfl,_,rfl,(by show 4≤sizeLine; decide),fun m' hm'=>?_⟩
  have s3:=same_new hm' (.tup [.str l',.int b',.ref e',.ref s2])
  exact k m' _ ⟨l',b',e',s2,es',ras',upd_same,s3 _ _ g2,s3 _ _ g3,g4.keep (Tk.same s3),g5,g6,g7⟩ (d2.trans (Drew.same s3)) (FA2.same s3)
theorem ris_pw {α:Type} (lt:α→α→Prop) (tr:∀ {a b c},lt a b→lt b c→lt a c) (d:α):∀ xs:List α,(∀ i,i+1 < xs.length→lt (xs.getD i d) (xs.getD (i+1) d))↔xs.Pairwise lt
 | []=>⟨fun _=>.nil,fun _ i h=>by simp at h⟩
 | [x]=>⟨fun _=>List.pairwise_singleton _ _,fun _ i h=>by simp at h⟩
 | x :: y :: r=>by
  have ih:=ris_pw lt tr d (y :: r)
  constructor
  ·intro h
   have h2:=ih.mp fun i hi=>h (i+1) (by simpa using hi)
   refine List.Pairwise.cons (fun z hz=>?_) h2
   have hxy:lt x y:=h 0 (by simp)
   rcases List.mem_cons.mp hz with e | e
   ·rw [e]; exact hxy
   ·cases h2 with
    | cons h3 _=>exact tr hxy (h3 z e)
  ·intro h i hi
   cases h with
   | cons h1 h2=>
    cases i with
    | zero=>exact h1 y List.mem_cons_self
    | succ i=>exact ih.mpr h2 i (by simpa using hi)
theorem all_range {n:Nat} {p:Nat→Bool}:((List.range n).map p).all id=true↔∀ i,i < n→p i=true:=by
 rw [List.all_map,List.all_eq_true]
 exact ⟨fun h i hi=>h i (List.mem_range.mpr hi),fun h i hi=>h i (List.mem_range.mp hi)⟩
theorem risB_iff (cs:List Nat):risB cs=true↔cs.Pairwise (· < ·):=by
 rw [← ris_pw (· < ·) (fun h k=>Nat.lt_trans h k) 0 cs]
 unfold risB rB
 rw [all_range]
 exact ⟨fun h i hi=>of_decide_eq_true (h i (by omega)),fun h i hi=>decide_eq_true (h i (by omega))⟩
theorem risI_iff (es:List Int):risI es=true↔es.Pairwise (· < ·):=by
 rw [← ris_pw (· < ·) (fun h k=>Int.lt_trans h k) 0 es]
 unfold risI rI
 rw [all_range]
 exact ⟨fun h i hi=>of_decide_eq_true (h i (by omega)),fun h i hi=>decide_eq_true (h i (by omega))⟩
theorem allB_iff (n:Int) (es:List Int):allB n es=true↔∀ x∈es,0≤x∧x < n:=by
 unfold allB thB
 rw [List.all_map,List.all_eq_true]
 refine ⟨fun h x hx=>?_,fun h x hx=>?_⟩
 ·have:=h x hx
  simpa using this
 ·have:=h x hx
  simpa using this
theorem wB_abc (c:Nat):wB c=decide (c∈abc):=by
 unfold wB
 rw [Bool.eq_iff_iff,Bool.and_eq_true,decide_eq_true_eq,decide_eq_true_eq,decide_eq_true_eq]
 refine ⟨fun h=>?_,abc_mem⟩
 unfold abc
 exact List.mem_map.mpr ⟨c - 97,List.mem_range.mpr (by omega),by omega⟩
theorem let_iff {L cs:List Nat} (hp:cs.Pairwise (· < ·)) (hm:∀ c,c∈cs↔c∈L.filter fun c=>decide (c∈abc)) :
  letB L=true↔(1≤(L.filter fun c=>decide (c∈abc)).length∧(L.filter fun c=>decide (c∈abc)).length≤3)∧cs=L:=by
 have hw:wordB L=true↔∀ c∈L,c∈abc:=by
  unfold wordB
  rw [List.all_map,List.all_eq_true]
  refine ⟨fun h c hc=>?_,fun h c hc=>?_⟩
  ·have:=h c hc
   show c∈abc
   have e:wB c=true:=this
   rw [wB_abc] at e
   exact of_decide_eq_true e
  ·show wB c=true
   rw [wB_abc]
   exact decide_eq_true (h c hc)
 have hf:(∀ c∈L,c∈abc)→(L.filter fun c=>decide (c∈abc))=L:=fun h=>List.filter_eq_self.mpr fun c hc=>decide_eq_true (h c hc)
 unfold letB
 rw [Bool.and_eq_true,Bool.and_eq_true,Bool.and_eq_true,decide_eq_true_eq,decide_eq_true_eq,hw,risB_iff]
 constructor
 ·rintro ⟨h1,h2,h3⟩
  rw [hf h2] at hm ⊢
  exact ⟨h1,rise_eq cs L hp h3 hm⟩
 ·rintro ⟨h1,rfl⟩
  have h2:∀ c∈cs,c∈abc:=fun c hc=>of_decide_eq_true (List.mem_filter.mp ((hm c).mp hc)).2
  rw [hf h2] at h1
  exact ⟨h1,h2,hp⟩
theorem rise_eqI:∀ (a b:List Int),a.Pairwise (· < ·)→b.Pairwise (· < ·)→(∀ y,y∈a↔y∈b)→a=b:=fun a b ha hb h=>
 List.Perm.eq_of_pairwise (le:=(· < ·)) (fun x y _ _ h1 h2=>by omega) ha hb ((List.perm_ext_iff_of_nodup (ha.imp fun h=>Int.ne_of_lt h) (hb.imp fun h=>Int.ne_of_lt h)).mpr h)
abbrev rmsI (n:Nat):List Int:=(List.range n).map fun i:Nat=>(i:Int)
theorem mem_rms {n:Nat} {x:Int}:x∈rmsI n↔0≤x∧x < n:=by
 rw [List.mem_map]
 refine ⟨fun ⟨i,hi,e⟩=>?_,fun h=>⟨x.toNat,List.mem_range.mpr (by omega),by omega⟩⟩
 have:=List.mem_range.mp hi
 omega
theorem pw_rms (n:Nat):(rmsI n).Pairwise (· < ·):=List.pairwise_map.mpr ((List.pairwise_lt_range (n:=n)).imp fun h=>by omega)
theorem ends_iff (n:Nat) (es:List Int):((rmsI n).filter fun x=>decide (x∈es))=es↔(risI es && allB n es)=true:=by
 rw [Bool.and_eq_true,risI_iff,allB_iff]
 constructor
 ·intro h
  refine ⟨by rw [← h]; exact (pw_rms n).filter _,fun x hx=>?_⟩
  rw [← h] at hx
  exact mem_rms.mp (List.mem_filter.mp hx).1
 ·rintro ⟨h1,h2⟩
  refine rise_eqI _ _ ((pw_rms n).filter _) h1 fun y=>?_
  rw [List.mem_filter,decide_eq_true_eq]
  exact ⟨fun h=>h.2,fun h=>⟨mem_rms.mpr (h2 y h),h⟩⟩
theorem inV_int (x:Int) (es:List Int):inV (V.int x) (es.map V.int)=decide (x∈es):=by
 unfold inV
 rw [List.any_map,Bool.eq_iff_iff,List.any_eq_true,decide_eq_true_eq]
 constructor
 ·rintro ⟨y,hy,e⟩
  have:(y==x)=true:=e
  rw [← eq_of_beq this]
  exact hy
 ·intro h
  exact ⟨x,h,show (x==x)=true from beq_self_eq_true x⟩
theorem eqL_int:∀ (xs ys:List Int),eqL (xs.map V.int) (ys.map V.int)=decide (xs=ys)
 | [],[]=>rfl
 | [],_ :: _=>rfl
 | _ :: _,[]=>rfl
 | x :: xs,y :: ys=>by
  show ((x==y) && eqL (xs.map V.int) (ys.map V.int))=_
  rw [eqL_int xs ys,Bool.eq_iff_iff,Bool.and_eq_true,beq_iff_eq,decide_eq_true_eq,decide_eq_true_eq,List.cons.injEq]
theorem flat_int (es:List Int):(es.map V.int).all flatV=true:=by
 induction es with
 | nil=>rfl
 | cons e r ih=>rw [List.map_cons,List.all_cons,ih]; rfl
theorem sorted_cs {sm:List Nat} {ys:List Str} (nd:ys.Nodup) (mem:∀ y,y∈ys↔y∈sm.map one) (so:sortedS ys=true):∃ cs:List Nat,ys=cs.map one∧cs.Pairwise (· < ·)∧∀ c,c∈cs↔c∈sm:=by
 have e:ys=(ys.map fun y=>y.cps.toList.headD 0).map one:=by
  rw [List.map_map]
  have:∀ (l:List Str),(∀ y∈l,y∈sm.map one)→l=l.map (one ∘ fun y=>y.cps.toList.headD 0):=by
   intro l
   induction l with
   | nil=>intro _; rfl
   | cons y r ih=>
    intro hl
    rw [List.map_cons,← ih fun z hz=>hl z (List.mem_cons_of_mem _ hz)]
    obtain ⟨c,_,rfl⟩:=List.mem_map.mp (hl y List.mem_cons_self)
    rfl
  exact this ys fun y hy=>(mem y).mp hy
 generalize (ys.map fun y=>y.cps.toList.headD 0)=cs at e
 subst e
 have oi:∀ a b:Nat,one a=one b→a=b:=fun a b h=>by
  have:(one a).cps.toList=(one b).cps.toList:=by rw [h]
  rw [one_list,one_list] at this
  exact (List.cons.inj this).1
 have nd':cs.Nodup:=(List.pairwise_map.mp nd).imp fun h e=>h (by rw [e])
 refine ⟨cs,rfl,lt_of_le_nodup (sorted_ones cs so) nd',fun c=>?_⟩
 have:=mem (one c)
 rw [List.mem_map,List.mem_map] at this
 constructor
 ·intro h
  obtain ⟨d,hd,e⟩:=this.mp ⟨c,h,rfl⟩
  rw [← oi d c e]
  exact hd
 ·intro h
  obtain ⟨d,hd,e⟩:=this.mpr ⟨c,h,rfl⟩
  rw [← oi d c e]
  exact hd
theorem ltrs_len3 (z:List Nat):(ltrs z).length≤z.length:=by
 induction z with
 | nil=>exact Nat.le_refl _
 | cons c z ih=>
  have:∀ (c:Nat) (l:List Nat),(insU c l).length≤l.length+1:=by
   intro c l
   induction l with
   | nil=>exact Nat.le_refl _
   | cons x l ih2=>
    unfold insU
    split
    ·exact Nat.le_refl _
    ·split
     ·exact Nat.le_succ _
     ·simp only [List.length_cons]
      omega
  exact Nat.le_trans (this c (ltrs z)) (by simp only [List.length_cons]; omega)
theorem den_three {H:Hp} {q:Addr} {wd:Str} {n:Int} (h:H q=some (.lst [.str "refused",.str wd,.int n])):Den H (.ref q) (vDt (some (wd,n))):=.lst h (by show 3≤1000000; decide) rfl fun i x d hx hd=>by
 match i,hx,hd with
 | 0,hx,hd=>cases hx; cases hd; exact .str _
 | 1,hx,hd=>cases hx; cases hd; exact .str _
 | 2,hx,hd=>cases hx; cases hd; exact .int _
 | i+3,hx,_=>simp at hx
theorem den_told {H:Hp} {q:Addr} (h:H q=some (.tup [.str "told",.bl true])):Den H (.ref q) (vDt none):=.tup h (by show 2≤1000000; decide) rfl fun i x d hx hd=>by
 match i,hx,hd with
 | 0,hx,hd=>cases hx; cases hd; exact .str _
 | 1,hx,hd=>cases hx; cases hd; exact .bl _
 | i+2,hx,_=>simp at hx
theorem str_eq_list {a b:Str}:a=b↔a.cps.toList=b.cps.toList:=by
 refine ⟨fun h=>by rw [h],fun h=>?_⟩
 cases a
 cases b
 simpa using h
def spDueM:Sp:=fun vs H Q _=>∃ (m:Addr) (l:Str) (b:Int) (es:List Int) (st:List (List Int)),vs=[.ref m]∧RawAt H m l b es st∧∀ v H',Same H H'→Den H' v (vDt (verd l b es st))→Q v H'
theorem row_iff {l:Str} {n:Nat} {r:List Int} (h:r.length=l.length):rowB l n r=((r.filter fun x=>!decide (x∈rmsI n)).isEmpty):=by
 unfold rowB
 rw [decide_eq_true h,Bool.true_and,Bool.eq_iff_iff,allB_iff,List.isEmpty_iff,List.filter_eq_nil_iff]
 refine ⟨fun h x hx=>?_,fun h x hx=>?_⟩
 ·simp only [Bool.not_eq_true',decide_eq_false_iff_not,Classical.not_not]
  exact mem_rms.mpr (h x hx)
 ·have:=h x hx
  simp only [Bool.not_eq_true',decide_eq_false_iff_not,Classical.not_not] at this
  exact mem_rms.mp this
theorem ok_law_due {f:Addr} {fd:FuncData} (F:Fun K "_law_due" "_law_due" s_law_due f fd) (Z:Blt mg):FnOk P w K mg base CX0 1 f fd ["_law_machine_here"] spDueM:=by
 refine F.ok sc_law_due (fun vs H Q E h=>?_) (fun cdv A outer s H vs Q E hr h=>?_)
 ·obtain ⟨m,l,b,es,st,rfl,_⟩:=h
  rfl
 obtain ⟨m,l,b,es,st,rfl,M,kq⟩:=h
 refine ⟨_,(pss_cons (ps_asg (pv 0) (pg_tupK (K:=K) (n:=4) (by rfl) (pgs_cons (pg_name (i:=1) sc_law_due.nd (by rfl) (Or.inl (by rfl))) (pgs_cons (pg_name (i:=2) sc_law_due.nd (by rfl) (Or.inl (by rfl))) (pgs_cons (pg_name (i:=3) sc_law_due.nd (by rfl) (Or.inr (by rfl))) (pgs_cons (pg_name (i:=4) sc_law_due.nd (by rfl) (Or.inl (by rfl))) pgs_nil)))))) 
   (pss_cons (ps_set (i:=5) sc_law_due.nd (by rfl) (Or.inr (by rfl)) (pe_listRg (by rfl) (by rfl) Z.list (by rfl) Z.range (pe_callB (call_lenK (K:=K)) (by rfl) Z.len bt_len (pa_cons (pv 4) pa_nil)))) 
   (pss_cons (ps_setc (i:=6) sc_law_due.nd (by rfl) (by rfl) (sc:=defScope s_law_due) (Nm:=["_law_machine_here","_law_letters_here","_law_begin","_law_ends","_law_steps","_law_rooms","_law_small","_law_at","_law_row"]) (own:=["_law_letter"]) (fr:=[]) ⟨rfl,by decide +kernel,by decide +kernel,by decide +kernel,by decide +kernel⟩ (by rfl) (gfr_name (by decide)) (pi_str (pv 1)) (fun d=>(pg_name (i:=0) nd_law_due_0 (by rfl) (Or.inl (by rfl)))) (fun d=>(pts_one (pt_cmpR op_in_str (pv 0) pe_str (by with_unfolding_all rfl)))) (fun d=>(pv 0))) 
   (pss_cons (ps_if (PW.pt (pw_or (pt_not (pt_chain op_le op_le pe_int (pe_callB (call_lenK (K:=K)) (by rfl) Z.len bt_len (pa_cons (pv 6) pa_nil)) pe_int)) (pw_or1 (pt_cmpR op_ne (pe_bmK (K:=K) PySem.F.plainAttrs_str PySem.F.slot_str_join PySem.F.type_str_join (mt_joinK (K:=K)) pe_str (pa_cons (pe_callB (call_sortset (by rfl)) (by rfl) Z.sorted bt_sorted (pa_cons (pe_callTy (call_set_l (K:=K) (by rfl)) (by rfl) Z.set bt_set (pa_cons (pv 6) pa_nil)) pa_nil)) pa_nil)) (pv 1) (nomark _))))) 
    (pss_one (ps_ret (pe_lst (pa_cons pe_str (pa_cons pe_str (pa_cons (pe_callB call_len_str (by rfl) Z.len bt_len (pa_cons (pv 1) pa_nil)) pa_nil)))))) pss_nil) 
   (pss_cons (ps_if (pt_not (pt_chain op_le op_le pe_int (pe_callB (call_lenK (K:=K)) (by rfl) Z.len bt_len (pa_cons (pv 4) pa_nil)) pe_int)) 
    (pss_one (ps_ret (pe_lst (pa_cons pe_str (pa_cons pe_str (pa_cons (pe_callB (call_lenK (K:=K)) (by rfl) Z.len bt_len (pa_cons (pv 4) pa_nil)) pa_nil)))))) pss_nil) 
   (pss_cons (ps_if (pt_cmpR (op_notInK (K:=K)) (pv 2) (pv 5) (by with_unfolding_all rfl)) 
    (pss_one (ps_ret (pe_lst (pa_cons pe_str (pa_cons pe_str (pa_cons pe_int pa_nil)))))) pss_nil) 
   (pss_cons (ps_if (pt_cmpR (op_neS (K:=K) (hu_lt hr)) (pe_comp (sc:=defScope s_law_due) (Nm:=["_law_machine_here","_law_letters_here","_law_begin","_law_ends","_law_steps","_law_rooms","_law_small","_law_at","_law_row"]) (own:=["_law_room"]) (fr:=[3]) ⟨rfl,by decide +kernel,by decide +kernel,by decide +kernel,by decide +kernel⟩ (by rfl) (gfr_name (by decide)) (pi_listK (K:=K) (pv 5)) (fun d=>(pg_name (i:=0) nd_law_due_1 (by rfl) (Or.inl (by rfl)))) (fun d=>(pts_one (pt_cmpR (op_inK (K:=K)) (pv 0) (pv 1) (by with_unfolding_all rfl)))) (fun d=>(pv 0))) (pe_callTy (call_listK (K:=K)) (by rfl) Z.list bt_list (pa_cons (pv 3) pa_nil)) (nomark _)) 
    (pss_one (ps_ret (pe_lst (pa_cons pe_str (pa_cons pe_str (pa_cons (pe_callB (call_lenK (K:=K)) (by rfl) Z.len bt_len (pa_cons (pv 3) pa_nil)) pa_nil)))))) pss_nil) 
   (pss_cons (ps_for PassesOwn.never (by rfl) (pi_enum (K:=K) (by rfl) Z.enumerate (pv 4)) (pg_tupK (K:=K) (n:=2) (by rfl) (pgs_cons (pg_name (i:=7) sc_law_due.nd (by rfl) (Or.inl (by rfl))) (pgs_cons (pg_name (i:=8) sc_law_due.nd (by rfl) (Or.inl (by rfl))) pgs_nil))) 
    (pss_one (ps_if (PW.pt (pw_or (pt_cmpR op_ne (pe_callB (call_lenK (K:=K)) (by rfl) Z.len bt_len (pa_cons (pv 8) pa_nil)) (pe_callB call_len_str (by rfl) Z.len bt_len (pa_cons (pv 1) pa_nil)) (nomark _)) (pw_or1 (pt_cmpR (op_neE (K:=K) (hu_lt hr)) (pe_comp (sc:=defScope s_law_due) (Nm:=["_law_machine_here","_law_letters_here","_law_begin","_law_ends","_law_steps","_law_rooms","_law_small","_law_at","_law_row"]) (own:=["_law_to"]) (fr:=[5]) ⟨rfl,by decide +kernel,by decide +kernel,by decide +kernel,by decide +kernel⟩ (by rfl) (gfr_name (by decide)) (pi_tupK (K:=K) (pv 8)) (fun d=>(pg_name (i:=0) nd_law_due_2 (by rfl) (Or.inl (by rfl)))) (fun d=>(pts_one (pt_cmpR (op_notInK (K:=K)) (pv 0) (pv 1) (by with_unfolding_all rfl)))) (fun d=>(pv 0))) (pe_lst pa_nil) (nomark _))))) 
     (pss_one (ps_ret (pe_lst (pa_cons pe_str (pa_cons pe_str (pa_cons (pv 7) pa_nil)))))) pss_nil))) 
   (pss_one (ps_ret (pe_tup (pa_cons pe_str (pa_cons pe_bl pa_nil))))))))))))),?_⟩
 obtain ⟨⟨e,s',ras,h1,h2,h3,h4,h5'⟩,f1,f2,f3,f4⟩:=M
 have hml:(ras.map V.ref).length=st.length:=by rw [List.length_map,h4]
 have hmi:((ras.map V.ref).length:Int)=(st.length:Int):=by rw [hml]
 have hme:((es.map V.int).length:Int)=(es.length:Int):=by rw [List.length_map]
 refine ⟨_,rfl,m,_,rfl,SqT.of h1,rfl,_,_,rfl,_,_,rfl,_,_,rfl,_,_,rfl,rfl,?_⟩
 refine ⟨_,rfl,s',_,rfl,.inr (SqT.of h3),st.length,(by show V.int ((ras.map V.ref).length:Int)=_; rw [hmi]),by omega,fun rl hrl=>?_⟩
 have e1:=same_new hrl (.lst ((List.range st.length).map fun i:Nat=>V.int (i:Int)))
 have hR:upd H rl (.lst ((List.range st.length).map fun i:Nat=>V.int (i:Int))) rl=some (.lst ((rmsI st.length).map V.int)):=by rw [List.map_map]; exact upd_same
 generalize upd H rl (.lst ((List.range st.length).map fun i:Nat=>V.int (i:Int)))=H1 at e1 hR
 refine ⟨_,rfl,l,rfl,?_⟩
 have hll:=len_list l
 refine comp_str (cs:=l.cps.toList) (fun j acc H3=>Same H1 H3∧acc=((l.cps.toList.take j).filter fun c=>decide (c∈abc)).map oneS) (by rw [hll]; exact small1000 (by omega)) ⟨Same.refl _,rfl⟩
  (fun j acc H3 q=>by rw [q.2,List.length_map]; exact Nat.le_trans (List.length_filter_le _ _) (by rw [List.length_take]; exact Nat.min_le_left _ _)) (fun j acc H3 c hc q=>?_) (fun acc H3 q lp hlp=>?_)
 ·obtain ⟨e3,rfl⟩:=q
  refine ⟨_,rfl,_,_,rfl,rfl,_,rfl,?_⟩
  have hf:(!(Builtin.Str.occurrences (Str.ofString "abcdefghijklmnopqrstuvwxyz") ⟨#[c]⟩ 0 (Str.ofString "abcdefghijklmnopqrstuvwxyz").length 1).isEmpty)=decide (c∈abc):=(StrLaws.found_one _ c).trans (by rw [abc_is])
  show if (!(Builtin.Str.occurrences (Str.ofString "abcdefghijklmnopqrstuvwxyz") ⟨#[c]⟩ 0 (Str.ofString "abcdefghijklmnopqrstuvwxyz").length 1).isEmpty)=true then _ else _
  rw [hf,List.take_add_one,hc]
  refine ite2 (fun c1=>⟨_,rfl,e3,?_⟩) (fun c1=>⟨e3,?_⟩)
  ·rw [List.filter_append,List.map_append]
   simp only [Option.toList_some,List.filter_cons,c1,if_true,List.filter_nil]
   rfl
  ·rw [List.filter_append,List.map_append]
   simp only [Option.toList_some,List.filter_cons,c1,List.filter_nil]
   simp
 obtain ⟨e3,rfl⟩:=q
 rw [List.take_length]
 have hlet:=fun cs=>let_iff (L:=l.cps.toList) (cs:=cs)
 generalize hsm:(l.cps.toList.filter fun c=>decide (c∈abc))=sm at hlet
 have s4:=same_new hlp (.lst (sm.map oneS))
 have h4p:upd H3 lp (.lst (sm.map oneS)) lp=some (.lst (sm.map oneS)):=upd_same
 have e04:=(e1.trans e3).trans s4
 have hR4:=s4 _ _ (e3 _ _ hR)
 generalize upd H3 lp (.lst (sm.map oneS))=H4 at s4 h4p e04 hR4
 have hsl:((sm.map oneS).length:Int)=(sm.length:Int):=by rw [List.length_map]
 have bad:∀ {H5:Hp},Same H H5→letB l.cps.toList=false→∀ q,H5 q=none→Q (.ref q) (upd H5 q (.lst [.str "refused",.str "letters",.int (l.length:Nat)])):=fun {H5} e5 hb q hq=>kq _ _ (e5.trans (same_new hq _)) (by
  unfold verd
  rw [if_pos hb]
  exact den_three upd_same)
 have hl0:=hlet (ltrs sm) (rise_ltrs sm) fun c=>mem_ltrs c sm
 refine ⟨_,rfl,lp,_,rfl,.inl (SqL.of h4p),_,_,rfl,rfl,_,rfl,?_⟩
 by_cases hA:1≤sm.length
 case neg=>
  have hb:letB l.cps.toList=false:=by
   cases hh:letB l.cps.toList with
   | false=>rfl
   | true=>exact absurd (hl0.mp hh).1.1 hA
  exact ifN (decide_eq_false (show ¬ (1:Int)≤((sm.map oneS).length:Int) by omega)) ⟨_,rfl,iteT (iteT ⟨_,rfl,l,rfl,line_le (by omega),(by show 3≤sizeLine; decide),fun q hq=>bad e04 hb q hq⟩)⟩
 refine ifY (decide_eq_true (show (1:Int)≤((sm.map oneS).length:Int) by omega)) ⟨_,_,rfl,rfl,_,rfl,?_⟩
 by_cases hB:sm.length≤3
 case neg=>
  have hb:letB l.cps.toList=false:=by
   cases hh:letB l.cps.toList with
   | false=>rfl
   | true=>exact absurd (hl0.mp hh).1.2 hB
  exact ifY (by rw [decide_eq_false (show ¬ ((sm.map oneS).length:Int)≤3 by omega)]; rfl) (iteT ⟨_,rfl,l,rfl,line_le (by omega),(by show 3≤sizeLine; decide),fun q hq=>bad e04 hb q hq⟩)
 refine ifN (by rw [decide_eq_true (show ((sm.map oneS).length:Int)≤3 by omega)]; rfl) ?_
 have hsm1:(sm.map one).length=sm.length:=List.length_map ..
 refine ⟨rfl,_,rfl,lp,sm.map one,rfl,SqL.of (by rw [h4p,oneS_map]),by omega,fun sl hsl'=>?_⟩
 refine ⟨sl,_,_,rfl,upd_same,by omega,fun ys l2 nd mem so hl2=>?_⟩
 obtain ⟨cs,rfl,hcp,hcm⟩:=sorted_cs nd mem so
 generalize hG:upd (upd H4 _ _) _ _=H5
 have s5:Same H4 H5:=by rw [← hG]; exact (same_new hsl' _).trans (same_new hl2 _)
 have h5:H5 l2=some (.lst ((cs.map one).map V.str)):=by rw [← hG]; exact upd_same
 have hcl:cs.length≤3:=by
  rw [rise_eq cs (ltrs sm) hcp (rise_ltrs sm) fun c=>(hcm c).trans (mem_ltrs c sm).symm]
  exact Nat.le_trans (ltrs_len3 sm) hB
 have e05:=e04.trans s5
 refine ⟨_,l2,cs.map one,rfl,rfl,SqL.of h5,join_ones_len cs (by omega),_,rfl,rfl,_,rfl,?_⟩
 have hl1:=hlet cs hcp hcm
 have hjo:=join_ones cs
 generalize hj:Txt.join (Str.ofString "") (cs.map one)=jo at hjo
 have hjl:jo=l↔cs=l.cps.toList:=by rw [str_eq_list,hjo]
 by_cases hJ:jo=l
 case neg=>
  have hb:letB l.cps.toList=false:=by
   cases hh:letB l.cps.toList with
   | false=>rfl
   | true=>exact absurd (hjl.mpr (hl1.mp hh).2) hJ
  refine ifY ?_ ⟨_,rfl,l,rfl,line_le (by omega),(by show 3≤sizeLine; decide),fun q hq=>bad e05 hb q hq⟩
  show (!decide (V.str jo=V.str l))=true
  rw [decide_eq_false (fun z=>hJ (V.str.inj z))]
  rfl
 have hL:letB l.cps.toList=true:=hl1.mpr ⟨⟨hA,hB⟩,hjl.mp hJ⟩
 refine ifN (by show (!decide (V.str jo=V.str l))=false; rw [hJ,decide_eq_true rfl]; rfl) ?_
 unfold verd at kq
 rw [if_neg (by rw [hL]; decide)] at kq
 have h35:=e05 _ _ h3
 have rooms:¬ (1≤st.length∧st.length≤6)→∀ q,H5 q=none→Q (.ref q) (upd H5 q (.lst [.str "refused",.str "rooms",.int ((ras.map V.ref).length:Nat)])):=fun hn q hq=>kq _ _ (e05.trans (same_new hq _)) (by
  rw [if_pos hn]
  exact den_three (by rw [upd_same]; show some (HO.lst [_,_,V.int ((ras.map V.ref).length:Int)])=_; rw [hmi]))
 refine ⟨_,rfl,s',_,rfl,.inr (SqT.of h35),_,_,rfl,rfl,_,rfl,?_⟩
 by_cases hC:1≤st.length
 case neg=>exact ifN (decide_eq_false (show ¬ (1:Int)≤((ras.map V.ref).length:Int) by omega)) ⟨_,rfl,iteT ⟨_,rfl,s',_,rfl,.inr (SqT.of h35),(by show 3≤sizeLine; decide),fun q hq=>rooms (fun z=>hC z.1) q hq⟩⟩
 refine ifY (decide_eq_true (show (1:Int)≤((ras.map V.ref).length:Int) by omega)) ⟨_,_,rfl,rfl,_,rfl,?_⟩
 by_cases hD:st.length≤6
 case neg=>exact ifY (by rw [decide_eq_false (show ¬ ((ras.map V.ref).length:Int)≤6 by omega)]; rfl) ⟨_,rfl,s',_,rfl,.inr (SqT.of h35),(by show 3≤sizeLine; decide),fun q hq=>rooms (fun z=>hD z.2) q hq⟩
 refine ifN (by rw [decide_eq_true (show ((ras.map V.ref).length:Int)≤6 by omega)]; rfl) ?_
 rw [if_neg (fun z=>z ⟨hC,hD⟩)] at kq
 have hR5:=s5 _ _ hR4
 refine ⟨_,rfl,_,rfl,rl,_,rfl,.inl (SqL.of hR5),rfl,flat_int _,_,rfl,?_⟩
 rw [inV_int]
 have htb:decide (b∈rmsI st.length)=thB st.length b:=by
  unfold thB
  rw [Bool.eq_iff_iff,decide_eq_true_eq,Bool.and_eq_true,decide_eq_true_eq,decide_eq_true_eq]
  exact mem_rms
 rw [htb]
 cases hT:thB st.length b with
 | false=>
  rw [if_pos hT] at kq
  exact iteT ⟨(by show 3≤sizeLine; decide),fun q hq=>kq _ _ (e05.trans (same_new hq _)) (den_three upd_same)⟩
 | true=>
 rw [if_neg (by rw [hT]; decide)] at kq
 refine iteF ?_
 have h25:=e05 _ _ h2
 refine ⟨_,rfl,rl,rfl,⟨_,SqL.of hR5⟩,?_⟩
 have hrl0:((rmsI st.length).map V.int).length=st.length:=by rw [List.length_map,List.length_map,List.length_range]
 refine comp_list (K:=K) (a:=rl) (xs:=(rmsI st.length).map V.int) (fun j acc H6=>Same H5 H6∧acc=(((rmsI st.length).take j).filter fun x=>decide (x∈es)).map V.int) (by rw [hrl0]; exact small1000 (by omega)) ⟨Same.refl _,rfl⟩
  (fun j acc H6 q=>by rw [q.2,List.length_map]; exact Nat.le_trans (List.length_filter_le _ _) (by rw [List.length_take]; exact Nat.min_le_left _ _)) (fun j acc H6 q=>SqL.of (q.1 _ _ hR5)) (fun j acc H6 x hx q=>?_) (fun acc H6 q lq hlq=>?_)
 ·obtain ⟨e6,rfl⟩:=q
  rw [List.getElem?_map] at hx
  cases hc:(rmsI st.length)[j]? with
  | none=>rw [hc] at hx; cases hx
  | some c=>
   rw [hc] at hx
   cases hx
   refine ⟨_,rfl,_,rfl,e,_,rfl,.inr (SqT.of (e6 _ _ h25)),rfl,flat_int _,_,rfl,?_⟩
   show if inV (V.int c) (es.map V.int)=true then _ else _
   rw [inV_int,List.take_add_one,hc]
   refine ite2 (fun c1=>⟨_,rfl,e6,?_⟩) (fun c1=>⟨e6,?_⟩)
   ·rw [List.filter_append,List.map_append]
    simp only [Option.toList_some,List.filter_cons,c1,if_true,List.filter_nil]
    rfl
   ·rw [List.filter_append,List.map_append]
    simp only [Option.toList_some,List.filter_cons,c1,List.filter_nil]
    simp
 obtain ⟨e6,rfl⟩:=q
 rw [hrl0,List.take_of_length_le (by rw [List.length_map,List.length_range]; exact Nat.le_refl _)]
 have hei:=ends_iff st.length es
 generalize ((rmsI st.length).filter fun x=>decide (x∈es))=fs at hei
 have s7:=same_new hlq (.lst (fs.map V.int))
 have h7:upd H6 lq (.lst (fs.map V.int)) lq=some (.lst (fs.map V.int)):=upd_same
 generalize upd H6 lq (.lst (fs.map V.int))=H7 at s7 h7
 have e07:=e05.trans (e6.trans s7)
 refine ⟨_,rfl,e,_,rfl,.inr (SqT.of (e07 _ _ h2)),fun lr hlr=>?_⟩
 have s8:=same_new hlr (.lst (es.map V.int))
 have h8:upd H7 lr (.lst (es.map V.int)) lr=some (.lst (es.map V.int)):=upd_same
 generalize upd H7 lr (.lst (es.map V.int))=H8 at s8 h8
 have e08:=e07.trans s8
 refine ⟨lq,lr,_,_,rfl,rfl,.inl ⟨SqL.of (s8 _ _ h7),SqL.of h8⟩,flat_int _,flat_int _,_,rfl,?_⟩
 rw [eqL_int]
 by_cases hF:fs=es
 case neg=>
  have hb:(risI es && allB st.length es)=false:=by
   cases hh:(risI es && allB st.length es) with
   | false=>rfl
   | true=>exact absurd (hei.mpr hh) hF
  rw [if_pos hb] at kq
  refine ifY (by rw [decide_eq_false hF]; rfl) ⟨_,rfl,e,_,rfl,.inr (SqT.of (e08 _ _ h2)),(by show 3≤sizeLine; decide),fun q hq=>kq _ _ (e08.trans (same_new hq _)) (den_three ?_)⟩
  rw [upd_same]
  show some (HO.lst [_,_,V.int ((es.map V.int).length:Int)])=_
  rw [hme]
 have hb:=hei.mp hF
 rw [if_neg (by rw [hb]; decide)] at kq
 refine ifN (by rw [decide_eq_true hF]; rfl) ?_
 have h38:=e08 _ _ h3
 have hR8:=s8 _ _ (s7 _ _ (e6 _ _ hR5))
 refine ⟨_,rfl,s',ras.map V.ref,rfl,.inr ⟨SqT.of h38,?_⟩⟩
 refine for_enum (xs:=ras.map V.ref) (fun i σ H9=>∃ (v7 v8:Option V),σ=[some (.ref m),some (.str l),some (.int b),some (.ref e),some (.ref s'),some (.ref rl),some (.ref lp),v7,v8]∧Same H8 H9∧∀ (k:Nat) r,k < i→st[k]? = some r→rowB l st.length r=true) ⟨none,none,rfl,Same.refl _,fun k r h=>absurd h (Nat.not_lt_zero _)⟩ (fun i σ H9 _ h=>?_) ?_ ?_
 ·obtain ⟨_,_,_,e9,_⟩:=h
  exact SqT.of (e9 _ _ h38)
 ·rintro i x σ H9 p hx ⟨v7,v8,rfl,e9,hall⟩ hp
  rw [List.getElem?_map] at hx
  cases hc:ras[i]? with
  | none=>rw [hc] at hx; cases hx
  | some a=>
   rw [hc] at hx
   cases hx
   have hi:=(List.getElem?_eq_some_iff.mp hc).1
   have hri:st[i]? = some (st[i]'(by omega)):=List.getElem?_eq_getElem (by omega)
   generalize st[i]'(by omega)=r at hri
   have ha:=h5' i a r hc hri
   have s10:=same_new hp (.tup [.int i,.ref a])
   have h10p:upd H9 p (.tup [.int i,.ref a]) p=some (.tup [.int i,.ref a]):=upd_same
   generalize upd H9 p (.tup [.int i,.ref a])=H10 at s10 h10p
   have e810:=e9.trans s10
   have e010:=e08.trans e810
   have hrl':=f4 r (List.mem_of_getElem? hri)
   have hml':(r.map V.int).length=r.length:=List.length_map ..
   have told:∀ {H11:Hp},Same H H11→rowB l st.length r=false→∀ q,H11 q=none→Q (.ref q) (upd H11 q (.lst [.str "refused",.str "steps",.int (i:Nat)])):=fun {H11} e11 hb' q hq=>kq _ _ (e11.trans (same_new hq _)) (by
    rw [find_steps hall hri hb']
    exact den_three upd_same)
   refine ⟨p,_,rfl,SqT.of h10p,rfl,_,_,rfl,_,_,rfl,rfl,?_⟩
   refine ⟨_,rfl,a,_,rfl,.inr (SqT.of (e010 _ _ ha)),_,rfl,l,rfl,line_le (by omega),rfl,_,rfl,ite2 (fun c=>?_) (fun c=>?_)⟩
   ·have hb':rowB l st.length r=false:=by
     have c':(!decide (V.int ((r.map V.int).length:Nat)=V.int (l.length:Nat)))=true:=c
     have:¬ r.length=l.length:=fun e=>by
      rw [hml',e] at c'
      simp at c'
     unfold rowB
     rw [decide_eq_false this,Bool.false_and]
    exact iteT ⟨_,rfl,(by show 3≤sizeLine; decide),fun q hq=>told e010 hb' q hq⟩
   ·have hrr:r.length=l.length:=by
     have c':¬ (!decide (V.int ((r.map V.int).length:Nat)=V.int (l.length:Nat)))=true:=c
     refine Classical.byContradiction fun e=>c' ?_
     rw [decide_eq_false (fun z=>e (by have:=V.int.inj z; rw [hml'] at this; omega))]
     rfl
    refine ⟨_,rfl,a,rfl,⟨_,SqT.of (e010 _ _ ha)⟩,?_⟩
    have hR10:=e810 _ _ hR8
    refine comp_tup (K:=K) (a:=a) (xs:=r.map V.int) (fun j acc H11=>Same H10 H11∧acc=((r.take j).filter fun x=>!decide (x∈rmsI st.length)).map V.int) (by rw [hml']; exact small1000 (by omega)) ⟨Same.refl _,rfl⟩
     (fun j acc H11 q=>by rw [q.2,List.length_map]; exact Nat.le_trans (List.length_filter_le _ _) (by rw [List.length_take]; exact Nat.min_le_left _ _)) (fun j acc H11 q=>SqT.of (q.1 _ _ (e010 _ _ ha))) (fun j acc H11 x hx q=>?_) (fun acc H11 q lq' hlq'=>?_)
    ·obtain ⟨e11,rfl⟩:=q
     rw [List.getElem?_map] at hx
     cases hc2:r[j]? with
     | none=>rw [hc2] at hx; cases hx
     | some c2=>
      rw [hc2] at hx
      cases hx
      refine ⟨_,rfl,_,rfl,rl,_,rfl,.inl (SqL.of (e11 _ _ hR10)),rfl,flat_int _,_,rfl,?_⟩
      show if (!inV (V.int c2) ((rmsI st.length).map V.int))=true then _ else _
      rw [inV_int,List.take_add_one,hc2]
      refine ite2 (fun c1=>⟨_,rfl,e11,?_⟩) (fun c1=>⟨e11,?_⟩)
      ·rw [List.filter_append,List.map_append]
       simp only [Option.toList_some,List.filter_cons,c1,if_true,List.filter_nil]
       rfl
      ·rw [List.filter_append,List.map_append]
       simp only [Option.toList_some,List.filter_cons,c1,List.filter_nil]
       simp
    ·obtain ⟨e11,rfl⟩:=q
     rw [hml',List.take_length]
     have hrb:=row_iff (l:=l) (n:=st.length) hrr
     generalize (r.filter fun x=>!decide (x∈rmsI st.length))=gs at hrb
     have s12:=same_new hlq' (.lst (gs.map V.int))
     have h12:upd H11 lq' (.lst (gs.map V.int)) lq'=some (.lst (gs.map V.int)):=upd_same
     generalize upd H11 lq' (.lst (gs.map V.int))=H12 at s12 h12
     refine ⟨(by show 0≤sizeLine; decide),fun l0 hl0'=>?_⟩
     have s13:=same_new hl0' (.lst [])
     have h13:upd H12 l0 (.lst []) l0=some (.lst []):=upd_same
     generalize upd H12 l0 (.lst [])=H13 at s13 h13
     have e13:=e810.trans ((e11.trans s12).trans s13)
     refine ⟨lq',l0,_,rfl,rfl,SqL.of (s13 _ _ h12),SqL.of h13,_,rfl,?_⟩
     have hge:(gs.map V.int).isEmpty=rowB l st.length r:=by rw [hrb]; cases gs <;> rfl
     rw [hge]
     cases hbb:rowB l st.length r with
     | false=>exact iteT ⟨_,rfl,(by show 3≤sizeLine; decide),fun q hq=>told (e08.trans e13) hbb q hq⟩
     | true=>
      refine iteF ⟨_,_,rfl,e13,fun k r' hk hr'=>?_⟩
      by_cases z:k=i
      ·subst z
       rw [hri] at hr'
       cases hr'
       exact hbb
      ·exact hall k r' (by omega) hr'
 ·rintro σ H9 ⟨v7,v8,rfl,e9,hall⟩
  rw [List.length_map,h4] at hall
  refine ⟨(by show 2≤sizeLine; decide),fun q hq=>kq _ _ ((e08.trans e9).trans (same_new hq _)) ?_⟩
  rw [find_none fun k r hk hr=>hall k r hk hr]
  exact den_told upd_same
def nI (n:Nat):V:=.int (n:Int)
structure MachAt (H:Hp) (m:Addr) (l:Str) (b:Nat) (es:List Nat) (st:List (List Nat)):Prop where
 lay:∃ (e s:Addr) (ras:List Addr),H m=some (.tup [.str l,nI b,.ref e,.ref s])∧H e=some (.tup (es.map nI))∧H s=some (.tup (ras.map V.ref))∧ras.length=st.length∧∀ (i:Nat) a r,ras[i]? = some a→st[i]? = some r→H a=some (.tup (r.map nI))
 few:0 < l.length∧l.length≤3∧st.length≤216
 beg:b < st.length
 rows:∀ r∈st,r.length=l.length∧∀ x∈r,x < st.length
theorem flow_store {H:Hp} {p sc s0:Addr} {o:HO} (F:FlowAt H p sc) (h1:p≠s0) (h2:sc≠s0):FlowAt (upd H s0 o) p sc:=by
 obtain ⟨xs,q1,q2⟩:=F.here
 obtain ⟨ns,q3⟩:=F.cells
 exact ⟨⟨xs,by rw [upd_ne h1]; exact q1,q2⟩,ns,by rw [upd_ne h2]; exact q3⟩
theorem e_nI (i:Nat):V.int (0+(i:Int))=nI i:=by
 rw [Int.zero_add]
 rfl
theorem map_snoc {α β:Type} (f:α→β) (l:List α) (x:α):l.map f ++ [f x]=(l ++ [x]).map f:=by
 rw [List.map_append]
 rfl
def EsOk (es:List Nat) (st:List (List Nat)):Prop:=es.length≤6∧(∀ x∈es,x < st.length)∧st.length≤6
def spMachine:Sp:=fun vs H Q _=>∃ (p sc:Addr) (l:Str) (most:Int),vs=[.ref p,.str l,.int most]∧0 < l.length∧l.length≤3∧0 < most∧most≤6∧FlowAt H p sc∧
 ∀ m b es st H',MachAt H' m l b es st→EsOk es st→es.Pairwise (· < ·)→Drew H H' p→FlowAt H' p sc→Q (.ref m) H'
theorem ok_law_machine {f:Addr} {fd:FuncData} (F:Fun K "_law_machine" "_law_machine" s_law_machine f fd) (Z:Blt mg) (C_law_pick:Cal P w K mg base "_law_pick" 1 ["_law_flow_here","_law_many"] spPick):FnOk P w K mg base CX0 2 f fd ["_law_flow_here","_law_letters_here","_law_most"] spMachine:=by
 refine F.ok sc_law_machine (fun vs H Q E h=>?_) (fun cdv A outer s H vs Q E hr h=>?_)
 ·obtain ⟨p,sc,l,most,rfl,_⟩:=h
  rfl
 obtain ⟨p,sc,l,most,rfl,hl0,hl1,hm0,hm1,FA,k⟩:=h
 have hln:=len_list l
 refine ⟨_,(pss_cons (ps_set (i:=3) sc_law_machine.nd (by rfl) (Or.inr (by rfl)) (pe_op op_add pe_int (pe_c C_law_pick (hr.mono (by decide)) (pa_cons (pv 0) (pa_cons (pv 2) pa_nil))))) 
   (pss_cons (ps_set (i:=4) sc_law_machine.nd (by rfl) (Or.inl (by rfl)) (pe_callTy (call_tupK (K:=K)) (by rfl) Z.tuple bt_tuple (pa_cons (pe_comp (sc:=defScope s_law_machine) (Nm:=["_law_flow_here","_law_letters_here","_law_most","_law_rooms","_law_ends","_law_steps","_law_room"]) (own:=["_law_room"]) (fr:=[0]) ⟨rfl,by decide +kernel,by decide +kernel,by decide +kernel,by decide +kernel⟩ (by rfl) (gfr_name (by decide)) (pi_range1 (by rfl) Z.range (pa_cons (pv 3) pa_nil)) (fun d=>(pg_name (i:=0) nd_law_machine_0 (by rfl) (Or.inl (by rfl)))) (fun d=>(pts_one (pt_cmpR op_eq (pe_c C_law_pick (hr.mono (by decide)) (pa_cons (pv 1) (pa_cons pe_int pa_nil))) pe_int (nomark _)))) (fun d=>(pv 0))) pa_nil))) 
   (pss_cons (ps_set (i:=5) sc_law_machine.nd (by rfl) (Or.inl (by rfl)) (pe_lst pa_nil)) 
   (pss_cons (ps_for PassesOwn.never (by rfl) (pi_range1 (by rfl) Z.range (pa_cons (pv 3) pa_nil)) (pg_name (i:=6) sc_law_machine.nd (by rfl) (Or.inl (by rfl))) 
    (pss_one (ps_expr (pe_bmK (K:=K) PySem.F.plainAttrs_list PySem.F.slot_list_append PySem.F.type_list_append mt_append (pv 5) (pa_cons (pe_callTy (call_tupK (K:=K)) (by rfl) Z.tuple bt_tuple (pa_cons (pe_comp (sc:=defScope s_law_machine) (Nm:=["_law_flow_here","_law_letters_here","_law_most","_law_rooms","_law_ends","_law_steps","_law_room"]) (own:=["_law_letter"]) (fr:=[0,3]) ⟨rfl,by decide +kernel,by decide +kernel,by decide +kernel,by decide +kernel⟩ (by rfl) (gfr_name (by decide)) (pi_str (pv 1)) (fun d=>(pg_name (i:=0) nd_law_machine_1 (by rfl) (Or.inl (by rfl)))) (fun d=>pts_nil) (fun d=>(pe_c C_law_pick (hr.mono (by decide)) (pa_cons (pv 1) (pa_cons (pv 2) pa_nil))))) pa_nil)) pa_nil))))) 
   (pss_one (ps_ret (pe_tup (pa_cons (pv 1) (pa_cons (pe_c C_law_pick (hr.mono (by decide)) (pa_cons (pv 0) (pa_cons (pv 3) pa_nil))) (pa_cons (pv 4) (pa_cons (pe_callTy (call_tupK (K:=K)) (by rfl) Z.tuple bt_tuple (pa_cons (pv 5) pa_nil)) pa_nil))))))))))),?_⟩
 refine ⟨_,rfl,_,rfl,p,sc,most,rfl,hm0,by omega,FA,fun r xs0 hr0 hr1 hx0=>⟨_,_,rfl,rfl,?_⟩⟩
 have FA0:=FA.go hx0
 have d0:Drew H (upd H p (.lst xs0)) p:=Drew.upd _
 refine ⟨_,rfl,_,rfl,by omega,by omega,?_⟩
 refine comp_range (lo:=0) (k:=(1+r).toNat) (fun i acc H2=>∃ es:List Nat,acc=es.map nI∧es.length≤i∧(∀ x∈es,x < i)∧es.Pairwise (· < ·)∧FlowAt H2 p sc∧Drew H H2 p) (Nat.lt_of_le_of_lt (show (1+r).toNat≤6 by omega) (by decide)) ⟨[],rfl,Nat.le_refl _,fun x z=>absurd z (by simp),.nil,FA0,d0⟩
  (fun i acc H2 ⟨es,e,hl',_⟩=>by rw [e,List.length_map]; exact hl') (fun i acc H2 hi hp=>?_) (fun acc H2 hp q hq=>?_)
 ·obtain ⟨es,rfl,hel,hem,hpw,FA2,dr⟩:=hp
  refine ⟨_,rfl,p,sc,2,rfl,by decide,by decide,FA2,fun r2 xs1 _ _ hx1=>⟨rfl,_,rfl,?_⟩⟩
  refine ite2 (fun _=>⟨_,rfl,es ++ [i],?_,?_,fun x hx=>?_,List.pairwise_append.mpr ⟨hpw,List.pairwise_singleton _ _,fun a ha b hb=>by rw [List.mem_singleton.mp hb]; exact hem a ha⟩,FA2.go hx1,drew_go dr _⟩) (fun _=>⟨es,rfl,by omega,fun x hx=>Nat.lt_succ_of_lt (hem x hx),hpw,FA2.go hx1,drew_go dr _⟩)
  ·rw [e_nI,map_snoc]
  ·rw [List.length_append,List.length_singleton]
   omega
  ·rcases List.mem_append.mp hx with z | z
   ·exact Nat.lt_succ_of_lt (hem x z)
   ·rw [List.mem_singleton.mp z]; exact Nat.lt_succ_self _
 obtain ⟨es,rfl,hel,hem,hpw,FA2,dr2⟩:=hp
 refine ⟨q,_,rfl,.inl ⟨SqL.of upd_same,fun e he=>?_⟩⟩
 have s1:=same_new hq (.lst (es.map nI))
 have s2:=same_new he (.tup (es.map nI))
 have FA3:=(FA2.same s1).same s2
 have d3:=(dr2.trans (Drew.same s1)).trans (Drew.same (p:=p) s2)
 generalize hG:upd (upd H2 q (.lst (es.map nI))) e (.tup (es.map nI))=H3 at FA3 d3 ⊢
 have he3:H3 e=some (.tup (es.map nI)):=by rw [← hG]; exact upd_same
 refine ⟨(by show 0≤sizeLine; decide),fun s0 hs0=>?_⟩
 have s4:=same_new hs0 (.lst [])
 have nps:p≠s0:=by
  obtain ⟨ys,h1,_⟩:=FA3.here
  exact ne_of_none h1 hs0
 have nscs:sc≠s0:=by
  obtain ⟨ns,h1⟩:=FA3.cells
  exact ne_of_none h1 hs0
 have nes:e≠s0:=ne_of_none he3 hs0
 have nep:e≠p:=by
  obtain ⟨ys,h1,_⟩:=FA3.here
  exact ne_of he3 h1 (by intro z; cases z)
 have fresh:∀ b o,H b=some o→b≠p→b≠s0:=fun b o hb hne=>ne_of_none (d3 b o hb hne) hs0
 refine ⟨_,rfl,_,rfl,by omega,by omega,?_⟩
 refine for_range (lo:=0) (n:=(1+r).toNat) (fun i σ H4=>∃ (v:Option V) (ras:List Addr) (st:List (List Nat)),σ=[some (.ref p),some (.str l),some (.int most),some (.int (1+r)),some (.ref e),some (.ref s0),v]∧H4 s0=some (.lst (ras.map V.ref))∧ras.length=i∧st.length=i∧
   (∀ (j:Nat) a r',ras[j]? = some a→st[j]? = some r'→H4 a=some (.tup (r'.map nI)))∧(∀ r'∈st,r'.length=l.length∧∀ x∈r',x < (1+r).toNat)∧H4 e=some (.tup (es.map nI))∧FlowAt H4 p sc∧Drew H H4 p)
  ⟨none,[],[],rfl,upd_same,rfl,rfl,fun j a r' z=>by simp at z,fun r' z=>absurd z (by simp),s4 _ _ he3,FA3.same s4,d3.trans (Drew.same s4)⟩ ?_ ?_
 ·rintro i σ H4 hi ⟨v,ras,st,rfl,hs,hra,hst,hrow,hval,he4,FA4,d4⟩
  refine ⟨_,rfl,.inl ⟨rfl,_,SqL.of hs⟩,_,rfl,l,rfl,?_⟩
  refine comp_str (cs:=l.cps.toList) (fun j acc H5=>∃ ys:List Nat,acc=ys.map nI∧ys.length=j∧(∀ x∈ys,x < (1+r).toNat)∧FlowAt H5 p sc∧Drew H4 H5 p) (Nat.lt_of_le_of_lt (show l.cps.toList.length≤3 by omega) (by decide)) ⟨[],rfl,rfl,fun x z=>absurd z (by simp),FA4,Drew.refl _ _⟩
   (fun j acc H5 ⟨ys,e',hl',_⟩=>by rw [e',List.length_map,hl']; exact Nat.le_refl _) (fun j acc H5 c hc hp=>?_) (fun acc H5 hp q5 hq5=>?_)
  ·obtain ⟨ys,rfl,hyl,hyv,FA5,dr5⟩:=hp
   refine cyes ⟨_,rfl,_,rfl,p,sc,_,rfl,by omega,by omega,FA5,fun r5 xs5 h50 h51 hx5=>⟨ys ++ [r5.toNat],?_,by rw [List.length_append,hyl]; rfl,fun x hx=>?_,FA5.go hx5,drew_go dr5 _⟩⟩
   ·rw [← map_snoc]
    have:V.int r5=nI r5.toNat:=by
     show V.int r5=V.int ((r5.toNat:Nat):Int)
     rw [show ((r5.toNat:Nat):Int)=r5 by omega]
    rw [this]
   ·rcases List.mem_append.mp hx with z | z
    ·exact hyv x z
    ·rw [List.mem_singleton.mp z]; omega
  ·obtain ⟨ys,rfl,hyl,hyv,FA5,dr5⟩:=hp
   refine ⟨q5,_,rfl,.inl ⟨SqL.of upd_same,fun a ha=>?_⟩⟩
   have t1:=same_new hq5 (.lst (ys.map nI))
   have t2:=same_new ha (.tup (ys.map nI))
   have hs5:H5 s0=some (.lst (ras.map V.ref)):=dr5 _ _ hs (Ne.symm nps)
   have nas:a≠s0:=fun z=>by rw [z,t1 _ _ hs5] at ha; cases ha
   refine ⟨s0,_,_,rfl,rfl,t2 _ _ (t1 _ _ hs5),?_,?_⟩
   ·rw [List.length_map]
    exact Nat.lt_of_le_of_lt (show ras.length≤6 by omega) (by decide)
   ·have keep:∀ b ys',H4 b=some (.tup ys')→upd (upd (upd H5 q5 (.lst (ys.map nI))) a (.tup (ys.map nI))) s0 (.lst (ras.map V.ref ++ [.ref a])) b=some (.tup ys'):=fun b ys' hb=>by
     have nbp:b≠p:=by
      obtain ⟨zs,h1,_⟩:=FA4.here
      exact ne_of hb h1 (by intro z; cases z)
     have nbs:b≠s0:=ne_of hb hs (by intro z; cases z)
     rw [upd_ne nbs]
     exact t2 _ _ (t1 _ _ (dr5 _ _ hb nbp))
    refine ⟨_,ras ++ [a],st ++ [ys],rfl,?_,?_,?_,?_,?_,?_,?_,?_⟩
    ·rw [upd_same,← map_snoc]
    ·rw [List.length_append,hra]; rfl
    ·rw [List.length_append,hst]; rfl
    ·intro j a' r' z1 z2
     rcases Nat.lt_or_ge j i with hj | hj
     ·rw [List.getElem?_append_left (by omega)] at z1 z2
      exact keep _ _ (hrow j a' r' z1 z2)
     ·rw [List.getElem?_append_right (by omega)] at z1 z2
      have hj0:j=i:=by
       have:=(List.getElem?_eq_some_iff.mp z1).1
       rw [List.length_singleton] at this
       omega
      subst hj0
      rw [show j - ras.length=0 by omega] at z1
      rw [show j - st.length=0 by omega] at z2
      cases z1
      cases z2
      rw [upd_ne nas]
      exact upd_same
    ·intro r' hr'
     rcases List.mem_append.mp hr' with z | z
     ·exact hval r' z
     ·rw [List.mem_singleton.mp z]
      exact ⟨by omega,hyv⟩
    ·exact keep _ _ he4
    ·exact flow_store ((FA5.same t1).same t2) nps nscs
    ·intro b o hb hne
     rw [upd_ne (fresh b o hb hne)]
     exact t2 _ _ (t1 _ _ (dr5 _ _ (d4 b o hb hne) hne))
 ·rintro σ H4 ⟨v,ras,st,rfl,hs,hra,hst,hrow,hval,he4,FA4,d4⟩
  refine ⟨_,rfl,_,rfl,_,rfl,p,sc,_,rfl,by omega,by omega,FA4,fun b xs5 hb0 hb1 hx5=>?_⟩
  have FA5:=FA4.go hx5
  have d5:Drew H4 (upd H4 p (.lst xs5)) p:=Drew.upd _
  refine ⟨_,rfl,_,rfl,s0,_,rfl,.inl ⟨SqL.of (d5 _ _ hs (Ne.symm nps)),fun s5 hs5=>⟨(by show 4≤sizeLine; decide),fun m hm=>?_⟩⟩⟩
  have t1:=same_new hs5 (.tup (ras.map V.ref))
  have t2:=same_new hm (.tup [.str l,.int b,.ref e,.ref s5])
  refine k m b.toNat es st _ ⟨⟨e,s5,ras,?_,?_,?_,by omega,fun j a' r' z1 z2=>?_⟩,⟨hl0,hl1,by omega⟩,by omega,fun r' hr'=>⟨(hval r' hr').1,fun x hx=>by have:=(hval r' hr').2 x hx; omega⟩⟩ ⟨by omega,fun x hx=>by have:=hem x hx; omega,by omega⟩ hpw ?_ ((FA5.same t1).same t2)
  ·rw [upd_same]
   have:V.int b=nI b.toNat:=by
    show V.int b=V.int ((b.toNat:Nat):Int)
    rw [show ((b.toNat:Nat):Int)=b by omega]
   rw [this]
  ·exact t2 _ _ (t1 _ _ (d5 _ _ he4 nep))
  ·exact t2 _ _ upd_same
  ·have hb':=hrow j a' r' z1 z2
   have nbp:a'≠p:=by
    obtain ⟨zs,h1,_⟩:=FA4.here
    exact ne_of hb' h1 (by intro z; cases z)
   exact t2 _ _ (t1 _ _ (d5 _ _ hb' nbp))
  ·exact (d4.trans d5).trans ((Drew.same t1).trans (Drew.same t2))
def spTold:Sp:=fun vs H Q _=>∃ (m:Addr) (l:Str) (b:Int) (es:List Int) (st:List (List Int)),vs=[.ref m]∧RawAt H m l b es st∧∀ v H',Same H H'→Den H' v (vDt (verd l b es st))→Q v H'
theorem ok_law_told {f:Addr} {fd:FuncData} {cSpreadError cNoText cNoMachine cNoFit cNoName cNoRow:Addr} (F:Fun K "_law_told" "_law_told" s_law_told f fd) (Z:Blt mg) (kl:Kls K mg cSpreadError cNoText cNoMachine cNoFit cNoName cNoRow) (n1:NoAttr K cNoMachine "word") (n2:NoAttr K cNoMachine "at")
  (C_look_machine:CalR P w K mg base "look_machine" 4 ["machine"] (spLookM cNoMachine)) (C_law_caught:Cal P w K mg base "_law_caught" 1 ["_law_e"] (spCaught K cSpreadError cNoText cNoMachine cNoFit cNoName cNoRow)):FnOk P w K mg base CX0 5 f fd ["_law_machine_here"] spTold:=by
 refine F.ok sc_law_told (fun vs H Q E h=>?_) (fun cdv A outer s H vs Q E hr h=>?_)
 ·obtain ⟨m,l,b,es,st,rfl,_⟩:=h
  rfl
 obtain ⟨m,l,b,es,st,rfl,M,k⟩:=h
 obtain ⟨⟨_,K1,_,_,_⟩,_,_⟩:=kinds_of kl.kit
 refine ⟨_,(pss_cons (ps_set (i:=1) sc_law_told.nd (by rfl) (Or.inl (by rfl)) pe_non) 
   (pss_cons (ps_try (K:=K) (i:=2) (j:=1) sc_law_told.nd (by rfl) (by rfl) (by rfl) (by rfl) kl.mSpreadError (by rfl) (by rfl) (fun pn xe E rx=>
    (pss_one (ps_ret (pe_tup (pa_cons pe_str (pa_cons (pe_r C_look_machine (hr.mono (by decide)) rx (pa_cons (pv 0) pa_nil)) pa_nil))))))) 
   (pss_cons (ps_if (pt_cmpR op_ne (pe_c C_law_caught (hr.mono (by decide)) (pa_cons (pv 1) pa_nil)) pe_int (nomark _)) 
    (pss_one (ps_ret pe_str)) pss_nil) 
   (pss_one (ps_ret (pe_lst (pa_cons pe_str (pa_cons (pe_xfldR (K:=K) (pv 1)) (pa_cons (pe_xfldR (K:=K) (pv 1)) pa_nil))))))))),?_⟩
 refine ⟨_,rfl,m,l,b,es,st,rfl,M,fun hn H1 e1=>⟨(by show 2≤sizeLine; decide),fun q hq=>k _ _ (e1.trans (same_new hq _)) ?_⟩,fun wd n hv a H1 e1 ex=>?_⟩
 ·rw [hn]
  exact den_told upd_same
 rcases id ex with ⟨_,z⟩ | ⟨dx,g1,g2⟩
 ·cases z
 refine ⟨a,cNoMachine,some dx,rfl,g1,exm_of kl.exm (by simp),?_⟩
 refine ⟨_,rfl,a,cNoMachine,_,1,rfl,ex,kl.fNoMachine,K1,by decide,fun H2 e2=>⟨rfl,_,rfl,iteF ?_⟩⟩
 have ex2:=ex.same e2
 refine ⟨_,rfl,a,cNoMachine,_,_,rfl,ex2,kl.fNoMachine,n1,rfl,_,rfl,a,cNoMachine,_,_,rfl,ex2,kl.fNoMachine,n2,rfl,(by show 3≤sizeLine; decide),fun q hq=>k _ _ ((e1.trans e2).trans (same_new hq _)) ?_⟩
 rw [hv]
 exact den_three upd_same
abbrev iN (es:List Nat):List Int:=es.map fun n:Nat=>(n:Int)
theorem map_iN (es:List Nat):(iN es).map V.int=es.map nI:=by
 rw [List.map_map]
 rfl
theorem mach_raw {H:Hp} {m:Addr} {l:Str} {b:Nat} {es:List Nat} {st:List (List Nat)} (M:MachAt H m l b es st) (eo:EsOk es st):RawAt H m l (b:Int) (iN es) (st.map iN):=by
 obtain ⟨⟨e,s,ras,h1,h2,h3,h4,h5⟩,f1,f2,f3⟩:=M
 refine ⟨⟨e,s,ras,h1,by rw [map_iN]; exact h2,h3,by rw [List.length_map]; exact h4,fun i a r q1 q2=>?_⟩,by omega,by rw [List.length_map]; have:=eo.1; omega,by rw [List.length_map]; have:=eo.2.2; omega,fun r hr=>?_⟩
 ·rw [List.getElem?_map] at q2
  cases hc:st[i]? with
  | none=>rw [hc] at q2; cases q2
  | some r0=>
   rw [hc] at q2
   cases q2
   rw [map_iN]
   exact h5 i a r0 q1 hc
 ·obtain ⟨r0,h0,rfl⟩:=List.mem_map.mp hr
  rw [List.length_map,(f3 r0 h0).1]
  omega
theorem raw_m {H:Hp} {m:Addr} {l:Str} {b:Int} {es:List Int} {st:List (List Int)} (R:RawAt H m l b es st) (h1:l.length≤6) (h2:es.length≤6) (h3:st.length≤6) (h4:∀ r∈st,r.length≤6):RawM 6 H m:=by
 obtain ⟨e,s,ras,g1,g2,g3,g4,g5⟩:=R.lay
 refine ⟨l,b,e,s,es,ras,g1,g2,g3,fun a ha=>?_,h1,h2,by omega⟩
 obtain ⟨i,hi,e'⟩:=List.mem_iff_getElem.mp ha
 have hst:st[i]? = some (st[i]'(by omega)):=List.getElem?_eq_getElem (by omega)
 exact ⟨_,g5 i a _ (by rw [List.getElem?_eq_getElem hi,e']) hst,h4 _ (List.mem_of_getElem? hst)⟩
theorem good_verd {H:Hp} {m:Addr} {l:Str} {n b:Nat} {es:List Nat} {st:List (List Nat)} (M:MachAt H m l b es st) (eo:EsOk es st) (hp:es.Pairwise (· < ·)) (IL:IsLetters l n):verd l (b:Int) (iN es) (st.map iN)=none:=by
 have hll:=len_list l
 have f1:=M.few
 have hb:=M.beg
 have hL:letB l.cps.toList=true:=by
  unfold letB
  rw [Bool.and_eq_true,Bool.and_eq_true,Bool.and_eq_true,decide_eq_true_eq,decide_eq_true_eq]
  refine ⟨⟨by omega,by omega⟩,?_,(risB_iff _).mpr IL.2.1⟩
  unfold wordB
  rw [List.all_map,List.all_eq_true]
  intro c hc
  have:=IL.2.2 c hc
  show wB c=true
  unfold wB
  rw [decide_eq_true this.1,decide_eq_true this.2]
  rfl
 have hsl:(st.map iN).length=st.length:=List.length_map ..
 unfold verd
 rw [if_neg (by rw [hL]; decide),if_neg (fun z=>z ⟨by omega,by have:=eo.2.2; omega⟩),if_neg (by
  unfold thB
  rw [decide_eq_true (show (0:Int)≤b by omega),decide_eq_true (show (b:Int) < ((st.map iN).length:Nat) by omega)]
  decide),if_neg (by
  rw [show (risI (iN es) && allB ((st.map iN).length:Nat) (iN es))=true from ?_]
  ·decide
  ·rw [Bool.and_eq_true,risI_iff,allB_iff]
   refine ⟨List.pairwise_map.mpr (hp.imp fun h=>by omega),fun x hx=>?_⟩
   obtain ⟨y,hy,rfl⟩:=List.mem_map.mp hx
   have:=eo.2.1 y hy
   omega),find_none]
 ·rfl
 ·intro k r hk hr
  rw [List.getElem?_map] at hr
  cases hc:st[k]? with
  | none=>rw [hc] at hr; cases hr
  | some r0=>
   rw [hc] at hr
   cases hr
   obtain ⟨g1,g2⟩:=M.rows r0 (List.mem_of_getElem? hc)
   unfold rowB
   rw [Bool.and_eq_true,decide_eq_true_eq,allB_iff]
   refine ⟨by rw [List.length_map]; exact g1,fun x hx=>?_⟩
   obtain ⟨y,hy,rfl⟩:=List.mem_map.mp hx
   have:=g2 y hy
   omega
theorem ok_law {f:Addr} {fd:FuncData} (F:Fun K "law" "law" s_law f fd) (Z:Blt mg) (C_law_flow:Cal P w K mg base "_law_flow" 1 ["_law_script"] (spFlow K)) (C_law_pick:Cal P w K mg base "_law_pick" 1 ["_law_flow_here","_law_many"] spPick) (C_law_letters:Cal P w K mg base "_law_letters" 2 ["_law_flow_here","_law_many"] spLetters)
  (C_law_machine:Cal P w K mg base "_law_machine" 2 ["_law_flow_here","_law_letters_here","_law_most"] spMachine) (C_law_spoilt:Cal P w K mg base "_law_spoilt" 3 ["_law_flow_here","_law_machine_here"] spSpoilt) (C_law_due:Cal P w K mg base "_law_due" 1 ["_law_machine_here"] spDueM) (C_law_told:Cal P w K mg base "_law_told" 5 ["_law_machine_here"] spTold)
  (C_law_alike:Cal P w K mg base "_law_alike" 3 ["_law_found","_law_due_here"] (spAlike 3)):FnOk P w K mg base CX0 6 f fd ["_law_script"] (spLaw K):=by
 refine F.ok sc_law (fun vs H Q E h=>?_) (fun cdv A outer s H vs Q E hr h=>?_)
 ·obtain ⟨a,ns,rfl,_⟩:=h
  rfl
 obtain ⟨a,ns,rfl,hS,h63,k⟩:=h
 refine ⟨_,(pss_cons (ps_set (i:=1) sc_law.nd (by rfl) (Or.inl (by rfl)) (pe_c C_law_flow (hr.mono (by decide)) (pa_cons (pv 0) pa_nil))) 
   (pss_cons (ps_set (i:=2) sc_law.nd (by rfl) (Or.inl (by rfl)) (pe_c C_law_machine (hr.mono (by decide)) (pa_cons (pv 1) (pa_cons (pe_c C_law_letters (hr.mono (by decide)) (pa_cons (pv 1) (pa_cons (pe_op op_add pe_int (pe_c C_law_pick (hr.mono (by decide)) (pa_cons (pv 1) (pa_cons pe_int pa_nil)))) pa_nil))) (pa_cons pe_int pa_nil))))) 
   (pss_cons (ps_if (pt_not (pt_truthK (K:=K) (pe_c C_law_alike (hr.mono (by decide)) (pa_cons (pe_c C_law_told (hr.mono (by decide)) (pa_cons (pv 2) pa_nil)) (pa_cons (pe_tup (pa_cons pe_str (pa_cons pe_bl pa_nil))) pa_nil))) (fun _=>rfl))) 
    (pss_one (ps_ret pe_bl)) pss_nil) 
   (pss_cons (ps_for PassesOwn.never (by rfl) (pi_range1 (by rfl) Z.range (pa_cons pe_int pa_nil)) (pg_name (i:=3) sc_law.nd (by rfl) (Or.inl (by rfl))) 
    (pss_cons (ps_set (i:=4) sc_law.nd (by rfl) (Or.inl (by rfl)) (pv 2)) 
    (pss_cons (ps_for PassesOwn.never (by rfl) (pi_range1 (by rfl) Z.range (pa_cons (pe_op op_add pe_int (pe_c C_law_pick (hr.mono (by decide)) (pa_cons (pv 1) (pa_cons pe_int pa_nil)))) pa_nil)) (pg_name (i:=5) sc_law.nd (by rfl) (Or.inl (by rfl))) 
     (pss_one (ps_set (i:=4) sc_law.nd (by rfl) (Or.inl (by rfl)) (pe_c C_law_spoilt (hr.mono (by decide)) (pa_cons (pv 1) (pa_cons (pv 4) pa_nil)))))) 
    (pss_cons (ps_if (pt_not (pt_truthK (K:=K) (pe_c C_law_alike (hr.mono (by decide)) (pa_cons (pe_c C_law_told (hr.mono (by decide)) (pa_cons (pv 4) pa_nil)) (pa_cons (pe_c C_law_due (hr.mono (by decide)) (pa_cons (pv 4) pa_nil)) pa_nil))) (fun _=>rfl))) 
     (pss_one (ps_ret pe_bl)) pss_nil) 
    (pss_one (ps_if (pt_not (pt_truthK (K:=K) (pe_c C_law_alike (hr.mono (by decide)) (pa_cons (pe_c C_law_told (hr.mono (by decide)) (pa_cons (pv 2) pa_nil)) (pa_cons (pe_tup (pa_cons pe_str (pa_cons pe_bl pa_nil))) pa_nil))) (fun _=>rfl))) 
     (pss_one (ps_ret pe_bl)) pss_nil)))))) 
   (pss_one (ps_ret pe_bl)))))),?_⟩
 refine ⟨_,rfl,a,ns,rfl,hS,fun p sc H1 hp e1 FA=>?_⟩
 refine ⟨_,rfl,_,rfl,_,rfl,p,sc,3,rfl,by decide,by decide,FA,fun r xs hr0 hr1 hx=>⟨_,_,rfl,rfl,?_⟩⟩
 have FA1:=FA.go hx
 generalize upd H1 p (.lst xs)=H2 at FA1
 refine ⟨p,sc,1+r,rfl,by omega,by omega,FA1,fun l H3 IL d3 FA3=>?_⟩
 have hll:=len_list l
 have hl:=IL.1
 refine ⟨p,sc,l,6,rfl,by omega,by omega,by decide,by decide,FA3,fun m b es st H4 M eo hpw d4 FA4=>?_⟩
 have R:=mach_raw M eo
 have hv:=good_verd M eo hpw IL
 have RM:RawM 6 H4 m:=raw_m R (by have:=M.few; omega) (by rw [List.length_map]; exact eo.1) (by rw [List.length_map]; exact eo.2.2) (fun r hr=>by
  obtain ⟨r0,h0,rfl⟩:=List.mem_map.mp hr
  rw [List.length_map,(M.rows r0 h0).1]
  have:=M.few
  omega)
 have good:∀ {H5:Hp} {v:V},Den H5 v (vDt (verd l (b:Int) (iN es) (st.map iN)))→∀ q,H5 q=none→Den (upd H5 q (.tup [.str "told",.bl true])) v (vDt none):=fun {H5 v} d q hq=>by
  rw [hv] at d
  exact d.same (same_new hq _)
 refine ⟨_,rfl,m,l,_,_,_,rfl,R,fun v H5 e5 den=>?_⟩
 refine ⟨(by show 2≤sizeLine; decide),fun q hq=>⟨_,_,vDt none,rfl,by simp [vDt,Dt.dep],good den q hq,den_told upd_same,fun H6 e6=>⟨_,rfl,iteF ?_⟩⟩⟩
 have e46:=(e5.trans (same_new hq _)).trans e6
 have FA6:=FA4.same e46
 have M6:=R.same e46
 have RM6:=RM.keep (Tk.same e46)
 clear e46 e6 hq e5 den R RM
 refine ⟨6,rfl,by decide,by decide,?_⟩
 refine for_range (lo:=0) (n:=6) (fun i σ H7=>∃ (v3 v4 v5:Option V),σ=[some (.ref a),some (.ref p),some (.ref m),v3,v4,v5]∧FlowAt H7 p sc∧RawAt H7 m l (b:Int) (iN es) (st.map iN)∧RawM 6 H7 m) ⟨none,none,none,rfl,FA6,M6,RM6⟩ ?_ ?_
 ·rintro i σ H7 hi ⟨v3,v4,v5,rfl,FA7,M7,RM7⟩
  refine ⟨_,rfl,?_⟩
  refine ⟨_,rfl,p,sc,3,rfl,by decide,by decide,FA7,fun r7 xs7 h70 h71 hx7=>⟨_,_,rfl,rfl,_,rfl,by omega,by omega,?_⟩⟩
  have k8:=Tk.drew FA7 (Drew.upd (H:=H7) (p:=p) (.lst xs7))
  have FA8:=FA7.go hx7
  generalize upd H7 p (.lst xs7)=H8 at FA8 k8
  refine for_range (lo:=0) (n:=(1+r7).toNat) (fun j σ H9=>∃ (m':Addr) (N:Nat) (v5:Option V),σ=[some (.ref a),some (.ref p),some (.ref m),some (.int (0+(i:Int))),some (.ref m'),v5]∧FlowAt H9 p sc∧RawAt H9 m l (b:Int) (iN es) (st.map iN)∧RawM 6 H9 m∧RawM N H9 m'∧N≤76∧(j≤2→N≤36)∧(j≤1→N≤16)∧(j=0→N≤6)) ⟨m,6,v5,rfl,FA8,M7.keep k8,RM7.keep k8,RM7.keep k8,by decide,fun _=>by decide,fun _=>by decide,fun _=>by decide⟩ ?_ ?_
  ·rintro j σ H9 hj ⟨m',N,v5,rfl,FA9,M9,RM9,RN9,hN,hN2,hN1,hN0⟩
   have hj3:j < 3:=by omega
   refine ⟨_,rfl,_,rfl,p,sc,m',N,rfl,RN9,hN2 (by omega),FA9,fun m2 H10 R10 d10 FA10=>?_⟩
   have k10:=Tk.drew FA9 d10
   have hb:2 * N+4≤76∧(j+1≤2→2 * N+4≤36)∧(j+1≤1→2 * N+4≤16):=by
    have:=hN2 (by omega)
    refine ⟨by omega,fun h=>?_,fun h=>?_⟩
    ·have:=hN1 (by omega)
     omega
    ·have:=hN0 (by omega)
     omega
   exact ⟨m2,2 * N+4,_,rfl,FA10,M9.keep k10,RM9.keep k10,R10,hb.1,hb.2.1,hb.2.2,fun h=>by omega⟩
  ·rintro σ H9 ⟨m',N,v5,rfl,FA9,M9,RM9,RN9,hN,_,_,_⟩
   obtain ⟨l',b',es',st',R9⟩:=RN9.raw (by omega)
   refine ⟨_,rfl,m',l',b',es',st',rfl,R9,fun v H10 e10 den=>?_⟩
   refine ⟨_,rfl,m',l',b',es',st',rfl,R9.same e10,fun v2 H11 e11 den2=>?_⟩
   refine ⟨_,_,vDt (verd l' b' es' st'),rfl,?_,den.same e11,den2,fun H12 e12=>⟨_,rfl,iteF ?_⟩⟩
   ·cases verd l' b' es' st' with
    | none=>simp [vDt,Dt.dep]
    | some x=>simp [vDt,Dt.dep]
   have e912:=(e10.trans e11).trans e12
   refine ⟨_,rfl,m,l,_,_,_,rfl,M9.same e912,fun v3 H13 e13 den3=>?_⟩
   refine ⟨(by show 2≤sizeLine; decide),fun q hq=>⟨_,_,vDt none,rfl,by simp [vDt,Dt.dep],good den3 q hq,den_told upd_same,fun H14 e14=>⟨_,rfl,iteF ?_⟩⟩⟩
   have e914:=e912.trans ((e13.trans (same_new hq _)).trans e14)
   exact ⟨_,_,_,rfl,FA9.same e914,M9.same e914,RM9.keep (Tk.same e914)⟩
 ·rintro σ H7 ⟨v3,v4,v5,rfl,_⟩
  exact k _
end
theorem all_mk {l:PySem.W.OpenLaw} {w:World} {K:PySem.W.Frag} {h:Heap} {mg:Str→Option Value} {fa:Addr} (X:K.In h) (G:h.Ns mainGlobals mg) (hfa:mg "law" = some (.ref fa))
  {f1:Addr} {od1 an1:Option Addr} {sl1:Array (Option Value)} {oc1 kV1 dc1 pm1 cd1 ct1:Value}
  (a1:PySem.W.nsIn K mainGlobals "rising" = some (some (.ref f1))) (l1:K.lookup f1=some ⟨oc1,od1,.func (PySem.W.fnOf "rising" "rising" (defArgs s_rising) (defBody s_rising) (defScope s_rising) .none kV1 dc1 pm1 an1 cd1 ct1),sl1⟩) (c1:PySem.W.codeIn K cd1 "rising" = true) (k1:PySem.W.keepIn K (.ref f1)=true)
  {f2:Addr} {od2 an2:Option Addr} {sl2:Array (Option Value)} {oc2 kV2 dc2 pm2 cd2 ct2:Value}
  (a2:PySem.W.nsIn K mainGlobals "is_word" = some (some (.ref f2))) (l2:K.lookup f2=some ⟨oc2,od2,.func (PySem.W.fnOf "is_word" "is_word" (defArgs s_is_word) (defBody s_is_word) (defScope s_is_word) .none kV2 dc2 pm2 an2 cd2 ct2),sl2⟩) (c2:PySem.W.codeIn K cd2 "is_word" = true) (k2:PySem.W.keepIn K (.ref f2)=true)
  {f3:Addr} {od3 an3:Option Addr} {sl3:Array (Option Value)} {oc3 kV3 dc3 pm3 cd3 ct3:Value}
  (a3:PySem.W.nsIn K mainGlobals "is_letters" = some (some (.ref f3))) (l3:K.lookup f3=some ⟨oc3,od3,.func (PySem.W.fnOf "is_letters" "is_letters" (defArgs s_is_letters) (defBody s_is_letters) (defScope s_is_letters) .none kV3 dc3 pm3 an3 cd3 ct3),sl3⟩) (c3:PySem.W.codeIn K cd3 "is_letters" = true) (k3:PySem.W.keepIn K (.ref f3)=true)
  {f4:Addr} {od4 an4:Option Addr} {sl4:Array (Option Value)} {oc4 kV4 dc4 pm4 cd4 ct4:Value}
  (a4:PySem.W.nsIn K mainGlobals "all_there" = some (some (.ref f4))) (l4:K.lookup f4=some ⟨oc4,od4,.func (PySem.W.fnOf "all_there" "all_there" (defArgs s_all_there) (defBody s_all_there) (defScope s_all_there) .none kV4 dc4 pm4 an4 cd4 ct4),sl4⟩) (c4:PySem.W.codeIn K cd4 "all_there" = true) (k4:PySem.W.keepIn K (.ref f4)=true)
  {f5:Addr} {od5 an5:Option Addr} {sl5:Array (Option Value)} {oc5 kV5 dc5 pm5 cd5 ct5:Value}
  (a5:PySem.W.nsIn K mainGlobals "look_steps" = some (some (.ref f5))) (l5:K.lookup f5=some ⟨oc5,od5,.func (PySem.W.fnOf "look_steps" "look_steps" (defArgs s_look_steps) (defBody s_look_steps) (defScope s_look_steps) .none kV5 dc5 pm5 an5 cd5 ct5),sl5⟩) (c5:PySem.W.codeIn K cd5 "look_steps" = true) (k5:PySem.W.keepIn K (.ref f5)=true)
  {f6:Addr} {od6 an6:Option Addr} {sl6:Array (Option Value)} {oc6 kV6 dc6 pm6 cd6 ct6:Value}
  (a6:PySem.W.nsIn K mainGlobals "look_machine" = some (some (.ref f6))) (l6:K.lookup f6=some ⟨oc6,od6,.func (PySem.W.fnOf "look_machine" "look_machine" (defArgs s_look_machine) (defBody s_look_machine) (defScope s_look_machine) .none kV6 dc6 pm6 an6 cd6 ct6),sl6⟩) (c6:PySem.W.codeIn K cd6 "look_machine" = true) (k6:PySem.W.keepIn K (.ref f6)=true)
  {f7:Addr} {od7 an7:Option Addr} {sl7:Array (Option Value)} {oc7 kV7 dc7 pm7 cd7 ct7:Value}
  (a7:PySem.W.nsIn K mainGlobals "_law_flow" = some (some (.ref f7))) (l7:K.lookup f7=some ⟨oc7,od7,.func (PySem.W.fnOf "_law_flow" "_law_flow" (defArgs s_law_flow) (defBody s_law_flow) (defScope s_law_flow) .none kV7 dc7 pm7 an7 cd7 ct7),sl7⟩) (c7:PySem.W.codeIn K cd7 "_law_flow" = true) (k7:PySem.W.keepIn K (.ref f7)=true)
  {f8:Addr} {od8 an8:Option Addr} {sl8:Array (Option Value)} {oc8 kV8 dc8 pm8 cd8 ct8:Value}
  (a8:PySem.W.nsIn K mainGlobals "_law_pick" = some (some (.ref f8))) (l8:K.lookup f8=some ⟨oc8,od8,.func (PySem.W.fnOf "_law_pick" "_law_pick" (defArgs s_law_pick) (defBody s_law_pick) (defScope s_law_pick) .none kV8 dc8 pm8 an8 cd8 ct8),sl8⟩) (c8:PySem.W.codeIn K cd8 "_law_pick" = true) (k8:PySem.W.keepIn K (.ref f8)=true)
  {f9:Addr} {od9 an9:Option Addr} {sl9:Array (Option Value)} {oc9 kV9 dc9 pm9 cd9 ct9:Value}
  (a9:PySem.W.nsIn K mainGlobals "_law_alike" = some (some (.ref f9))) (l9:K.lookup f9=some ⟨oc9,od9,.func (PySem.W.fnOf "_law_alike" "_law_alike" (defArgs s_law_alike) (defBody s_law_alike) (defScope s_law_alike) .none kV9 dc9 pm9 an9 cd9 ct9),sl9⟩) (c9:PySem.W.codeIn K cd9 "_law_alike" = true) (k9:PySem.W.keepIn K (.ref f9)=true)
  {f10:Addr} {od10 an10:Option Addr} {sl10:Array (Option Value)} {oc10 kV10 dc10 pm10 cd10 ct10:Value}
  (a10:PySem.W.nsIn K mainGlobals "_law_letters" = some (some (.ref f10))) (l10:K.lookup f10=some ⟨oc10,od10,.func (PySem.W.fnOf "_law_letters" "_law_letters" (defArgs s_law_letters) (defBody s_law_letters) (defScope s_law_letters) .none kV10 dc10 pm10 an10 cd10 ct10),sl10⟩) (c10:PySem.W.codeIn K cd10 "_law_letters" = true) (k10:PySem.W.keepIn K (.ref f10)=true)
  {f11:Addr} {od11 an11:Option Addr} {sl11:Array (Option Value)} {oc11 kV11 dc11 pm11 cd11 ct11:Value}
  (a11:PySem.W.nsIn K mainGlobals "_law_machine" = some (some (.ref f11))) (l11:K.lookup f11=some ⟨oc11,od11,.func (PySem.W.fnOf "_law_machine" "_law_machine" (defArgs s_law_machine) (defBody s_law_machine) (defScope s_law_machine) .none kV11 dc11 pm11 an11 cd11 ct11),sl11⟩) (c11:PySem.W.codeIn K cd11 "_law_machine" = true) (k11:PySem.W.keepIn K (.ref f11)=true)
  {f12:Addr} {od12 an12:Option Addr} {sl12:Array (Option Value)} {oc12 kV12 dc12 pm12 cd12 ct12:Value}
  (a12:PySem.W.nsIn K mainGlobals "_law_caught" = some (some (.ref f12))) (l12:K.lookup f12=some ⟨oc12,od12,.func (PySem.W.fnOf "_law_caught" "_law_caught" (defArgs s_law_caught) (defBody s_law_caught) (defScope s_law_caught) .none kV12 dc12 pm12 an12 cd12 ct12),sl12⟩) (c12:PySem.W.codeIn K cd12 "_law_caught" = true) (k12:PySem.W.keepIn K (.ref f12)=true)
  {f13:Addr} {od13 an13:Option Addr} {sl13:Array (Option Value)} {oc13 kV13 dc13 pm13 cd13 ct13:Value}
  (a13:PySem.W.nsIn K mainGlobals "_law_spoilt_letters" = some (some (.ref f13))) (l13:K.lookup f13=some ⟨oc13,od13,.func (PySem.W.fnOf "_law_spoilt_letters" "_law_spoilt_letters" (defArgs s_law_spoilt_letters) (defBody s_law_spoilt_letters) (defScope s_law_spoilt_letters) .none kV13 dc13 pm13 an13 cd13 ct13),sl13⟩) (c13:PySem.W.codeIn K cd13 "_law_spoilt_letters" = true) (k13:PySem.W.keepIn K (.ref f13)=true)
  {f14:Addr} {od14 an14:Option Addr} {sl14:Array (Option Value)} {oc14 kV14 dc14 pm14 cd14 ct14:Value}
  (a14:PySem.W.nsIn K mainGlobals "_law_spoilt_ends" = some (some (.ref f14))) (l14:K.lookup f14=some ⟨oc14,od14,.func (PySem.W.fnOf "_law_spoilt_ends" "_law_spoilt_ends" (defArgs s_law_spoilt_ends) (defBody s_law_spoilt_ends) (defScope s_law_spoilt_ends) .none kV14 dc14 pm14 an14 cd14 ct14),sl14⟩) (c14:PySem.W.codeIn K cd14 "_law_spoilt_ends" = true) (k14:PySem.W.keepIn K (.ref f14)=true)
  {f15:Addr} {od15 an15:Option Addr} {sl15:Array (Option Value)} {oc15 kV15 dc15 pm15 cd15 ct15:Value}
  (a15:PySem.W.nsIn K mainGlobals "_law_spoilt_steps" = some (some (.ref f15))) (l15:K.lookup f15=some ⟨oc15,od15,.func (PySem.W.fnOf "_law_spoilt_steps" "_law_spoilt_steps" (defArgs s_law_spoilt_steps) (defBody s_law_spoilt_steps) (defScope s_law_spoilt_steps) .none kV15 dc15 pm15 an15 cd15 ct15),sl15⟩) (c15:PySem.W.codeIn K cd15 "_law_spoilt_steps" = true) (k15:PySem.W.keepIn K (.ref f15)=true)
  {f16:Addr} {od16 an16:Option Addr} {sl16:Array (Option Value)} {oc16 kV16 dc16 pm16 cd16 ct16:Value}
  (a16:PySem.W.nsIn K mainGlobals "_law_spoilt" = some (some (.ref f16))) (l16:K.lookup f16=some ⟨oc16,od16,.func (PySem.W.fnOf "_law_spoilt" "_law_spoilt" (defArgs s_law_spoilt) (defBody s_law_spoilt) (defScope s_law_spoilt) .none kV16 dc16 pm16 an16 cd16 ct16),sl16⟩) (c16:PySem.W.codeIn K cd16 "_law_spoilt" = true) (k16:PySem.W.keepIn K (.ref f16)=true)
  {f17:Addr} {od17 an17:Option Addr} {sl17:Array (Option Value)} {oc17 kV17 dc17 pm17 cd17 ct17:Value}
  (a17:PySem.W.nsIn K mainGlobals "_law_due" = some (some (.ref f17))) (l17:K.lookup f17=some ⟨oc17,od17,.func (PySem.W.fnOf "_law_due" "_law_due" (defArgs s_law_due) (defBody s_law_due) (defScope s_law_due) .none kV17 dc17 pm17 an17 cd17 ct17),sl17⟩) (c17:PySem.W.codeIn K cd17 "_law_due" = true) (k17:PySem.W.keepIn K (.ref f17)=true)
  {f18:Addr} {od18 an18:Option Addr} {sl18:Array (Option Value)} {oc18 kV18 dc18 pm18 cd18 ct18:Value}
  (a18:PySem.W.nsIn K mainGlobals "_law_told" = some (some (.ref f18))) (l18:K.lookup f18=some ⟨oc18,od18,.func (PySem.W.fnOf "_law_told" "_law_told" (defArgs s_law_told) (defBody s_law_told) (defScope s_law_told) .none kV18 dc18 pm18 an18 cd18 ct18),sl18⟩) (c18:PySem.W.codeIn K cd18 "_law_told" = true) (k18:PySem.W.keepIn K (.ref f18)=true)
  {f19:Addr} {od19 an19:Option Addr} {sl19:Array (Option Value)} {oc19 kV19 dc19 pm19 cd19 ct19:Value}
  (a19:PySem.W.nsIn K mainGlobals "law" = some (some (.ref f19))) (l19:K.lookup f19=some ⟨oc19,od19,.func (PySem.W.fnOf "law" "law" (defArgs s_law) (defBody s_law) (defScope s_law) .none kV19 dc19 pm19 an19 cd19 ct19),sl19⟩) (c19:PySem.W.codeIn K cd19 "law" = true) (k19:PySem.W.keepIn K (.ref f19)=true)
  (z_ValueError:PySem.W.nsIn K mainGlobals "ValueError" = some none)
  (z_all:PySem.W.nsIn K mainGlobals "all" = some none)
  (z_bool:PySem.W.nsIn K mainGlobals "bool" = some none)
  (z_enumerate:PySem.W.nsIn K mainGlobals "enumerate" = some none)
  (z_isinstance:PySem.W.nsIn K mainGlobals "isinstance" = some none)
  (z_len:PySem.W.nsIn K mainGlobals "len" = some none)
  (z_list:PySem.W.nsIn K mainGlobals "list" = some none)
  (z_range:PySem.W.nsIn K mainGlobals "range" = some none)
  (z_reversed:PySem.W.nsIn K mainGlobals "reversed" = some none)
  (z_set:PySem.W.nsIn K mainGlobals "set" = some none)
  (z_sorted:PySem.W.nsIn K mainGlobals "sorted" = some none)
  (z_tuple:PySem.W.nsIn K mainGlobals "tuple" = some none)
  {u_MOST_ROOMS:Value} (q_MOST_ROOMS:PySem.W.nsIn K mainGlobals "MOST_ROOMS" = some (some u_MOST_ROOMS)) (r_MOST_ROOMS:RelV (.int 6) u_MOST_ROOMS)
  {cSpreadError:Addr} (a_SpreadError:PySem.W.nsIn K mainGlobals "SpreadError" = some (some (.ref cSpreadError)))
  {cNoText:Addr} (a_NoText:PySem.W.nsIn K mainGlobals "NoText" = some (some (.ref cNoText))) (f_NoText:excF K cNoText=true) (k_NoText:PySem.W.keepIn K (.ref cNoText)=true)
  {cNoMachine:Addr} (a_NoMachine:PySem.W.nsIn K mainGlobals "NoMachine" = some (some (.ref cNoMachine))) (f_NoMachine:excF K cNoMachine=true) (k_NoMachine:PySem.W.keepIn K (.ref cNoMachine)=true)
  {cNoFit:Addr} (a_NoFit:PySem.W.nsIn K mainGlobals "NoFit" = some (some (.ref cNoFit))) (f_NoFit:excF K cNoFit=true) (k_NoFit:PySem.W.keepIn K (.ref cNoFit)=true)
  {cNoName:Addr} (a_NoName:PySem.W.nsIn K mainGlobals "NoName" = some (some (.ref cNoName))) (f_NoName:excF K cNoName=true) (k_NoName:PySem.W.keepIn K (.ref cNoName)=true)
  {cNoRow:Addr} (a_NoRow:PySem.W.nsIn K mainGlobals "NoRow" = some (some (.ref cNoRow))) (f_NoRow:excF K cNoRow=true) (k_NoRow:PySem.W.keepIn K (.ref cNoRow)=true)
  (e_NoFit:excK K cNoFit none=true)
  (e_NoRow:excK K cNoRow none=true)
  {gNoMachine:Addr} {odXNoMachine anXNoMachine:Option Addr} {slXNoMachine:Array (Option Value)} {kVXNoMachine dcXNoMachine pmXNoMachine cdXNoMachine ctXNoMachine:Value} (i_NoMachine:PySem.W.findIn K (.ref cNoMachine) "__init__" = some (some (.ref gNoMachine))) (l_NoMachine:K.lookup gNoMachine=some ⟨.type "function",odXNoMachine,.func (PySem.W.fnOf "__init__" "NoMachine.__init__" (defArgs s_NoMachine_init) (defBody s_NoMachine_init) (defScope s_NoMachine_init) .none kVXNoMachine dcXNoMachine pmXNoMachine anXNoMachine cdXNoMachine ctXNoMachine),slXNoMachine⟩) (d_NoMachine:PySem.W.codeIn K cdXNoMachine "NoMachine.__init__" = true) (q_NoMachine:PySem.W.keepIn K (.ref gNoMachine)=true) (e_NoMachine:excK K cNoMachine (some (.ref gNoMachine))=true)
  (n_NoMachine0:PySem.W.findIn K (.ref cNoMachine) "word" = some none)
  (n_NoMachine1:PySem.W.findIn K (.ref cNoMachine) "at" = some none)
  (kit:kitB K cSpreadError cNoText cNoMachine cNoFit cNoName cNoRow=true)
  (f_exm:exmB K cSpreadError cNoText cNoMachine cNoFit cNoName cNoRow=true)
  : ∃ fd:FuncData,(∀ (s:Shared) (v:Value),BindsTo s fd ⟨[v],[]⟩ [("_law_script",v)])∧∀ base:Heap,K.In base→base.Ns mainGlobals mg→FnOk l.prog w K mg base CX0 6 fa fd ["_law_script"] (spLaw K):=by
 have e:=hfa.symm.trans (PySem.W.mg_of X G a19)
 cases e
 have F_rising:=fun_mk (st:=s_rising) l1 c1 k1
 have b_rising:=F_rising.binds (ps:=["row"]) fun _ _ _ _ _ _ us hl=>match us,hl with | [_],_=>rfl
 have m_rising:=PySem.W.mg_of X G a1
 have F_is_word:=fun_mk (st:=s_is_word) l2 c2 k2
 have b_is_word:=F_is_word.binds (ps:=["text"]) fun _ _ _ _ _ _ us hl=>match us,hl with | [_],_=>rfl
 have m_is_word:=PySem.W.mg_of X G a2
 have F_is_letters:=fun_mk (st:=s_is_letters) l3 c3 k3
 have b_is_letters:=F_is_letters.binds (ps:=["text"]) fun _ _ _ _ _ _ us hl=>match us,hl with | [_],_=>rfl
 have m_is_letters:=PySem.W.mg_of X G a3
 have F_all_there:=fun_mk (st:=s_all_there) l4 c4 k4
 have b_all_there:=F_all_there.binds (ps:=["rooms","count"]) fun _ _ _ _ _ _ us hl=>match us,hl with | [_,_],_=>rfl
 have m_all_there:=PySem.W.mg_of X G a4
 have F_look_steps:=fun_mk (st:=s_look_steps) l5 c5 k5
 have b_look_steps:=F_look_steps.binds (ps:=["letters","steps"]) fun _ _ _ _ _ _ us hl=>match us,hl with | [_,_],_=>rfl
 have m_look_steps:=PySem.W.mg_of X G a5
 have F_look_machine:=fun_mk (st:=s_look_machine) l6 c6 k6
 have b_look_machine:=F_look_machine.binds (ps:=["machine"]) fun _ _ _ _ _ _ us hl=>match us,hl with | [_],_=>rfl
 have m_look_machine:=PySem.W.mg_of X G a6
 have F_law_flow:=fun_mk (st:=s_law_flow) l7 c7 k7
 have b_law_flow:=F_law_flow.binds (ps:=["_law_script"]) fun _ _ _ _ _ _ us hl=>match us,hl with | [_],_=>rfl
 have m_law_flow:=PySem.W.mg_of X G a7
 have F_law_pick:=fun_mk (st:=s_law_pick) l8 c8 k8
 have b_law_pick:=F_law_pick.binds (ps:=["_law_flow_here","_law_many"]) fun _ _ _ _ _ _ us hl=>match us,hl with | [_,_],_=>rfl
 have m_law_pick:=PySem.W.mg_of X G a8
 have F_law_alike:=fun_mk (st:=s_law_alike) l9 c9 k9
 have b_law_alike:=F_law_alike.binds (ps:=["_law_found","_law_due_here"]) fun _ _ _ _ _ _ us hl=>match us,hl with | [_,_],_=>rfl
 have m_law_alike:=PySem.W.mg_of X G a9
 have F_law_letters:=fun_mk (st:=s_law_letters) l10 c10 k10
 have b_law_letters:=F_law_letters.binds (ps:=["_law_flow_here","_law_many"]) fun _ _ _ _ _ _ us hl=>match us,hl with | [_,_],_=>rfl
 have m_law_letters:=PySem.W.mg_of X G a10
 have F_law_machine:=fun_mk (st:=s_law_machine) l11 c11 k11
 have b_law_machine:=F_law_machine.binds (ps:=["_law_flow_here","_law_letters_here","_law_most"]) fun _ _ _ _ _ _ us hl=>match us,hl with | [_,_,_],_=>rfl
 have m_law_machine:=PySem.W.mg_of X G a11
 have F_law_caught:=fun_mk (st:=s_law_caught) l12 c12 k12
 have b_law_caught:=F_law_caught.binds (ps:=["_law_e"]) fun _ _ _ _ _ _ us hl=>match us,hl with | [_],_=>rfl
 have m_law_caught:=PySem.W.mg_of X G a12
 have F_law_spoilt_letters:=fun_mk (st:=s_law_spoilt_letters) l13 c13 k13
 have b_law_spoilt_letters:=F_law_spoilt_letters.binds (ps:=["_law_flow_here","_law_letters_here"]) fun _ _ _ _ _ _ us hl=>match us,hl with | [_,_],_=>rfl
 have m_law_spoilt_letters:=PySem.W.mg_of X G a13
 have F_law_spoilt_ends:=fun_mk (st:=s_law_spoilt_ends) l14 c14 k14
 have b_law_spoilt_ends:=F_law_spoilt_ends.binds (ps:=["_law_flow_here","_law_ends","_law_many"]) fun _ _ _ _ _ _ us hl=>match us,hl with | [_,_,_],_=>rfl
 have m_law_spoilt_ends:=PySem.W.mg_of X G a14
 have F_law_spoilt_steps:=fun_mk (st:=s_law_spoilt_steps) l15 c15 k15
 have b_law_spoilt_steps:=F_law_spoilt_steps.binds (ps:=["_law_flow_here","_law_steps"]) fun _ _ _ _ _ _ us hl=>match us,hl with | [_,_],_=>rfl
 have m_law_spoilt_steps:=PySem.W.mg_of X G a15
 have F_law_spoilt:=fun_mk (st:=s_law_spoilt) l16 c16 k16
 have b_law_spoilt:=F_law_spoilt.binds (ps:=["_law_flow_here","_law_machine_here"]) fun _ _ _ _ _ _ us hl=>match us,hl with | [_,_],_=>rfl
 have m_law_spoilt:=PySem.W.mg_of X G a16
 have F_law_due:=fun_mk (st:=s_law_due) l17 c17 k17
 have b_law_due:=F_law_due.binds (ps:=["_law_machine_here"]) fun _ _ _ _ _ _ us hl=>match us,hl with | [_],_=>rfl
 have m_law_due:=PySem.W.mg_of X G a17
 have F_law_told:=fun_mk (st:=s_law_told) l18 c18 k18
 have b_law_told:=F_law_told.binds (ps:=["_law_machine_here"]) fun _ _ _ _ _ _ us hl=>match us,hl with | [_],_=>rfl
 have m_law_told:=PySem.W.mg_of X G a18
 have F_law:=fun_mk (st:=s_law) l19 c19 k19
 have b_law:=F_law.binds (ps:=["_law_script"]) fun _ _ _ _ _ _ us hl=>match us,hl with | [_],_=>rfl
 have m_law:=PySem.W.mg_of X G a19
 have c_MOST_ROOMS:=PySem.W.mg_of X G q_MOST_ROOMS
 have Z:Blt mg:=⟨PySem.W.mg_none_of X G z_ValueError,PySem.W.mg_none_of X G z_all,PySem.W.mg_none_of X G z_bool,PySem.W.mg_none_of X G z_enumerate,PySem.W.mg_none_of X G z_isinstance,PySem.W.mg_none_of X G z_len,PySem.W.mg_none_of X G z_list,PySem.W.mg_none_of X G z_range,PySem.W.mg_none_of X G z_reversed,PySem.W.mg_none_of X G z_set,PySem.W.mg_none_of X G z_sorted,PySem.W.mg_none_of X G z_tuple⟩
 refine ⟨PySem.W.fnOf "law" "law" (defArgs s_law) (defBody s_law) (defScope s_law) .none kV19 dc19 pm19 an19 cd19 ct19,fun s v=>.of_eq rfl,fun base _ _=>?_⟩
 have kl:Kls K mg cSpreadError cNoText cNoMachine cNoFit cNoName cNoRow:=⟨PySem.W.mg_of X G a_SpreadError,PySem.W.mg_of X G a_NoText,PySem.W.mg_of X G a_NoMachine,PySem.W.mg_of X G a_NoFit,PySem.W.mg_of X G a_NoName,PySem.W.mg_of X G a_NoRow,excF_of f_NoText,excF_of f_NoMachine,excF_of f_NoFit,excF_of f_NoName,excF_of f_NoRow,k_NoFit,k_NoRow,e_NoFit,e_NoRow,kit,f_exm⟩
 have G_NoMachine:=fun_mk (st:=s_NoMachine_init) l_NoMachine d_NoMachine q_NoMachine
 have C_NoMachine:CalX l.prog w K mg base "NoMachine" 1 _ (spTwoD cNoMachine "word" "at") cNoMachine:=⟨_,_,_,e_NoMachine,k_NoMachine,kl.mNoMachine,l_NoMachine,rfl,ok_NoMachine_init G_NoMachine kl.fNoMachine n_NoMachine0 n_NoMachine1,G_NoMachine.binds (ps:=["self","word","at"]) fun _ _ _ _ _ _ us hl=>match us,hl with | [_,_,_],_=>rfl⟩
 have C_law_pick:Cal l.prog w K mg base "_law_pick" 1 _ spPick:=⟨_,_,ok_law_pick F_law_pick Z,m_law_pick,F_law_pick.kp,b_law_pick⟩
 have C_law_flow:Cal l.prog w K mg base "_law_flow" 1 _ (spFlow K):=⟨_,_,ok_law_flow F_law_flow Z,m_law_flow,F_law_flow.kp,b_law_flow⟩
 have C_law_alike:Cal l.prog w K mg base "_law_alike" 3 _ (spAlike 3):=⟨_,_,ok_law_alike F_law_alike b_law_alike m_law_alike Z 3,m_law_alike,F_law_alike.kp,b_law_alike⟩
 have C_law_letters:Cal l.prog w K mg base "_law_letters" 2 _ spLetters:=⟨_,_,ok_law_letters F_law_letters Z C_law_pick,m_law_letters,F_law_letters.kp,b_law_letters⟩
 have C_law_machine:Cal l.prog w K mg base "_law_machine" 2 _ spMachine:=⟨_,_,ok_law_machine F_law_machine Z C_law_pick,m_law_machine,F_law_machine.kp,b_law_machine⟩
 have C_rising:Cal l.prog w K mg base "rising" 1 _ spRising:=⟨_,_,ok_rising F_rising Z,m_rising,F_rising.kp,b_rising⟩
 have C_risingT:Cal l.prog w K mg base "rising" 1 _ spRisingT:=⟨_,_,ok_risingT F_rising Z,m_rising,F_rising.kp,b_rising⟩
 have C_is_word:Cal l.prog w K mg base "is_word" 1 _ spIsWord:=⟨_,_,ok_is_word F_is_word Z,m_is_word,F_is_word.kp,b_is_word⟩
 have C_is_letters:Cal l.prog w K mg base "is_letters" 2 _ spIsLetters:=⟨_,_,ok_is_letters F_is_letters Z C_is_word C_rising,m_is_letters,F_is_letters.kp,b_is_letters⟩
 have C_all_there:Cal l.prog w K mg base "all_there" 1 _ spThere:=⟨_,_,ok_all_there F_all_there Z,m_all_there,F_all_there.kp,b_all_there⟩
 have C_look_steps:CalR l.prog w K mg base "look_steps" 3 _ (spSteps cNoMachine):=⟨_,_,ok_look_steps F_look_steps Z kl e_NoMachine C_NoMachine C_all_there,m_look_steps,F_look_steps.kp,b_look_steps⟩
 have C_look_machine:CalR l.prog w K mg base "look_machine" 4 _ (spLookM cNoMachine):=⟨_,_,ok_look_machine F_look_machine Z kl e_NoMachine c_MOST_ROOMS r_MOST_ROOMS C_NoMachine C_all_there C_risingT C_is_letters C_look_steps,m_look_machine,F_look_machine.kp,b_look_machine⟩
 have C_law_caught:Cal l.prog w K mg base "_law_caught" 1 _ (spCaught K cSpreadError cNoText cNoMachine cNoFit cNoName cNoRow):=⟨_,_,ok_law_caught F_law_caught Z kl,m_law_caught,F_law_caught.kp,b_law_caught⟩
 have C_law_told:Cal l.prog w K mg base "_law_told" 5 _ spTold:=⟨_,_,ok_law_told F_law_told Z kl n_NoMachine0 n_NoMachine1 C_look_machine C_law_caught,m_law_told,F_law_told.kp,b_law_told⟩
 have C_law_due:Cal l.prog w K mg base "_law_due" 1 _ spDueM:=⟨_,_,ok_law_due F_law_due Z,m_law_due,F_law_due.kp,b_law_due⟩
 have C_law_spoilt_letters:Cal l.prog w K mg base "_law_spoilt_letters" 2 _ spSpoiltL:=⟨_,_,ok_law_spoilt_letters F_law_spoilt_letters Z C_law_pick,m_law_spoilt_letters,F_law_spoilt_letters.kp,b_law_spoilt_letters⟩
 have C_law_spoilt_ends:Cal l.prog w K mg base "_law_spoilt_ends" 2 _ spSpoiltE:=⟨_,_,ok_law_spoilt_ends F_law_spoilt_ends Z C_law_pick,m_law_spoilt_ends,F_law_spoilt_ends.kp,b_law_spoilt_ends⟩
 have C_law_spoilt_steps:Cal l.prog w K mg base "_law_spoilt_steps" 2 _ spSpoiltS:=⟨_,_,ok_law_spoilt_steps F_law_spoilt_steps Z C_law_pick,m_law_spoilt_steps,F_law_spoilt_steps.kp,b_law_spoilt_steps⟩
 have C_law_spoilt:Cal l.prog w K mg base "_law_spoilt" 3 _ spSpoilt:=⟨_,_,ok_law_spoilt F_law_spoilt Z C_law_pick C_law_spoilt_letters C_law_spoilt_ends C_law_spoilt_steps,m_law_spoilt,F_law_spoilt.kp,b_law_spoilt⟩
 exact ok_law F_law Z C_law_flow C_law_pick C_law_letters C_law_machine C_law_spoilt C_law_due C_law_told C_law_alike
theorem walk {l:PySem.W.OpenLaw} {q:Program} {loose:List Str} {XP:(Str→Option Value)→Heap→Prop} {YP:World→Heap→Prop} {d:DefRec} {K:Params→PySem.W.Frag} (hn:l.most=some 63) (hdf:d.params.defaults=[])
  (hY:∀ (w:World) (h:Heap),YP w h→(K w.params).In h)
  (F:∀ (w:World) (mg:Str→Option Value) (fa:Addr) (h:Heap),(K w.params).In h→h.Ns mainGlobals mg→mg d.name=some (.ref fa)→
   ∃ fd:FuncData,(∀ (s:Shared) (u:Value),BindsTo s fd ⟨[u],[]⟩ [("_law_script",u)])∧∀ base:Heap,(K w.params).In base→base.Ns mainGlobals mg→FnOk l.prog w (K w.params) mg base CX0 6 fa fd ["_law_script"] (spLaw (K w.params))) :
  PySem.W.WalkO q loose XP YP l.row.toRowW d [] (fun f vs=>PySem.call f vs):=
 L2.walk_of (n:=63) (k:=6) (x:="_law_script") (CX:=fun _=>CX0) (sp:=fun w=>spLaw (K w.params)) hn (by decide) hdf ⟨rfl,by decide,by decide⟩ hY F (fun _ _ a ns hl _ hS=>⟨a,ns,rfl,hS,hl,fun _=>rfl⟩) fun _ _ _ _ _ z=>z
end My
open PySem PySem.W PyProof.Rows
set_option maxRecDepth 100000 in
set_option maxHeartbeats 0 in
theorem PySem.Challenge.cw_spreadwords_k16_machines_looked_at_holds : PySem.Challenge.rw_spreadwords_k16_machines_looked_at.Holds := by
 w_on; o_law; k_head; (case hw=>w_witness2)
 k_fill
 refine My.walk (l:=PySem.Challenge.rw_spreadwords_k16_machines_looked_at) rfl rfl (fun w h Y=>PySem.W.kIn_of Y) ?F
 case F=>
  intro w mg fa h KX G hmg
  refine' My.all_mk KX G hmg ?a1 ?l1 ?c1 ?k1 ?a2 ?l2 ?c2 ?k2 ?a3 ?l3 ?c3 ?k3 ?a4 ?l4 ?c4 ?k4 ?a5 ?l5 ?c5 ?k5 ?a6 ?l6 ?c6 ?k6 ?a7 ?l7 ?c7 ?k7 ?a8 ?l8 ?c8 ?k8 ?a9 ?l9 ?c9 ?k9 ?a10 ?l10 ?c10 ?k10 ?a11 ?l11 ?c11 ?k11 ?a12 ?l12 ?c12 ?k12 ?a13 ?l13 ?c13 ?k13 ?a14 ?l14 ?c14 ?k14 ?a15 ?l15 ?c15 ?k15 ?a16 ?l16 ?c16 ?k16 ?a17 ?l17 ?c17 ?k17 ?a18 ?l18 ?c18 ?k18 ?a19 ?l19 ?c19 ?k19 ?z_ValueError ?z_all ?z_bool ?z_enumerate ?z_isinstance ?z_len ?z_list ?z_range ?z_reversed ?z_set ?z_sorted ?z_tuple ?q_MOST_ROOMS ?r_MOST_ROOMS ?a_SpreadError ?a_NoText ?f_NoText ?k_NoText ?a_NoMachine ?f_NoMachine ?k_NoMachine ?a_NoFit ?f_NoFit ?k_NoFit ?a_NoName ?f_NoName ?k_NoName ?a_NoRow ?f_NoRow ?k_NoRow ?e_NoFit ?e_NoRow ?i_NoMachine ?l_NoMachine ?d_NoMachine ?q_NoMachine ?e_NoMachine ?n_NoMachine0 ?n_NoMachine1 ?kit ?f_exm
  (case a1=>k_is)
  (case l1=>k_is)
  (case c1=>k_is)
  (case k1=>k_is)
  (case a2=>k_is)
  (case l2=>k_is)
  (case c2=>k_is)
  (case k2=>k_is)
  (case a3=>k_is)
  (case l3=>k_is)
  (case c3=>k_is)
  (case k3=>k_is)
  (case a4=>k_is)
  (case l4=>k_is)
  (case c4=>k_is)
  (case k4=>k_is)
  (case a5=>k_is)
  (case l5=>k_is)
  (case c5=>k_is)
  (case k5=>k_is)
  (case a6=>k_is)
  (case l6=>k_is)
  (case c6=>k_is)
  (case k6=>k_is)
  (case a7=>k_is)
  (case l7=>k_is)
  (case c7=>k_is)
  (case k7=>k_is)
  (case a8=>k_is)
  (case l8=>k_is)
  (case c8=>k_is)
  (case k8=>k_is)
  (case a9=>k_is)
  (case l9=>k_is)
  (case c9=>k_is)
  (case k9=>k_is)
  (case a10=>k_is)
  (case l10=>k_is)
  (case c10=>k_is)
  (case k10=>k_is)
  (case a11=>k_is)
  (case l11=>k_is)
  (case c11=>k_is)
  (case k11=>k_is)
  (case a12=>k_is)
  (case l12=>k_is)
  (case c12=>k_is)
  (case k12=>k_is)
  (case a13=>k_is)
  (case l13=>k_is)
  (case c13=>k_is)
  (case k13=>k_is)
  (case a14=>k_is)
  (case l14=>k_is)
  (case c14=>k_is)
  (case k14=>k_is)
  (case a15=>k_is)
  (case l15=>k_is)
  (case c15=>k_is)
  (case k15=>k_is)
  (case a16=>k_is)
  (case l16=>k_is)
  (case c16=>k_is)
  (case k16=>k_is)
  (case a17=>k_is)
  (case l17=>k_is)
  (case c17=>k_is)
  (case k17=>k_is)
  (case a18=>k_is)
  (case l18=>k_is)
  (case c18=>k_is)
  (case k18=>k_is)
  (case a19=>k_is)
  (case l19=>k_is)
  (case c19=>k_is)
  (case k19=>k_is)
  (case z_ValueError=>k_is)
  (case z_all=>k_is)
  (case z_bool=>k_is)
  (case z_enumerate=>k_is)
  (case z_isinstance=>k_is)
  (case z_len=>k_is)
  (case z_list=>k_is)
  (case z_range=>k_is)
  (case z_reversed=>k_is)
  (case z_set=>k_is)
  (case z_sorted=>k_is)
  (case z_tuple=>k_is)
  (case q_MOST_ROOMS=>k_is)
  (case r_MOST_ROOMS=>exact ⟨_,rfl⟩)
  (case a_SpreadError=>k_is)
  (case a_NoText=>k_is)
  (case f_NoText=>with_unfolding_all rfl)
  (case k_NoText=>k_is)
  (case a_NoMachine=>k_is)
  (case f_NoMachine=>with_unfolding_all rfl)
  (case k_NoMachine=>k_is)
  (case a_NoFit=>k_is)
  (case f_NoFit=>with_unfolding_all rfl)
  (case k_NoFit=>k_is)
  (case a_NoName=>k_is)
  (case f_NoName=>with_unfolding_all rfl)
  (case k_NoName=>k_is)
  (case a_NoRow=>k_is)
  (case f_NoRow=>with_unfolding_all rfl)
  (case k_NoRow=>k_is)
  (case e_NoFit=>with_unfolding_all rfl)
  (case e_NoRow=>with_unfolding_all rfl)
  (case i_NoMachine=>k_is)
  (case l_NoMachine=>k_is)
  (case d_NoMachine=>k_is)
  (case q_NoMachine=>k_is)
  (case e_NoMachine=>with_unfolding_all rfl)
  (case n_NoMachine0=>k_is)
  (case n_NoMachine1=>k_is)
  (case kit=>with_unfolding_all rfl)
  (case f_exm=>with_unfolding_all rfl)
