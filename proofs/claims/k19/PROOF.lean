import PyProof.Rows.All
import Wide.All
import OpenK.AllK
import Wide.FinOn
import PyProof.ZipIter
import KE.KTryMore
import PyProof.NsDelKeeps
import PyProof.ListRange
import PyProof.Draws
import PyProof.EnumMake
import KE.KUnpack
import KE.KLam
import KE.KRevIter
import KE.KDictOf
import PyProof.AttrMissSeq
import KE.KDictList
import KE.LcSums
import KE.KSortTup
import KE.KIntText
import PyProof.StrLawsTight
import PyProof.StrLawsChain
import PyProof.Rows.StrItems
import PyProof.NeKinds
import PyProof.Rows.SetFrom
import PyProof.DictFindH
import Lean
import PyProof.EqAt
import PyProof.EqKinds
import PyProof.TupleCall
import PyProof.ListStr
import KE.KRevSl
import PyProof.Rows.Range3
import PySem.Challenge.RW_spreadwords_k19_texts_of_no_machine
set_option Elab.async false
set_option linter.all false
set_option maxRecDepth 100000
set_option maxHeartbeats 4000000
namespace L2
open PySem PySem.Spec PyProof.Rows
abbrev Key:=Sum Int Str
def keyIs:Key→Value→Bool
 | .inl k,v=>Value.isInt k v
 | .inr x,v=>Value.isStrOf x v
def keyH (w:World):Key→Int
 | .inl k=>hashInt k
 | .inr x=>hashStr w x
theorem keyIs_shape:∀ {k:Key} {v:Value},keyIs k v=true→(∃ i t,k=Sum.inl i∧v=Value.int i t)∨(∃ x t,k=Sum.inr x∧v=Value.str x t)
 | .inl i,v,h=>by
  obtain ⟨t,e⟩:=Value.isInt_shape (k:=i) (v:=v) h
  exact .inl ⟨i,t,rfl,e⟩
 | .inr x,v,h=>by
  obtain ⟨t,e⟩:=Value.isStrOf_shape (x:=x) (v:=v) h
  exact .inr ⟨x,t,rfl,e⟩
theorem key_ll (a b:Int):decide ((Sum.inl a:Key)=Sum.inl b)=(a==b):=by
 by_cases e:a=b
 ·subst e; simp
 ·have h:¬ (Sum.inl a:Key)=Sum.inl b:=fun q=>e (Sum.inl.inj q)
  rw [decide_eq_false h]
  exact (beq_eq_false_iff_ne.mpr e).symm
theorem key_rr (a b:Str):decide ((Sum.inr a:Key)=Sum.inr b)=decide (a=b):=by
 by_cases e:a=b
 ·subst e; simp
 ·have h:¬ (Sum.inr a:Key)=Sum.inr b:=fun q=>e (Sum.inr.inj q)
  rw [decide_eq_false h,decide_eq_false e]
theorem key_lr (a:Int) (b:Str):decide ((Sum.inl a:Key)=Sum.inr b)=false:=decide_eq_false (fun q=>nomatch q)
theorem key_rl (a:Str) (b:Int):decide ((Sum.inr a:Key)=Sum.inl b)=false:=decide_eq_false (fun q=>nomatch q)
def mixKind (prog:Program) (w:World):PySem.KeyKind prog w Key where
 is:=keyIs
 hash:=keyH w
 inj:=fun v a b ha hb=>by
  rcases keyIs_shape ha with ⟨i,t,rfl,rfl⟩ | ⟨x,t,rfl,rfl⟩
  ·rcases keyIs_shape hb with ⟨j,u,rfl,e⟩ | ⟨y,u,rfl,e⟩
   ·injection e with e1 _; rw [e1]
   ·exact nomatch e
  ·rcases keyIs_shape hb with ⟨j,u,rfl,e⟩ | ⟨y,u,rfl,e⟩
   ·exact nomatch e
   ·injection e with e1 _; rw [e1]
 byValue:=fun k v h=>by
  rcases keyIs_shape h with ⟨i,t,rfl,rfl⟩ | ⟨x,t,rfl,rfl⟩ <;> rfl
 pyHash:=fun hv h=>by
  rcases keyIs_shape hv with ⟨i,t,rfl,rfl⟩ | ⟨x,t,rfl,rfl⟩
  ·exact wpAny_pyHash_int h
  ·exact wpAny_pyHash_str h
 eqBool:=fun hu hv h=>by
  rcases keyIs_shape hu with ⟨i,t,rfl,rfl⟩ | ⟨x,t,rfl,rfl⟩
  ·rcases keyIs_shape hv with ⟨j,u,rfl,rfl⟩ | ⟨y,u,rfl,rfl⟩
   ·rw [key_ll] at h; exact wpAny_eqBool_int h
   ·rw [key_lr] at h; exact SeqAt.EqAt.int_str i t y u _ _ _ _ h
  ·rcases keyIs_shape hv with ⟨j,u,rfl,rfl⟩ | ⟨y,u,rfl,rfl⟩
   ·rw [key_rl] at h; exact SeqAt.EqAt.str_int x t j u _ _ _ _ h
   ·rw [key_rr] at h; exact wpAny_eqBool_str h
 «strs»:=fun k x t v h=>by
  rcases keyIs_shape h with ⟨i,u,rfl,e⟩ | ⟨y,u,rfl,e⟩
  ·exact nomatch e
  ·injection e with e1 _
   subst e1
   cases v <;> rfl
end L2
namespace L2
open PySem PySem.Spec PyProof.Rows
inductive V where
 | non | bl (b:Bool) | int (i:Int) | str (x:Str) | byt (b:Array UInt8) | flt (b:UInt64) | ref (a:Addr) | ty (n:String)
 deriving DecidableEq
def RelV:V→Value→Prop
 | .non,u=>u=Value.none
 | .bl b,u=>u=Value.bool b
 | .int i,u=>∃ t,u=Value.int i t
 | .str x,u=>∃ t,u=Value.str x t
 | .byt b,u=>∃ t,u=Value.bytes b t
 | .flt b,u=>∃ t,u=Value.float b t
 | .ref a,u=>u=Value.ref a
 | .ty n,u=>u=Value.type n
abbrev Vals:List V→List Value→Prop:=Paired RelV
theorem Vals.length {xs:List V} {us:List Value} (r:Vals xs us):xs.length=us.length:=Paired.length r
theorem Vals.get:∀ {xs:List V} {us:List Value} {i:Nat} {x:V},Vals xs us→xs[i]? = some x→∃ u,us[i]? = some u∧RelV x u
 | _,_,_,_,.nil,e=>by simp at e
 | _,_,0,_,.cons r _,e=>by simp at e; subst e; exact ⟨_,rfl,r⟩
 | _,_,i+1,x,.cons _ t,e=>by
  obtain ⟨u,h1,h2⟩:=Vals.get (i:=i) (x:=x) t (by simpa using e)
  exact ⟨u,by simpa using h1,h2⟩
theorem Vals.set {x:V} {u:Value} (r:RelV x u):∀ {xs:List V} {us:List Value} (i:Nat),Vals xs us→Vals (xs.set i x) (us.set i u)
 | _,_,_,.nil=>.nil
 | _,_,0,.cons _ t=>.cons r t
 | _,_,i+1,.cons q t=>.cons q (Vals.set r i t)
theorem Vals.append:∀ {xs ys:List V} {us ws:List Value},Vals xs us→Vals ys ws→Vals (xs ++ ys) (us ++ ws)
 | _,_,_,_,.nil,s=>s
 | _,_,_,_,.cons r t,s=>.cons r (Vals.append t s)
theorem Vals.take:∀ {xs:List V} {us:List Value} (n:Nat),Vals xs us→Vals (xs.take n) (us.take n)
 | _,_,0,_=>.nil
 | _,_,_+1,.nil=>.nil
 | _,_,n+1,.cons r t=>.cons r (Vals.take n t)
theorem Vals.drop:∀ {xs:List V} {us:List Value} (n:Nat),Vals xs us→Vals (xs.drop n) (us.drop n)
 | _,_,0,r=>r
 | _,_,_+1,.nil=>.nil
 | _,_,n+1,.cons _ t=>Vals.drop n t
theorem Vals.none_of:∀ {xs:List V} {us:List Value} {i:Nat},Vals xs us→xs[i]? = none→us[i]? = none:=fun {xs us i} r e=>by
 have h1:=r.length
 have h2:xs.length≤i:=List.getElem?_eq_none_iff.mp e
 exact List.getElem?_eq_none_iff.mpr (by omega)
def RelO:Option V→Option Value→Prop
 | some v,some u=>RelV v u
 | none,none=>True
 | _,_=>False
def KV {κ:Type}:List (κ × V)→List (κ × Value)→Prop:=Paired fun (p:κ × V) (q:κ × Value)=>p.1=q.1∧RelV p.2 q.2
def kV:Key→V
 | .inl i=>.int i
 | .inr x=>.str x
inductive HO where
  | lst (xs:List V)
  | tup (xs:List V)
  | dK (kvs:List (Key × V)) | dT (kvs:List (List Key × V))
  | set (S:Int→Bool) (n:Nat)
  | ins (C dx:Addr) (fs:List (Str × V))
  | own (x:Addr)
  | xd (fs:List (Str × V))
  | met (f x:Addr)
  | rng (lo hi:Int)
  | frz (o:Obj) (u:HO)
  | tbl (ps:Array Value)
  | ext (φ:Heap→Prop)
abbrev Hp:=Addr→Option HO
def upd (H:Hp) (a:Addr) (o:HO):Hp:=fun b=>if b=a then some o else H b
theorem upd_same {H:Hp} {a:Addr} {o:HO}:upd H a o a=some o:=by unfold upd; rw [if_pos rfl]
theorem upd_ne {H:Hp} {a b:Addr} {o:HO} (h:b≠a):upd H a o b=H b:=by unfold upd; rw [if_neg h]
theorem upd_upd {H:Hp} {a:Addr} {o u:HO}:upd (upd H a o) a u=upd H a u:=by
 funext b; unfold upd; split <;> rfl
theorem ne_of {H:Hp} {a b:Addr} {o u:HO} (h:H a=some o) (h':H b=some u) (d:o≠u):a≠b:=by
 intro e; subst e; rw [h] at h'; exact d (Option.some.inj h')
theorem ne_of_none {H:Hp} {a b:Addr} {o:HO} (h:H a=some o) (h':H b=none):a≠b:=by
 intro e; subst e; rw [h] at h'; cases h'
section
variable (P:Program) (w:World)
def ObjOk (H:Hp) (h:Heap) (a:Addr):HO→Prop
 | .lst xs=>xs.length≤sizeLine∧∃ (its:List Value) (n:Nat),Vals xs its∧h.get? a=some { cls:=.type "list",data:=.seq its.toArray n }
 | .tup xs=>xs.length≤sizeLine∧∃ its:List Value,Vals xs its∧IsTup h a its.toArray
 | .dK kvs=>kvs.length≤sizeLine∧(a==sysModules)=false∧∃ vs,KV kvs vs∧h.DictOf (mixKind P w) a vs
 | .dT kvs=>kvs.length≤sizeLine∧(a==sysModules)=false∧∃ xs:List (List Key × Addr × Value),
   Paired (fun (p:List Key × V) (q:List Key × Addr × Value)=>p.1=q.1∧H q.2.1=some (.tup (p.1.map kV))∧RelV p.2 q.2.2) kvs xs∧
   ∃ o es ep,h.get? a=some o∧o.ExactDict∧o.data=.dict es ep∧es.toList=xs.map (entryOfKey (tupleKind (mixKind P w)))∧(xs.map (·.1)).Nodup
 | .set S n=>h.SetOf (intKind P w) a S n
 | .ins C dx fs=>H dx=some (.own a)∧fs.length≤1000∧dx≠a∧h.get? a=some (PySem.W.instObj C dx)∧
   ∃ mA,h.Ns1 dx mA∧(∀ f,RelO (fs.lookup f) (mA f))∧PySem.Within mA (fs.map (·.1))
 | .own _=>∃ o,h.get? a=some o
 | .xd fs=>∃ mA,h.Ns1 a mA∧∀ f,RelO (fs.lookup f) (mA f)
 | .rng lo hi=>∃ t u v,h.get? a=some { cls:=.type "range",data:=.fields #[.int lo t,.int hi u,.int 1 v] }
 | .frz o u=>h.get? a=some o∧ObjOk H h a u
 | .tbl ps=>h.get? a=some { cls:=.none,data:=.fields ps }
 | .met f x=>h.get? a=some (PySem.W.methodObj (.ref f) (.ref x))
 | .ext φ=>φ h∧(∃ o,h.get? a=some o)∧∀ h1 h2:Heap,φ h1→(∀ o,h1.get? a=some o→h2.get? a=some o)→φ h2
def HOk (H:Hp) (h:Heap):Prop:=∀ a o,H a=some o→ObjOk P w H h a o
end
section
variable {P:Program} {w:World} {H H':Hp} {h h':Heap} {a:Addr} {o:HO}
theorem ObjOk.lt (x:ObjOk P w H h a o):a < h.objs.size:=by
 cases o with
 | lst xs=>obtain ⟨_,_,_,_,e⟩:=x; exact Heap.lt_size e
 | tup xs=>obtain ⟨_,_,_,p⟩:=x; exact p.lt
 | dK kvs=>obtain ⟨_,_,_,_,o,_,_,e,_⟩:=x; exact Heap.lt_size e
 | dT kvs=>obtain ⟨_,_,_,_,o,_,_,e,_⟩:=x; exact Heap.lt_size e
 | set S n=>obtain ⟨o,_,_,_,e,_⟩:=x; exact Heap.lt_size e
 | ins C dx fs=>obtain ⟨_,_,_,e,_⟩:=x; exact Heap.lt_size e
 | own y=>obtain ⟨_,e⟩:=x; exact Heap.lt_size e
 | xd fs=>obtain ⟨_,⟨_,_,_,e,_⟩,_⟩:=x; exact Heap.lt_size e
 | rng lo hi=>obtain ⟨_,_,_,e⟩:=x; exact Heap.lt_size e
 | frz ob u=>obtain ⟨e,_⟩:=x; exact Heap.lt_size e
 | tbl ps=>exact Heap.lt_size (show h.get? a=some _ from x)
 | met f y=>exact Heap.lt_size (show h.get? a=some _ from x)
 | ext φ=>obtain ⟨_,⟨_,e⟩,_⟩:=x; exact Heap.lt_size e
theorem Paired.mapP {α β:Type} {F G:α→β→Prop}:∀ {l₁:List α} {l₂:List β},Paired F l₁ l₂→(∀ a b,F a b→G a b)→Paired G l₁ l₂
 | _,_,.nil,_=>.nil
 | _,_,.cons r t,f=>.cons (f _ _ r) (Paired.mapP t f)
theorem ObjOk.stay (x:ObjOk P w H h a o) (k:∀ b u,(b=a∨H b=some (.own a))→h.get? b=some u→h'.get? b=some u)
  (ho:∀ b,H b=some (.own a)→H' b=some (.own a)) (ht:∀ b xs,H b=some (.tup xs)→H' b=some (.tup xs)):ObjOk P w H' h' a o:=by
 induction o with
 | lst xs=>obtain ⟨z,its,n,r,e⟩:=x; exact ⟨z,its,n,r,k _ _ (.inl rfl) e⟩
 | tup xs=>obtain ⟨z,its,r,ob,e,c⟩:=x; exact ⟨z,its,r,ob,k _ _ (.inl rfl) e,c⟩
 | dK kvs=>obtain ⟨z,y,vs,r,ob,es,ep,e,c⟩:=x; exact ⟨z,y,vs,r,ob,es,ep,k _ _ (.inl rfl) e,c⟩
 | dT kvs=>
  obtain ⟨z,y,xs,r,ob,es,ep,e,c⟩:=x
  exact ⟨z,y,xs,Paired.mapP r fun p q z=>⟨z.1,ht _ _ z.2.1,z.2.2⟩,ob,es,ep,k _ _ (.inl rfl) e,c⟩
 | set S n=>obtain ⟨ob,es,ep,t,e,c⟩:=x; exact ⟨ob,es,ep,t,k _ _ (.inl rfl) e,c⟩
 | ins C dx fs=>
  obtain ⟨d,z,ne,e,mA,⟨od,es,ep,e2,c⟩,r⟩:=x
  exact ⟨ho _ d,z,ne,k _ _ (.inl rfl) e,mA,⟨od,es,ep,k _ _ (.inr d) e2,c⟩,r⟩
 | own y=>obtain ⟨ob,e⟩:=x; exact ⟨ob,k _ _ (.inl rfl) e⟩
 | xd fs=>obtain ⟨mA,⟨od,es,ep,e,c⟩,r⟩:=x; exact ⟨mA,⟨od,es,ep,k _ _ (.inl rfl) e,c⟩,r⟩
 | rng lo hi=>obtain ⟨t,u,v,e⟩:=x; exact ⟨t,u,v,k _ _ (.inl rfl) e⟩
 | frz ob u ih=>obtain ⟨e,q⟩:=x; exact ⟨k _ _ (.inl rfl) e,ih q⟩
 | tbl ps=>
  have e:h.get? a=some { cls:=.none,data:=.fields ps }:=x
  show h'.get? a=some { cls:=.none,data:=.fields ps }
  exact k a _ (.inl rfl) e
 | met f y=>
  have e:h.get? a=some (PySem.W.methodObj (.ref f) (.ref y)):=x
  show h'.get? a=some (PySem.W.methodObj (.ref f) (.ref y))
  exact k a _ (.inl rfl) e
 | ext φ=>obtain ⟨p,⟨o,e⟩,st⟩:=x; exact ⟨st _ _ p fun o q=>k _ _ (.inl rfl) q,⟨o,k _ _ (.inl rfl) e⟩,st⟩
theorem HOk.lt (x:HOk P w H h) (e:H a=some o):a < h.objs.size:=(x a o e).lt
theorem HOk.fresh (x:HOk P w H h) (e:h.objs.size≤a):H a=none:=by
 cases q:H a with
 | none=>rfl
 | some u=>exact absurd (Nat.lt_of_lt_of_le (x.lt q) e) (Nat.lt_irrefl _)
theorem HOk.kept (x:HOk P w H h) (k:∀ b u,h.get? b=some u→h'.get? b=some u):HOk P w H h':=fun a o e=>
 (x a o e).stay (fun b u _ q=>k b u q) (fun _ q=>q) fun _ _ q=>q
theorem HOk.laid (x:HOk P w H h) (k:∀ b u,h.get? b=some u→h'.get? b=some u) (hp:h.objs.size≤a) (new:ObjOk P w (upd H a o) h' a o):HOk P w (upd H a o) h':=fun b u e=>by
 have hn:=x.fresh hp
 by_cases hb:b=a
 ·subst hb; rw [upd_same] at e; cases e; exact new
 ·rw [upd_ne hb] at e
  exact (x b u e).stay (fun c v _ q=>k c v q) (fun c q=>by rw [upd_ne (ne_of_none q hn)]; exact q) fun c xs q=>by rw [upd_ne (ne_of_none q hn)]; exact q
end
def Rd (H:Hp) (a:Addr) (u:HO):Prop:=H a=some u∨∃ o,H a=some (.frz o u)
theorem Rd.ok {P:Program} {w:World} {H:Hp} {h:Heap} {a:Addr} {u:HO} (r:Rd H a u) (x:HOk P w H h):ObjOk P w H h a u:=by
 rcases r with r | ⟨o,r⟩
 ·exact x a u r
 ·obtain ⟨_,q⟩:=x a _ r
  exact q
def Mut:Option HO→Prop
 | some (.lst _)=>True
 | some (.dK _)=>True
 | some (.dT _)=>True
 | some (.set _ _)=>True
 | some (.ins _ _ _)=>True
 | some (.ext _)=>True
 | _=>False
section
variable {P:Program} {w:World} {H:Hp} {h h':Heap} {x e:Addr} {o':HO}
theorem HOk.write (ok:HOk P w H h) (mu:Mut (H x)) (he:e=x∨H e=some (.own x)) (k:∀ b u,b≠e→h.get? b=some u→h'.get? b=some u) (heo:∃ u,h'.get? e=some u)
  (new:ObjOk P w (upd H x o') h' x o'):HOk P w (upd H x o') h':=fun b u q=>by
 have nown:∀ c y,H c=some (.own y)→c≠x:=fun c y r z=>by subst z; rw [r] at mu; exact mu
 have ntup:∀ c xs,H c=some (.tup xs)→c≠x:=fun c xs r z=>by subst z; rw [r] at mu; exact mu
 by_cases hb:b=x
 ·subst hb; rw [upd_same] at q; cases q; exact new
 ·rw [upd_ne hb] at q
  by_cases hbe:b=e
  ·have q':H b=some (.own x):=by
    rcases he with z | z
    ·exact absurd (hbe.trans z) hb
    ·rw [hbe]; exact z
   rw [q] at q'; cases q'
   obtain ⟨v,hv⟩:=heo
   exact ⟨v,by rw [hbe]; exact hv⟩
  ·refine (ok b u q).stay (fun c v hc r=>k c v ?_ r) (fun c r=>by rw [upd_ne (nown c b r)]; exact r) fun c xs r=>by rw [upd_ne (ntup c xs r)]; exact r
   rcases hc with rfl | hc
   ·exact hbe
   ·rintro rfl
    rcases he with z | z
    ·exact nown c b hc z
    ·rw [hc] at z; cases z; exact hb rfl
end
structure Un (fs ex:List Addr) (H H':Hp) (h h':Heap):Prop where
 keep:∀ b o,h.get? b=some o→H b=none→b∉fs→b∉ex→h'.get? b=some o
 slot:∀ b o,h.get? b=some o→H b=none→b∈fs→b∉ex→∃ sl,h'.get? b=some { o with slots:=sl }
 free:∀ b o,h.get? b=some o→H b=none→b∉ex→H' b=none
 there:∀ b o,h.get? b=some o→b∉ex→∃ o',h'.get? b=some o'
 tups:∀ b xs,H b=some (.tup xs)→H' b=some (.tup xs)
 frzs:∀ b o u,H b=some (.frz o u)→H' b=some (.frz o u)
 tbls:∀ b ps,H b=some (.tbl ps)→∃ more,H' b=some (.tbl (ps ++ more))
section
variable {fs fs' ex ex':List Addr} {H H1 H2:Hp} {h h1 h2 h':Heap} {a x e:Addr} {o:HO}
theorem Un.any (u:Un fs ex H H1 h h1) {b:Addr} {ob:Obj} (q:h.get? b=some ob) (n:H b=none) (hx:b∉ex):∃ sl,h1.get? b=some { ob with slots:=sl }:=by
 by_cases hb:b∈fs
 ·exact u.slot b ob q n hb hx
 ·exact ⟨ob.slots,u.keep b ob q n hb hx⟩
theorem Un.kept (k:∀ b u,h.get? b=some u→h'.get? b=some u):Un fs ex H H h h':=
 ⟨fun b ob q _ _ _=>k b ob q,fun b ob q _ _ _=>⟨ob.slots,k b ob q⟩,fun _ _ _ n _=>n,fun b ob q _=>⟨ob,k b ob q⟩,fun _ _ q=>q,fun _ _ _ q=>q,fun _ ps q=>⟨#[],by rw [q]; simp⟩⟩
theorem Un.refl:Un fs ex H H h h:=Un.kept fun _ _ q=>q
theorem Un.laid (k:∀ b u,h.get? b=some u→h'.get? b=some u) (hp:h.objs.size≤a) (hn:H a=none):Un fs ex H (upd H a o) h h' where
 keep:=fun b u q _ _ _=>k b u q
 slot:=fun b u q _ _ _=>⟨u.slots,k b u q⟩
 free:=fun b u q n _=>by rw [upd_ne (Nat.ne_of_lt (Nat.lt_of_lt_of_le (Heap.lt_size q) hp))]; exact n
 there:=fun b u q _=>⟨u,k b u q⟩
 tups:=fun b xs q=>by rw [upd_ne (ne_of_none q hn)]; exact q
 frzs:=fun b u xs q=>by rw [upd_ne (ne_of_none q hn)]; exact q
 tbls:=fun b ps q=>⟨#[],by rw [upd_ne (ne_of_none q hn),q]; simp⟩
theorem Un.write (mu:Mut (H x)) (he:e=x∨H e=some (.own x)) (k:∀ b u,b≠e→h.get? b=some u→h'.get? b=some u) (heo:∃ u,h'.get? e=some u):Un fs ex H (upd H x o) h h':=by
 have hx:∀ b,H b=none→b≠x:=fun b n z=>by subst z; rw [n] at mu; exact mu
 have hb:∀ b,H b=none→b≠e:=fun b n z=>by
  subst z
  rcases he with r | r
  ·exact hx b n r
  ·rw [n] at r; cases r
 have hm:∀ b u,H b=some u→¬ Mut (some u)→b≠x:=fun b u q nm z=>by subst z; rw [q] at mu; exact nm mu
 refine ⟨fun b u q n _ _=>k b u (hb b n) q,fun b u q n _ _=>⟨u.slots,k b u (hb b n) q⟩,fun b u q n _=>by rw [upd_ne (hx b n)]; exact n,fun b u q _=>?_,
  fun b xs q=>by rw [upd_ne (hm b _ q fun z=>z)]; exact q,fun b u xs q=>by rw [upd_ne (hm b _ q fun z=>z)]; exact q,fun b ps q=>⟨#[],by rw [upd_ne (hm b _ q fun z=>z),q]; simp⟩⟩
 by_cases hbe:b=e
 ·subst hbe; exact heo
 ·exact ⟨u,k b u hbe q⟩
end
def trk (h:Heap) (H:Hp):List Addr:=(List.range h.objs.size).filter fun a=>(H a).isSome
def hidT (h:Heap) (H:Hp):Heap:=PySem.W.hideAll h (trk h H)
theorem hidT_size (h:Heap) (H:Hp):(hidT h H).objs.size=h.objs.size:=PySem.W.hideAll_size _ _
theorem hidT_get {h:Heap} {H:Hp} {b:Addr} {o:Obj} (e:h.get? b=some o) (n:H b=none):(hidT h H).get? b=some o:=
 PySem.W.hideAll_get _ e fun hm=>by
  have q:(H b).isSome=true:=(List.mem_filter.mp hm).2
  rw [n] at q; simp at q
theorem of_hidT {h:Heap} {H:Hp} {b:Addr} {o:Obj} (e:(hidT h H).get? b=some o):h.get? b=some o∧H b=none:=by
 have e':h.get? b=some o:=PySem.W.of_hideAll (trk h H) e
 refine ⟨e',?_⟩
 cases q:H b with
 | none=>rfl
 | some x=>
  have hm:b∈trk h H:=List.mem_filter.mpr ⟨List.mem_range.mpr (Heap.lt_size e'),by simp [q]⟩
  have z:(hidT h H).get? b=none:=PySem.W.hideAll_none (trk h H) hm
  rw [z] at e; cases e
def allNews (g h:Heap) (L:Addr):List (Addr × Obj):=(List.range h.objs.size).filterMap fun a=>if a=L∨(g.get? a).isSome=true then none else (h.get? a).map fun o=>(a,o)
def rest (g h:Heap) (L d:Addr):List (Addr × Obj):=(allNews g h L).filter fun p=>decide (p.1≠d)
end L2
namespace L2
open PySem PySem.Spec PyProof.Rows
structure Mod (K:PySem.W.Frag) (mg:Str→Option Value) (base:Heap):Prop where
 kin:K.In base
 glob:base.Ns mainGlobals mg
 blt:∃ mb,base.Ns builtinsNs mb∧∀ x:Str,x≠"__name__"→mb x=bootBuiltins x
 nolimit:base.NoLimit
structure Cx where
 prog:Program
 w:World
 K:PySem.W.Frag
 mg:Str→Option Value
 base:Heap
 A:Around
 N:List Str
 s₀:Shared
 H₀:Hp
 env:Env
 outer:List Env
 stack:List Env
 ex:List Addr
 fn:Str→Bool
 calm:Bool
 pn:List (Addr × Obj)
 xe:Value→Shared→Prop
def frs (l:List Env):List Addr:=l.filterMap (·.frame)
abbrev Cx.fs (X:Cx):List Addr:=frs X.outer
def Vis (sc:Scope) (x:Str):Prop:=sc.names.lookup x=some .local∨sc.names.lookup x=some .cell∨sc.names.lookup x=some .free
def Loc (sc:Scope) (x:Str):Prop:=sc.names.lookup x=some .local∨sc.names.lookup x=some .cell
def Look (env:Env) (h:Heap) (m:Str→Option Value) (x:Str) (u:Value):Prop:=
 (env.kindOf x=some .local∧m x=some u)∨((env.kindOf x=some .cell∨env.kindOf x=some .free)∧∃ c,env.cells.lookup x=some c∧h.IsCell c (some u))
structure Cx.Ok (X:Cx):Prop where
 mod:Mod X.K X.mg X.base
 kind:X.env.scope.kind=.function
 glob:X.env.globals=mainGlobals
 blt:X.env.builtins=builtinsNs
 above:X.s₀.heap.objs.size≤X.env.locals
 inj:∀ x y c,X.env.cells.lookup x=some c→X.env.cells.lookup y=some c→x=y
 has:∀ x,(X.env.kindOf x=some .cell∨X.env.kindOf x=some .free)→∃ c,X.env.cells.lookup x=some c
 cab:∀ x c,X.fn x=true→X.env.cells.lookup x=some c→X.s₀.heap.objs.size≤c
 hd:X.calm=true→X.A.handled=none
 frames:X.A.frames=some X.stack
 stk:X.stack=X.outer∨(X.stack=X.env :: X.outer∧X.env.frame=some X.env.locals)
 exf:∀ b∈X.ex,b≠X.env.locals∧∀ x c,X.env.cells.lookup x=some c→c≠b
 bs:∀ b o,X.base.get? b=some o→X.s₀.heap.get? b=some o∧X.H₀ b=none
 bsz:X.base.objs.size≤X.s₀.heap.objs.size
 noex:∀ b o,X.base.get? b=some o→b∉X.ex
 exfs:∀ b∈X.ex,b∉X.fs
 funs:X.s₀.heap.FunFrames X.base X.outer
 frf:∀ b∈X.fs,X.H₀ b=none
structure Inv (X:Cx) (pins:List (Addr × Obj)) (σ:List (Option V)) (H:Hp) (s:Shared):Prop where
 ok:X.Ok
 os:s.os=X.s₀.os
 bare:AllBare s.gens
 base:Un X.fs X.ex X.H₀ H X.s₀.heap s.heap
 loc:∃ m,s.heap.Ns X.env.locals m∧∀ (i:Nat) (x:Str) (v:V),X.N[i]? = some x→σ[i]? = some (some v)→Vis X.env.scope x→∃ u,RelV v u∧Look X.env s.heap m x u
 cell:∀ x c,X.env.cells.lookup x=some c→∃ v,s.heap.IsCell c v
 free:H X.env.locals=none
 freeC:∀ x c,X.env.cells.lookup x=some c→H c=none
 pin:∀ p∈X.pn ++ pins,s.heap.get? p.1=some p.2∧H p.1=none∧p.1≠X.env.locals∧p.1∉X.fs∧∀ v,p.2.data≠.cell v
 hok:HOk X.prog X.w H s.heap
 len:σ.length=X.N.length
section
variable {X:Cx} {pins:List (Addr × Obj)} {σ:List (Option V)} {H H':Hp} {s:Shared} {h':Heap}
theorem Cx.Ok.nofr (ok:X.Ok) {b:Addr} {o:Obj} (e:X.base.get? b=some o):b∉X.fs:=fun hb=>by
 have:=(ok.funs.mem hb).1
 rw [e] at this; cases this
theorem Inv.bs (I:Inv X pins σ H s):∀ b o,X.base.get? b=some o→s.heap.get? b=some o∧H b=none:=fun b o e=>
 ⟨I.base.keep b o (I.ok.bs b o e).1 (I.ok.bs b o e).2 (I.ok.nofr e) (I.ok.noex b o e),I.base.free b o (I.ok.bs b o e).1 (I.ok.bs b o e).2 (I.ok.noex b o e)⟩
theorem Inv.bk (I:Inv X pins σ H s):∀ b o,X.base.get? b=some o→s.heap.get? b=some o:=fun b o e=>(I.bs b o e).1
theorem Inv.mod (I:Inv X pins σ H s):Mod X.K X.mg X.base:=I.ok.mod
theorem Inv.kIn (I:Inv X pins σ H s):X.K.In s.heap:=I.ok.mod.kin.keeps I.bk
theorem Inv.lt (I:Inv X pins σ H s):X.env.locals < s.heap.objs.size:=let ⟨_,hn,_⟩:=I.loc; hn.lt
theorem Inv.sz (I:Inv X pins σ H s):X.s₀.heap.objs.size≤s.heap.objs.size:=Nat.le_trans I.ok.above (Nat.le_of_lt I.lt)
theorem Inv.nofs (I:Inv X pins σ H s) {a:Addr} (h:s.heap.objs.size≤a):a∉X.fs:=fun hb=>by
 obtain ⟨_,o,ho,_⟩:=I.ok.funs.mem hb
 exact absurd (Nat.lt_of_lt_of_le (Heap.lt_size ho) (Nat.le_trans I.sz h)) (Nat.lt_irrefl _)
theorem Inv.cne (I:Inv X pins σ H s):∀ x c,X.env.cells.lookup x=some c→c≠X.env.locals:=fun x c e z=>by
 obtain ⟨v,o,ho,hd⟩:=I.cell x c e
 obtain ⟨m,⟨o',es,ep,ho',hd',_⟩,_⟩:=I.loc
 rw [z,ho'] at ho; cases ho; rw [hd'] at hd; cases hd
theorem Inv.funs (I:Inv X pins σ H s):s.heap.FunFrames X.base X.outer:=by
 have all:∀ (l:List Env),(∀ b∈frs l,b∈X.fs)→X.s₀.heap.FunFrames X.base l→s.heap.FunFrames X.base l:=by
  intro l
  induction l with
  | nil=>intro _ _; trivial
  | cons env r ih=>
   intro hs hl
   obtain ⟨hk,⟨L,o,hf,hn,ho,hd⟩,hr⟩:=hl
   have hL:L∈X.fs:=hs L (by unfold frs; rw [List.filterMap_cons,hf]; exact List.mem_cons_self)
   obtain ⟨sl,e⟩:=I.base.slot L o ho (I.ok.frf L hL) hL fun z=>I.ok.exfs L z hL
   exact ⟨hk,⟨L,_,hf,hn,e,hd⟩,ih (fun b hb=>hs b (by unfold frs; rw [List.filterMap_cons,hf]; exact List.mem_cons_of_mem _ hb)) hr⟩
 exact all X.outer (fun _ hb=>hb) I.ok.funs
theorem Inv.stack (I:Inv X pins σ H s):s.heap.FunFrames X.base X.stack:=by
 rcases I.ok.stk with e | ⟨e,hf⟩
 ·rw [e]; exact I.funs
 ·rw [e]
  obtain ⟨m,hn,_⟩:=I.loc
  refine .cons (by rw [I.ok.kind]; decide) hf hn ?_ I.funs
  exact Heap.get?_none_of_le (Nat.le_trans I.ok.bsz I.ok.above)
theorem Inv.stkSub (I:Inv X pins σ H s):∀ b∈frs X.stack,b∈X.env.locals :: X.fs:=fun b hb=>by
 rcases I.ok.stk with e | ⟨e,hf⟩
 ·rw [e] at hb; exact List.mem_cons_of_mem _ hb
 ·rw [e] at hb
  unfold frs at hb
  rw [List.filterMap_cons,hf] at hb
  exact hb
theorem Inv.stkFree (I:Inv X pins σ H s):∀ b∈frs X.stack,H b=none:=fun b hb=>by
 rcases List.mem_cons.mp (I.stkSub b hb) with e | hb
 ·rw [e]; exact I.free
 ·obtain ⟨_,o,ho,_⟩:=I.ok.funs.mem hb
  exact I.base.free b o ho (I.ok.frf b hb) fun z=>I.ok.exfs b z hb
theorem Inv.step {g':Array GenState} {t':Nat} {d':Drawn} {ch:List Addr} (I:Inv X pins σ H s)
  (hch:∀ b∈ch,(b∈X.ex∨X.s₀.heap.objs.size≤b)∧b≠X.env.locals∧(∀ x c,X.env.cells.lookup x=some c→c≠b)∧∀ p∈X.pn ++ pins,p.1≠b)
  (keep:∀ b o,b≠X.env.locals→b∉X.fs→b∉ch→s.heap.get? b=some o→H b=none→h'.get? b=some o)
  (slot:∀ b o,b≠X.env.locals→b∈X.fs→b∉ch→s.heap.get? b=some o→H b=none→∃ sl,h'.get? b=some { o with slots:=sl }) (free:∀ b o,b∉ch→s.heap.get? b=some o→H b=none→H' b=none)
  (there:∀ b o,b∉ch→s.heap.get? b=some o→∃ o',h'.get? b=some o')
  (tups:∀ b xs,H b=some (.tup xs)→H' b=some (.tup xs)) (frzs:∀ b o u,H b=some (.frz o u)→H' b=some (.frz o u)) (tbls:∀ b ps,H b=some (.tbl ps)→∃ more,H' b=some (.tbl (ps ++ more)))
  (ns:∀ m,s.heap.Ns X.env.locals m→h'.Ns X.env.locals m) (hok:HOk X.prog X.w H' h') (hg:AllBare g') :
  Inv X pins σ H' { s with heap:=h',gens:=g',drawn:=d',toks:=t' }:=by
 have neL:∀ b o,X.s₀.heap.get? b=some o→b≠X.env.locals:=fun b o e=>Nat.ne_of_lt (Nat.lt_of_lt_of_le (Heap.lt_size e) I.ok.above)
 have neC:∀ b o,X.s₀.heap.get? b=some o→b∉X.ex→b∉ch:=fun b o e hx hb=>by
  rcases (hch b hb).1 with z | z
  ·exact hx z
  ·exact absurd (Nat.lt_of_lt_of_le (Heap.lt_size e) z) (Nat.lt_irrefl _)
 have cellK:∀ x c,X.env.cells.lookup x=some c→∀ v,s.heap.IsCell c v→h'.IsCell c v:=fun x c e v ⟨o,ho,hd⟩=>by
  have nch:c∉ch:=fun z=>(hch c z).2.2.1 x c e rfl
  by_cases hc:c∈X.fs
  ·obtain ⟨sl,q⟩:=slot c o (I.cne x c e) hc nch ho (I.freeC x c e)
   exact ⟨_,q,hd⟩
  ·exact ⟨o,keep c o (I.cne x c e) hc nch ho (I.freeC x c e),hd⟩
 refine ⟨I.ok,I.os,hg,⟨fun b o e n hb hx=>?_,fun b o e n hb hx=>?_,fun b o e n hx=>?_,fun b o e hx=>?_,fun b xs e=>tups b xs (I.base.tups b xs e),fun b o xs e=>frzs b o xs (I.base.frzs b o xs e),fun b ps e=>?_⟩,?_,fun x c e=>?_,?_,fun x c e=>?_,fun p hp=>?_,hok,I.len⟩
 ·exact keep b o (neL b o e) hb (neC b o e hx) (I.base.keep b o e n hb hx) (I.base.free b o e n hx)
 ·obtain ⟨sl,e1⟩:=I.base.slot b o e n hb hx
  obtain ⟨sl',e2⟩:=slot b _ (neL b o e) hb (neC b o e hx) e1 (I.base.free b o e n hx)
  exact ⟨sl',e2⟩
 ·obtain ⟨o',e1⟩:=I.base.there b o e hx
  exact free b o' (neC b o e hx) e1 (I.base.free b o e n hx)
 ·obtain ⟨o',e1⟩:=I.base.there b o e hx
  exact there b o' (neC b o e hx) e1
 ·obtain ⟨m1,e1⟩:=I.base.tbls b ps e
  obtain ⟨m2,e2⟩:=tbls b _ e1
  exact ⟨m1 ++ m2,by rw [e2,Array.append_assoc]⟩
 ·obtain ⟨m,hn,hl⟩:=I.loc
  refine ⟨m,ns m hn,fun i x v e1 e2 e3=>?_⟩
  obtain ⟨u,r,l⟩:=hl i x v e1 e2 e3
  refine ⟨u,r,?_⟩
  rcases l with l | ⟨k,c,e,z⟩
  ·exact .inl l
  ·exact .inr ⟨k,c,e,cellK x c e _ z⟩
 ·obtain ⟨v,z⟩:=I.cell x c e
  exact ⟨v,cellK x c e v z⟩
 ·obtain ⟨m,⟨o,_,_,ho,_⟩,_⟩:=I.loc
  exact free _ o (fun z=>(hch _ z).2.1 rfl) ho I.free
 ·obtain ⟨v,o,ho,hd⟩:=I.cell x c e
  exact free c o (fun z=>(hch c z).2.2.1 x c e rfl) ho (I.freeC x c e)
 ·obtain ⟨e,n,ne,nf,d⟩:=I.pin p hp
  have nch:p.1∉ch:=fun z=>(hch p.1 z).2.2.2 p hp rfl
  exact ⟨keep p.1 p.2 ne nf nch e n,free p.1 p.2 nch e n,ne,nf,d⟩
theorem Inv.un {t':Nat} (I:Inv X pins σ H s) (u:Un X.fs [] H H' s.heap h') (hok:HOk X.prog X.w H' h'):Inv X pins σ H' { s with heap:=h',toks:=t' }:=by
 obtain ⟨m,⟨o,es,ep,ho,r⟩,_⟩:=id I.loc
 obtain ⟨sl,hL⟩:=u.any ho I.free (by simp)
 exact I.step (g':=s.gens) (d':=s.drawn) (ch:=[]) (fun _ z=>nomatch z) (fun b o _ hb _ e n=>u.keep b o e n hb (by simp)) (fun b o _ hb _ e n=>u.slot b o e n hb (by simp)) (fun b o _ e n=>u.free b o e n (by simp)) (fun b o _ e=>u.there b o e (by simp)) u.tups u.frzs u.tbls (fun m' hm=>by
  obtain ⟨o',es',ep',ho',r'⟩:=hm
  rw [ho] at ho'; cases ho'
  exact ⟨_,es',ep',hL,r'⟩) hok I.bare
theorem Inv.call {g':Array GenState} {t':Nat} {d':Drawn} {ch:List Addr} (I:Inv X pins σ H s) (u:Un (frs X.stack) ch H H' s.heap h') (hok:HOk X.prog X.w H' h') (hg:AllBare g')
  (hch:∀ b∈ch,(b∈X.ex∨X.s₀.heap.objs.size≤b)∧b≠X.env.locals∧(∀ x c,X.env.cells.lookup x=some c→c≠b)∧∀ p∈X.pn ++ pins,p.1≠b) :
  Inv X pins σ H' { s with heap:=h',gens:=g',drawn:=d',toks:=t' }:=by
 obtain ⟨m,⟨o,es,ep,ho,r⟩,_⟩:=id I.loc
 obtain ⟨sl,hL⟩:=u.any ho I.free fun z=>(hch _ z).2.1 rfl
 exact I.step (ch:=ch) hch (fun b o hL hb hc e n=>u.keep b o e n (fun z=>(List.mem_cons.mp (I.stkSub b z)).elim hL hb) hc) (fun b o _ _ hc e n=>u.any e n hc) (fun b o hc e n=>u.free b o e n hc) (fun b o hc e=>u.there b o e hc) u.tups u.frzs u.tbls (fun m' hm=>by
  obtain ⟨o',es',ep',ho',r'⟩:=hm
  rw [ho] at ho'; cases ho'
  exact ⟨_,es',ep',hL,r'⟩) hok hg
theorem Inv.turned {t':Nat} {it:Addr} (I:Inv X pins σ H s) (k:∀ b o,b≠it→s.heap.get? b=some o→h'.get? b=some o) (hn:H it=none) (hL:it≠X.env.locals)
  (h1:it∈X.ex∨X.s₀.heap.objs.size≤it) (h2:∀ x c,X.env.cells.lookup x=some c→c≠it) (h3:∀ p∈X.pn ++ pins,p.1≠it):Inv X pins σ H { s with heap:=h',toks:=t' }:=by
 have nit:∀ b u,H b=some u→b≠it:=fun b u e z=>by rw [z,hn] at e; cases e
 refine I.step (g':=s.gens) (d':=s.drawn) (ch:=[it]) (fun b hb=>?_) (fun b o _ _ hc e _=>k b o (fun z=>hc (by simp [z])) e) (fun b o _ _ hc e _=>⟨o.slots,k b o (fun z=>hc (by simp [z])) e⟩) (fun _ _ _ _ n=>n)
  (fun b o hc e=>⟨o,k b o (fun z=>hc (by simp [z])) e⟩) (fun _ _ e=>e) (fun _ _ _ e=>e) (fun b ps e=>⟨#[],by rw [e]; simp⟩) (fun m hm=>?_) (fun b u e=>?_) I.bare
 ·have e:b=it:=by simpa using hb
  subst e
  exact ⟨h1,hL,h2,h3⟩
 ·obtain ⟨o,es,ep,ho,r⟩:=hm
  exact ⟨o,es,ep,k _ o (Ne.symm hL) ho,r⟩
 ·refine (I.hok b u e).stay (fun c v hc q=>k c v ?_ q) (fun _ q=>q) fun _ _ q=>q
  rcases hc with z | z
  ·rw [z]; exact nit b u e
  ·exact nit c _ z
theorem Inv.tok (I:Inv X pins σ H s) (t:Nat):Inv X pins σ H { s with toks:=t }:=I.un (h':=s.heap) (t':=t) Un.refl I.hok
theorem Inv.kept {t':Nat} (I:Inv X pins σ H s) (k:∀ b u,s.heap.get? b=some u→h'.get? b=some u):Inv X pins σ H { s with heap:=h',toks:=t' }:=I.un (Un.kept k) (I.hok.kept k)
theorem Inv.laid {a:Addr} {o:HO} {t':Nat} (I:Inv X pins σ H s) (k:∀ b u,s.heap.get? b=some u→h'.get? b=some u) (hp:s.heap.objs.size≤a) (new:ObjOk X.prog X.w (upd H a o) h' a o) :
  Inv X pins σ (upd H a o) { s with heap:=h',toks:=t' }:=I.un (Un.laid k hp (I.hok.fresh hp)) (I.hok.laid k hp new)
theorem Inv.write {x e:Addr} {o:HO} {t':Nat} (I:Inv X pins σ H s) (mu:Mut (H x)) (he:e=x∨H e=some (.own x)) (k:∀ b u,b≠e→s.heap.get? b=some u→h'.get? b=some u) (heo:∃ u,h'.get? e=some u)
  (new:ObjOk X.prog X.w (upd H x o) h' x o):Inv X pins σ (upd H x o) { s with heap:=h',toks:=t' }:=I.un (Un.write mu he k heo) (I.hok.write mu he k heo new)
theorem Inv.weak {σ':List (Option V)} (I:Inv X pins σ H s) (hl:σ'.length=σ.length) (w:∀ (i:Nat) v,σ'[i]? = some (some v)→σ[i]? = some (some v)):Inv X pins σ' H s:=
 ⟨I.ok,I.os,I.bare,I.base,let ⟨m,hn,hl'⟩:=I.loc; ⟨m,hn,fun i x v e1 e2 e3=>hl' i x v e1 (w i v e2) e3⟩,I.cell,I.free,I.freeC,I.pin,I.hok,hl.trans I.len⟩
theorem Inv.pins_of {pins':List (Addr × Obj)} (I:Inv X pins σ H s) (h:∀ p∈pins',s.heap.get? p.1=some p.2∧H p.1=none∧p.1≠X.env.locals∧p.1∉X.fs∧∀ v,p.2.data≠.cell v):Inv X pins' σ H s:=
 ⟨I.ok,I.os,I.bare,I.base,I.loc,I.cell,I.free,I.freeC,fun p hp=>(List.mem_append.mp hp).elim (fun z=>I.pin p (List.mem_append_left _ z)) (h p),I.hok,I.len⟩
theorem nodup_ix {N:List Str} (hN:N.Nodup) {i j:Nat} {x:Str} (a:N[i]? = some x) (b:N[j]? = some x):i=j:=by
 obtain ⟨h1,e1⟩:=List.getElem?_eq_some_iff.mp a
 obtain ⟨h2,e2⟩:=List.getElem?_eq_some_iff.mp b
 exact (List.getElem_inj hN).mp (e1.trans e2.symm)
theorem store_ok2 {M:Model} {A:Around} {E:Value→Shared→Prop} {i:Nat} {x:Str} {v:V} {u:Value} {Q:Unit→Shared→Prop} (I:Inv X pins σ H s) (hN:X.N.Nodup) (hi:X.N[i]? = some x) (hx:Loc X.env.scope x) (r:RelV v u)
  (h:∀ s',Inv X pins (σ.set i (some v)) H s'→(∃ a,Heap.SameBut a s.heap s'.heap∧(a=X.env.locals∨X.env.cells.lookup x=some a))→Q () s') (hf:X.fn x=true∨X.env.scope.names.lookup x=some .local:=by first | exact .inl rfl | exact .inr rfl | assumption):wpAny M A (storeName X.env x u) Q E s:=by
 obtain ⟨m,hn,hl⟩:=id I.loc
 have hcls:(X.env.scope.kind==.class || (X.env.scope.kind==.module && X.env.locals != X.env.globals))=false:=by rw [I.ok.kind]; rfl
 have hiσ:i < σ.length:=by rw [I.len]; exact (List.getElem?_eq_some_iff.mp hi).1
 have cne:=I.cne
 have tracked:∀ {a:Addr} {h':Heap},(∃ o,s.heap.get? a=some o∧H a=none)→Heap.SameBut a s.heap h'→HOk X.prog X.w H h':=fun {a h'} ha hs b ob e=>by
  obtain ⟨_,_,hfree⟩:=ha
  refine (I.hok b ob e).stay (fun c w' hc q=>(hs.2 c ?_).trans q) (fun _ q=>q) fun _ _ q=>q
  rintro rfl
  rcases hc with rfl | hc
  ·rw [hfree] at e; cases e
  ·rw [hfree] at hc; cases hc
 rcases hx with hk | hk
 ·refine wpAny_storeName_local hk hn (fun h' hn' hs=>?_) hcls
  obtain ⟨oL,_,_,hoL,_⟩:=id hn
  refine h _ ⟨I.ok,I.os,I.bare,⟨fun b o e n hb hx=>?_,fun b o e n hb hx=>?_,I.base.free,fun b o e hx=>?_,I.base.tups,I.base.frzs,I.base.tbls⟩,⟨_,hn',fun j y v' e1 e2 e3=>?_⟩,fun y c e=>?_,I.free,I.freeC,fun p hp=>?_,tracked ⟨oL,hoL,I.free⟩ hs,by simpa using I.len⟩ ⟨_,hs,.inl rfl⟩
  ·exact (hs.2 b (Nat.ne_of_lt (Nat.lt_of_lt_of_le (Heap.lt_size e) I.ok.above))).trans (I.base.keep b o e n hb hx)
  ·obtain ⟨sl,e1⟩:=I.base.slot b o e n hb hx
   exact ⟨sl,(hs.2 b (Nat.ne_of_lt (Nat.lt_of_lt_of_le (Heap.lt_size e) I.ok.above))).trans e1⟩
  ·obtain ⟨o',e1⟩:=I.base.there b o e hx
   exact ⟨o',(hs.2 b (Nat.ne_of_lt (Nat.lt_of_lt_of_le (Heap.lt_size e) I.ok.above))).trans e1⟩
  ·by_cases hj:j=i
   ·subst hj
    rw [hi] at e1; cases e1
    rw [List.getElem?_set_self hiσ] at e2
    cases e2
    exact ⟨u,r,.inl ⟨hk,by simp⟩⟩
   ·rw [List.getElem?_set_ne (Ne.symm hj)] at e2
    obtain ⟨u',r',q⟩:=hl j y v' e1 e2 e3
    refine ⟨u',r',?_⟩
    rcases q with ⟨k,e⟩ | ⟨k,c,e,z⟩
    ·refine .inl ⟨k,?_⟩
     have:y≠x:=fun e=>hj (nodup_ix hN e1 (e▸hi))
     simp [this,e]
    ·exact .inr ⟨k,c,e,z.sameBut hs (cne y c e)⟩
  ·obtain ⟨w',z⟩:=I.cell y c e
   exact ⟨w',z.sameBut hs (cne y c e)⟩
  ·obtain ⟨e,n,ne,nf,d⟩:=I.pin p hp
   exact ⟨(hs.2 p.1 ne).trans e,n,ne,nf,d⟩
 ·have hfn:X.fn x=true:=by
   rcases hf with z | z
   ·exact z
   ·rw [z] at hk; cases hk
  obtain ⟨c,hc⟩:=I.ok.has x (.inl hk)
  obtain ⟨w',z⟩:=I.cell x c hc
  refine wpAny_storeName_cell I.ok.kind hk hc z (fun h' hc' hs=>?_)
  obtain ⟨oc,hoc,hocd⟩:=id z
  refine h { s with heap:=h' } ⟨I.ok,I.os,I.bare,⟨fun b o e n hb hx=>?_,fun b o e n hb hx=>?_,I.base.free,fun b o e hx=>?_,I.base.tups,I.base.frzs,I.base.tbls⟩,⟨m,hn.sameBut hs (Ne.symm (cne x c hc)),fun j y v' e1 e2 e3=>?_⟩,fun y c' e=>?_,I.free,I.freeC,fun p hp=>?_,tracked ⟨oc,hoc,I.freeC x c hc⟩ hs,by simpa using I.len⟩ ⟨c,hs,.inr hc⟩
  ·exact (hs.2 b (Nat.ne_of_lt (Nat.lt_of_lt_of_le (Heap.lt_size e) (I.ok.cab x c hfn hc)))).trans (I.base.keep b o e n hb hx)
  ·obtain ⟨sl,e1⟩:=I.base.slot b o e n hb hx
   exact ⟨sl,(hs.2 b (Nat.ne_of_lt (Nat.lt_of_lt_of_le (Heap.lt_size e) (I.ok.cab x c hfn hc)))).trans e1⟩
  ·obtain ⟨o',e1⟩:=I.base.there b o e hx
   exact ⟨o',(hs.2 b (Nat.ne_of_lt (Nat.lt_of_lt_of_le (Heap.lt_size e) (I.ok.cab x c hfn hc)))).trans e1⟩
  ·by_cases hj:j=i
   ·subst hj
    rw [hi] at e1; cases e1
    rw [List.getElem?_set_self hiσ] at e2
    cases e2
    exact ⟨u,r,.inr ⟨.inl hk,c,hc,hc'⟩⟩
   ·rw [List.getElem?_set_ne (Ne.symm hj)] at e2
    obtain ⟨u',r',q⟩:=hl j y v' e1 e2 e3
    refine ⟨u',r',?_⟩
    rcases q with q | ⟨k,c',e,z'⟩
    ·exact .inl q
    ·refine .inr ⟨k,c',e,z'.sameBut hs ?_⟩
     rintro rfl
     exact hj (nodup_ix hN e1 (I.ok.inj _ _ _ e hc▸hi))
  ·by_cases hcc:c'=c
   ·subst hcc; exact ⟨_,hc'⟩
   ·obtain ⟨w2,z2⟩:=I.cell y c' e
    exact ⟨w2,z2.sameBut hs hcc⟩
  ·obtain ⟨e,n,ne,nf,d⟩:=I.pin p hp
   refine ⟨(hs.2 p.1 ?_).trans e,n,ne,nf,d⟩
   intro q
   rw [q,hoc] at e
   have q':oc=p.2:=Option.some.inj e
   exact d w' (by rw [← q']; exact hocd)
theorem store_ok {M:Model} {A:Around} {E:Value→Shared→Prop} {i:Nat} {x:Str} {v:V} {u:Value} {Q:Unit→Shared→Prop} (I:Inv X pins σ H s) (hN:X.N.Nodup) (hi:X.N[i]? = some x) (hx:Loc X.env.scope x) (r:RelV v u)
  (h:∀ s',Inv X pins (σ.set i (some v)) H s'→Q () s') (hf:X.fn x=true∨X.env.scope.names.lookup x=some .local:=by first | exact .inl rfl | exact .inr rfl | assumption):wpAny M A (storeName X.env x u) Q E s:=
 store_ok2 I hN hi hx r (fun s' I' _=>h s' I') hf
theorem Inv.call' {s':Shared} {ch:List Addr} (I:Inv X pins σ H s) (ho:s'.os=s.os) (u:Un (frs X.stack) ch H H' s.heap s'.heap) (hok:HOk X.prog X.w H' s'.heap) (hg:AllBare s'.gens)
  (hch:∀ b∈ch,(b∈X.ex∨X.s₀.heap.objs.size≤b)∧b≠X.env.locals∧(∀ x c,X.env.cells.lookup x=some c→c≠b)∧∀ p∈X.pn ++ pins,p.1≠b):Inv X pins σ H' s':=by
 obtain ⟨h',g',d',t',o'⟩:=s'
 have e:o'=s.os:=ho
 subst e
 exact I.call (g':=g') (t':=t') (d':=d') u hok hg hch
end
abbrev XK:=Value→Option Addr→Hp→Prop
abbrev St:=List (Option V)
abbrev VK:=V→Hp→Prop
abbrev TE:=St→Hp→VK→Prop
abbrev TT:=St→Hp→(Bool→Hp→Prop)→Prop
abbrev TA:=St→Hp→(List V→Hp→Prop)→Prop
structure Ends where
 nx:St→Hp→Prop
 rt:VK
 bk:St→Hp→Prop:=fun _ _=>False
 ct:St→Hp→Prop:=fun _ _=>False
abbrev TS:=Ends→St→Hp→Prop
def EP (X:Cx) (pins:List (Addr × Obj)) (σ:St) (Q:VK) (u:Value) (s':Shared):Prop:=∃ v H',Inv X pins σ H' s'∧RelV v u∧Q v H'
def TP (X:Cx) (pins:List (Addr × Obj)) (σ:St) (Q:Bool→Hp→Prop) (b:Bool) (s':Shared):Prop:=∃ H',Inv X pins σ H' s'∧Q b H'
def AP (X:Cx) (pins:List (Addr × Obj)) (σ:St) (Q:List V→Hp→Prop) (us:List Value) (s':Shared):Prop:=∃ vs H',Inv X pins σ H' s'∧Vals vs us∧Q vs H'
def SP (X:Cx) (pins:List (Addr × Obj)) (D:Ends) (f:Flow) (s':Shared):Prop:=
 match f with
 | .next=>∃ σ' H',Inv X pins σ' H' s'∧D.nx σ' H'
 | .brk=>∃ σ' H',Inv X pins σ' H' s'∧D.bk σ' H'
 | .cont=>∃ σ' H',Inv X pins σ' H' s'∧D.ct σ' H'
 | .ret u=>∃ v σ' H',Inv X pins σ' H' s'∧RelV v u∧D.rt v H'
def PE (X:Cx) (e:Expr) (t:TE):Prop:=
 ∀ (pins:List (Addr × Obj)) (s:Shared) (σ:St) (H:Hp) (Q:VK),Inv X pins σ H s→t σ H Q→wpAny (model X.prog X.w) X.A (eval e X.env) (EP X pins σ Q) X.xe s
def PT (X:Cx) (e:Expr) (t:TT):Prop:=
 ∀ (pins:List (Addr × Obj)) (s:Shared) (σ:St) (H:Hp) (Q:Bool→Hp→Prop),Inv X pins σ H s→t σ H Q→wpAny (model X.prog X.w) X.A (isTrue e X.env (eval e X.env)) (TP X pins σ Q) X.xe s
def PW (X:Cx) (e:Expr) (t:TT):Prop:=
 ∀ (whole:Sem Value) (pins:List (Addr × Obj)) (s:Shared) (σ:St) (H:Hp) (Q:Bool→Hp→Prop),Inv X pins σ H s→t σ H Q→wpAny (model X.prog X.w) X.A (isTrue e X.env whole) (TP X pins σ Q) X.xe s
theorem PW.pt {X:Cx} {e:Expr} {t:TT} (h:PW X e t):PT X e t:=h _
def PA (X:Cx) (es:List Expr) (t:TA):Prop:=
 ∀ (pos:Pos) (pins:List (Addr × Obj)) (s:Shared) (σ:St) (H:Hp) (Q:List V→Hp→Prop),Inv X pins σ H s→t σ H Q→wpAny (model X.prog X.w) X.A (spliced (backTo pos (starEach es X.env))) (AP X pins σ Q) X.xe s
def PS (X:Cx) (st:Stmt) (t:TS):Prop:=
 ∀ (pins:List (Addr × Obj)) (s:Shared) (σ:St) (H:Hp) (D:Ends),Inv X pins σ H s→t D σ H→wpAny (model X.prog X.w) X.A (exec st X.env) (SP X pins D) X.xe s
def PSs (X:Cx) (st:List Stmt) (t:TS):Prop:=
 ∀ (pins:List (Addr × Obj)) (s:Shared) (σ:St) (H:Hp) (D:Ends),Inv X pins σ H s→t D σ H→wpAny (model X.prog X.w) X.A (execs st X.env) (SP X pins D) X.xe s
theorem thn {α:Type} {t:Sem α} {Q Q':α→Shared→Prop} {M:Model} {A:Around} {E:Value→Shared→Prop} {s:Shared} (h:wpAny M A t Q E s) (hQ:∀ a s,Q a s→Q' a s):wpAny M A t Q' E s:=wpAny_mono h hQ fun _ _ x=>x
end L2
namespace L2
open PySem PySem.Spec PyProof.Rows
section
variable {X:Cx}
inductive tVarI (i:Nat) (σ:St) (H:Hp) (Q:VK):Prop
 | mk (v:_) (h1:σ[i]? = some (some v)) (h2:Q v H):tVarI i σ H Q
def tVar (i:Nat):TE:=fun σ H Q=>tVarI i σ H Q
def tC (v:V):TE:=fun _ H Q=>Q v H
theorem pe_var {i:Nat} {x:Str} {pos:Pos} (hN:X.N[i]? = some x) (hv:Vis X.env.scope x) (hd:(x==("__debug__" : Str))=false:=by decide) (hcd:(x==("__classdict__" : Str))=false:=by decide):PE X (.Name x pos) (tVar i):=by
 intro pins s σ H Q I h
 obtain ⟨v,e,h⟩:=h
 obtain ⟨m,hn,hl⟩:=I.loc
 obtain ⟨u,r,l⟩:=hl i x v hN e hv
 have fin:EP X pins σ Q u s:=⟨v,H,I,r,h⟩
 rcases l with ⟨hk,hm⟩ | ⟨hk,c,hc,hcell⟩
 ·exact wpAny_Name (wpAny_loadName_local I.ok.kind hk hn hm fin) hd
 ·rcases hk with hk | hk
  ·exact wpAny_Name (wpAny_loadName_cell I.ok.kind hk hc hcell fin) hd
  ·exact wpAny_Name (wpAny_loadName_free I.ok.kind hk hc hcell fin hcd) hd
theorem pe_int {i j pos}:PE X (.Constant (.int i) j pos) (tC (.int i)):=fun _ _ _ H _ I h=>wpAny_Constant_int ⟨.int i,H,I.tok _,⟨_,rfl⟩,h⟩
theorem pe_bl {b j pos}:PE X (.Constant (.bool b) j pos) (tC (.bl b)):=fun _ _ _ H _ I h=>Constant_bool ⟨.bl b,H,I,rfl,h⟩
theorem pe_non {j pos}:PE X (.Constant .none j pos) (tC .non):=fun _ _ _ H _ I h=>Constant_none ⟨.non,H,I,rfl,h⟩
theorem pe_str {x j pos}:PE X (.Constant (.str x) j pos) (tC (.str x)):=fun _ _ _ H _ I h=>Calls.Constant_str ⟨.str x,H,I.tok _,⟨_,rfl⟩,h⟩
def Gl (X:Cx) (x:Str):Prop:=X.env.kindOf x=some .globalImplicit
theorem ld_glob {E:Value→Shared→Prop} {pins:List (Addr × Obj)} {s:Shared} {σ:St} {H:Hp} {x:Str} {u:Value} {pos:Pos} {Q:Value→Shared→Prop} (I:Inv X pins σ H s) (hg:Gl X x) (hm:X.mg x=some u) (h:Q u s)
  (hd:(x==("__debug__" : Str))=false:=by decide):wpAny (model X.prog X.w) X.A (eval (.Name x pos) X.env) Q E s:=
 Calls.Name_function_global I.ok.kind hg (Calls.loadGlobal_global (by rw [I.ok.glob]; exact I.mod.glob.keeps I.bk) hm h) hd
theorem ld_blt {E:Value→Shared→Prop} {pins:List (Addr × Obj)} {s:Shared} {σ:St} {H:Hp} {x:Str} {u:Value} {pos:Pos} {Q:Value→Shared→Prop} (I:Inv X pins σ H s) (hg:Gl X x) (hm:X.mg x=none) (hv:bootBuiltins x=some u) (h:Q u s)
  (hn:x≠"__name__":=by decide) (hd:(x==("__debug__" : Str))=false:=by decide):wpAny (model X.prog X.w) X.A (eval (.Name x pos) X.env) Q E s:=by
 obtain ⟨mb,h1,h2⟩:=I.mod.blt
 exact Calls.Name_function_global I.ok.kind hg (Calls.loadGlobal_builtin (by rw [I.ok.glob]; exact I.mod.glob.keeps I.bk) hm (by rw [I.ok.blt]; exact h1.keeps I.bk) ((h2 x hn).trans hv) h) hd
theorem pe_glob {x:Str} {v:V} {u:Value} {pos:Pos} (hg:Gl X x) (hm:X.mg x=some u) (r:RelV v u) (hd:(x==("__debug__" : Str))=false:=by decide):PE X (.Name x pos) (tC v):=
 fun _ _ _ H _ I h=>ld_glob I hg hm ⟨v,H,I,r,h⟩ hd
theorem pe_bltn {x:Str} {v:V} {u:Value} {pos:Pos} (hg:Gl X x) (hm:X.mg x=none) (hv:bootBuiltins x=some u) (r:RelV v u) (hn:x≠"__name__":=by decide) (hd:(x==("__debug__" : Str))=false:=by decide):PE X (.Name x pos) (tC v):=
 fun _ _ _ H _ I h=>ld_blt I hg hm hv ⟨v,H,I,r,h⟩ hn hd
variable {a b:Expr} {ta tb:TE} {pos:Pos}
variable {tA tB':TT} {rest:List Expr}
def tAnd (t u:TT):TT:=fun σ H Q=>t σ H fun c H1=>if c=true then u σ H1 Q else Q false H1
def tOr (t u:TT):TT:=fun σ H Q=>t σ H fun c H1=>if c=true then Q true H1 else u σ H1 Q
def tNot (t:TT):TT:=fun σ H Q=>t σ H fun c H1=>Q (!c) H1
theorem pw_and1 (ha:PT X a tA):PW X (.BoolOp .And [a] pos) tA:=by
 intro wh pins s σ H Q I h
 refine isTrue_and (thn (ha pins s σ H Q I h) fun c s1 e=>?_)
 cases c with
 | true=>exact isTrue_and_nil e
 | false=>exact e
theorem pw_or1 (ha:PT X a tA):PW X (.BoolOp .Or [a] pos) tA:=by
 intro wh pins s σ H Q I h
 refine isTrue_or (thn (ha pins s σ H Q I h) fun c s1 e=>?_)
 cases c with
 | false=>exact isTrue_or_nil e
 | true=>exact e
theorem pw_and (ha:PT X a tA) (hb:PW X (.BoolOp .And (b :: rest) pos) tB'):PW X (.BoolOp .And (a :: b :: rest) pos) (tAnd tA tB'):=by
 intro wh pins s σ H Q I h
 refine isTrue_and (thn (ha pins s σ H _ I h) fun c s1 ⟨H1,I1,q1⟩=>?_)
 cases c with
 | true=>exact hb wh pins s1 σ H1 Q I1 q1
 | false=>exact ⟨H1,I1,q1⟩
theorem pw_or (ha:PT X a tA) (hb:PW X (.BoolOp .Or (b :: rest) pos) tB'):PW X (.BoolOp .Or (a :: b :: rest) pos) (tOr tA tB'):=by
 intro wh pins s σ H Q I h
 refine isTrue_or (thn (ha pins s σ H _ I h) fun c s1 ⟨H1,I1,q1⟩=>?_)
 cases c with
 | true=>exact ⟨H1,I1,q1⟩
 | false=>exact hb wh pins s1 σ H1 Q I1 q1
theorem pt_not (ha:PT X a tA):PT X (.UnaryOp .Not a pos) (tNot tA):=by
 intro pins s σ H Q I h
 exact isTrue_not (ha pins s σ H (fun c H1=>Q (!c) H1) I h)
inductive tAndVI (tb:TE) (σ:St) (Q:VK) (x:V) (H1:Hp):Prop
 | mk (c:_) (h1:x=.bl c) (h2:if c=true then tb σ H1 Q else Q (.bl false) H1):tAndVI tb σ Q x H1
def tAndV (ta tb:TE):TE:=fun σ H Q=>ta σ H fun x H1=>tAndVI tb σ Q x H1
inductive tOrVI (tb:TE) (σ:St) (Q:VK) (x:V) (H1:Hp):Prop
 | mk (c:_) (h1:x=.bl c) (h2:if c=true then Q (.bl true) H1 else tb σ H1 Q):tOrVI tb σ Q x H1
def tOrV (ta tb:TE):TE:=fun σ H Q=>ta σ H fun x H1=>tOrVI tb σ Q x H1
theorem pe_one {op} {t:TE} (h:PE X a t):PE X (.BoolOp op [a] pos) t:=fun pins s σ H Q I hw=>BoolOp_one (h pins s σ H Q I hw)
theorem pe_and (ha:PE X a ta) (hb:PE X (.BoolOp .And (b :: rest) pos) tb):PE X (.BoolOp .And (a :: b :: rest) pos) (tAndV ta tb):=by
 intro pins s σ H Q I h
 refine BoolOp_and (thn (ha pins s σ H _ I h) fun v s1 ⟨x,H1,I1,r1,q1⟩=>?_)
 obtain ⟨c,rfl,q1⟩:=q1
 cases r1
 refine wpAny_truthy_bool ?_
 cases c with
 | true=>exact hb pins s1 σ H1 Q I1 q1
 | false=>exact ⟨.bl false,H1,I1,rfl,q1⟩
theorem pe_or (ha:PE X a ta) (hb:PE X (.BoolOp .Or (b :: rest) pos) tb):PE X (.BoolOp .Or (a :: b :: rest) pos) (tOrV ta tb):=by
 intro pins s σ H Q I h
 refine BoolOp_or (thn (ha pins s σ H _ I h) fun v s1 ⟨x,H1,I1,r1,q1⟩=>?_)
 obtain ⟨c,rfl,q1⟩:=q1
 cases r1
 refine wpAny_truthy_bool ?_
 cases c with
 | false=>exact hb pins s1 σ H1 Q I1 q1
 | true=>exact ⟨.bl true,H1,I1,rfl,q1⟩
end
end L2
namespace L2
open PySem PySem.Spec PyProof.Rows
def SqL (K:PySem.W.Frag) (H:Hp) (a:Addr) (xs:List V):Prop:=
 Rd H a (.lst xs)∨
  ∃ (o:Obj) (its:Array Value) (n:Nat),K.lookup a=some o∧o.cls=.type "list"∧o.dict=none∧o.data=.seq its n∧its.size≤sizeLine∧Vals xs its.toList
def SqT (K:PySem.W.Frag) (H:Hp) (a:Addr) (xs:List V):Prop:=
 Rd H a (.tup xs)∨
  ∃ (o:Obj) (its:Array Value) (n:Nat),K.lookup a=some o∧o.cls=.type "tuple"∧o.data=.seq its n∧its.size≤sizeLine∧Vals xs its.toList
def absV:Value→Option V
 | .none=>some .non
 | .bool b=>some (.bl b)
 | .int i _=>some (.int i)
 | .str x _=>some (.str x)
 | .bytes b _=>some (.byt b)
 | .float b _=>some (.flt b)
 | .ref a=>some (.ref a)
 | .type n=>some (.ty n)
 | _=>none
theorem RelV.abs {x:V} {u:Value} (r:RelV x u):absV u=some x:=by
 cases x with
 | non=>cases r; rfl
 | bl _=>cases r; rfl
 | int _=>obtain ⟨t,rfl⟩:=r; rfl
 | str _=>obtain ⟨t,rfl⟩:=r; rfl
 | byt _=>obtain ⟨t,rfl⟩:=r; rfl
 | flt _=>obtain ⟨t,rfl⟩:=r; rfl
 | ref _=>cases r; rfl
 | ty _=>cases r; rfl
theorem RelV.inj {x y:V} {u:Value} (r:RelV x u) (q:RelV y u):x=y:=Option.some.inj (r.abs.symm.trans q.abs)
theorem Vals.inj:∀ {xs ys:List V} {us:List Value},Vals xs us→Vals ys us→xs=ys
 | _,_,_,.nil,.nil=>rfl
 | _,_,_,.cons r t,.cons r' t'=>by rw [r.inj r',Vals.inj t t']
section
variable {X:Cx} {pins:List (Addr × Obj)} {σ:St} {H:Hp} {s:Shared} {a:Addr} {xs ys:List V}
theorem SqL.of {K:PySem.W.Frag} (h:H a=some (.lst xs)):SqL K H a xs:=.inl (.inl h)
theorem SqT.of {K:PySem.W.Frag} (h:H a=some (.tup xs)):SqT K H a xs:=.inl (.inl h)
theorem Inv.list (I:Inv X pins σ H s) (h:SqL X.K H a xs):∃ its:List Value,Vals xs its∧PlainL s.heap a its.toArray∧xs.length≤sizeLine:=by
 rcases h with h | ⟨o,its,n,hk,hc,hd,hs,hz,r⟩
 ·obtain ⟨z,its,n,r,e⟩:=h.ok I.hok
  exact ⟨its,r,⟨_,n,e,rfl,rfl,rfl⟩,z⟩
 ·refine ⟨its.toList,r,⟨o,n,I.kIn a o hk,hc,hd,by simpa using hs⟩,?_⟩
  have e:=r.length
  simp only [Array.length_toList] at e
  omega
theorem Inv.tuple (I:Inv X pins σ H s) (h:SqT X.K H a xs):∃ its:List Value,Vals xs its∧IsTup s.heap a its.toArray∧xs.length≤sizeLine:=by
 rcases h with h | ⟨o,its,n,hk,hc,hs,hz,r⟩
 ·obtain ⟨z,its,r,p⟩:=h.ok I.hok
  exact ⟨its,r,p,z⟩
 ·refine ⟨its.toList,r,⟨o,I.kIn a o hk,hc,n,by simpa using hs⟩,?_⟩
  have e:=r.length
  simp only [Array.length_toList] at e
  omega
theorem Inv.list_inj (I:Inv X pins σ H s) (h:SqL X.K H a xs) (h':SqL X.K H a ys):xs=ys:=by
 obtain ⟨its,r,⟨o,n,e,_,_,d⟩,_⟩:=I.list h
 obtain ⟨its',r',⟨o',n',e',_,_,d'⟩,_⟩:=I.list h'
 rw [e] at e'; cases e'
 rw [d] at d'
 injection d' with d1 _
 have:its=its':=by simpa using congrArg Array.toList d1
 subst this
 exact r.inj r'
theorem Inv.tuple_inj (I:Inv X pins σ H s) (h:SqT X.K H a xs) (h':SqT X.K H a ys):xs=ys:=by
 obtain ⟨its,r,⟨o,e,_,n,d⟩,_⟩:=I.tuple h
 obtain ⟨its',r',⟨o',e',_,n',d'⟩,_⟩:=I.tuple h'
 rw [e] at e'; cases e'
 rw [d] at d'
 injection d' with d1 _
 have:its=its':=by simpa using congrArg Array.toList d1
 subst this
 exact r.inj r'
end
abbrev Cx.wish (X:Cx) (E:Value→Shared→Prop):Cx:={ X with xe:=E }
abbrev Cx.nox (X:Cx):Cx:=X.wish fun _ _=>False
theorem Cx.Ok.wish {X:Cx} (ok:X.Ok) (E:Value→Shared→Prop):(X.wish E).Ok:=
 ⟨ok.mod,ok.kind,ok.glob,ok.blt,ok.above,ok.inj,ok.has,ok.cab,ok.hd,ok.frames,ok.stk,ok.exf,ok.bs,ok.bsz,ok.noex,ok.exfs,ok.funs,ok.frf⟩
theorem Cx.Ok.unwish {X:Cx} {E:Value→Shared→Prop} (ok:(X.wish E).Ok):X.Ok:=
 ⟨ok.mod,ok.kind,ok.glob,ok.blt,ok.above,ok.inj,ok.has,ok.cab,ok.hd,ok.frames,ok.stk,ok.exf,ok.bs,ok.bsz,ok.noex,ok.exfs,ok.funs,ok.frf⟩
section
variable {X:Cx} {pins:List (Addr × Obj)} {σ:St} {H:Hp} {s:Shared} {E:Value→Shared→Prop}
theorem Inv.wish (I:Inv X pins σ H s) (E:Value→Shared→Prop):Inv (X.wish E) pins σ H s:=⟨I.ok.wish E,I.os,I.bare,I.base,I.loc,I.cell,I.free,I.freeC,I.pin,I.hok,I.len⟩
theorem Inv.unwish (I:Inv (X.wish E) pins σ H s):Inv X pins σ H s:=⟨I.ok.unwish,I.os,I.bare,I.base,I.loc,I.cell,I.free,I.freeC,I.pin,I.hok,I.len⟩
theorem SP.unwish {D:Ends} {f:Flow} {s':Shared} (h:SP (X.wish E) pins D f s'):SP X pins D f s':=by
 cases f with
 | next=>obtain ⟨σ',H',I,q⟩:=h; exact ⟨σ',H',I.unwish,q⟩
 | brk=>obtain ⟨σ',H',I,q⟩:=h; exact ⟨σ',H',I.unwish,q⟩
 | cont=>obtain ⟨σ',H',I,q⟩:=h; exact ⟨σ',H',I.unwish,q⟩
 | ret u=>obtain ⟨v,σ',H',I,r,q⟩:=h; exact ⟨v,σ',H',I.unwish,r,q⟩
theorem PSs.nox {st:List Stmt} {t:TS} (h:PSs X.nox st t):PSs X st t:=fun pins s σ H D I hw=>
 wpAny_mono (h pins s σ H D (I.wish _) hw) (fun _ _ q=>q.unwish) fun _ _ z=>False.elim z
end
section
variable {X:Cx} {st:Stmt} {rest:List Stmt} {t u:TS} {e:Expr} {te:TE} {pos:Pos}
def tNext:TS:=fun D σ H=>D.nx σ H
def tSeq (t u:TS):TS:=fun D σ H=>t { D with nx:=u D } σ H
theorem pss_nil:PSs X [] tNext:=fun _ _ σ H _ I h=>wpAny_execs_nil ⟨σ,H,I,h⟩
theorem pss_cons (h1:PS X st t) (h2:PSs X rest u):PSs X (st :: rest) (tSeq t u):=by
 intro pins s σ H D I h
 refine wpAny_execs_cons (thn (h1 pins s σ H { D with nx:=u D } I h) fun f s1 q=>?_)
 cases f with
 | next=>
  obtain ⟨σ',H',I',q⟩:=q
  exact h2 pins s1 σ' H' D I' q
 | ret v=>exact q
 | brk=>exact q
 | cont=>exact q
theorem pss_one (h1:PS X st t):PSs X [st] t:=by
 intro pins s σ H D I h
 refine wpAny_execs_cons (thn (h1 pins s σ H D I h) fun f s1 q=>?_)
 cases f with
 | next=>exact wpAny_execs_nil q
 | ret v=>exact q
 | brk=>exact q
 | cont=>exact q
theorem Inv.quiet {pins:List (Addr × Obj)} {σ:St} {H:Hp} {s:Shared} (I:Inv X pins σ H s):interactive X.env=false:=by simp [interactive,I.ok.kind]
def tDrop (te:TE):TS:=fun D σ H=>te σ H fun _ H1=>D.nx σ H1
theorem ps_expr (he:PE X e te) (hs:swapsWith e none pos.line X.env=pure false:=by rfl):PS X (.Expr e pos) (tDrop te):=by
 intro pins s σ H D I h
 exact wpAny_Expr_any (thn (he pins s σ H _ I h) fun v s1 ⟨x,H1,I1,r1,q1⟩=>⟨σ,H1,I1,q1⟩) I.quiet hs
def tRet (te:TE):TS:=fun D σ H=>te σ H D.rt
theorem ps_ret (he:PE X e te):PS X (.Return (some e) pos) (tRet te):=by
 intro pins s σ H D I h
 exact wpAny_Return_some (thn (he pins s σ H _ I h) fun v s1 ⟨x,H1,I1,r1,q1⟩=>⟨x,σ,H1,I1,r1,q1⟩)
def tIfS (c:TT) (t u:TS):TS:=fun D σ H=>c σ H fun b H1=>if b=true then t D σ H1 else u D σ H1
theorem ps_if {c:Expr} {a b:List Stmt} {tc:TT} (hc:PT X c tc) (ha:PSs X a t) (hb:PSs X b u):PS X (.If c a b pos) (tIfS tc t u):=by
 intro pins s σ H D I h
 refine wpAny_If (thn (hc pins s σ H _ I h) fun d s1 ⟨H1,I1,q1⟩=>?_)
 cases d with
 | true=>exact ha pins s1 σ H1 D I1 q1
 | false=>exact hb pins s1 σ H1 D I1 q1
end
abbrev TG:=V→St→Hp→(St→Hp→Prop)→Prop
abbrev TGs:=List V→St→Hp→(St→Hp→Prop)→Prop
def PG (X:Cx) (target:Expr) (t:TG):Prop:=
 ∀ (pins:List (Addr × Obj)) (s:Shared) (σ:St) (H:Hp) (v:V) (u:Value) (Q:St→Hp→Prop),Inv X pins σ H s→RelV v u→t v σ H Q→
  wpAny (model X.prog X.w) X.A (assign target X.env u) (fun _ s'=>∃ σ' H',Inv X pins σ' H' s'∧Q σ' H') X.xe s
def PGs (X:Cx) (ts:List Expr) (t:TGs):Prop:=
 ∀ (pins:List (Addr × Obj)) (s:Shared) (σ:St) (H:Hp) (vs:List V) (us:List Value) (Q:St→Hp→Prop),Inv X pins σ H s→Vals vs us→t vs σ H Q→
  wpAny (model X.prog X.w) X.A (assignInOrder ((assignEach ts X.env).map (·.2)) us) (fun _ s'=>∃ σ' H',Inv X pins σ' H' s'∧Q σ' H') X.xe s
abbrev TSet:=V→V→V→Hp→(Hp→Prop)→Prop
def PSet (X:Cx) (t:TSet):Prop:=
 ∀ (pins:List (Addr × Obj)) (s:Shared) (σ:St) (H:Hp) (o i v:V) (ov iv u:Value) (Q:Hp→Prop),Inv X pins σ H s→RelV o ov→RelV i iv→RelV v u→t o i v H Q→
  wpAny (model X.prog X.w) X.A (setItem ov iv u) (fun _ s'=>∃ H',Inv X pins σ H' s'∧Q H') X.xe s
section
variable {X:Cx} {pos:Pos}
def gName (i:Nat):TG:=fun v σ H Q=>Q (σ.set i (some v)) H
theorem pg_name {i:Nat} {x:Str} (hN:X.N.Nodup) (hi:X.N[i]? = some x) (hx:Loc X.env.scope x) (hf:X.fn x=true∨X.env.scope.names.lookup x=some .local:=by first | exact .inl rfl | exact .inr rfl | assumption):PG X (.Name x pos) (gName i):=by
 intro pins s σ H v u Q I r h
 exact wpAny_assign_Name (store_ok I hN hi hx r (fun s' I'=>⟨_,H,I',h⟩) hf)
def gNil:TGs:=fun vs σ H Q=>vs=[]∧Q σ H
inductive gConsI (t:TG) (u:TGs) (vs:List V) (σ:St) (H:Hp) (Q:St→Hp→Prop):Prop
 | mk (v r:_) (h1:vs=v :: r) (h2:t v σ H fun σ' H'=>u r σ' H' Q):gConsI t u vs σ H Q
def gCons (t:TG) (u:TGs):TGs:=fun vs σ H Q=>gConsI t u vs σ H Q
theorem pgs_nil:PGs X [] gNil:=by
 intro pins s σ H vs us Q I r h
 obtain ⟨e,h⟩:=h
 subst e
 cases r
 exact assignInOrder_nil ⟨σ,H,I,h⟩
theorem pgs_cons {e:Expr} {es:List Expr} {t:TG} {u:TGs} (h1:PG X e t) (h2:PGs X es u)
  (hs:(assignEach (e :: es) X.env).map (·.2)=assign e X.env :: (assignEach es X.env).map (·.2):=by rfl):PGs X (e :: es) (gCons t u):=by
 intro pins s σ H vs us Q I r h
 obtain ⟨v,vr,e1,h⟩:=h
 subst e1
 cases r with
 | cons r rr=>
  rw [hs]
  refine assignInOrder_cons (thn (h1 pins s σ H _ _ _ I r h) fun _ s1 ⟨σ1,H1,I1,q1⟩=>?_)
  exact h2 pins s1 σ1 H1 _ _ Q I1 rr q1
inductive gTupI (K:PySem.W.Frag) (n:Nat) (t:TGs) (v:V) (σ:St) (H:Hp) (Q:St→Hp→Prop):Prop
 | mk (a xs:_) (h1:v=.ref a) (h2:SqT K H a xs) (h3:xs.length=n) (h4:t xs σ H Q):gTupI K n t v σ H Q
def gTup (K:PySem.W.Frag) (n:Nat) (t:TGs):TG:=fun v σ H Q=>gTupI K n t v σ H Q
theorem pg_tup {es:List Expr} {k:Nat} {t:TGs} {n:Nat} (hc:X.calm=true) (h:PGs X es t)
  (hn:(assignEach es X.env).length=n:=by rfl) (hst:(assignEach es X.env).findIdx? (·.1)=none:=by rfl):PG X (.Tuple es k pos) (gTup X.K n t):=by
 intro pins s σ H v u Q I r hw
 obtain ⟨a,xs,e1,hq,hl,hw⟩:=hw
 subst e1
 cases r
 obtain ⟨its,rv,ht,hz⟩:=I.tuple hq
 refine assign_Tuple_tuple (I.ok.hd hc) ht (by simp [hn,← hl,rv.length]) hst fun h' hx=>?_
 have I1:Inv X pins σ H { s with heap:=h' }:=I.kept (t':=s.toks) fun b o e=>hx b o (Nat.ne_of_lt (Heap.lt_size e)) e
 exact h pins _ σ H xs _ Q I1 (by simpa using rv) hw
def gSub (to ti:TE) (t:TSet):TG:=fun v σ H Q=>to σ H fun o H1=>ti σ H1 fun i H2=>t o i v H2 fun H3=>Q σ H3
theorem pg_sub {o i:Expr} {to ti:TE} {t:TSet} (ho:PE X o to) (hi:PE X i ti) (hs:PSet X t)
  (ha:∀ v,assign (.Subscript o i pos) X.env v=(do
   let ov ← holding [v] (eval o X.env)
   let iv ← holding [v,ov] (eval i X.env)
   standAt pos
   holding [v,ov,iv] (setItem ov iv v)
   release [v,ov,iv] []):=by intro _; rfl):PG X (.Subscript o i pos) (gSub to ti t):=by
 intro pins s σ H v u Q I r h
 rw [ha]
 refine wpAny_bind (wpAny_holding (thn (ho pins s σ H _ I h) fun ov s1 ⟨x,H1,I1,r1,q1⟩=>?_))
 refine wpAny_bind (wpAny_holding (thn (hi pins s1 σ H1 _ I1 q1) fun iv s2 ⟨y,H2,I2,r2,q2⟩=>?_))
 refine wpAny_bind (wpAny_standAt (wpAny_bind (wpAny_holding (thn (hs pins s2 σ H2 x y v ov iv u _ I2 r1 r2 r q2) fun _ s3 ⟨H3,I3,q3⟩=>?_))))
 exact wpAny_release ⟨σ,H3,I3,q3⟩
def tAsg (te:TE) (g:TG):TS:=fun D σ H=>te σ H fun x H1=>g x σ H1 D.nx
theorem ps_asg {tg e:Expr} {te:TE} {g:TG} (he:PE X e te) (hg:PG X tg g) (hs:swapsWithSole [tg] e pos.line X.env=pure false:=by rfl) (hw:swappedStores [tg] e X.env=pure none:=by rfl)
  (h1:(assignEach [tg] X.env).map (·.2)=[assign tg X.env]:=by rfl):PS X (.Assign [tg] e pos) (tAsg te g):=by
 intro pins s σ H D I h
 refine wpAny_Assign_stores (thn (he pins s σ H _ I h) fun v s1 ⟨x,H1,I1,r1,q1⟩=>?_) hs hw
 rw [h1]
 exact thn (hg pins s1 σ H1 x v _ I1 r1 q1) fun _ s2 q=>q
theorem ps_set {i:Nat} {x:Str} {e:Expr} {te:TE} {pos':Pos} (hN:X.N.Nodup) (hi:X.N[i]? = some x) (hx:Loc X.env.scope x) (he:PE X e te) (hs:swapsWith e (some (.Name x pos')) pos.line X.env=pure false:=by rfl) (hf:X.fn x=true∨X.env.scope.names.lookup x=some .local:=by first | exact .inl rfl | exact .inr rfl | assumption) :
  PS X (.Assign [.Name x pos'] e pos) (tAsg te (gName i)):=by
 intro pins s σ H D I h
 refine wpAny_Assign_Name (thn (he pins s σ H _ I h) fun v s1 ⟨y,H1,I1,r1,q1⟩=>?_) hs
 exact store_ok I1 hN hi hx r1 (fun s2 I2=>⟨_,H1,I2,q1⟩) hf
end
section
variable {X:Cx} {pos:Pos}
end
structure It where
 go:Nat→Hp→Prop
 yld:Nat→Hp→V→Hp→Prop
 stop:Nat→Hp→Prop
def FpOk (X:Cx) (pins:List (Addr × Obj)) (H:Hp) (b:Addr):Prop:=
 H b=none∧b≠X.env.locals∧b∉X.fs∧(b∈X.ex∨X.s₀.heap.objs.size≤b)∧(∀ x c,X.env.cells.lookup x=some c→c≠b)∧∀ p∈X.pn ++ pins,p.1≠b
theorem Inv.fpOk {X:Cx} {pins:List (Addr × Obj)} {σ:St} {H H':Hp} {s:Shared} {b:Addr} (I:Inv X pins σ H s) (hb:s.heap.objs.size≤b) (hn:H' b=none):FpOk X pins H' b:=by
 refine ⟨hn,Nat.ne_of_gt (Nat.lt_of_lt_of_le I.lt hb),I.nofs hb,.inr (Nat.le_trans I.sz hb),fun x c e z=>?_,fun p hp z=>?_⟩
 ·obtain ⟨v,q⟩:=I.cell x c e
  exact absurd (Nat.lt_of_lt_of_le q.lt (by rw [z]; exact hb)) (Nat.lt_irrefl _)
 ·exact absurd (Nat.lt_of_lt_of_le (Heap.lt_size (I.pin p hp).1) (by rw [z]; exact hb)) (Nat.lt_irrefl _)
structure Turn (P:Program) (w:World) (K:PySem.W.Frag) (tg:Expr) (J:It) (fp:List Addr) (it:Addr) (tn:Nat→Heap→Prop):Prop where
 mem:it∈fp
 obj:∀ i h,tn i h→∀ b∈fp,∃ o,h.get? b=some o∧∀ v,o.data≠.cell v
 keep:∀ i h h',tn i h→(∀ b∈fp,∀ o,h.get? b=some o→h'.get? b=some o)→tn i h'
 item:∀ (X:Cx),X.prog=P→X.w=w→X.K=K→X.calm=true→∀ (i:Nat) (pins:List (Addr × Obj)) (s:Shared) (σ:St) (H:Hp) (E:Value→Shared→Prop),Inv X pins σ H s→(∀ b∈fp,FpOk X pins H b)→tn i s.heap→J.go i H→
  wpAny (model P w) X.A (pyNext (.ref it)) (fun r s1=>∃ u,r=some u∧
   wpAny (model P w) X.A (letOwnedTupleGo tg (.ref it) u) (fun _ s2=>∃ x H',Inv X pins σ H' s2∧RelV x u∧J.yld i H x H'∧tn (i+1) s2.heap∧∀ b∈fp,H' b=none) E s1) E s
 done:∀ (X:Cx),X.prog=P→X.w=w→X.K=K→X.calm=true→∀ (i:Nat) (pins:List (Addr × Obj)) (s:Shared) (σ:St) (H:Hp) (E:Value→Shared→Prop),Inv X pins σ H s→(∀ b∈fp,FpOk X pins H b)→tn i s.heap→J.stop i H→
  wpAny (model P w) X.A (pyNext (.ref it)) (fun r s1=>r=none∧Inv X pins σ H s1) E s
 self:∀ (A:Around) (i:Nat) (s:Shared) (Q:Value→Shared→Prop) (E:Value→Shared→Prop),tn i s.heap→Q (.ref it) s→wpAny (model P w) A (pyIter (.ref it)) Q E s
abbrev TI:=St→Hp→(It→Hp→Prop)→Prop
def PIE (X:Cx) (pins:List (Addr × Obj)) (σ:St) (tg:Expr) (R:It→Hp→Prop) (itv:Value) (s2:Shared):Prop:=
 ∃ (it:Addr) (fp:List Addr) (tn:Nat→Heap→Prop) (J:It) (H':Hp),itv=.ref it∧Inv X pins σ H' s2∧Turn X.prog X.w X.K tg J fp it tn∧tn 0 s2.heap∧(∀ b∈fp,FpOk X pins H' b)∧R J H'
def PI (X:Cx) (tg iter:Expr) (wi:TI):Prop:=
 ∀ (pins:List (Addr × Obj)) (s:Shared) (σ:St) (H:Hp) (R:It→Hp→Prop),Inv X pins σ H s→wi σ H R→
  wpAny (model X.prog X.w) X.A (eval iter X.env) (fun v s1=>wpAny (model X.prog X.w) X.A (pyIter v) (PIE X pins σ tg R) X.xe s1) X.xe s
theorem go_of {M:Model} {A:Around} {E:Value→Shared→Prop} {s:Shared} {tg:Expr} {it:Addr} {u:Value} {o:Obj} {n:String} {vs:Array Value} {Q:Unit→Shared→Prop} (ho:s.heap.get? it=some o) (hc:o.cls=.type n) (hd:o.data=.fields vs)
  (hn:["enumerate","zip","dict_itemiterator","dict_reverseitemiterator","odict_iterator","itertools.zip_longest","itertools.pairwise"].contains n=false) (hQ:Q () s):wpAny M A (letOwnedTupleGo tg (.ref it) u) Q E s:=by
 unfold letOwnedTupleGo
 cases tg <;> first
  | exact wpAny_pure hQ
  | (cases u <;> first
    | exact wpAny_pure hQ
    | (refine wpAny_bind (wpAny_load ho ?_)
       rw [hc,hd]
       show wpAny M A (if (["enumerate","zip","dict_itemiterator","dict_reverseitemiterator","odict_iterator","itertools.zip_longest","itertools.pairwise"].contains n && vs[0]? == some (rawInt _))=true then _ else _) Q E s
       rw [if_neg (by intro h; rw [hn,Bool.false_and] at h; cases h)]
       exact wpAny_pure hQ))
def Itl (K:PySem.W.Frag) (a:Addr):It:=
 ⟨fun i H=>∃ xs x,SqL K H a xs∧xs[i]? = some x,fun i H x H'=>H'=H∧∀ xs,SqL K H a xs→xs[i]? = some x,fun i H=>∃ xs,SqL K H a xs∧xs.length≤i⟩
def Itt (K:PySem.W.Frag) (a:Addr):It:=
 ⟨fun i H=>∃ xs x,SqT K H a xs∧xs[i]? = some x,fun i H x H'=>H'=H∧∀ xs,SqT K H a xs→xs[i]? = some x,fun i H=>∃ xs,SqT K H a xs∧xs.length≤i⟩
def Itr (lo:Int) (n:Nat):It:=⟨fun i _=>i < n,fun i H x H'=>H'=H∧x=.int (lo+i),fun i _=>n≤i⟩
theorem turn_list {P:Program} {w:World} {K:PySem.W.Frag} {tg:Expr} (a it:Addr):Turn P w K tg (Itl K a) [it] it (fun i h=>h.IsListIter it a i) where
 mem:=by simp
 obj:=fun i h st b hb=>by
  have e:b=it:=by simpa using hb
  subst e
  obtain ⟨o,e,c,d⟩:=st
  exact ⟨o,e,fun v z=>by rw [d] at z; cases z⟩
 keep:=fun i h h' st k=>st.at fun o e=>k it (by simp) o e
 item:=by
  intro X hP hw hK hc i pins s σ H E I hf st hg
  subst hP hw hK
  obtain ⟨xs,x,hq,hx⟩:=hg
  obtain ⟨its,rv,p,hz⟩:=I.list hq
  obtain ⟨u,hu,ru⟩:=rv.get hx
  obtain ⟨f0,f1,f2,f3,f4,f5⟩:=hf it (by simp)
  refine wpAny_pyNext_list_item st p.isList (x:=u) (by simpa using hu) fun h' st' sb=>?_
  have I1:Inv X pins σ H { s with heap:=h' }:=I.turned (t':=s.toks) (fun b o hb e=>(sb.2 b hb).trans e) f0 f1 f3 f4 f5
  obtain ⟨o,e,c,d⟩:=id st'
  exact ⟨u,rfl,go_of (s:={ s with heap:=h' }) e c d (by decide) ⟨x,H,I1,ru,⟨rfl,fun ys hy=>by rw [I.list_inj hy hq]; exact hx⟩,st',fun b hb=>(hf b hb).1⟩⟩
 done:=by
  intro X hP hw hK hc i pins s σ H E I hf st hg
  subst hP hw hK
  obtain ⟨xs,hq,hx⟩:=hg
  obtain ⟨its,rv,p,hz⟩:=I.list hq
  obtain ⟨f0,f1,f2,f3,f4,f5⟩:=hf it (by simp)
  have hl:=rv.length
  exact wpAny_pyNext_list_end (I.ok.hd hc) st p.isList (by simp; omega) fun h' eb=>⟨rfl,I.turned (t':=s.toks) (fun b o hb e=>eb b o hb e) f0 f1 f3 f4 f5⟩
 self:=fun _ _ _ _ _ st h=>wpAny_pyIter_listiter st h
theorem turn_tuple {P:Program} {w:World} {K:PySem.W.Frag} {tg:Expr} (a it:Addr):Turn P w K tg (Itt K a) [it] it (fun i h=>h.IsTupleIter it a i) where
 mem:=by simp
 obj:=fun i h st b hb=>by
  have e:b=it:=by simpa using hb
  subst e
  obtain ⟨o,e,c,d⟩:=st
  exact ⟨o,e,fun v z=>by rw [d] at z; cases z⟩
 keep:=fun i h h' st k=>st.at fun o e=>k it (by simp) o e
 item:=by
  intro X hP hw hK hc i pins s σ H E I hf st hg
  subst hP hw hK
  obtain ⟨xs,x,hq,hx⟩:=hg
  obtain ⟨its,rv,p,hz⟩:=I.tuple hq
  obtain ⟨u,hu,ru⟩:=rv.get hx
  obtain ⟨f0,f1,f2,f3,f4,f5⟩:=hf it (by simp)
  refine wpAny_pyNext_tuple_item st (show s.heap.IsTuple a its.toArray from p) (x:=u) (by simpa using hu) fun h' st' sb=>?_
  have I1:Inv X pins σ H { s with heap:=h' }:=I.turned (t':=s.toks) (fun b o hb e=>(sb.2 b hb).trans e) f0 f1 f3 f4 f5
  obtain ⟨o,e,c,d⟩:=id st'
  exact ⟨u,rfl,go_of (s:={ s with heap:=h' }) e c d (by decide) ⟨x,H,I1,ru,⟨rfl,fun ys hy=>by rw [I.tuple_inj hy hq]; exact hx⟩,st',fun b hb=>(hf b hb).1⟩⟩
 done:=by
  intro X hP hw hK hc i pins s σ H E I hf st hg
  subst hP hw hK
  obtain ⟨xs,hq,hx⟩:=hg
  obtain ⟨its,rv,p,hz⟩:=I.tuple hq
  obtain ⟨f0,f1,f2,f3,f4,f5⟩:=hf it (by simp)
  have hl:=rv.length
  exact wpAny_pyNext_tuple_end (I.ok.hd hc) st (show s.heap.IsTuple a its.toArray from p) (by simp; omega) fun h' eb=>⟨rfl,I.turned (t':=s.toks) (fun b o hb e=>eb b o hb e) f0 f1 f3 f4 f5⟩
 self:=fun _ _ _ _ _ st h=>wpAny_pyIter_tupleiter st h
theorem turn_range {P:Program} {w:World} {K:PySem.W.Frag} {tg:Expr} (it:Addr) (lo:Int) (n:Nat):Turn P w K tg (Itr lo n) [it] it (fun i h=>IsRangeIter h it (lo+(i:Nat) * 1) ((n:Int) - (i:Nat)) 1) where
 mem:=by simp
 obj:=fun i h st b hb=>by
  have e:b=it:=by simpa using hb
  subst e
  exact ⟨_,st,fun v z=>by
   have z':Data.fields _=Data.cell v:=z
   cases z'⟩
 keep:=fun i h h' st k=>k it (by simp) _ st
 item:=by
  intro X hP hw hK hc i pins s σ H E I hf st hg
  subst hP hw hK
  obtain ⟨f0,f1,f2,f3,f4,f5⟩:=hf it (by simp)
  have W:=Walks.range (prog:=X.prog) (w:=X.w) (I.ok.hd hc) it lo 1 n
  refine W.item i s _ _ hg st fun v h' tk hv st' kk=>?_
  obtain ⟨t,rfl⟩:=hv
  have I1:Inv X pins σ H { s with heap:=h',toks:=tk }:=I.turned (fun b o hb e=>kk b o (by simpa using hb) e) f0 f1 f3 f4 f5
  refine ⟨_,rfl,go_of (s:={ s with heap:=h',toks:=tk }) (n:="range_iterator") st' rfl rfl (by decide) ⟨.int (lo+i),H,I1,⟨t,?_⟩,⟨rfl,rfl⟩,st',fun b hb=>(hf b hb).1⟩⟩
  rw [Int.mul_one]
 done:=by
  intro X hP hw hK hc i pins s σ H E I hf st hg
  subst hP hw hK
  obtain ⟨f0,f1,f2,f3,f4,f5⟩:=hf it (by simp)
  exact wpAny_pyNext_range_end (I.ok.hd hc) st (by have:n≤i:=hg; omega) fun h' eb=>⟨rfl,I.turned (t':=s.toks) (fun b o hb e=>eb b o hb e) f0 f1 f3 f4 f5⟩
 self:=fun _ _ _ _ _ st h=>wpAny_pyIter_rangeiter st h
end L2
namespace L2
open PySem PySem.Spec PyProof.Rows
section
variable {X:Cx} {tg:Expr}
inductive iListI (K:PySem.W.Frag) (R:It→Hp→Prop) (x:V) (H1:Hp):Prop
 | mk (a:_) (h1:x=.ref a) (h2:(∃ xs,SqL K H1 a xs)) (h3:R (Itl K a) H1):iListI K R x H1
def iList (K:PySem.W.Frag) (tl:TE):TI:=fun σ H R=>tl σ H fun x H1=>iListI K R x H1
inductive iTupI (K:PySem.W.Frag) (R:It→Hp→Prop) (x:V) (H1:Hp):Prop
 | mk (a:_) (h1:x=.ref a) (h2:(∃ xs,SqT K H1 a xs)) (h3:R (Itt K a) H1):iTupI K R x H1
def iTup (K:PySem.W.Frag) (tl:TE):TI:=fun σ H R=>tl σ H fun x H1=>iTupI K R x H1
theorem pi_list {l:Expr} {tl:TE} (hl:PE X l tl):PI X tg l (iList X.K tl):=by
 intro pins s σ H R I h
 refine thn (hl pins s σ H _ I h) fun v s1 ⟨x,H1,I1,r1,q1⟩=>?_
 obtain ⟨a,e,⟨xs,hq⟩,q⟩:=q1
 subst e
 cases r1
 obtain ⟨its,rv,p,hz⟩:=I1.list hq
 refine wpAny_pyIter_list p.isList ?_
 refine ⟨s1.heap.objs.size,[s1.heap.objs.size],_,_,H1,rfl,I1.kept (t':=s1.toks) fun b o e=>Heap.get?_push_of_some _ e,turn_list a _,⟨_,Heap.get?_push_size _ rfl,rfl,rfl⟩,fun b hb=>?_,q⟩
 have e:b=s1.heap.objs.size:=by simpa using hb
 subst e
 exact I1.fpOk (Nat.le_refl _) (I1.hok.fresh (Nat.le_refl _))
theorem pi_tup {l:Expr} {tl:TE} (hl:PE X l tl):PI X tg l (iTup X.K tl):=by
 intro pins s σ H R I h
 refine thn (hl pins s σ H _ I h) fun v s1 ⟨x,H1,I1,r1,q1⟩=>?_
 obtain ⟨a,e,⟨xs,hq⟩,q⟩:=q1
 subst e
 cases r1
 obtain ⟨its,rv,p,hz⟩:=I1.tuple hq
 refine wpAny_pyIter_tuple (show s1.heap.IsTuple a its.toArray from p) ?_
 refine ⟨s1.heap.objs.size,[s1.heap.objs.size],_,_,H1,rfl,I1.kept (t':=s1.toks) fun b o e=>Heap.get?_push_of_some _ e,turn_tuple a _,⟨_,Heap.get?_push_size _ rfl,rfl,rfl⟩,fun b hb=>?_,q⟩
 have e:b=s1.heap.objs.size:=by simpa using hb
 subst e
 exact I1.fpOk (Nat.le_refl _) (I1.hok.fresh (Nat.le_refl _))
theorem range_it {pins:List (Addr × Obj)} {σ:St} {H:Hp} {s:Shared} {R:It→Hp→Prop} {E:Value→Shared→Prop} {lo hi:Int} {t u v:Tok} {tk:Nat} (I:Inv X pins σ H s) (h1 : -(2 ^ 62)≤lo) (h2:lo < 2 ^ 62) (h3 : -(2 ^ 62)≤hi) (h4:hi < 2 ^ 62)
  (q:R (Itr lo (hi - lo).toNat) H):wpAny (model X.prog X.w) X.A (pyIter (.ref s.heap.objs.size)) (PIE X pins σ tg R) E { s with heap:=s.heap.push { cls:=.type "range",data:=.fields #[.int lo t,.int hi u,.int 1 v] },toks:=tk }:=by
 refine wpAny_pyIter_range (IsRange.new ..) (small_one h1 h2 h3 h4) ?_
 have I1:Inv X pins σ H { s with heap:=s.heap.push { cls:=.type "range",data:=.fields #[.int lo t,.int hi u,.int 1 v] },toks:=tk }:=I.kept fun b o e=>Heap.get?_push_of_some _ e
 refine ⟨(s.heap.push { cls:=.type "range",data:=.fields #[.int lo t,.int hi u,.int 1 v] }).objs.size,[(s.heap.push { cls:=.type "range",data:=.fields #[.int lo t,.int hi u,.int 1 v] }).objs.size],_,_,H,rfl,
  I1.kept (t':=tk) fun b o e=>Heap.get?_push_of_some _ e,turn_range _ lo (hi - lo).toNat,?_,fun b hb=>?_,q⟩
 ·have e1:lo+((0:Nat):Int) * 1=lo:=by simp
  have e2:(((hi - lo).toNat:Nat):Int) - ((0:Nat):Int)=Builtin.Range.rangeSize lo hi 1:=by rw [rangeSize_one]; split <;> omega
  show IsRangeIter _ _ (lo+((0:Nat):Int) * 1) ((((hi - lo).toNat:Nat):Int) - ((0:Nat):Int)) 1
  rw [e1,e2]
  exact Heap.get?_push_size _ rfl
 ·have e:b=(s.heap.push { cls:=.type "range",data:=.fields #[.int lo t,.int hi u,.int 1 v] }).objs.size:=by simpa using hb
  subst e
  exact I1.fpOk (Nat.le_refl _) (I1.hok.fresh (Nat.le_refl _))
inductive iRng1I (R:It→Hp→Prop) (vs:List V) (H1:Hp):Prop
 | mk (j:Int) (h1:vs=[.int j]) (h2 : -(2 ^ 62)≤j) (h3:j < 2 ^ 62) (h4:R (Itr 0 j.toNat) H1):iRng1I R vs H1
def iRng1 (ta:TA):TI:=fun σ H R=>ta σ H fun vs H1=>iRng1I R vs H1
inductive iRng2I (R:It→Hp→Prop) (vs:List V) (H1:Hp):Prop
 | mk (i j:Int) (h1:vs=[.int i,.int j]) (h2:(-(2 ^ 62)≤i∧i < 2 ^ 62∧-(2 ^ 62)≤j∧j < 2 ^ 62)) (h3:R (Itr i (j - i).toNat) H1):iRng2I R vs H1
def iRng2 (ta:TA):TI:=fun σ H R=>ta σ H fun vs H1=>iRng2I R vs H1
theorem pi_range1 {a:Expr} {ta:TA} {p pos:Pos} (hg:Gl X "range") (hm:X.mg "range" = none) (ha:PA X [a] ta) (hs:starEach [a] X.env=[(false,eval a X.env)]:=by rfl):PI X tg (.Call (.Name "range" p) [a] [] pos) (iRng1 ta):=by
 intro pins s σ H R I h
 refine Call_ (ld_blt I hg hm boot_range (PyProof.Rows.callWith_type1 (thn (ha pos pins s σ H _ I h) fun us s1 ⟨vs,H1,I1,r1,q1⟩=>?_) hs rfl))
 obtain ⟨j,e,q1,q2,q⟩:=q1
 subst e
 cases r1 with
 | cons r rr=>
  cases rr
  obtain ⟨t,rfl⟩:=r
  exact call_range_1 (range_it I1 (by omega) (by omega) q1 q2 (by simpa using q))
theorem pi_range2 {a b:Expr} {ta:TA} {p pos:Pos} (hg:Gl X "range") (hm:X.mg "range" = none) (ha:PA X [a,b] ta) (hs:starEach [a,b] X.env=[(false,eval a X.env),(false,eval b X.env)]:=by rfl) (hs2:starEach [b] X.env=[(false,eval b X.env)]:=by rfl) :
  PI X tg (.Call (.Name "range" p) [a,b] [] pos) (iRng2 ta):=by
 intro pins s σ H R I h
 refine Call_ (ld_blt I hg hm boot_range (PyProof.Rows.callWith_type1 (thn (ha pos pins s σ H _ I h) fun us s1 ⟨vs,H1,I1,r1,q1⟩=>?_) (by rw [hs,hs2]) (by rw [hs2]; rfl)))
 obtain ⟨i,j,e,⟨q1,q2,q3,q4⟩,q⟩:=q1
 subst e
 cases r1 with
 | cons r rr=>
  cases rr with
  | cons r' rr=>
   cases rr
   obtain ⟨t,rfl⟩:=r
   obtain ⟨t',rfl⟩:=r'
   exact call_range_2 (range_it I1 q1 q2 q3 q4 q)
def tFor (wi:TI) (g:TG) (tb:TS):TS:=fun D σ H=>wi σ H fun J H1=>∃ W:Nat→Nat→St→Hp→Prop,(∃ m,W 0 m σ H1)∧∀ i m σ H,W i m σ H→
 (J.stop i H∧D.nx σ H)∨(J.go i H∧∃ N:St→Hp→Prop,(∀ σ' H',N σ' H'→∃ m',m' < m∧W (i+1) m' σ' H')∧∀ x H',J.yld i H x H'→g x σ H' fun σ2 H2=>tb { D with nx:=N,ct:=N,bk:=D.nx } σ2 H2)
def pinsAt (fp:List Addr) (h:Heap):List (Addr × Obj):=fp.filterMap fun b=>(h.get? b).map fun o=>(b,o)
theorem mem_pinsAt {fp:List Addr} {h:Heap} {b:Addr} {o:Obj} (hb:b∈fp) (e:h.get? b=some o):(b,o)∈pinsAt fp h:=List.mem_filterMap.mpr ⟨b,hb,by rw [e]; rfl⟩
theorem of_pinsAt {fp:List Addr} {h:Heap} {p:Addr × Obj} (hp:p∈pinsAt fp h):p.1∈fp∧h.get? p.1=some p.2:=by
 obtain ⟨b,hb,e⟩:=List.mem_filterMap.mp hp
 cases q:h.get? b with
 | none=>rw [q] at e; cases e
 | some o=>
  rw [q] at e
  have e':(b,o)=p:=Option.some.inj e
  subst e'
  exact ⟨hb,q⟩
theorem Inv.pinned {pins:List (Addr × Obj)} {σ:St} {H:Hp} {s:Shared} {fp:List Addr} (I:Inv X pins σ H s) (hf:∀ b∈fp,FpOk X pins H b) (ho:∀ b∈fp,∃ o,s.heap.get? b=some o∧∀ v,o.data≠.cell v):Inv X (pins ++ pinsAt fp s.heap) σ H s:=
 I.pins_of fun p hp=>(List.mem_append.mp hp).elim (fun z=>I.pin p (List.mem_append_right _ z)) fun z=>by
  obtain ⟨hb,e⟩:=of_pinsAt z
  obtain ⟨f0,f1,f2,_⟩:=hf p.1 hb
  obtain ⟨o,e',d⟩:=ho p.1 hb
  rw [e] at e'; cases e'
  exact ⟨e,f0,f1,f2,d⟩
theorem Inv.unpinned {pins pl:List (Addr × Obj)} {σ:St} {H:Hp} {s:Shared} (I:Inv X (pins ++ pl) σ H s):Inv X pins σ H s:=I.pins_of fun p hp=>I.pin p (List.mem_append_right _ (List.mem_append_left _ hp))
theorem ps_for {iter:Expr} {body:List Stmt} {wi:TI} {g:TG} {tb:TS} {pos:Pos} (hp:PassesOwn (model X.prog X.w) X.A X.env X.xe) (hc:X.calm=true) (hi:PI X tg iter wi) (hg:PG X tg g) (hb:PSs X body tb)
  (hs:∀ x,foldedSetIterable iter X.env x=pure x:=by intro _; rfl):PS X (.For tg iter body [] pos) (tFor wi g tb):=by
 intro pins s σ H D I h
 refine wpAny_For (thn (hi pins s σ H _ I h) fun v s1 h1=>thn h1 fun itv s2 h2=>?_) hs
 obtain ⟨it,fp,tn,J,H2,e,I2,T,st2,f2,W,⟨m0,w0⟩,turn⟩:=h2
 subst e
 have stat:∀ {H':Hp},(∀ b∈fp,H' b=none)→∀ b∈fp,FpOk X pins H' b:=fun hn b hb=>⟨hn b hb,(f2 b hb).2⟩
 refine codeAny_forLoop_any (fun n s'=>∃ i σ' H',Inv X pins σ' H' s'∧tn i s'.heap∧(∀ b∈fp,H' b=none)∧W i n σ' H') ?_ m0 ⟨0,σ,H2,I2,st2,fun b hb=>(f2 b hb).1,w0⟩
 rintro n s3 ⟨i,σ3,H3,I3,st3,fr3,w3⟩
 rcases turn i n σ3 H3 w3 with ⟨stop,qn⟩ | ⟨go,N,hN,step⟩
 ·refine wpAny_passesOwn hp (thn (T.done X rfl rfl rfl hc i pins s3 σ3 H3 X.xe I3 (stat fr3) st3 stop) fun r s4 ⟨hr,I4⟩=>?_)
  subst hr
  exact wpAny_execs_nil ⟨σ3,H3,I4,qn⟩
 ·refine wpAny_passesOwn hp (thn (T.item X rfl rfl rfl hc i pins s3 σ3 H3 X.xe I3 (stat fr3) st3 go) fun r s4 ⟨u,hr,h4⟩=>?_)
  subst hr
  refine wpAny_passesOwn hp (thn h4 fun _ s5 ⟨x,H5,I5,r5,y5,st5,fr5⟩=>?_)
  have I5':=I5.pinned (stat fr5) (T.obj _ _ st5)
  refine wpAny_passesOwn hp (thn (hg _ s5 σ3 H5 x u _ I5' r5 (step x H5 y5)) fun _ s6 ⟨σ6,H6,I6,q6⟩=>?_)
  refine wpAny_passesOwn hp (thn (hb _ s6 σ6 H6 _ I6 q6) fun f s7 q7=>?_)
  have again:∀ {σ7:St} {H7:Hp},Inv X (pins ++ pinsAt fp s5.heap) σ7 H7 s7→N σ7 H7→∃ m,m < n∧∃ i σ' H',Inv X pins σ' H' s7∧tn i s7.heap∧(∀ b∈fp,H' b=none)∧W i m σ' H':=fun {σ7 H7} I7 n7=>by
   obtain ⟨m',hm,w7⟩:=hN σ7 H7 n7
   refine ⟨m',hm,i+1,σ7,H7,I7.unpinned,T.keep _ _ _ st5 fun b hb o e=>(I7.pin (b,o) (List.mem_append_right _ (List.mem_append_right _ (mem_pinsAt hb e)))).1,fun b hb=>?_,w7⟩
   obtain ⟨o,e,d⟩:=T.obj _ _ st5 b hb
   exact (I7.pin (b,o) (List.mem_append_right _ (List.mem_append_right _ (mem_pinsAt hb e)))).2.1
  cases f with
  | next=>obtain ⟨σ7,H7,I7,n7⟩:=q7; exact again I7 n7
  | cont=>obtain ⟨σ7,H7,I7,n7⟩:=q7; exact again I7 n7
  | brk=>obtain ⟨σ7,H7,I7,q7⟩:=q7; exact ⟨σ7,H7,I7.unpinned,q7⟩
  | ret v=>obtain ⟨x7,σ7,H7,I7,r7,q7⟩:=q7; exact ⟨x7,σ7,H7,I7.unpinned,r7,q7⟩
end
theorem for_list {K:PySem.W.Frag} {a:Addr} {xs:List V} {g:TG} {tb:TS} {D:Ends} {σ:St} {H:Hp} (Pv:Nat→St→Hp→Prop) (h0:Pv 0 σ H) (hl:∀ i σ H,i≤xs.length→Pv i σ H→SqL K H a xs)
  (hs:∀ i x σ H,xs[i]? = some x→Pv i σ H→g x σ H fun σ2 H2=>tb { D with nx:=Pv (i+1),ct:=Pv (i+1),bk:=D.nx } σ2 H2) (hd:∀ σ H,Pv xs.length σ H→D.nx σ H) :
  ∃ W:Nat→Nat→St→Hp→Prop,(∃ m,W 0 m σ H)∧∀ i m σ H,W i m σ H→
   ((Itl K a).stop i H∧D.nx σ H)∨((Itl K a).go i H∧∃ N:St→Hp→Prop,(∀ σ' H',N σ' H'→∃ m',m' < m∧W (i+1) m' σ' H')∧∀ x H',(Itl K a).yld i H x H'→g x σ H' fun σ2 H2=>tb { D with nx:=N,ct:=N,bk:=D.nx } σ2 H2):=by
 refine ⟨fun i m σ H=>m=xs.length - i∧i≤xs.length∧Pv i σ H,⟨xs.length,by simp,Nat.zero_le _,h0⟩,?_⟩
 rintro i m σ H ⟨rfl,hi,p⟩
 have q:=hl i σ H hi p
 by_cases hlt:i < xs.length
 ·refine .inr ⟨⟨xs,xs[i],q,by simp [hlt]⟩,Pv (i+1),fun σ' H' p'=>⟨xs.length - (i+1),by omega,rfl,hlt,p'⟩,fun x H' y=>?_⟩
  obtain ⟨e,y⟩:=y
  subst e
  exact hs i x σ _ (y xs q) p
 ·have e:i=xs.length:=by omega
  subst e
  exact .inl ⟨⟨xs,q,Nat.le_refl _⟩,hd σ H p⟩
theorem for_range {lo:Int} {n:Nat} {g:TG} {tb:TS} {D:Ends} {σ:St} {H:Hp} (Pv:Nat→St→Hp→Prop) (h0:Pv 0 σ H)
  (hs:∀ i σ H,i < n→Pv i σ H→g (.int (lo+i)) σ H fun σ2 H2=>tb { D with nx:=Pv (i+1),ct:=Pv (i+1),bk:=D.nx } σ2 H2) (hd:∀ σ H,Pv n σ H→D.nx σ H) :
  ∃ W:Nat→Nat→St→Hp→Prop,(∃ m,W 0 m σ H)∧∀ i m σ H,W i m σ H→
   ((Itr lo n).stop i H∧D.nx σ H)∨((Itr lo n).go i H∧∃ N:St→Hp→Prop,(∀ σ' H',N σ' H'→∃ m',m' < m∧W (i+1) m' σ' H')∧∀ x H',(Itr lo n).yld i H x H'→g x σ H' fun σ2 H2=>tb { D with nx:=N,ct:=N,bk:=D.nx } σ2 H2):=by
 refine ⟨fun i m σ H=>m=n - i∧i≤n∧Pv i σ H,⟨n,by simp,Nat.zero_le _,h0⟩,?_⟩
 rintro i m σ H ⟨rfl,hi,p⟩
 by_cases hlt:i < n
 ·refine .inr ⟨hlt,Pv (i+1),fun σ' H' p'=>⟨n - (i+1),by omega,rfl,hlt,p'⟩,fun x H' y=>?_⟩
  obtain ⟨e,y⟩:=y
  subst e y
  exact hs i σ _ hlt p
 ·have e:i=n:=by omega
  subst e
  exact .inl ⟨Nat.le_refl _,hd σ H p⟩
end L2
namespace L2
open PySem PySem.Spec PyProof.Rows
abbrev R2:=V→V→Hp→VK→Prop
def OpR (X:Cx) (f:Value→Value→Sem Value) (r:R2):Prop:=
 ∀ (pins:List (Addr × Obj)) (s:Shared) (σ:St) (H:Hp) (x y:V) (v u:Value) (Q:VK),Inv X pins σ H s→RelV x v→RelV y u→r x y H Q→
  wpAny (model X.prog X.w) X.A (f v u) (EP X pins σ Q) X.xe s
def UnR (X:Cx) (f:Value→Sem Value) (r:V→Hp→VK→Prop):Prop:=
 ∀ (pins:List (Addr × Obj)) (s:Shared) (σ:St) (H:Hp) (x:V) (v:Value) (Q:VK),Inv X pins σ H s→RelV x v→r x H Q→
  wpAny (model X.prog X.w) X.A (f v) (EP X pins σ Q) X.xe s
def CallR (X:Cx) (f:Value) (r:List V→Hp→VK→Prop):Prop:=
 ∀ (pins:List (Addr × Obj)) (s:Shared) (σ:St) (H:Hp) (xs:List V) (us:List Value) (Q:VK),Inv X pins σ H s→Vals xs us→r xs H Q→
  wpAny (model X.prog X.w) X.A (call f us) (EP X pins σ Q) X.xe s
def TruR (X:Cx) (r:V→Hp→(Bool→Hp→Prop)→Prop):Prop:=
 ∀ (pins:List (Addr × Obj)) (s:Shared) (σ:St) (H:Hp) (x:V) (v:Value) (Q:Bool→Hp→Prop),Inv X pins σ H s→RelV x v→r x H Q→
  wpAny (model X.prog X.w) X.A (truthy v) (TP X pins σ Q) X.xe s
def tOp (r:R2) (ta tb:TE):TE:=fun σ H Q=>ta σ H fun x H1=>tb σ H1 fun y H2=>r x y H2 Q
def tUn (r:V→Hp→VK→Prop) (ta:TE):TE:=fun σ H Q=>ta σ H fun x H1=>r x H1 Q
inductive rII (C:Int→Int→Prop) (g:Int→Int→V) (x:V) (y:V) (H:Hp) (Q:VK):Prop
 | mk (i j:_) (h1:x=.int i) (h2:y=.int j) (h3:C i j) (h4:Q (g i j) H):rII C g x y H Q
def rI (C:Int→Int→Prop) (g:Int→Int→V):R2:=fun x y H Q=>rII C g x y H Q
inductive rI0I (g:Int→Int→V) (x:V) (y:V) (H:Hp) (Q:VK):Prop
 | mk (i j:_) (h1:x=.int i) (h2:y=.int j) (h3:Q (g i j) H):rI0I g x y H Q
def rI0 (g:Int→Int→V):R2:=fun x y H Q=>rI0I g x y H Q
inductive rUI (g:Int→V) (x:V) (H:Hp) (Q:VK):Prop
 | mk (i:_) (h1:x=.int i) (h2:Q (g i) H):rUI g x H Q
def rU (g:Int→V):V→Hp→VK→Prop:=fun x H Q=>rUI g x H Q
section
variable {X:Cx} {a b c:Expr} {ta tb tc:TE} {pos:Pos}
theorem binT (ha:PE X a ta) (hb:PE X b tb) {pins:List (Addr × Obj)} {s:Shared} {σ:St} {H:Hp} {R:V→V→Hp→Prop} (I:Inv X pins σ H s)
  (h:ta σ H fun x H1=>tb σ H1 fun y H2=>R x y H2) {Q:Value→Shared→Prop} {f:Value→Value→Sem Value}
  (hf:∀ v u s2 x y H2,Inv X pins σ H2 s2→RelV x v→RelV y u→R x y H2→wpAny (model X.prog X.w) X.A (f v u) Q X.xe s2) :
  wpAny (model X.prog X.w) X.A (eval a X.env) (fun v s₁=>wpAny (model X.prog X.w) X.A (eval b X.env) (fun u s₂=>wpAny (model X.prog X.w) X.A (f v u) Q X.xe s₂) X.xe s₁) X.xe s:=by
 refine thn (ha pins s σ H _ I h) fun v s1 ⟨x,H1,I1,r1,q1⟩=>?_
 refine thn (hb pins s1 σ H1 _ I1 q1) fun u s2 ⟨y,H2,I2,r2,q2⟩=>?_
 exact hf v u s2 x y H2 I2 r1 r2 q2
theorem pe_op {op:Operator} {r:R2} (ho:OpR X (binaryOp op) r) (ha:PE X a ta) (hb:PE X b tb):PE X (.BinOp a op b pos) (tOp r ta tb):=by
 intro pins s σ H Q I h
 exact wpAny_BinOp (binT ha hb I h fun v u s2 x y H2 I2 rx ry q=>ho pins s2 σ H2 x y v u Q I2 rx ry q)
theorem pe_un {op:UnaryOp} {r:V→Hp→VK→Prop} (ho:UnR X (unaryOp op) r) (ha:PE X a ta):PE X (.UnaryOp op a pos) (tUn r ta):=by
 intro pins s σ H Q I h
 exact UnaryOp_ (thn (ha pins s σ H _ I h) fun v s1 ⟨x,H1,I1,r1,q1⟩=>ho pins s1 σ H1 x v Q I1 r1 q1)
theorem opI {f:Value→Value→Sem Value} {C:Int→Int→Prop} {g:Int→Int→Int}
  (rule:∀ (i j:Int) (t u:Tok) (s:Shared) (Q:Value→Shared→Prop) (E:Value→Shared→Prop),C i j→Q (.int (g i j) s.toks) { s with toks:=s.toks+1 }→wpAny (model X.prog X.w) X.A (f (.int i t) (.int j u)) Q E s) :
  OpR X f (rI C fun i j=>.int (g i j)):=by
 intro pins s σ H x y v u Q I rx ry h
 obtain ⟨i,j,rfl,rfl,hc,q⟩:=h
 obtain ⟨t,rfl⟩:=rx
 obtain ⟨t',rfl⟩:=ry
 exact rule i j t t' s _ _ hc ⟨.int (g i j),H,I.tok _,⟨_,rfl⟩,q⟩
theorem opI0 {f:Value→Value→Sem Value} {g:Int→Int→Int}
  (rule:∀ (i j:Int) (t u:Tok) (s:Shared) (Q:Value→Shared→Prop) (E:Value→Shared→Prop),Q (.int (g i j) s.toks) { s with toks:=s.toks+1 }→wpAny (model X.prog X.w) X.A (f (.int i t) (.int j u)) Q E s) :
  OpR X f (rI0 fun i j=>.int (g i j)):=by
 intro pins s σ H x y v u Q I rx ry h
 obtain ⟨i,j,rfl,rfl,q⟩:=h
 obtain ⟨t,rfl⟩:=rx
 obtain ⟨t',rfl⟩:=ry
 exact rule i j t t' s _ _ ⟨.int (g i j),H,I.tok _,⟨_,rfl⟩,q⟩
theorem opB0 {f:Value→Value→Sem Value} {g:Int→Int→Bool}
  (rule:∀ (i j:Int) (t u:Tok) (s:Shared) (Q:Value→Shared→Prop) (E:Value→Shared→Prop),Q (.bool (g i j)) s→wpAny (model X.prog X.w) X.A (f (.int i t) (.int j u)) Q E s) :
  OpR X f (rI0 fun i j=>.bl (g i j)):=by
 intro pins s σ H x y v u Q I rx ry h
 obtain ⟨i,j,rfl,rfl,q⟩:=h
 obtain ⟨t,rfl⟩:=rx
 obtain ⟨t',rfl⟩:=ry
 exact rule i j t t' s _ _ ⟨.bl (g i j),H,I,rfl,q⟩
def CDiv (i j:Int):Prop:=0 < j∧j < 1073741824
def CPow (i j:Int):Prop:=0≤j∧j≤1000000∧i.natAbs < 2 ^ 64
def CMul (i j:Int):Prop:=(-(2 ^ 64) < i∧i < 2 ^ 64)∨(-(2 ^ 64) < j∧j < 2 ^ 64)
theorem CMul.ok {i j:Int} (h:CMul i j):IntMulOk i j:=by
 rcases h with ⟨h1,h2⟩ | ⟨h1,h2⟩
 ·exact .of_left (intBits_le_64 h1 h2)
 ·exact .of_right (intBits_le_64 h1 h2)
theorem op_add:OpR X (binaryOp .Add) (rI0 fun i j=>.int (i+j)):=opI0 fun _ _ _ _ _ _ _ q=>add_int q
theorem op_sub:OpR X (binaryOp .Sub) (rI0 fun i j=>.int (i - j)):=opI0 fun _ _ _ _ _ _ _ q=>sub_int q
theorem op_mul:OpR X (binaryOp .Mult) (rI CMul fun i j=>.int (i * j)):=opI fun _ _ _ _ _ _ _ hc q=>mul_int q hc.ok
theorem op_fdiv:OpR X (binaryOp .FloorDiv) (rI CDiv fun i j=>.int (i / j)):=opI fun i j _ _ _ _ _ hc q=>by
 have h1:(0:Int) < j:=hc.1
 have h2:j < 1073741824:=hc.2
 exact floordiv_int (by omega) (by rw [Int.fdiv_eq_ediv_of_nonneg i (by omega)]; exact q) (.inl (PyProof.noPylong_small (by omega)))
theorem op_mod:OpR X (binaryOp .Mod) (rI (fun _ j=>0 < j) fun i j=>.int (i % j)):=opI fun i j _ _ _ _ _ hc q=>by
 have h1:(0:Int) < j:=hc
 exact mod_int' (by omega) (by rw [Int.fmod_eq_emod_of_nonneg i (by omega)]; exact q)
theorem op_pow:OpR X (binaryOp .Pow) (rI CPow fun i j=>.int (i ^ j.toNat)):=opI fun _ _ _ _ _ _ _ hc q=>pow_int_small hc.1 hc.2.1 hc.2.2 q
theorem unI {f:Value→Sem Value} {g:Int→Int}
  (rule:∀ (i:Int) (t:Tok) (s:Shared) (Q:Value→Shared→Prop) (E:Value→Shared→Prop),Q (.int (g i) s.toks) { s with toks:=s.toks+1 }→wpAny (model X.prog X.w) X.A (f (.int i t)) Q E s) :
  UnR X f (rU fun i=>.int (g i)):=by
 intro pins s σ H x v Q I rx h
 obtain ⟨i,rfl,q⟩:=h
 obtain ⟨t,rfl⟩:=rx
 exact rule i t s _ _ ⟨.int (g i),H,I.tok _,⟨_,rfl⟩,q⟩
theorem un_neg:UnR X (unaryOp .USub) (rU fun i=>.int (-i)):=unI fun _ _ _ _ _ q=>neg_int q
end
def scal:V→V→Bool
 | .non,.non=>true | .non,.int _=>true | .int _,.non=>true | .non,.bl _=>true | .bl _,.non=>true | .non,.str _=>true | .str _,.non=>true
 | .int _,.int _=>true | .bl _,.bl _=>true | .str _,.str _=>true | .byt _,.byt _=>true
 | .int _,.str _=>true | .str _,.int _=>true | .bl _,.str _=>true | .str _,.bl _=>true
 | _,_=>false
def rEq:R2:=fun x y H Q=>scal x y=true∧Q (.bl (decide (x=y))) H
def rNe:R2:=fun x y H Q=>scal x y=true∧Q (.bl (!decide (x=y))) H
theorem dec_int {i j:Int}:decide (V.int i=V.int j)=(i==j):=by
 rw [Bool.eq_iff_iff]
 simp
theorem dec_bl {i j:Bool}:decide (V.bl i=V.bl j)=(i==j):=by
 rw [Bool.eq_iff_iff]
 simp
theorem dec_str {i j:Str}:decide (V.str i=V.str j)=(i==j):=by
 rw [Bool.eq_iff_iff]
 simp
theorem dec_byt {i j:Array UInt8}:decide (V.byt i=V.byt j)=(i.toList==j.toList):=by
 rw [Bool.eq_iff_iff]
 cases i
 cases j
 simp
section
variable {X:Cx} {a b c:Expr} {ta tb tc:TE} {pos:Pos}
theorem fin_bl {pins:List (Addr × Obj)} {σ:St} {H:Hp} {s:Shared} {Q:VK} {k k':Bool} (I:Inv X pins σ H s) (q:Q (.bl k) H) (e:k=k'):EP X pins σ Q (.bool k') s:=by
 subst e
 exact ⟨.bl k,H,I,rfl,q⟩
theorem op_eq:OpR X (compareOp .Eq) rEq:=by
 intro pins s σ H x y v u Q I rx ry h
 obtain ⟨hs,q⟩:=h
 cases x with
 | non=>
  cases rx
  cases y with
  | non=>cases ry; exact PySem.EqNone.eq_none_none (fin_bl I q (by simp))
  | bl j=>cases ry; exact PySem.EqNone.eq_none_bool (fin_bl I q (by simp))
  | int j=>obtain ⟨t',rfl⟩:=ry; exact PySem.EqNone.eq_none_int (fin_bl I q (by simp))
  | str j=>obtain ⟨t',rfl⟩:=ry; exact PySem.EqNone.eq_none_str (fin_bl I q (by simp))
  | _=>exact absurd (show false=true from hs) Bool.false_ne_true
 | bl i=>
  cases rx
  cases y with
  | non=>cases ry; exact PySem.EqNone.eq_bool_none (fin_bl I q (by simp))
  | bl j=>cases ry; exact eq_bool (fin_bl I q dec_bl)
  | str j=>obtain ⟨t',rfl⟩:=ry; exact PySem.EqMixed.eq_bool_str (fin_bl I q (by simp))
  | _=>exact absurd (show false=true from hs) Bool.false_ne_true
 | int i=>
  obtain ⟨t,rfl⟩:=rx
  cases y with
  | non=>cases ry; exact PySem.EqNone.eq_int_none (fin_bl I q (by simp))
  | int j=>obtain ⟨t',rfl⟩:=ry; exact eq_int (fin_bl I q dec_int)
  | str j=>obtain ⟨t',rfl⟩:=ry; exact PySem.EqMixed.eq_int_str (fin_bl I q (by simp))
  | _=>exact absurd (show false=true from hs) Bool.false_ne_true
 | str i=>
  obtain ⟨t,rfl⟩:=rx
  cases y with
  | non=>cases ry; exact PySem.EqNone.eq_str_none (fin_bl I q (by simp))
  | bl j=>cases ry; exact PySem.EqMixed.eq_str_bool (fin_bl I q (by simp))
  | int j=>obtain ⟨t',rfl⟩:=ry; exact PySem.EqMixed.eq_str_int (fin_bl I q (by simp))
  | str j=>obtain ⟨t',rfl⟩:=ry; exact eq_str (fin_bl I q dec_str)
  | _=>exact absurd (show false=true from hs) Bool.false_ne_true
 | byt i=>
  obtain ⟨t,rfl⟩:=rx
  cases y with
  | byt j=>obtain ⟨t',rfl⟩:=ry; exact PySem.W.eq_bytes (fin_bl I q dec_byt)
  | _=>exact absurd (show false=true from hs) Bool.false_ne_true
 | _=>cases y <;> exact absurd (show false=true from hs) Bool.false_ne_true
theorem op_ne:OpR X (compareOp .NotEq) rNe:=by
 intro pins s σ H x y v u Q I rx ry h
 obtain ⟨hs,q⟩:=h
 cases x with
 | non=>
  cases rx
  cases y with
  | non=>cases ry; exact PySem.EqNone.ne_none_none (fin_bl I q (by simp))
  | bl j=>cases ry; exact PySem.EqNone.ne_none_bool (fin_bl I q (by simp))
  | int j=>obtain ⟨t',rfl⟩:=ry; exact PySem.EqNone.ne_none_int (fin_bl I q (by simp))
  | str j=>obtain ⟨t',rfl⟩:=ry; exact PySem.EqNone.ne_none_str (fin_bl I q (by simp))
  | _=>exact absurd (show false=true from hs) Bool.false_ne_true
 | bl i=>
  cases rx
  cases y with
  | non=>cases ry; exact PySem.EqNone.ne_bool_none (fin_bl I q (by simp))
  | bl j=>cases ry; exact ne_bool (fin_bl I q (congrArg not dec_bl))
  | str j=>obtain ⟨t',rfl⟩:=ry; exact PySem.EqMixed.ne_bool_str (fin_bl I q (by simp))
  | _=>exact absurd (show false=true from hs) Bool.false_ne_true
 | int i=>
  obtain ⟨t,rfl⟩:=rx
  cases y with
  | non=>cases ry; exact PySem.EqNone.ne_int_none (fin_bl I q (by simp))
  | int j=>obtain ⟨t',rfl⟩:=ry; exact ne_int (fin_bl I q (congrArg not dec_int))
  | str j=>obtain ⟨t',rfl⟩:=ry; exact PySem.EqMixed.ne_int_str (fin_bl I q (by simp))
  | _=>exact absurd (show false=true from hs) Bool.false_ne_true
 | str i=>
  obtain ⟨t,rfl⟩:=rx
  cases y with
  | non=>cases ry; exact PySem.EqNone.ne_str_none (fin_bl I q (by simp))
  | bl j=>cases ry; exact PySem.EqMixed.ne_str_bool (fin_bl I q (by simp))
  | int j=>obtain ⟨t',rfl⟩:=ry; exact PySem.EqMixed.ne_str_int (fin_bl I q (by simp))
  | str j=>obtain ⟨t',rfl⟩:=ry; exact ne_str (fin_bl I q (congrArg not dec_str))
  | _=>exact absurd (show false=true from hs) Bool.false_ne_true
 | byt i=>
  obtain ⟨t,rfl⟩:=rx
  cases y with
  | byt j=>obtain ⟨t',rfl⟩:=ry; exact PySem.W.ne_bytes (fin_bl I q (congrArg not dec_byt))
  | _=>exact absurd (show false=true from hs) Bool.false_ne_true
 | _=>cases y <;> exact absurd (show false=true from hs) Bool.false_ne_true
theorem op_lt:OpR X (compareOp .Lt) (rI0 fun i j=>.bl (decide (i < j))):=opB0 fun _ _ _ _ _ _ _ q=>lt_int q
theorem op_le:OpR X (compareOp .LtE) (rI0 fun i j=>.bl (decide (i≤j))):=opB0 fun _ _ _ _ _ _ _ q=>le_int q
theorem op_gt:OpR X (compareOp .Gt) (rI0 fun i j=>.bl (decide (j < i))):=opB0 fun _ _ _ _ _ _ _ q=>gt_int q
theorem op_ge:OpR X (compareOp .GtE) (rI0 fun i j=>.bl (decide (j≤i))):=opB0 fun _ _ _ _ _ _ _ q=>ge_int q
theorem op_lt_str:OpR X (compareOp .Lt) (fun x y H Q=>∃ i j,x=.str i∧y=.str j∧Q (.bl (decide (i.cps.toList < j.cps.toList))) H):=by
 intro pins s σ H x y v u Q I rx ry h
 obtain ⟨i,j,rfl,rfl,q⟩:=h
 obtain ⟨t,rfl⟩:=rx
 obtain ⟨t',rfl⟩:=ry
 exact lt_str (fin_bl I q rfl)
theorem op_in_str:OpR X (compareOp .In) (fun x y H Q=>∃ i j,x=.str i∧y=.str j∧Q (.bl (!(Builtin.Str.occurrences j i 0 j.length 1).isEmpty)) H):=by
 intro pins s σ H x y v u Q I rx ry h
 obtain ⟨i,j,rfl,rfl,q⟩:=h
 obtain ⟨t,rfl⟩:=rx
 obtain ⟨t',rfl⟩:=ry
 exact in_str (fin_bl I q rfl)
theorem nomark (b:Expr) {op:CmpOp} (h:op≠.In:=by decide) (h2:op≠.NotIn:=by decide):behindInMarks op b=false:=by
 have e1:(op==CmpOp.In)=false:=by cases op <;> first | rfl | exact absurd rfl h
 have e2:(op==CmpOp.NotIn)=false:=by cases op <;> first | rfl | exact absurd rfl h2
 cases b <;> simp [behindInMarks,e1,e2]
theorem pe_cmpR {op:CmpOp} {r:R2} (ho:OpR X (compareOp op) r) (ha:PE X a ta) (hb:PE X b tb) (hm:behindInMarks op b=false):PE X (.Compare a [op] [b] pos) (tOp r ta tb):=by
 intro pins s σ H Q I h
 exact wpAny_Compare1 (binT ha hb I h fun v u s2 x y H2 I2 rx ry q=>ho pins s2 σ H2 x y v u Q I2 rx ry q) hm
inductive tTestI (Q:Bool→Hp→Prop) (x:V) (H':Hp):Prop
 | mk (k:_) (h1:x=.bl k) (h2:Q k H'):tTestI Q x H'
def tTest (t:TE):TT:=fun σ H Q=>t σ H fun x H'=>tTestI Q x H'
theorem pt_cmpR {op:CmpOp} {r:R2} (ho:OpR X (compareOp op) r) (ha:PE X a ta) (hb:PE X b tb) (hm:behindInMarks op b=false):PT X (.Compare a [op] [b] pos) (tTest (tOp r ta tb)):=by
 intro pins s σ H Q I h
 refine wpAny_isTrue_Compare1 (thn (ha pins s σ H _ I h) fun v s1 ⟨x,H1,I1,r1,q1⟩=>thn (hb pins s1 σ H1 _ I1 q1) fun u s2 ⟨y,H2,I2,r2,q2⟩=>
  thn (ho pins s2 σ H2 x y v u _ I2 r1 r2 q2) fun c s3 ⟨z,H3,I3,r3,k,e,q3⟩=>?_) hm
 subst e
 cases r3
 exact wpAny_truthy_bool ⟨H3,I3,q3⟩
def tChain (r r':R2) (ta tb tc:TE):TE:=fun σ H Q=>ta σ H fun x H1=>tb σ H1 fun y H2=>r x y H2 fun z H3=>∃ k,z=.bl k∧
 (if k=true then tc σ H3 fun w' H4=>r' y w' H4 Q else Q (.bl false) H3)
theorem pe_chain {op op':CmpOp} {r r':R2} (ho:OpR X (compareOp op) r) (ho':OpR X (compareOp op') r') (ha:PE X a ta) (hb:PE X b tb) (hc:PE X c tc)
  (hm:lastMarks [op,op'] [b,c]=false:=by with_unfolding_all rfl):PE X (.Compare a [op,op'] [b,c] pos) (tChain r r' ta tb tc):=by
 intro pins s σ H Q I h
 refine Compare_chain (thn (ha pins s σ H _ I h) fun v s1 ⟨x,H1,I1,r1,q1⟩=>chain_link (thn (hb pins s1 σ H1 _ I1 q1) fun u s2 ⟨y,H2,I2,r2,q2⟩=>
  thn (ho pins s2 σ H2 x y v u _ I2 r1 r2 q2) fun d s3 ⟨z,H3,I3,r3,k,e,q3⟩=>?_)) hm
 subst e
 cases r3
 refine wpAny_truthy_bool ?_
 cases k with
 | false=>exact ite_ff ⟨.bl false,H3,I3,rfl,q3⟩
 | true=>exact ite_tt (chain_last (thn (hc pins s3 σ H3 _ I3 q3) fun w' s4 ⟨z',H4,I4,r4,q4⟩=>ho' pins s4 σ H4 y z' u w' Q I4 r2 r4 q4))
theorem pt_chain {op op':CmpOp} {r r':R2} (ho:OpR X (compareOp op) r) (ho':OpR X (compareOp op') r') (ha:PE X a ta) (hb:PE X b tb) (hc:PE X c tc)
  (hm:lastMarks [op,op'] [b,c]=false:=by with_unfolding_all rfl):PT X (.Compare a [op,op'] [b,c] pos) (tTest (tChain r r' ta tb tc)):=by
 intro pins s σ H Q I h
 refine isTrue_chain (thn (ha pins s σ H _ I h) fun v s1 ⟨x,H1,I1,r1,q1⟩=>test_link (thn (hb pins s1 σ H1 _ I1 q1) fun u s2 ⟨y,H2,I2,r2,q2⟩=>
  thn (ho pins s2 σ H2 x y v u _ I2 r1 r2 q2) fun d s3 ⟨z,H3,I3,r3,k,e,q3⟩=>?_)) hm
 subst e
 cases r3
 refine wpAny_truthy_bool ?_
 cases k with
 | false=>
  obtain ⟨k',e',q'⟩:=q3
  cases e'
  exact ite_ff ⟨H3,I3,q'⟩
 | true=>
  refine ite_tt (test_last (thn (hc pins s3 σ H3 _ I3 q3) fun w' s4 ⟨z',H4,I4,r4,q4⟩=>thn (ho' pins s4 σ H4 y z' u w' _ I4 r2 r4 q4) fun d' s5 ⟨z2,H5,I5,r5,k2,e2,q5⟩=>?_))
  subst e2
  cases r5
  exact wpAny_truthy_bool ⟨H5,I5,q5⟩
def TruV (K:PySem.W.Frag) (x:V) (H:Hp) (k:Bool):Prop:=
 match x with
 | .non=>k=false
 | .bl b=>k=b
 | .int i=>k=(i != 0)
 | .str y=>y.length≤sizeLine∧k=((y.length:Int) != 0)
 | .byt y=>y.size≤sizeLine∧k=((y.size:Int) != 0)
 | .ref p=>(∃ xs,SqL K H p xs∧k = !xs.isEmpty)∨(∃ xs,SqT K H p xs∧k = !xs.isEmpty)∨∃ kvs,H p=some (.dK kvs)∧k = !kvs.isEmpty
 | _=>False
theorem isEmpty_kv {κ:Type} {kvs:List (κ × V)} {vs:List (κ × Value)} (r:KV kvs vs):(!vs.isEmpty) = !kvs.isEmpty:=by
 cases r <;> rfl
theorem isEmpty_of {xs:List V} {its:List Value} (r:Vals xs its):(!its.toArray.isEmpty) = !xs.isEmpty:=by
 cases r <;> simp
theorem line63:(sizeLine:Nat) < 2 ^ 63:=by rw [sizeLine_eq]; decide
theorem tru_ok:TruR X (fun x H Q=>∃ k,TruV X.K x H k∧Q k H):=by
 intro pins s σ H x v Q I rx h
 obtain ⟨k,e,q⟩:=h
 have hl:=line63
 have hs:sizeLine=16777216:=sizeLine_eq
 cases x with
 | non=>
  cases rx
  have e':k=false:=e
  subst e'
  exact truthy_none ⟨H,I,q⟩
 | bl b=>
  cases rx
  have e':k=b:=e
  subst e'
  exact wpAny_truthy_bool ⟨H,I,q⟩
 | int i=>
  obtain ⟨t,rfl⟩:=rx
  have e':k=(i != 0):=e
  subst e'
  exact PySem.P.truthy_int ⟨H,I,q⟩
 | str y=>
  obtain ⟨t,rfl⟩:=rx
  obtain ⟨hy,e'⟩:y.length≤sizeLine∧k=((y.length:Int) != 0):=e
  subst e'
  exact PySem.P.truthy_str (by omega) ⟨H,I.tok _,q⟩
 | byt y=>
  obtain ⟨t,rfl⟩:=rx
  obtain ⟨hy,e'⟩:y.size≤sizeLine∧k=((y.size:Int) != 0):=e
  subst e'
  exact PySem.W.truthy_bytes (by omega) ⟨H,I.tok _,q⟩
 | ref p=>
  cases rx
  have e':(∃ xs,SqL X.K H p xs∧k = !xs.isEmpty)∨(∃ xs,SqT X.K H p xs∧k = !xs.isEmpty)∨∃ kvs,H p=some (.dK kvs)∧k = !kvs.isEmpty:=e
  rcases e' with ⟨xs,hx,e'⟩ | ⟨xs,hx,e'⟩ | ⟨kvs,hx,e'⟩
  ·subst e'
   obtain ⟨its,r,pl,hz⟩:=I.list hx
   have hlen:=r.length
   exact wpAny_truthy_list pl.isList (by simp only [List.size_toArray]; omega) ⟨H,I.tok _,by rw [isEmpty_of r]; exact q⟩
  ·subst e'
   obtain ⟨its,r,pl,hz⟩:=I.tuple hx
   have hlen:=r.length
   exact truthy_tuple pl (by simp only [List.size_toArray]; omega) ⟨H,I.tok _,by rw [isEmpty_of r]; exact q⟩
  ·subst e'
   obtain ⟨hz,hS,vs,r,m⟩:kvs.length≤sizeLine∧(p==sysModules)=false∧∃ vs,KV kvs vs∧s.heap.DictOf (mixKind X.prog X.w) p vs:=I.hok p _ hx
   have hlen:kvs.length=vs.length:=Paired.length r
   exact wpAny_truthy_dict hS m (by omega) ⟨H,I.tok _,by rw [isEmpty_kv r]; exact q⟩
 | _=>exact (show False from e).elim
theorem pt_truth (ha:PE X a ta) (he:∀ whole,isTrue a X.env whole=(do let v ← whole; standAt a.pos; holding [v] (truthy v))) :
  PT X a (fun σ H Q=>ta σ H fun x H'=>∃ k,TruV X.K x H' k∧Q k H'):=by
 intro pins s σ H Q I h
 exact isTrue_plain (thn (ha pins s σ H _ I h) fun v s1 ⟨x,H1,I1,r1,q1⟩=>tru_ok pins s1 σ H1 x v Q I1 r1 q1) (he _)
theorem op_add_str:OpR X (binaryOp .Add) (fun x y H Q=>∃ i j,x=.str i∧y=.str j∧i.length+j.length≤sizeLine∧Q (.str (i ++ j)) H):=by
 intro pins s σ H x y v u Q I rx ry h
 obtain ⟨i,j,rfl,rfl,hz,q⟩:=h
 obtain ⟨t,rfl⟩:=rx
 obtain ⟨t',rfl⟩:=ry
 exact add_str (fun t' tk=>⟨.str (i ++ j),H,I.tok _,⟨_,rfl⟩,q⟩) hz
theorem vals1 {x:V} {us:List Value} (r:Vals [x] us):∃ u,us=[u]∧RelV x u:=by
 cases r with
 | cons r1 r2=>cases r2; exact ⟨_,rfl,r1⟩
theorem vals2 {x y:V} {us:List Value} (r:Vals [x,y] us):∃ u w',us=[u,w']∧RelV x u∧RelV y w':=by
 cases r with
 | cons r1 r2=>
  cases r2 with
  | cons r3 r4=>cases r4; exact ⟨_,_,rfl,r1,r3⟩
theorem call_max2 (hc:X.calm=true):CallR X (.builtin "max") (fun xs H Q=>∃ i j,xs=[.int i,.int j]∧Q (.int (if j > i then j else i)) H):=by
 intro pins s σ H xs us Q I r h
 obtain ⟨i,j,rfl,q⟩:=h
 obtain ⟨u,w',rfl,⟨t,rfl⟩,⟨t',rfl⟩⟩:=vals2 r
 refine max_two_ints (I.ok.hd hc) fun h' tk k=>⟨_,H,I.kept k,?_,q⟩
 by_cases hj:j > i
 ·rw [if_pos hj,if_pos hj]; exact ⟨_,rfl⟩
 ·rw [if_neg hj,if_neg hj]; exact ⟨_,rfl⟩
theorem call_min2 (hc:X.calm=true):CallR X (.builtin "min") (fun xs H Q=>∃ i j,xs=[.int i,.int j]∧Q (.int (if j < i then j else i)) H):=by
 intro pins s σ H xs us Q I r h
 obtain ⟨i,j,rfl,q⟩:=h
 obtain ⟨u,w',rfl,⟨t,rfl⟩,⟨t',rfl⟩⟩:=vals2 r
 refine min_two_ints (I.ok.hd hc) fun h' tk k=>⟨_,H,I.kept k,?_,q⟩
 by_cases hj:j < i
 ·rw [if_pos hj,if_pos hj]; exact ⟨_,rfl⟩
 ·rw [if_neg hj,if_neg hj]; exact ⟨_,rfl⟩
theorem call_int1:CallR X (.type "int") (fun xs H Q=>(∃ i,xs=[.int i]∧Q (.int i) H)∨∃ k,xs=[.bl k]∧Q (.int (if k then 1 else 0)) H):=by
 intro pins s σ H xs us Q I r h
 rcases h with ⟨i,rfl,q⟩ | ⟨k,rfl,q⟩
 ·obtain ⟨u,rfl,t,rfl⟩:=vals1 r
  exact call_int_int ⟨.int i,H,I,⟨_,rfl⟩,q⟩
 ·obtain ⟨u,rfl,r1⟩:=vals1 r
  cases r1
  exact call_int_bool ⟨.int (if k then 1 else 0),H,I.tok _,⟨_,rfl⟩,q⟩
theorem call_str_int:CallR X (.type "str") (fun xs H Q=>∃ i,xs=[.int i]∧i.natAbs.log2 < 1920∧Q (.str (toString i)) H):=by
 intro pins s σ H xs us Q I r h
 obtain ⟨i,rfl,hz,q⟩:=h
 obtain ⟨u,rfl,t,rfl⟩:=vals1 r
 exact PySem.P.str_of_int hz ⟨.str _,H,I.tok _,⟨_,rfl⟩,q⟩
end
end L2
namespace L2
open PySem PySem.Spec PyProof.Rows
structure ObjM (h:Heap) (x dx C:Addr) (mA:Str→Option Value):Prop where
 obj:h.get? x=some (PySem.W.instObj C dx)
 ns:h.Ns1 dx mA
 ne:dx≠x
theorem lookIn_ns {h:Heap} {dx:Addr} {mA:Str→Option Value} (n:h.Ns1 dx mA):∃ od,h.get? dx=some od∧∀ name,PySem.W.lookIn name od=some (mA name):=by
 obtain ⟨o,es,ep,ho,hd,hk,_,hm⟩:=n
 refine ⟨o,ho,fun name=>?_⟩
 have e:=hm name
 unfold nsFind findBy at e
 rw [← Array.find?_toList] at e
 unfold PySem.W.lookIn
 rw [hd]
 dsimp only
 split
 ·rename_i y q
  rw [q] at e
  exact congrArg some e
 ·rename_i q
  rw [q] at e
  have a:es.toList.any (·.refKey)=false:=by
   rw [List.any_eq_false]
   intro y hy
   obtain ⟨z,t,hkey⟩:=hk y (Array.mem_toList_iff.mp hy)
   simp [DictEntry.refKey,hkey]
  have a':¬ es.toList.any (·.refKey)=true:=by rw [a]; exact Bool.false_ne_true
  rw [if_neg a']
  exact congrArg some e
theorem ObjM.look {h:Heap} {x dx C:Addr} {mA:Str→Option Value} (I:ObjM h x dx C mA):∃ od,PySem.W.InstAt h x (PySem.W.instObj C dx) C (some od)∧∀ name,PySem.W.lookIn name od=some (mA name):=
 let ⟨od,ho,hl⟩:=lookIn_ns I.ns
 ⟨od,⟨I.obj,rfl,rfl,ho⟩,hl⟩
section
variable {prog:Program} {w:World} {A:Around} {E:Value→Shared→Prop} {s:Shared} {K:PySem.W.Frag} {x dx C f:Addr} {mA:Str→Option Value} {name:Str} {v:Value}
end
def putF (f:Str) (v:V):List (Str × V)→List (Str × V)
 | []=>[(f,v)]
 | (g,x) :: r=>if g=f then (g,v) :: r else (g,x) :: putF f v r
theorem lookup_putF (f g:Str) (v:V):∀ fs:List (Str × V),(putF f v fs).lookup g=if g=f then some v else fs.lookup g
 | []=>by
  show List.lookup g [(f,v)]=_
  by_cases h:g=f
  ·have hb:(g==f)=true:=beq_iff_eq.mpr h
   simp only [List.lookup,hb,if_pos h]
  ·have hb:(g==f)=false:=beq_eq_false_iff_ne.mpr h
   simp only [List.lookup,hb,if_neg h]
 | (k,x) :: r=>by
  have ih:=lookup_putF f g v r
  rw [show putF f v ((k,x) :: r)=(if k=f then (k,v) :: r else (k,x) :: putF f v r) from rfl]
  by_cases hk:k=f
  ·rw [if_pos hk]
   by_cases h:g=k
   ·have hb:(g==k)=true:=beq_iff_eq.mpr h
    simp only [List.lookup,hb,if_pos (h.trans hk)]
   ·have hb:(g==k)=false:=beq_eq_false_iff_ne.mpr h
    simp only [List.lookup,hb,if_neg (fun e:g=f=>h (e.trans hk.symm))]
  ·rw [if_neg hk]
   by_cases h:g=k
   ·have hb:(g==k)=true:=beq_iff_eq.mpr h
    simp only [List.lookup,hb,if_neg (fun e:g=f=>hk (h.symm.trans e))]
   ·have hb:(g==k)=false:=beq_eq_false_iff_ne.mpr h
    simp only [List.lookup,hb]
    exact ih
theorem keys_putF (f:Str) (v:V):∀ fs:List (Str × V),f∈(putF f v fs).map (·.1)∧∀ g,g∈fs.map (·.1)→g∈(putF f v fs).map (·.1)
 | []=>⟨by simp [putF],fun g h=>by simp at h⟩
 | (k,x) :: r=>by
  obtain ⟨i1,i2⟩:=keys_putF f v r
  rw [show putF f v ((k,x) :: r)=(if k=f then (k,v) :: r else (k,x) :: putF f v r) from rfl]
  by_cases hk:k=f
  ·rw [if_pos hk]
   subst hk
   exact ⟨by simp,fun g h=>by simpa using h⟩
  ·rw [if_neg hk]
   refine ⟨?_,fun g h=>?_⟩
   ·rw [List.map_cons]
    exact List.mem_cons_of_mem _ i1
   ·rw [List.map_cons] at h ⊢
    rcases List.mem_cons.mp h with e | e
    ·exact List.mem_cons.mpr (.inl e)
    ·exact List.mem_cons_of_mem _ (i2 g e)
theorem RelO.some_of {v:V} {o:Option Value} (r:RelO (some v) o):∃ u,o=some u∧RelV v u:=by
 cases o with
 | none=>exact (show False from r).elim
 | some u=>exact ⟨u,rfl,r⟩
theorem handed_of {v:V} {u:Value} (r:RelV v u):PySem.W.handedIn u=true:=by
 cases v with
 | non=>cases (show u=Value.none from r); rfl
 | bl b=>cases (show u=Value.bool b from r); rfl
 | int i=>obtain ⟨t,e⟩:=(show ∃ t,u=Value.int i t from r); cases e; rfl
 | str x=>obtain ⟨t,e⟩:=(show ∃ t,u=Value.str x t from r); cases e; rfl
 | byt b=>obtain ⟨t,e⟩:=(show ∃ t,u=Value.bytes b t from r); cases e; rfl
 | flt b=>obtain ⟨t,e⟩:=(show ∃ t,u=Value.float b t from r); cases e; rfl
 | ref a=>cases (show u=Value.ref a from r); rfl
 | ty n=>cases (show u=Value.type n from r); rfl
section
variable {P:Program} {w:World} {H H':Hp} {h h':Heap} {a C dx:Addr} {fs fs':List (Str × V)}
theorem ins_get (hok:HOk P w H h) (e:H a=some (.ins C dx fs)):∃ mA,ObjM h a dx C mA∧(∀ f,RelO (fs.lookup f) (mA f))∧PySem.Within mA (fs.map (·.1))∧fs.length≤1000∧H dx=some (.own a):=by
 obtain ⟨d,z,ne,ob,mA,n,r,q⟩:=(show ObjOk P w H h a (.ins C dx fs) from hok a _ e)
 exact ⟨mA,⟨ob,n,ne⟩,r,q,z,d⟩
end
structure Cls (K:PySem.W.Frag) (C:Addr):Prop where
 pg:PySem.W.plainGet K C Str.empty=true
 hd:PySem.W.hasDictIn K C=true
 po:PySem.W.plainOver K C=true
 sa:PySem.W.findIn K (.ref C) "__setattr__" = some (some (.builtin "object.__setattr__"))
theorem Cls.get {K:PySem.W.Frag} {C:Addr} (c:Cls K C) (f:Str):PySem.W.plainGet K C f=true:=c.pg
def NoAttr (K:PySem.W.Frag) (C:Addr) (f:Str):Prop:=PySem.W.findIn K (.ref C) f=some none
section
variable {X:Cx} {pins:List (Addr × Obj)} {σ:St} {H:Hp} {s:Shared} {a C dx:Addr} {fs:List (Str × V)} {f:Str} {v:V} {A:Around} {E:Value→Shared→Prop}
theorem attr_of {prog:Program} {w:World} {env:Env} {e:Expr} {f:Str} {pos:Pos} {s:Shared} {Q:Value→Shared→Prop} (hb:attributeBase e f env (eval e env)=eval e env)
  (h:wpAny (model prog w) A (eval e env) (fun o s₁=>wpAny (model prog w) A (getAttr o f true) Q E s₁) E s):wpAny (model prog w) A (eval (.Attribute e f pos) env) Q E s:=
 Attribute_any_ h (by rw [arm_eval_Attribute,hb])
end
section
variable {X:Cx} {o e value:Expr} {f:Str} {pos pos' tpos:Pos} {ta tv:TE}
end
section
variable {X:Cx} {pins:List (Addr × Obj)} {σ:St} {H:Hp} {s:Shared} {A:Around} {E:Value→Shared→Prop} {Q:Value→Shared→Prop} {c:Value} {b:Bool}
inductive TyOf (K:PySem.W.Frag) (H:Hp):V→Value→Prop where
 | non:TyOf K H .non (.type "NoneType")
 | bl (x:Bool):TyOf K H (.bl x) (.type "bool")
 | int (i:Int):TyOf K H (.int i) (.type "int")
 | str (x:Str):TyOf K H (.str x) (.type "str")
 | flt (x:UInt64):TyOf K H (.flt x) (.type "float")
 | lst {a:Addr} {xs:List V} (e:H a=some (.lst xs)):TyOf K H (.ref a) (.type "list")
 | frz {a:Addr} {o:Obj} {xs:List V} (e:H a=some (.frz o (.lst xs))):TyOf K H (.ref a) (.type "list")
 | tup {a:Addr} {xs:List V} (e:H a=some (.tup xs)):TyOf K H (.ref a) (.type "tuple")
 | dK {a:Addr} {kvs:List (Key × V)} (e:H a=some (.dK kvs)):TyOf K H (.ref a) (.type "dict")
 | dT {a:Addr} {kvs:List (List Key × V)} (e:H a=some (.dT kvs)):TyOf K H (.ref a) (.type "dict")
 | ins {a C dx:Addr} {fs:List (Str × V)} (e:H a=some (.ins C dx fs)) (cl:Cls K C) (ha:PySem.W.findIn K (.ref C) "__class__" = some (some (.builtin "object.__class__")))
   (hn:PySem.W.specialIn K (.builtin "object.__class__") "__get__" = some (some (.builtin "getset_descriptor.__get__"))) (htk:PySem.W.takesIn K (.builtin "object.__class__")=some true)
   (hm:PySem.W.mroIn K C (.type "object")=some true):TyOf K H (.ref a) (.ref C)
theorem isinst_ok {x:V} {u t:Value} (I:Inv X pins σ H s) (rx:RelV x u) (ty:TyOf X.K H x t) (e:PySem.W.kitOne X.K t c=some b) (h:∀ tk,Q (.bool b) { s with toks:=tk }) :
  wpAny (model X.prog X.w) A (call (.builtin "isinstance") [u,c]) Q E s:=by
 cases ty with
 | non=>cases (show u=Value.none from rx); exact PySem.W.kia_one PySem.W.kitx_none I.kIn True.intro e (fun z=>nomatch z) h
 | bl y=>cases (show u=Value.bool y from rx); exact PySem.W.kia_one PySem.W.kitx_bool I.kIn True.intro e (fun z=>nomatch z) h
 | int i=>obtain ⟨t,q⟩:=(show ∃ t,u=Value.int i t from rx); cases q; exact PySem.W.kia_one PySem.W.kitx_int I.kIn True.intro e (fun z=>nomatch z) h
 | str y=>obtain ⟨t,q⟩:=(show ∃ t,u=Value.str y t from rx); cases q; exact PySem.W.kia_one PySem.W.kitx_str I.kIn True.intro e (fun z=>nomatch z) h
 | flt y=>obtain ⟨t,q⟩:=(show ∃ t,u=Value.float y t from rx); cases q; exact PySem.W.kia_one PySem.W.kitx_float I.kIn True.intro e (fun z=>nomatch z) h
 | @lst a xs ea=>
  cases (show u=Value.ref a from rx)
  obtain ⟨_,_,n,_,h1⟩:=(show ObjOk X.prog X.w H s.heap a (.lst xs) from I.hok a _ ea)
  exact PySem.W.kia_one PySem.W.kitx_list I.kIn ⟨_,h1,rfl⟩ e (fun z=>nomatch z) h
 | @frz a ob xs ea=>
  cases (show u=Value.ref a from rx)
  obtain ⟨_,_,_,n,_,h1⟩:=(show ObjOk X.prog X.w H s.heap a (.frz ob (.lst xs)) from I.hok a _ ea)
  exact PySem.W.kia_one PySem.W.kitx_list I.kIn ⟨_,h1,rfl⟩ e (fun z=>nomatch z) h
 | @tup a xs ea=>
  cases (show u=Value.ref a from rx)
  obtain ⟨_,_,_,p⟩:=(show ObjOk X.prog X.w H s.heap a (.tup xs) from I.hok a _ ea)
  obtain ⟨o,h1,h2,_⟩:=p
  exact PySem.W.kia_one PySem.W.kitx_tuple I.kIn ⟨o,h1,h2⟩ e (fun z=>nomatch z) h
 | @dK a kvs ea=>
  cases (show u=Value.ref a from rx)
  obtain ⟨_,_,vs,_,p⟩:=(show ObjOk X.prog X.w H s.heap a (.dK kvs) from I.hok a _ ea)
  obtain ⟨o,es,ep,h1,h2,_⟩:=p
  exact PySem.W.kia_one PySem.W.kitx_dict I.kIn ⟨o,h1,h2.1⟩ e (fun z=>nomatch z) h
 | @dT a kvs ea=>
  cases (show u=Value.ref a from rx)
  obtain ⟨_,_,xs,_,o,es,ep,h1,h2,_⟩:=(show ObjOk X.prog X.w H s.heap a (.dT kvs) from I.hok a _ ea)
  exact PySem.W.kia_one PySem.W.kitx_dict I.kIn ⟨o,h1,h2.1⟩ e (fun z=>nomatch z) h
 | @ins a C dx fs ea cl ha hn htk hm=>
  cases (show u=Value.ref a from rx)
  obtain ⟨mA,O,_⟩:=ins_get I.hok ea
  obtain ⟨od,J,_⟩:=O.look
  exact PySem.W.kia_one (PySem.W.kitx_own (cl.get _) cl.hd ha hn htk hm) I.kIn J e (fun z=>nomatch z) h
end
end L2
namespace L2
open PySem PySem.Spec PyProof.Rows
structure Room (k:Nat) (A:Around):Prop where
 hd:A.handled=none
 dp:A.depth+3 * k+5 < recursionLimit
 un:A.units+16 * k+200 < cLine
theorem Room.mono {j k:Nat} {A:Around} (r:Room k A) (h:j≤k):Room j A:=⟨r.hd,by have:=r.dp; omega,by have:=r.un; omega⟩
theorem Room.deeper {k:Nat} {A:Around} (r:Room (k+1) A) (env:Env):Room k (A.deeper env):=
 ⟨r.hd,by have:=r.dp; show A.depth+1+3 * k+5 < _; omega,by have:=r.un; show A.units+3+16 * k+200 < _; omega⟩
theorem make_depth {A:Around} {C:Addr} {us:List Value} {kw:List (Str × Value)}:(A.under (.builtin "type.__call__" ⟨.ref C :: us,kw⟩)).depth=A.depth+1:=by
 first | rfl | simp [Around.under,Code.weight,Code.isCreation,Code.isGuard,Code.isCaller,Code.frames,Code.isFrame,guardIds]
theorem make_units {A:Around} {C:Addr} {us:List Value} {kw:List (Str × Value)}:(A.under (.builtin "type.__call__" ⟨.ref C :: us,kw⟩)).units=A.units+1:=by
 first | rfl | simp [Around.under,Code.cUnits,Code.frames,Code.isFrame]
theorem Room.make {k:Nat} {A:Around} (r:Room (k+1) A) (C:Addr) (us:List Value) (kw:List (Str × Value)):Room k (A.under (.builtin "type.__call__" ⟨.ref C :: us,kw⟩)):=
 ⟨r.hd,by have:=r.dp; rw [make_depth]; omega,by have:=r.un; rw [make_units]; omega⟩
theorem Room.depth {k:Nat} {A:Around} (r:Room k A):A.depth < recursionLimit:=by have:=r.dp; omega
theorem Room.units {k:Nat} {A:Around} (r:Room k A):A.units+64 < cLine:=by have:=r.un; omega
def tNil:TA:=fun _ H Q=>Q [] H
def tCons (ta:TE) (tr:TA):TA:=fun σ H Q=>ta σ H fun x H1=>tr σ H1 fun xs H2=>Q (x :: xs) H2
section
variable {X:Cx} {e:Expr} {es:List Expr} {te:TE} {t:TA} {pos:Pos}
theorem pa_nil:PA X [] tNil:=fun _ _ _ _ H Q I h=>Calls.spliced_nil ⟨[],H,I,.nil,h⟩
theorem pa_cons (ha:PE X e te) (hr:PA X es t) (hs:starEach (e :: es) X.env=(false,eval e X.env) :: starEach es X.env:=by rfl):PA X (e :: es) (tCons te t):=by
 intro pos pins s σ H Q I h
 rw [hs]
 show wpAny _ _ (spliced ((false,eval e X.env) :: backTo pos (starEach es X.env))) _ _ s
 refine Calls.spliced_cons (thn (ha pins s σ H _ I h) fun u s1 ⟨x,H1,I1,r1,q1⟩=>?_)
 exact thn (hr pos pins s1 σ H1 _ I1 q1) fun us s2 ⟨xs,H2,I2,r2,q2⟩=>⟨x :: xs,H2,I2,.cons r1 r2,q2⟩
def tTup (t:TA):TE:=fun σ H Q=>t σ H fun xs H1=>xs.length≤sizeLine∧∀ p,H1 p=none→Q (.ref p) (upd H1 p (.tup xs))
def tLst (t:TA):TE:=fun σ H Q=>t σ H fun xs H1=>xs.length≤sizeLine∧∀ p,H1 p=none→Q (.ref p) (upd H1 p (.lst xs))
theorem pe_tup {x1} (h:PA X es t):PE X (.Tuple es x1 pos) (tTup t):=by
 intro pins s σ H Q I hq
 refine wpAny_Tuple_spliced (thn (h pos pins s σ H _ I hq) fun us s1 ⟨xs,H1,I1,r,z,q⟩=>⟨by rw [← r.length]; exact z,?_⟩)
 have hf:H1 s1.heap.objs.size=none:=I1.hok.fresh (Nat.le_refl _)
 refine ⟨.ref s1.heap.objs.size,upd H1 s1.heap.objs.size (.tup xs),I1.laid (t':=s1.toks) (fun b u e=>Heap.get?_push_of_some _ e) (Nat.le_refl _) ?_,rfl,q _ hf⟩
 exact ⟨z,us,r,⟨_,Heap.get?_push_size _ rfl,rfl,_,rfl⟩⟩
theorem pe_lst (h:PA X es t):PE X (.List es pos) (tLst t):=by
 intro pins s σ H Q I hq
 refine wpAny_List_spliced (thn (h pos pins s σ H _ I hq) fun us s1 ⟨xs,H1,I1,r,z,q⟩=>⟨by rw [← r.length]; exact z,?_⟩)
 have hf:H1 s1.heap.objs.size=none:=I1.hok.fresh (Nat.le_refl _)
 refine ⟨.ref s1.heap.objs.size,upd H1 s1.heap.objs.size (.lst xs),I1.laid (t':=s1.toks) (fun b u e=>Heap.get?_push_of_some _ e) (Nat.le_refl _) ?_,rfl,q _ hf⟩
 exact ⟨z,us,0,r,Heap.get?_push_size _ rfl⟩
end
abbrev Sp:=List V→Hp→VK→XK→Prop
abbrev CXT:=List Env→Hp→Shared→XK→Value→Shared→Prop
structure Env0 (P:Program) (w:World) (K:PySem.W.Frag) (mg:Str→Option Value) (base:Heap) (A:Around) (outer:List Env) (s:Shared) (H:Hp):Prop where
 frames:A.frames=some outer
 mod:Mod K mg base
 bs:∀ b o,base.get? b=some o→s.heap.get? b=some o∧H b=none
 bsz:base.objs.size≤s.heap.objs.size
 funs:s.heap.FunFrames base outer
 frf:∀ b∈frs outer,H b=none
 hok:HOk P w H s.heap
 bare:AllBare s.gens
def CE (outer:List Env) (P:Program) (w:World) (H:Hp) (s:Shared) (Q:VK) (u:Value) (s':Shared):Prop:=
 ∃ v H',s'.os=s.os∧AllBare s'.gens∧Un (frs outer) [] H H' s.heap s'.heap∧HOk P w H' s'.heap∧RelV v u∧Q v H'
def CR (CX:CXT) (outer:List Env) (P:Program) (w:World) (H:Hp) (s:Shared) (Q:VK) (E:XK) (r:Result) (s':Shared):Prop:=
 match r with
 | .ok (.ret u)=>CE outer P w H s Q u s'
 | .ok _=>False
 | .error e=>CX outer H s E e s'
structure FnOk (P:Program) (w:World) (K:PySem.W.Frag) (mg:Str→Option Value) (base:Heap) (CX:CXT) (k:Nat) (f:Addr) (fd:FuncData) (ps:List Str) (sp:Sp):Prop where
 len:∀ vs H Q E,sp vs H Q E→vs.length=ps.length
 run:∀ (A:Around) (outer:List Env) (s:Shared) (H:Hp) (args:Args) (us:List Value) (vs:List V) (Q:VK) (E:XK),Room k A→Env0 P w K mg base A outer s H→BindsTo s fd args (ps.zip us)→Vals vs us→sp vs H Q E→
  codeAny (model P w) A (.call (.ref f) args) (CR CX outer P w H s Q E) s
theorem Env0.make {P:Program} {w:World} {K:PySem.W.Frag} {mg:Str→Option Value} {base:Heap} {A:Around} {outer:List Env} {s:Shared} {H:Hp} (e:Env0 P w K mg base A outer s H) (C:Addr) (us:List Value) (kw:List (Str × Value)) :
  Env0 P w K mg base (A.under (.builtin "type.__call__" ⟨.ref C :: us,kw⟩)) outer s H:=⟨by first | exact e.frames | (simpa [Around.under,Code.envs,Code.isFrame,pushEnvs] using e.frames),e.mod,e.bs,e.bsz,e.funs,e.frf,e.hok,e.bare⟩
section
variable {X:Cx} {pins:List (Addr × Obj)} {σ:St} {H:Hp} {s s':Shared}
theorem Inv.env0 (I:Inv X pins σ H s):Env0 X.prog X.w X.K X.mg X.base X.A X.stack s H:=
 ⟨I.ok.frames,I.ok.mod,I.bs,Nat.le_trans I.ok.bsz I.sz,I.stack,I.stkFree,I.hok,I.bare⟩
theorem Inv.after {Q:VK} {u:Value} (I:Inv X pins σ H s) (h:CE X.stack X.prog X.w H s Q u s'):EP X pins σ Q u s':=by
 obtain ⟨v,H',os,bare,un,hok,r,q⟩:=h
 obtain ⟨hh,g,d,t,os'⟩:=s'
 obtain rfl:os'=s.os:=os
 exact ⟨v,H',I.call (h':=hh) (g':=g) (d':=d) (t':=t) (ch:=[]) un hok bare (fun b z=>absurd z (by simp)),r,q⟩
end
def tCall (sp:Sp) (dvs:List V) (E:XK) (t:TA):TE:=fun σ H Q=>t σ H fun vs H1=>sp (vs ++ dvs) H1 Q E
def Binds (K:PySem.W.Frag) (fd:FuncData) (ps:List Str) (ds:List Value):Prop:=
 ∀ (s:Shared) (us:List Value),K.In s.heap→(us ++ ds).length=ps.length→BindsTo s fd ⟨us,[]⟩ (ps.zip (us ++ ds))
theorem Binds.all {K:PySem.W.Frag} {fd:FuncData} {ps:List Str} (h:∀ us:List Value,us.length=ps.length→bindArgs fd ⟨us,[]⟩=pure (ps.zip us)):Binds K fd ps []:=fun s us _ hl=>by
 rw [List.append_nil] at hl ⊢
 exact .of_eq (h us hl)
def Passes (CX:CXT) (X:Cx) (E:XK):Prop:=∀ (pins:List (Addr × Obj)) (σ:St) (H:Hp) (s:Shared) (e:Value) (s':Shared),Inv X pins σ H s→CX X.stack H s E e s'→X.xe e s'
section
variable {X:Cx} {CX:CXT} {k:Nat} {f C:Addr} {fd:FuncData} {ps:List Str} {sp:Sp} {dvs:List V} {ds:List Value} {E:XK} {x m:Str} {p pos apos:Pos} {e o:Expr} {es:List Expr} {ta:TE} {t:TA}
theorem run_fn {pins:List (Addr × Obj)} {σ:St} {H:Hp} {s:Shared} {Q:VK} {us:List Value} {vs:List V} (F:FnOk X.prog X.w X.K X.mg X.base CX k f fd ps sp) (hr:Room k X.A) (hb:Binds X.K fd ps ds) (hd:Vals dvs ds) (hx:Passes CX X E)
  (I:Inv X pins σ H s) (r:Vals vs us) (h:sp (vs ++ dvs) H Q E):wpAny (model X.prog X.w) X.A (call (.ref f) us) (EP X pins σ Q) X.xe s:=by
 have r2:Vals (vs ++ dvs) (us ++ ds):=r.append hd
 have hl:(us ++ ds).length=ps.length:=by rw [← r2.length]; exact F.len _ _ _ _ h
 refine wpAny_call (codeAny_mono (F.run X.A X.stack s H ⟨us,[]⟩ (us ++ ds) (vs ++ dvs) Q E hr I.env0 (hb s us I.kIn hl) r2 h) fun r s' hq=>?_)
 cases r with
 | error e=>exact hx pins σ H s e s' I hq
 | ok fl=>
  cases fl with
  | ret u=>exact I.after hq
  | next=>exact False.elim hq
  | brk=>exact False.elim hq
  | cont=>exact False.elim hq
theorem pe_call (F:FnOk X.prog X.w X.K X.mg X.base CX k f fd ps sp) (hr:Room k X.A) (hg:Gl X x) (hm:X.mg x=some (.ref f)) (hk:PySem.W.keepIn X.K (.ref f)=true) (hb:Binds X.K fd ps ds) (hd:Vals dvs ds) (hx:Passes CX X E)
  (ha:PA X (e :: es) t) (hdb:(x==("__debug__" : Str))=false:=by decide) (he:starEach (e :: es) X.env=(false,eval e X.env) :: starEach es X.env:=by rfl) (hpl:(backTo pos (starEach es X.env)).any (·.1)=false:=by rfl) :
  PE X (.Call (.Name x p) (e :: es) [] pos) (tCall sp dvs E t):=by
 intro pins s σ H Q I h
 refine wpAny_Call_Name_kw (ld_glob I hg hm ?_ hdb)
 refine PySem.W.callWith_K (h₀:=X.base) I.ok.mod.kin hk (thn (ha pos pins s σ H _ I h) fun us s1 ⟨vs,H1,I1,r,q⟩=>⟨I1.kIn,?_⟩) he hpl
 exact run_fn F hr hb hd hx I1 r q
end
section
variable {X:Cx} {CX:CXT} {k:Nat} {f C:Addr} {fd:FuncData} {ps ks:List Str} {sp:Sp} {E:XK} {x m:Str} {p pos apos kpos:Pos} {e o:Expr} {es:List Expr} {kws:List Keyword} {te ta:TE} {t tk:TA} {nm:Option Str}
variable {g:List Value→List Value→List Value} {gV:List V→List V→List V}
end
structure FnScope (N P:List Str) (sc:Scope):Prop where
 kind:sc.kind=.function
 co:sc.isCoroutine=false
 gen:sc.isGenerator=false
 nd:N.Nodup
 pre:N.take P.length=P
 par:∀ x∈P,sc.names.lookup x=some .local∨sc.names.lookup x=some .cell
 nofree:∀ y∈sc.names,y.2≠.free
theorem bindL_out {kindOf:Str→Option NameKind} {x:Str}:∀ {binds:List (Str × Value)} {m:Str→Option Value},(∀ v,(x,v)∉binds)→bindL kindOf binds m x=m x
 | [],_,_=>rfl
 | (n,v) :: r,m,h=>by
  unfold bindL
  rw [bindL_out fun w hw=>h w (List.mem_cons_of_mem _ hw)]
  split
  ·have:x≠n:=by rintro rfl; exact h v List.mem_cons_self
   simp [this]
  ·rfl
theorem bindC_out {kindOf:Str→Option NameKind} {x:Str}:∀ {binds:List (Str × Value)} {m:Str→Option Value},(∀ v,(x,v)∉binds)→bindC kindOf binds m x=m x
 | [],_,_=>rfl
 | (n,v) :: r,m,h=>by
  unfold bindC
  rw [bindC_out fun w hw=>h w (List.mem_cons_of_mem _ hw)]
  split
  ·rfl
  ·have:x≠n:=by rintro rfl; exact h v List.mem_cons_self
   simp [this]
theorem bindL_get {kindOf:Str→Option NameKind} {x:Str} {v:Value}:∀ {P:List Str} {vs:List Value} {i:Nat} {m:Str→Option Value},P.Nodup→P[i]? = some x→vs[i]? = some v→kindOf x=some .local→
  bindL kindOf (P.zip vs) m x=some v
 | [],_,_,_,_,h,_,_=>by simp at h
 | _ :: _,[],_,_,_,_,h,_=>by simp at h
 | p :: P,w :: vs,0,m,nd,h1,h2,hk=>by
  simp at h1 h2; subst h1; subst h2
  show bindL kindOf ((p,w) :: P.zip vs) m p=_
  unfold bindL
  rw [bindL_out fun v hv=>(List.nodup_cons.mp nd).1 (List.of_mem_zip hv).1,if_pos hk]
  simp
 | p :: P,w :: vs,i+1,m,nd,h1,h2,hk=>by
  show bindL kindOf ((p,w) :: P.zip vs) m x=_
  unfold bindL
  exact bindL_get (i:=i) (List.nodup_cons.mp nd).2 (by simpa using h1) (by simpa using h2) hk
theorem bindC_get {kindOf:Str→Option NameKind} {x:Str} {v:Value}:∀ {P:List Str} {vs:List Value} {i:Nat} {m:Str→Option Value},P.Nodup→P[i]? = some x→vs[i]? = some v→kindOf x≠some .local→
  bindC kindOf (P.zip vs) m x=some v
 | [],_,_,_,_,h,_,_=>by simp at h
 | _ :: _,[],_,_,_,_,h,_=>by simp at h
 | p :: P,w :: vs,0,m,nd,h1,h2,hk=>by
  simp at h1 h2; subst h1; subst h2
  show bindC kindOf ((p,w) :: P.zip vs) m p=_
  unfold bindC
  rw [bindC_out fun v hv=>(List.nodup_cons.mp nd).1 (List.of_mem_zip hv).1,if_neg hk]
  simp
 | p :: P,w :: vs,i+1,m,nd,h1,h2,hk=>by
  show bindC kindOf ((p,w) :: P.zip vs) m x=_
  unfold bindC
  exact bindC_get (i:=i) (List.nodup_cons.mp nd).2 (by simpa using h1) (by simpa using h2) hk
def start (N:List Str) (vs:List V):St:=vs.map some ++ List.replicate (N.length - vs.length) none
def cxOf (CX:CXT) (P:Program) (w:World) (K:PySem.W.Frag) (mg:Str→Option Value) (base:Heap) (N:List Str) (qual:Str) (scope:Scope) (f:Addr) (cd:Value) (A:Around) (outer:List Env) (s:Shared) (H:Hp) (E:XK):Cx where
 prog:=P
 w:=w
 K:=K
 mg:=mg
 base:=base
 A:=A.deeper (envOfC qual scope s.heap.objs.size f cd)
 N:=N
 s₀:=s
 H₀:=H
 env:=envOfC qual scope s.heap.objs.size f cd
 outer:=outer
 stack:=envOfC qual scope s.heap.objs.size f cd :: outer
 ex:=[]
 calm:=true
 fn:=fun _=>true
 pn:=[]
 xe:=fun e s'=>wpAny (model P w) (A.deeper (envOfC qual scope s.heap.objs.size f cd)) (leaving (envOfC qual scope s.heap.objs.size f cd) e) (fun _ s''=>CX outer H s E e s'') (fun e' s''=>CX outer H s E e' s'') s'
theorem cell_has {sc:Scope} {n:Nat} {x:Str} (h:sc.names.lookup x=some .cell):∃ c,(cellsFrom n sc.names []).lookup x=some c:=by
 have q:=PySem.W.cellsFrom_some sc.names n [] (.inl h)
 exact Option.isSome_iff_exists.mp q
theorem inv_start {CX:CXT} {P:Program} {w:World} {K:PySem.W.Frag} {mg:Str→Option Value} {base:Heap} {N ps:List Str} {qual:Str} {scope:Scope} {f:Addr} {cd:Value} {A:Around} {outer:List Env} {s s1:Shared} {H:Hp} {E:XK} {us:List Value} {vs:List V}
  (S:FnScope N ps scope) (hd:A.handled=none) (e0:Env0 P w K mg base A outer s H) (hl:vs.length=ps.length) (r:Vals vs us)
  (x:InCallC s s.heap.objs.size (bindL (envOfC qual scope s.heap.objs.size f cd).kindOf (ps.zip us) fun _=>none) (cellsFrom (s.heap.objs.size+1) scope.names []) (bindC (envOfC qual scope s.heap.objs.size f cd).kindOf (ps.zip us) fun _=>none) s1) :
  Inv (cxOf CX P w K mg base N qual scope f cd A outer s H E) [] (start N vs) H s1:=by
 have hpl:ps.length≤N.length:=by have:=congrArg List.length S.pre; rw [List.length_take] at this; omega
 obtain ⟨h1,tk,rfl,hk⟩:=x.done
 have noA:∀ b:Addr,b∉(cxOf CX P w K mg base N qual scope f cd A outer s H E).ex:=fun b z=>absurd (show b∈([]:List Addr) from z) (by simp)
 refine ⟨⟨e0.mod,S.kind,rfl,rfl,Nat.le_refl _,fun y z c h1 h2=>?_,fun y hy=>?_,fun y c _ h=>?_,fun _=>hd,Around.frames_deeper e0.frames,.inr ⟨rfl,rfl⟩,fun b z=>absurd z (noA b),e0.bs,e0.bsz,fun b _ _=>noA b,fun b z=>absurd z (noA b),e0.funs,e0.frf⟩,
  rfl,e0.bare,Un.kept hk,⟨_,x.toInCall.ns,fun i y v h1 h2 h3=>?_⟩,fun y c h=>⟨_,x.cell y c h⟩,e0.hok.fresh (Nat.le_refl _),fun y c h=>?_,fun p hp=>absurd (show p∈([]:List (Addr × Obj)) from hp) (by simp),e0.hok.kept hk,?_⟩
 ·exact name_of_addr x.apart (PySem.mem_of_lookup h1) (PySem.mem_of_lookup h2)
 ·have hy:scope.names.lookup y=some .cell∨scope.names.lookup y=some .free:=hy
  rcases hy with hy | hy
  ·exact cell_has hy
  ·exact absurd rfl (S.nofree _ (PySem.mem_of_lookup hy))
 ·exact Nat.le_of_lt (x.above y c (PySem.mem_of_lookup h))
 ·have hi:i < vs.length:=by
   unfold start at h2
   by_cases hi:i < vs.length
   ·exact hi
   ·rw [List.getElem?_append_right (by simpa using hi)] at h2
    rw [List.getElem?_replicate] at h2
    split at h2 <;> cases h2
  have ha:vs[i]? = some v:=by
   unfold start at h2
   rw [List.getElem?_append_left (by simpa using hi),List.getElem?_map] at h2
   cases e:vs[i]? with
   | none=>rw [e] at h2; cases h2
   | some a=>rw [e] at h2; cases h2; rfl
  obtain ⟨u,hu,rv⟩:=r.get ha
  have hp:ps[i]? = some y:=by
   rw [← S.pre,List.getElem?_take_of_lt (by omega)]; exact h1
  have ndP:ps.Nodup:=by rw [← S.pre]; exact S.nd.sublist (List.take_sublist _ _)
  refine ⟨u,rv,?_⟩
  rcases S.par y (List.mem_of_getElem? hp) with k | k
  ·exact .inl ⟨k,bindL_get ndP hp hu k⟩
  ·obtain ⟨c,e⟩:=cell_has (n:=s.heap.objs.size+1) k
   refine .inr ⟨.inl k,c,e,?_⟩
   have q:=x.cell y c e
   rw [bindC_get ndP hp hu (by show scope.names.lookup y≠_; rw [k]; decide)] at q
   exact q
 ·exact e0.hok.fresh (Nat.le_of_lt (x.above y c (PySem.mem_of_lookup h)))
 ·unfold start
  show _=N.length
  rw [List.length_append,List.length_map,List.length_replicate]
  omega
theorem fn_of {CX:CXT} {P:Program} {w:World} {K:PySem.W.Frag} {mg:Str→Option Value} {base:Heap} {k:Nat} {f:Addr} {name qual:Str} {params:Arguments} {body:List Stmt} {scope:Scope} {dV kV doc pm cdv ct oc:Value} {an od:Option Addr}
  {osl:Array (Option Value)} {N ps:List Str} {sp:Sp} (lk:K.lookup f=some ⟨oc,od,.func (PySem.W.fnOf name qual params body scope dV kV doc pm an cdv ct),osl⟩) (hcd:PySem.W.codeIn K cdv qual=true) (S:FnScope N ps scope)
  (len:∀ vs H Q E,sp vs H Q E→vs.length=ps.length)
  (hbody:∀ (A:Around) (outer:List Env) (s:Shared) (H:Hp) (vs:List V) (Q:VK) (E:XK),Room k (A.deeper (envOfC qual scope s.heap.objs.size f cdv))→sp vs H Q E→
   ∃ t,PSs (cxOf CX P w K mg base N qual scope f cdv A outer s H E) body t∧t { nx:=fun _ H'=>Q .non H',rt:=Q } (start N vs) H) :
  FnOk P w K mg base CX (k+1) f (PySem.W.fnOf name qual params body scope dV kV doc pm an cdv ct) ps sp:=by
 refine ⟨len,fun A outer s H args us vs Q E hr e0 hb r hsp=>?_⟩
 have hl:=len _ _ _ _ hsp
 have KX:K.In s.heap:=e0.mod.kin.keeps fun b o e=>(e0.bs b o e).1
 have lim:s.heap.NoLimit:=e0.mod.nolimit.keeps fun b o e=>(e0.bs b o e).1
 have hkind:∀ y∈ps.zip us,scope.names.lookup y.1=some .local∨(scope.names.lookup y.1=some .cell∧((cellsFrom (s.heap.objs.size+1) scope.names []).lookup y.1).isSome=true):=fun ⟨n,v⟩ hy=>by
  rcases S.par n (List.of_mem_zip hy).1 with q | q
  ·exact .inl q
  ·exact .inr ⟨q,PySem.W.cellsFrom_some _ _ _ (.inl q)⟩
 refine codeAny_call_function hr.depth (KX _ _ lk) rfl S.co S.gen rfl (PySem.W.codeRec_of KX hcd) (hb _ _ _ _ ?_)
 refine wpAny_newFunctionEnv_cells S.kind hkind fun env he s1 x=>?_
 subst he
 refine ⟨lim.keeps x.toInCall.keep,codeAny_func ?_⟩
 obtain ⟨t,ht,hq⟩:=hbody A outer s H vs Q E (hr.deeper _) hsp
 have I:Inv (cxOf CX P w K mg base N qual scope f cdv A outer s H E) [] (start N vs) H s1:=inv_start S hr.hd e0 hl r x
 refine wpAny_mono (ht [] s1 (start N vs) H _ I hq) (fun fl s' hs=>?_) fun e s' hs=>hs
 have fin:∀ {σ':St} {H':Hp} {v:V} {u:Value},Inv (cxOf CX P w K mg base N qual scope f cdv A outer s H E) [] σ' H' s'→RelV v u→Q v H'→CE outer P w H s Q u s':=
  fun {σ' H' v u} J rv q=>⟨v,H',J.os,J.bare,J.base,J.hok,rv,q⟩
 cases fl with
 | ret u=>
  obtain ⟨v,σ',H',J,rv,q⟩:=hs
  exact fin J rv q
 | next=>
  obtain ⟨σ',H',J,q⟩:=hs
  exact fin (v:=V.non) (u:=Value.none) J rfl q
 | brk=>
  obtain ⟨_,_,_,q⟩:=hs
  exact False.elim q
 | cont=>
  obtain ⟨_,_,_,q⟩:=hs
  exact False.elim q
end L2
namespace L2
open PySem PySem.Spec PyProof.Rows
section
variable {X:Cx} {x:Str} {p pos:Pos} {e:Expr} {es:List Expr} {t:TA} {id T:String} {r:List V→Hp→VK→Prop}
def tCB (r:List V→Hp→VK→Prop) (t:TA):TE:=fun σ H Q=>t σ H fun vs H1=>r vs H1 Q
theorem pe_callB (hc:CallR X (.builtin id) r) (hg:Gl X x) (hm:X.mg x=none) (hv:bootBuiltins x=some (.builtin id)) (ha:PA X (e :: es) t) (hn:x≠"__name__":=by decide) (hdb:(x==("__debug__" : Str))=false:=by decide)
  (he:starEach (e :: es) X.env=(false,eval e X.env) :: starEach es X.env:=by rfl) (hpl:(backTo pos (starEach es X.env)).any (·.1)=false:=by rfl):PE X (.Call (.Name x p) (e :: es) [] pos) (tCB r t):=by
 intro pins s σ H Q I h
 refine wpAny_Call_Name_kw (ld_blt I hg hm hv ?_ hn hdb)
 exact PyProof.Rows.callWith_builtin1 (thn (ha pos pins s σ H _ I h) fun us s1 ⟨vs,H1,I1,r1,q1⟩=>hc pins s1 σ H1 vs us Q I1 r1 q1) he hpl
theorem pe_callTy (hc:CallR X (.type T) r) (hg:Gl X x) (hm:X.mg x=none) (hv:bootBuiltins x=some (.type T)) (ha:PA X (e :: es) t) (hn:x≠"__name__":=by decide) (hdb:(x==("__debug__" : Str))=false:=by decide)
  (he:starEach (e :: es) X.env=(false,eval e X.env) :: starEach es X.env:=by rfl) (hpl:(backTo pos (starEach es X.env)).any (·.1)=false:=by rfl):PE X (.Call (.Name x p) (e :: es) [] pos) (tCB r t):=by
 intro pins s σ H Q I h
 refine wpAny_Call_Name_kw (ld_blt I hg hm hv ?_ hn hdb)
 exact PyProof.Rows.callWith_type1 (thn (ha pos pins s σ H _ I h) fun us s1 ⟨vs,H1,I1,r1,q1⟩=>hc pins s1 σ H1 vs us Q I1 r1 q1) he hpl
end
end L2
namespace HT
open PySem PyProof.Rows
section
open PySem.SeqAt
open PySem.AutoSeq1 (wpAny_loadPart')
open PySem.MeetsSeq PySem.MeetsSeq2 PySem.MeetsSeq3
end
section
variable {prog:Program} {w:World} {A:Around} {E:Value→Shared→Prop} {s:Shared}
def sIx (n d:Nat):Option Int→Nat
 | none=>d
 | some v=>if v < 0 then (v+(n:Int)).toNat else min v.toNat n
theorem sIx_none (n d:Nat):sIx n d none=d:=rfl
theorem sIx_nat (n d k:Nat):sIx n d (some (k:Int))=min k n:=by
 show (if (k:Int) < 0 then ((k:Int)+(n:Int)).toNat else min (k:Int).toNat n)=min k n
 rw [if_neg (by omega),Int.toNat_natCast]
end
end HT
namespace L2
open PySem PySem.Spec PyProof.Rows
abbrev TO:=St→Hp→(Option Int→Hp→Prop)→Prop
def PO (X:Cx) (e:Option Expr) (t:TO):Prop:=
 ∀ (pins:List (Addr × Obj)) (s:Shared) (σ:St) (H:Hp) (Q:Option Int→Hp→Prop),Inv X pins σ H s→t σ H Q→
  wpAny (model X.prog X.w) X.A (evalPart e X.env) (fun u s'=>∃ o H',Inv X pins σ H' s'∧IsPart u o∧Q o H') X.xe s
def tNoPart:TO:=fun _ H Q=>Q none H
inductive tPartI (Q:Option Int→Hp→Prop) (x:V) (H1:Hp):Prop
 | mk (i:_) (h1:x=.int i) (h2:Q (some i) H1):tPartI Q x H1
def tPart (t:TE):TO:=fun σ H Q=>t σ H fun x H1=>tPartI Q x H1
section
variable {X:Cx} {e:Expr} {te:TE} {lo hi:Option Expr} {tl th:TO} {pos p2:Pos}
theorem po_none:PO X none tNoPart:=by
 intro pins s σ H Q I h
 rw [evalPart_none]
 exact wpAny_pure ⟨none,H,I,.none,h⟩
theorem po_some (h:PE X e te):PO X (some e) (tPart te):=by
 intro pins s σ H Q I hw
 rw [evalPart_some]
 refine thn (h pins s σ H _ I hw) fun u s1 ⟨x,H1,I1,r1,q1⟩=>?_
 obtain ⟨i,rfl,q⟩:=q1
 obtain ⟨t,rfl⟩:=r1
 exact ⟨some i,H1,I1,.int i t,q⟩
def SlR (X:Cx) (r:V→Option Int→Option Int→Hp→VK→Prop):Prop:=
 ∀ (pins:List (Addr × Obj)) (s:Shared) (σ:St) (H:Hp) (x:V) (v vl vu:Value) (lo hi:Option Int) (sl:Addr) (Q:VK),Inv X pins σ H s→RelV x v→s.heap.IsSliceOf sl vl vu .none→IsPart vl lo→IsPart vu hi→r x lo hi H Q→
  ∃ T id,typeLookup (.type T) "__getitem__" = pure (some (.builtin id))∧s.TypeIs v T∧wpAny (model X.prog X.w) X.A (getItem v (.ref sl)) (EP X pins σ Q) X.xe s
def tSl (r:V→Option Int→Option Int→Hp→VK→Prop) (te:TE) (tl th:TO):TE:=fun σ H Q=>te σ H fun x H1=>tl σ H1 fun l H2=>th σ H2 fun u H3=>r x l u H3 Q
theorem pe_slice {r:V→Option Int→Option Int→Hp→VK→Prop} (hr:SlR X r) (he:PE X e te) (hl:PO X lo tl) (hu:PO X hi th):PE X (.Subscript e (.Slice lo hi none p2) pos) (tSl r te tl th):=by
 intro pins s σ H Q I h
 refine Subscript_ (thn (he pins s σ H _ I h) fun v s1 ⟨x,H1,I1,r1,q1⟩=>?_)
 refine wpAny_Slice (thn (hl pins s1 σ H1 _ I1 q1) fun vl s2 ⟨l,H2,I2,pl,q2⟩=>thn (hu pins s2 σ H2 _ I2 q2) fun vu s3 ⟨u,H3,I3,pu,q3⟩=>?_)
 rw [evalPart_none]
 refine wpAny_pure ?_
 have I4:Inv X pins σ H3 { s3 with heap:=s3.heap.push { cls:=.type "slice",data:=.fields #[vl,vu,.none] } }:=I3.kept (t':=s3.toks) fun b ob q=>Heap.get?_push_of_some _ q
 obtain ⟨T,id,hT,ht,hg⟩:=hr pins { s3 with heap:=s3.heap.push { cls:=.type "slice",data:=.fields #[vl,vu,.none] } } σ H3 x v vl vu l u s3.heap.objs.size Q I4 r1 (Heap.IsSliceOf.new ..) pl pu q3
 show wpAny (model X.prog X.w) X.A (subscriptTail e (.Slice lo hi none p2) v (.ref s3.heap.objs.size)) (EP X pins σ Q) X.xe { s3 with heap:=s3.heap.push { cls:=.type "slice",data:=.fields #[vl,vu,.none] } }
 exact tail_any (ops:=[.ref s3.heap.objs.size,v]) ht hT hg (by with_unfolding_all rfl)
def cutV (xs:List V) (lo hi:Option Int):List V:=(xs.drop (HT.sIx xs.length 0 lo)).take (HT.sIx xs.length xs.length hi - HT.sIx xs.length 0 lo)
theorem cutV_length (xs:List V) (lo hi:Option Int):(cutV xs lo hi).length≤xs.length:=by
 unfold cutV
 rw [List.length_take,List.length_drop]
 omega
end
end L2
namespace L2
open PySem PySem.Spec PyProof.Rows
def ixN (n:Nat) (i:Int):Option Nat:=if 0≤i then (if i < n then some i.toNat else none) else if -(n:Int)≤i then some (i+n).toNat else none
def atI {α:Type} (xs:List α) (i:Int):Option α:=(ixN xs.length i).bind fun j=>xs[j]?
theorem ixN_seq {n:Nat} {i:Int} {j:Nat} (h:ixN n i=some j):seqIndex? i n=some j∧j < n∧-(n:Int)≤i∧i < n:=by
 unfold ixN at h
 by_cases h0:0≤i
 ·rw [if_pos h0] at h
  by_cases h1:i < n
  ·rw [if_pos h1] at h
   have e:i.toNat=j:=Option.some.inj h
   exact ⟨by rw [seqIndex_of h0 h1,e],by omega,by omega,h1⟩
  ·rw [if_neg h1] at h; cases h
 ·rw [if_neg h0] at h
  by_cases h1 : -(n:Int)≤i
  ·rw [if_pos h1] at h
   have e:(i+n).toNat=j:=Option.some.inj h
   exact ⟨by rw [seqIndex_neg (by omega) h1,e],by omega,h1,by omega⟩
  ·rw [if_neg h1] at h; cases h
theorem atI_get {α:Type} {xs:List α} {i:Int} {v:α} (h:atI xs i=some v):∃ j,seqIndex? i xs.length=some j∧xs[j]? = some v∧j < xs.length∧-(xs.length:Int)≤i∧i < xs.length:=by
 unfold atI at h
 cases e:ixN xs.length i with
 | none=>rw [e] at h; cases h
 | some j=>
  rw [e] at h
  obtain ⟨h1,h2,h3,h4⟩:=ixN_seq e
  exact ⟨j,h1,h,h2,h3,h4⟩
theorem atI_nat {α:Type} {xs:List α} {j:Nat} {v:α} (h:xs[j]? = some v):atI xs (j:Int)=some v:=by
 have hj:j < xs.length:=(List.getElem?_eq_some_iff.mp h).1
 have e:ixN xs.length (j:Int)=some j:=by
  unfold ixN
  rw [if_pos (by omega),if_pos (by omega)]; simp
 unfold atI; rw [e]; exact h
def PlainIx (b:Expr):Prop:=∀ o i,subscripted b false o i=operate [o,i] (getItem o i)
def IxR (X:Cx) (r:R2):Prop:=
 ∀ (value slice:Expr) (pins:List (Addr × Obj)) (s:Shared) (σ:St) (H:Hp) (x y:V) (v u:Value) (Q:VK),Inv X pins σ H s→RelV x v→RelV y u→r x y H Q→
  subscripted slice false v u=operate [v,u] (getItem v u)→wpAny (model X.prog X.w) X.A (subscriptTail value slice v u) (EP X pins σ Q) X.xe s
def MtR (X:Cx) (id:String) (r:V→List V→Hp→VK→Prop):Prop:=
 ∀ (pins:List (Addr × Obj)) (s:Shared) (σ:St) (H:Hp) (x:V) (xs:List V) (v:Value) (us:List Value) (Q:VK),Inv X pins σ H s→RelV x v→Vals xs us→r x xs H Q→
  wpAny (model X.prog X.w) X.A (call (.builtin id) (v :: us)) (EP X pins σ Q) X.xe s
section
variable {X:Cx} {a b:Expr} {ta tb:TE} {pos:Pos}
theorem IxR.or {r r':R2} (h:IxR X r) (h':IxR X r'):IxR X (fun x y H Q=>r x y H Q∨r' x y H Q):=by
 intro value slice pins s σ H x y v u Q I rx ry q hs
 rcases q with q | q
 ·exact h value slice pins s σ H x y v u Q I rx ry q hs
 ·exact h' value slice pins s σ H x y v u Q I rx ry q hs
theorem pe_ix {r:R2} (hr:IxR X r) (ha:PE X a ta) (hb:PE X b tb) (hs:PlainIx b):PE X (.Subscript a b pos) (tOp r ta tb):=by
 intro pins s σ H Q I h
 exact Subscript_ (binT ha hb I h fun v u s2 x y H2 I2 rx ry q=>hr a b pins s2 σ H2 x y v u Q I2 rx ry q (hs _ _))
inductive rIxLI (K:PySem.W.Frag) (x:V) (y:V) (H:Hp) (Q:VK):Prop
 | mk (p xs i v:_) (h1:x=.ref p) (h2:y=.int i) (h3:SqL K H p xs) (h4:atI xs i=some v) (h5:Q v H):rIxLI K x y H Q
def rIxL (K:PySem.W.Frag):R2:=fun x y H Q=>rIxLI K x y H Q
inductive rIxTI (K:PySem.W.Frag) (x:V) (y:V) (H:Hp) (Q:VK):Prop
 | mk (p xs i v:_) (h1:x=.ref p) (h2:y=.int i) (h3:SqT K H p xs) (h4:atI xs i=some v) (h5:Q v H):rIxTI K x y H Q
def rIxT (K:PySem.W.Frag):R2:=fun x y H Q=>rIxTI K x y H Q
inductive rIxSI (x:V) (y:V) (H:Hp) (Q:VK):Prop
 | mk (z i c:_) (h1:x=.str z) (h2:y=.int i) (h3:z.length≤sizeLine) (h4:atI z.cps.toList i=some c) (h5:Q (.str ⟨#[c]⟩) H):rIxSI x y H Q
def rIxS:R2:=fun x y H Q=>rIxSI x y H Q
theorem ix_list:IxR X (rIxL X.K):=by
 intro value slice pins s σ H x y v u Q I rx ry h hs
 obtain ⟨p,xs,i,z,rfl,rfl,hq,he,q⟩:=h
 cases rx
 obtain ⟨t,rfl⟩:=ry
 obtain ⟨its,r,pl,hz⟩:=I.list hq
 obtain ⟨j,h1,h2,h3,h4,h5⟩:=atI_get he
 obtain ⟨w,ew,rw'⟩:=r.get h2
 have hl:=r.length
 have hn:=line63
 have fin:EP X pins σ Q w s:=⟨z,H,I,rw',q⟩
 by_cases h0:0≤i
 ·have hj:i.toNat=j:=by
   rw [seqIndex_of h0 h5] at h1
   exact Option.some.inj h1
  exact item_listR pl.isList h0 (by omega) (by rw [hj]; simpa using ew) fin hs
 ·have hj:(i+(its.toArray.size:Int)).toNat=j:=by
   rw [seqIndex_neg (by omega) h4] at h1
   rw [List.size_toArray,← hl]
   exact Option.some.inj h1
  exact subscriptTail_builtinR (x:=w) pl.isList.typeIs slot_list_getitem.lookup
   (wpAny_getItem_list_neg (Q:=fun r s'=>r=w∧EP X pins σ Q r s') pl.isList (by omega) (by rw [List.size_toArray] <;> omega) (by omega) (by rw [hj]; simpa using ew) ⟨rfl,fin⟩) hs
theorem ix_tup:IxR X (rIxT X.K):=by
 intro value slice pins s σ H x y v u Q I rx ry h hs
 obtain ⟨p,xs,i,z,rfl,rfl,hq,he,q⟩:=h
 cases rx
 obtain ⟨t,rfl⟩:=ry
 obtain ⟨its,r,pl,hz⟩:=I.tuple hq
 obtain ⟨j,h1,h2,h3,h4,h5⟩:=atI_get he
 obtain ⟨w,ew,rw'⟩:=r.get h2
 have hl:=r.length
 have hn:=line63
 have fin:EP X pins σ Q w s:=⟨z,H,I,rw',q⟩
 exact subscriptTail_builtinR (x:=w) pl.typeIs slot_tuple_getitem.lookup
  (getItem_tuple (j:=j) (Q:=fun r s'=>r=w∧EP X pins σ Q r s') pl (by omega) (by omega) (by rw [List.size_toArray,← hl]; exact h1) (by simpa using ew) ⟨rfl,fin⟩) hs
theorem ix_str:IxR X rIxS:=by
 intro value slice pins s σ H x y v u Q I rx ry h hs
 obtain ⟨z,i,c,rfl,rfl,hz,he,q⟩:=h
 obtain ⟨t,rfl⟩:=rx
 obtain ⟨t',rfl⟩:=ry
 obtain ⟨j,h1,h2,h3,h4,h5⟩:=atI_get he
 have hl:z.cps.toList.length=z.length:=by simp [Str.length]
 rw [hl] at h1 h4 h5
 have hn:=line63
 exact tail_any (typeIs_str s z t) slot_str_getitem.lookup (getItem_str (c:=c) (by
  have e1:decide (i < -(2 ^ 63:Int))=false:=decide_eq_false (by omega)
  have e2:decide (i ≥ 2 ^ 63)=false:=decide_eq_false (by omega)
  rw [e1,e2,Bool.or_false]) (by rw [h1]; simpa using h2) ⟨.str ⟨#[c]⟩,H,I.tok _,⟨_,rfl⟩,q⟩) hs
def rIx (K:PySem.W.Frag):R2:=fun x y H Q=>rIxL K x y H Q∨rIxT K x y H Q∨rIxS x y H Q
theorem ix_seq:IxR X (rIx X.K):=ix_list.or (ix_tup.or ix_str)
theorem mapSeq_set (its:List Value) (n j:Nat) (u:Value):Obj.mapSeq (·.setIfInBounds j u) { cls:=.type "list",data:=.seq its.toArray n } = { cls:=.type "list",data:=.seq (its.set j u).toArray n }:=by
 simp [Obj.mapSeq]
theorem Inv.lst {pins:List (Addr × Obj)} {σ:St} {H:Hp} {s:Shared} {p:Addr} {xs:List V} (I:Inv X pins σ H s) (h:H p=some (.lst xs)) :
  ∃ (its:List Value) (n:Nat),Vals xs its∧s.heap.get? p=some { cls:=.type "list",data:=.seq its.toArray n }∧xs.length≤sizeLine:=by
 obtain ⟨z,its,n,r,e⟩:=I.hok p _ h
 exact ⟨its,n,r,e,z⟩
theorem Inv.lstUpd {pins:List (Addr × Obj)} {σ:St} {H:Hp} {s:Shared} {p:Addr} {xs ys:List V} {its its':List Value} {n n':Nat} {f:Obj→Obj} (I:Inv X pins σ H s) (h:H p=some (.lst xs))
  (ho:s.heap.get? p=some { cls:=.type "list",data:=.seq its.toArray n }) (hf:f { cls:=.type "list",data:=.seq its.toArray n } = { cls:=.type "list",data:=.seq its'.toArray n' }) (r:Vals ys its') (hz:ys.length≤sizeLine) (t:Nat) :
  Inv X pins σ (upd H p (.lst ys)) { s with heap:=s.heap.update p f,toks:=t }:=by
 have e:(s.heap.update p f).get? p=some { cls:=.type "list",data:=.seq its'.toArray n' }:=by
  rw [Heap.get?_update_self f ho (by rw [hf] <;> rfl),hf]
 refine I.write (x:=p) (e:=p) (by rw [h]; trivial) (.inl rfl) (fun b u hb q=>(Heap.get?_update_other _ _ (Ne.symm hb)).trans q) ⟨_,e⟩ ?_
 exact ⟨hz,its',n',r,e⟩
inductive rSetLI (o:V) (i:V) (v:V) (H:Hp) (Q:(Hp→Prop)):Prop
 | mk (p xs k j:_) (h1:o=.ref p) (h2:i=.int k) (h3:H p=some (.lst xs)) (h4:ixN xs.length k=some j) (h5:Q (upd H p (.lst (xs.set j v)))):rSetLI o i v H Q
def rSetL:V→V→V→Hp→(Hp→Prop)→Prop:=fun o i v H Q=>rSetLI o i v H Q
theorem set_list:PSet X rSetL:=by
 intro pins s σ H o i v ov iv u Q I ro ri rv h
 obtain ⟨p,xs,k,j,rfl,rfl,hp,hj,q⟩:=h
 cases ro
 obtain ⟨t,rfl⟩:=ri
 obtain ⟨its,n,r,ho,hz⟩:=I.lst hp
 obtain ⟨h1,h2,h3,h4⟩:=ixN_seq hj
 have hl:=r.length
 have hn:=line63
 have I':Inv X pins σ (upd H p (.lst (xs.set j v))) { s with heap:=s.heap.update p (Obj.mapSeq (·.setIfInBounds j u)) }:=
  I.lstUpd hp ho (mapSeq_set its n j u) (r.set rv j) (by rw [List.length_set]; exact hz) s.toks
 by_cases h0:0≤k
 ·have hk:k.toNat=j:=by
   rw [seqIndex_of h0 h4] at h1
   exact Option.some.inj h1
  exact PySem.W.ki_setAt ho h0 (by omega) (by rw [List.size_toArray,← hl]; exact h4) (by rw [hk]; exact ⟨_,I',q⟩)
 ·have hk:(k+(its.toArray.size:Int)).toNat=j:=by
   rw [seqIndex_neg (by omega) h3] at h1
   rw [List.size_toArray,← hl]
   exact Option.some.inj h1
  exact PySem.W.ki_setBack ho (by omega) (by rw [List.size_toArray,← hl]; exact h3) (by omega) (by rw [hk]; exact ⟨_,I',q⟩)
theorem slice_bounds (lo hi:Option Int) (n:Nat):(sliceBounds lo hi none n).1=((HT.sIx n 0 lo:Nat):Int)∧(sliceBounds lo hi none n).2.1=((HT.sIx n n hi:Nat):Int)∧(sliceBounds lo hi none n).2.2=1:=by
 refine ⟨?_,?_,rfl⟩
 ·cases lo with
  | none=>simp [sliceBounds,HT.sIx]
  | some i=>
   simp only [sliceBounds,HT.sIx,Option.getD_none,show (1:Int) > 0 by decide,if_true]
   by_cases h:i < 0
   ·simp only [h,if_true] <;> omega
   ·simp only [h,if_false] <;> omega
 ·cases hi with
  | none=>simp [sliceBounds,HT.sIx]
  | some i=>
   simp only [sliceBounds,HT.sIx,Option.getD_none,show (1:Int) > 0 by decide,if_true]
   by_cases h:i < 0
   ·simp only [h,if_true] <;> omega
   ·simp only [h,if_false] <;> omega
theorem slicePick_cut (its:List Value) (lo hi:Option Int):slicePick its.toArray lo hi none=((its.drop (HT.sIx its.length 0 lo)).take (HT.sIx its.length its.length hi - HT.sIx its.length 0 lo)).toArray:=by
 obtain ⟨h1,h2,h3⟩:=slice_bounds lo hi its.toArray.size
 unfold slicePick
 rw [h1,h2,h3]
 simp only [sliceRange_one,pick_run,List.size_toArray] <;> rfl
inductive rSlLI (K:PySem.W.Frag) (x:V) (lo:Option Int) (hi:Option Int) (H:Hp) (Q:VK):Prop
 | mk (a xs:_) (h1:x=.ref a) (h2:SqL K H a xs) (h3:∀ p,H p=none→Q (.ref p) (upd H p (.lst (cutV xs lo hi)))):rSlLI K x lo hi H Q
def rSlL (K:PySem.W.Frag):V→Option Int→Option Int→Hp→VK→Prop:=fun x lo hi H Q=>rSlLI K x lo hi H Q
theorem sl_list:SlR X (rSlL X.K):=by
 intro pins s σ H x v vl vu lo hi sl Q I rx hs pl pu h
 obtain ⟨a,xs,rfl,hx,q⟩:=h
 cases rx
 obtain ⟨its,r,ht,hz⟩:=I.list hx
 have hlen:=r.length
 refine ⟨"list",_,slot_list_getitem.lookup,ht.isList.typeIs,?_⟩
 refine wpAny_getItem_list_slice ht.isList hs pl pu .none (by simp) ?_ (by rw [List.size_toArray] <;> omega)
 rw [slicePick_cut,← hlen]
 refine ⟨.ref s.heap.objs.size,_,I.laid (t':=s.toks) (o:=.lst (cutV xs lo hi)) (fun b ob q=>Heap.get?_push_of_some _ q) (Nat.le_refl _) ?_,rfl,q _ (I.hok.fresh (Nat.le_refl _))⟩
 exact ⟨Nat.le_trans (cutV_length xs lo hi) hz,_,0,(r.drop (HT.sIx xs.length 0 lo)).take (HT.sIx xs.length xs.length hi - HT.sIx xs.length 0 lo),Heap.get?_push_size _ rfl⟩
def flatV:V→Bool
 | .non=>true
 | .bl _=>true
 | .int _=>true
 | .str _=>true
 | _=>false
def eqV:V→V→Bool
 | .non,.non=>true
 | .bl a,.bl b=>a==b
 | .bl a,.int b=>(if a then 1 else 0)==b
 | .int a,.bl b=>a==(if b then 1 else 0)
 | .int a,.int b=>a==b
 | .str a,.str b=>a==b
 | _,_=>false
theorem eqAt_V {A:Around} {s:Shared} {y x:V} {u v:Value} (ry:RelV y u) (rx:RelV x v) (fy:flatV y=true) (fx:flatV x=true):SeqAt.EqAt A s u v (eqV y x):=by
 cases y with
 | non=>
  cases ry
  cases x with
  | non=>cases rx; exact SeqAt.EqAt.same _
  | bl b=>cases rx; exact SeqAt.EqAt.none_bool b
  | int b=>obtain ⟨t,rfl⟩:=rx; exact SeqAt.EqAt.none_int b t
  | str b=>obtain ⟨t,rfl⟩:=rx; exact SeqAt.EqAt.none_str b t
  | _=>exact absurd (show false=true from fx) Bool.false_ne_true
 | bl a=>
  cases ry
  cases x with
  | non=>cases rx; exact SeqAt.EqAt.bool_none a
  | bl b=>cases rx; exact SeqAt.EqAt.bool_bool a b
  | int b=>obtain ⟨t,rfl⟩:=rx; exact SeqAt.EqAt.bool_int a b t
  | str b=>obtain ⟨t,rfl⟩:=rx; exact SeqAt.EqAt.bool_str a b t
  | _=>exact absurd (show false=true from fx) Bool.false_ne_true
 | int a=>
  obtain ⟨t',rfl⟩:=ry
  cases x with
  | non=>cases rx; exact SeqAt.EqAt.int_none a t'
  | bl b=>cases rx; exact SeqAt.EqAt.int_bool a t' b
  | int b=>obtain ⟨t,rfl⟩:=rx; exact SeqAt.EqAt.int_int a t' b t
  | str b=>obtain ⟨t,rfl⟩:=rx; exact SeqAt.EqAt.int_str a t' b t
  | _=>exact absurd (show false=true from fx) Bool.false_ne_true
 | str a=>
  obtain ⟨t',rfl⟩:=ry
  cases x with
  | non=>cases rx; exact SeqAt.EqAt.str_none a t'
  | bl b=>cases rx; exact SeqAt.EqAt.str_bool a t' b
  | int b=>obtain ⟨t,rfl⟩:=rx; exact SeqAt.EqAt.str_int a t' b t
  | str b=>obtain ⟨t,rfl⟩:=rx; exact SeqAt.EqAt.str_str a t' b t
  | _=>exact absurd (show false=true from fx) Bool.false_ne_true
 | _=>exact absurd (show false=true from fy) Bool.false_ne_true
def eqU (x:V) (u:Value):Bool:=match u with
 | .none=>eqV .non x
 | .bool b=>eqV (.bl b) x
 | .int i _=>eqV (.int i) x
 | .str z _=>eqV (.str z) x
 | _=>false
theorem eqU_of {x y:V} {u:Value} (r:RelV y u) (f:flatV y=true):eqU x u=eqV y x:=by
 cases y with
 | non=>cases r; rfl
 | bl b=>cases r; rfl
 | int i=>obtain ⟨t,rfl⟩:=r; rfl
 | str z=>obtain ⟨t,rfl⟩:=r; rfl
 | _=>exact absurd (show false=true from f) Bool.false_ne_true
theorem any_eqU {x:V}:∀ {xs:List V} {us:List Value},Vals xs us→xs.all flatV=true→us.any (eqU x)=xs.any fun y=>eqV y x
 | _,_,.nil,_=>rfl
 | y :: xs,u :: us,.cons r t,f=>by
  rw [List.all_cons,Bool.and_eq_true] at f
  rw [List.any_cons,List.any_cons,eqU_of r f.1,any_eqU t f.2]
theorem mem_eqAt {A:Around} {s:Shared} {x:V} {v:Value} (rx:RelV x v) (fx:flatV x=true):∀ {xs:List V} {us:List Value},Vals xs us→xs.all flatV=true→∀ u∈us,SeqAt.EqAt A s u v (eqU x u)
 | _,_,.nil,_=>fun u hu=>by cases hu
 | y :: xs,u :: us,.cons r t,f=>fun u' hu=>by
  rw [List.all_cons,Bool.and_eq_true] at f
  rcases List.mem_cons.mp hu with rfl | hu
  ·rw [eqU_of r f.1]; exact eqAt_V r rx f.1 fx
  ·exact mem_eqAt rx fx t f.2 u' hu
def inV (x:V) (xs:List V):Bool:=xs.any fun y=>eqV y x
inductive rInI (K:PySem.W.Frag) (neg:Bool) (x:V) (y:V) (H:Hp) (Q:VK):Prop
 | mk (p xs:_) (h1:y=.ref p) (h2:(SqL K H p xs∨SqT K H p xs)) (h3:flatV x=true) (h4:xs.all flatV=true) (h5:Q (.bl (if neg then !inV x xs else inV x xs)) H):rInI K neg x y H Q
def rIn (K:PySem.W.Frag) (neg:Bool):R2:=fun x y H Q=>rInI K neg x y H Q
theorem op_in_seq:OpR X (compareOp .In) (rIn X.K false):=by
 intro pins s σ H x y v u Q I rx ry h
 obtain ⟨p,xs,rfl,hq,fx,fs,q⟩:=h
 cases ry
 rcases hq with hq | hq
 ·obtain ⟨its,r,pl,hz⟩:=I.list hq
  refine SeqAt.in_listAt (eqU x) pl.isList (fun w hw=>mem_eqAt rx fx r fs w (by simpa using hw)) ⟨.bl _,H,I,rfl,?_⟩
  rw [show its.toArray.any (eqU x)=its.any (eqU x) by simp,any_eqU r fs]
  exact q
 ·obtain ⟨its,r,pl,hz⟩:=I.tuple hq
  refine SeqAt.in_tupleAt (eqU x) pl (fun w hw=>mem_eqAt rx fx r fs w (by simpa using hw)) ⟨.bl _,H,I,rfl,?_⟩
  rw [show its.toArray.any (eqU x)=its.any (eqU x) by simp,any_eqU r fs]
  exact q
theorem op_notIn_str:OpR X (compareOp .NotIn) (fun x y H Q=>∃ i j,x=.str i∧y=.str j∧Q (.bl (!(!(Builtin.Str.occurrences j i 0 j.length 1).isEmpty))) H):=by
 intro pins s σ H x y v u Q I rx ry h
 obtain ⟨i,j,rfl,rfl,q⟩:=h
 obtain ⟨t,rfl⟩:=rx
 obtain ⟨t',rfl⟩:=ry
 exact notIn_str ⟨.bl _,H,I,rfl,q⟩
theorem call_len_seq:CallR X (.builtin "len") (fun xs H Q=>∃ p ys,xs=[.ref p]∧(SqL X.K H p ys∨SqT X.K H p ys)∧Q (.int ys.length) H):=by
 intro pins s σ H xs us Q I r h
 obtain ⟨p,ys,rfl,hq,q⟩:=h
 obtain ⟨u,rfl,rx⟩:=vals1 r
 cases rx
 have hn:=line63
 rcases hq with hq | hq
 ·obtain ⟨its,r',pl,hz⟩:=I.list hq
  have hlen:=r'.length
  exact Calls.call_len_list pl.isList (by simp only [List.size_toArray] <;> omega) ⟨.int ys.length,H,I.tok _,⟨s.toks+1,by rw [List.size_toArray,hlen]⟩,q⟩
 ·obtain ⟨its,r',pl,hz⟩:=I.tuple hq
  have hlen:=r'.length
  exact len_tuple pl (by simp only [List.size_toArray] <;> omega) ⟨.int ys.length,H,I.tok _,⟨s.toks+1,by rw [List.size_toArray,hlen]⟩,q⟩
theorem call_len_str:CallR X (.builtin "len") (fun xs H Q=>∃ z,xs=[.str z]∧z.length≤sizeLine∧Q (.int z.length) H):=by
 intro pins s σ H xs us Q I r h
 obtain ⟨z,rfl,hz,q⟩:=h
 obtain ⟨u,rfl,t,rfl⟩:=vals1 r
 have hn:=line63
 exact len_str (by omega) ⟨.int z.length,H,I.tok _,⟨_,rfl⟩,q⟩
theorem call_list_of:CallR X (.type "list") (fun xs H Q=>∃ p ys,xs=[.ref p]∧(SqL X.K H p ys∨SqT X.K H p ys)∧∀ l,H l=none→Q (.ref l) (upd H l (.lst ys))):=by
 intro pins s σ H xs us Q I r h
 obtain ⟨p,ys,rfl,hq,q⟩:=h
 obtain ⟨u,rfl,rx⟩:=vals1 r
 cases rx
 have fin:∀ (its:List Value),Vals ys its→ys.length≤sizeLine→∀ (h':Heap) (c':Nat),(∀ b o',s.heap.get? b=some o'→h'.get? b=some o')→
   h'.get? s.heap.objs.size=some { cls:=.type "list",dict:=none,data:=.seq its.toArray c',slots:=#[] }→EP X pins σ Q (.ref s.heap.objs.size) { s with heap:=h' }:=fun its r' hz h' c' kp e=>
  ⟨.ref s.heap.objs.size,_,I.laid (t':=s.toks) kp (Nat.le_refl _) (show ObjOk X.prog X.w _ h' _ (.lst ys) from ⟨hz,its,c',r',e⟩),rfl,q _ (I.hok.fresh (Nat.le_refl _))⟩
 rcases hq with hq | hq
 ·obtain ⟨its,r',pl,hz⟩:=I.list hq
  have hlen:=r'.length
  obtain ⟨o,ho,hc,n,hd⟩:=pl.isList
  exact call_list_seq p (.inl rfl) ho hc hd (fun h' c' kp e=>fin its r' hz h' c' kp e) (by simp only [List.size_toArray] <;> omega)
 ·obtain ⟨its,r',pl,hz⟩:=I.tuple hq
  have hlen:=r'.length
  obtain ⟨o,ho,hc,n,hd⟩:=pl
  exact call_list_seq p (.inr rfl) ho hc hd (fun h' c' kp e=>fin its r' hz h' c' kp e) (by simp only [List.size_toArray] <;> omega)
theorem call_tuple_of:CallR X (.type "tuple") (fun xs H Q=>∃ p ys,xs=[.ref p]∧((SqL X.K H p ys∧∀ l,H l=none→Q (.ref l) (upd H l (.tup ys)))∨(SqT X.K H p ys∧Q (.ref p) H))):=by
 intro pins s σ H xs us Q I r h
 obtain ⟨p,ys,rfl,h⟩:=h
 obtain ⟨u,rfl,rx⟩:=vals1 r
 cases rx
 rcases h with ⟨hq,q⟩ | ⟨hq,q⟩
 ·obtain ⟨its,r',pl,hz⟩:=I.list hq
  have hlen:=r'.length
  refine call_tuple_list pl.isList (fun h' kp=>?_) (by simp only [List.size_toArray] <;> omega)
  have I1:Inv X pins σ H { s with heap:=h' }:=I.kept (t':=s.toks) kp
  have I2:Inv X pins σ (upd H h'.objs.size (.tup ys)) { s with heap:=h'.push { cls:=.type "tuple",data:=.seq its.toArray } }:=
   I1.laid (t':=s.toks) (fun b o e=>Heap.get?_push_of_some _ e) (Nat.le_refl _) (show ObjOk X.prog X.w _ _ _ (.tup ys) from ⟨hz,its,r',IsTup.new _ _⟩)
  exact ⟨.ref h'.objs.size,_,I2,rfl,q _ (I1.hok.fresh (Nat.le_refl _))⟩
 ·obtain ⟨its,r',pl,hz⟩:=I.tuple hq
  exact call_tuple_same pl ⟨.ref p,H,I,rfl,q⟩
def tyV (K:PySem.W.Frag) (T:String) (x:V) (H:Hp):Prop:=match x with
 | .str _=>T = "str"
 | .int _=>T = "int"
 | .ref p=>(T = "list"∧∃ xs,SqL K H p xs)∨(T = "tuple"∧∃ o,K.lookup p=some o∧o.cls=.type "tuple"∧o.dict=none)∨
   (T = "dict"∧((∃ kvs,H p=some (.dK kvs))∨∃ kvs,H p=some (.dT kvs)))∨(T = "set"∧∃ S n,H p=some (.set S n))
 | _=>False
theorem tyV_is {pins:List (Addr × Obj)} {σ:St} {H:Hp} {s:Shared} {T:String} {x:V} {v:Value} (I:Inv X pins σ H s) (r:RelV x v) (ty:tyV X.K T x H) :
  s.TypeIs v T∧∀ a,v=.ref a→∃ ob,s.heap.get? a=some ob∧ob.dict=none:=by
 cases x with
 | str z=>
  obtain ⟨t,rfl⟩:=r
  cases (show T = "str" from ty)
  exact ⟨typeIs_str s z t,fun _ e=>nomatch e⟩
 | int i=>
  obtain ⟨t,rfl⟩:=r
  cases (show T = "int" from ty)
  exact ⟨typeIs_int s i t,fun _ e=>nomatch e⟩
 | ref p=>
  cases r
  rcases ty with ⟨rfl,xs,hq⟩ | ⟨rfl,o,hk,hc,hd⟩ | ⟨rfl,hk⟩ | ⟨rfl,S,n,hk⟩
  ·obtain ⟨its,_,pl,_⟩:=I.list hq
   refine ⟨pl.isList.typeIs,fun a e=>?_⟩
   cases e
   obtain ⟨o,n,e,c,hd,_⟩:=pl
   exact ⟨o,e,hd⟩
  ·refine ⟨⟨o,I.kIn p o hk,hc⟩,fun a e=>?_⟩
   cases e
   exact ⟨o,I.kIn _ o hk,hd⟩
  ·have z:∃ o,s.heap.get? p=some o∧o.ExactDict:=by
    rcases hk with ⟨kvs,hk⟩ | ⟨kvs,hk⟩
    ·obtain ⟨_,_,_,_,o,_,_,e,ex,_⟩:=I.hok p _ hk
     exact ⟨o,e,ex⟩
    ·obtain ⟨_,_,_,_,o,_,_,e,ex,_⟩:=I.hok p _ hk
     exact ⟨o,e,ex⟩
   obtain ⟨o,e,ex⟩:=z
   refine ⟨⟨o,e,ex.1⟩,fun a e2=>?_⟩
   cases e2
   exact ⟨o,e,ex.2.1⟩
  ·obtain ⟨o,_,_,_,e,ex,_⟩:=I.hok p _ hk
   refine ⟨⟨o,e,ex.1⟩,fun a e2=>?_⟩
   cases e2
   exact ⟨o,e,ex.2.1⟩
 | _=>exact False.elim ty
def tBM (K:PySem.W.Frag) (T:String) (r:V→List V→Hp→VK→Prop) (to:TE) (t:TA):TE:=fun σ H Q=>to σ H fun x H1=>tyV K T x H1∧t σ H1 fun xs H2=>r x xs H2 Q
variable {o e:Expr} {es:List Expr} {to:TE} {t:TA} {name:Str} {apos cpos:Pos} {T id:String} {r:V→List V→Hp→VK→Prop}
theorem pe_bm (pa:PlainAttrs T) (slot:Slot T name id) (hty:typeOf (.builtin id)=pure (.type "method_descriptor")) (hm:MtR X id r) (ho:PE X o to) (ha:PA X (e :: es) t)
  (hbase:attributeBase o name X.env (eval o X.env)=eval o X.env:=by rfl)
  (hfew:((backTo cpos (starEach (e :: es) X.env)).all (fun x=>!x.1) && (backToKw cpos (keywordEach [] X.env)).all (fun x=>x.1.isSome)
   && decide ((e :: es).length+([]:List Keyword).length+(if ([]:List Keyword).isEmpty then 0 else 1) < 30))=true:=by rfl)
  (hline:(apos.endLine==cpos.line)=true:=by rfl) (hs:starEach (e :: es) X.env=(false,eval e X.env) :: starEach es X.env:=by rfl) (hplain:(backTo cpos (starEach es X.env)).any (·.1)=false:=by rfl) :
  PE X (.Call (.Attribute o name apos) (e :: es) [] cpos) (tBM X.K T r to t):=by
 intro pins s σ H Q I h
 refine wpAny_Call_method_late hbase hfew hline rfl (thn (ho pins s σ H _ I h) fun v s1 ⟨x,H1,I1,r1,ty,q1⟩=>?_)
 obtain ⟨h1,h2⟩:=tyV_is I1 r1 ty
 refine ⟨T,id,pa,slot,hty,h1,h2,?_⟩
 have hA:=ha cpos pins s1 σ H1 _ I1 q1
 rw [hs] at hA ⊢
 refine Calls.callWith_builtin (by show (false || (backTo cpos (starEach es X.env)).any (·.1))=false; rw [hplain] <;> rfl) (Calls.evalArgs_plain ?_)
 exact thn hA fun us s2 ⟨vs,H2,I2,r2,q2⟩=>hm pins s2 σ H2 x vs v us Q I2 r1 r2 q2
end
end L2
namespace L2
open PySem PySem.Spec PyProof.Rows
def MtM (X:Cx) (id:String) (r:V→List V→Hp→VK→Prop):Prop:=
 ∀ (pins:List (Addr × Obj)) (s:Shared) (σ:St) (H:Hp) (x:V) (xs:List V) (v:Value) (us:List Value) (Q:VK),Inv X pins σ H s→RelV x v→Vals xs us→r x xs H Q→
  wpAny (model X.prog X.w) X.A (call (.builtin id) (v :: us)) (EP X pins σ Q) X.xe s
theorem Vals.one:∀ {x:V} {us:List Value},Vals [x] us→∃ u,us=[u]∧RelV x u
 | _,_,.cons r .nil=>⟨_,rfl,r⟩
theorem Vals.two:∀ {x y:V} {us:List Value},Vals [x,y] us→∃ u v,us=[u,v]∧RelV x u∧RelV y v
 | _,_,_,.cons r (.cons q .nil)=>⟨_,_,rfl,r,q⟩
theorem Vals.eraseIdx:∀ {xs:List V} {us:List Value} (i:Nat),Vals xs us→Vals (xs.eraseIdx i) (us.eraseIdx i)
 | _,_,_,.nil=>.nil
 | _,_,0,.cons _ t=>t
 | _,_,i+1,.cons r t=>.cons r (Vals.eraseIdx i t)
theorem len_erase {α:Type}:∀ (l:List α) (i:Nat),(l.eraseIdx i).length≤l.length
 | [],_=>Nat.le_refl _
 | _ :: _,0=>Nat.le_succ _
 | _ :: r,i+1=>Nat.succ_le_succ (len_erase r i)
section
variable {X:Cx} {pins:List (Addr × Obj)} {σ:St} {H:Hp} {s:Shared} {l b:Addr} {xs ys zs:List V}
theorem Inv.lset {its its':List Value} {n:Nat} {f:Array Value→Array Value} {t':Nat} (I:Inv X pins σ H s) (hH:H l=some (.lst xs))
  (e:s.heap.get? l=some { cls:=.type "list",data:=.seq its.toArray n }) (hf:f its.toArray=its'.toArray) (hv:Vals ys its') (hz:ys.length≤sizeLine) :
  Inv X pins σ (upd H l (.lst ys)) { s with heap:=s.heap.update l (Obj.mapSeq f),toks:=t' }:=by
 have q:=PySem.IsL.update e f
 rw [hf] at q
 refine I.write (x:=l) (e:=l) (by rw [hH]; exact trivial) (.inl rfl) (fun b' u hb hu=>(Heap.get?_update_other s.heap (Obj.mapSeq f) (Ne.symm hb)).trans hu) ⟨_,q⟩ ?_
 exact ⟨hz,its',_,hv,q⟩
theorem Inv.lnew {its:List Value} {t':Nat} (I:Inv X pins σ H s) (hv:Vals ys its) (hz:ys.length≤sizeLine) :
  Inv X pins σ (upd H s.heap.objs.size (.lst ys)) { s with heap:=s.heap.push { cls:=.type "list",data:=.seq its.toArray },toks:=t' }:=
 I.laid (fun _ _ q=>Heap.get?_push_of_some _ q) (Nat.le_refl _) ⟨hz,its,0,hv,Heap.get?_push_size _ rfl⟩
theorem Inv.fresh (I:Inv X pins σ H s):H s.heap.objs.size=none:=I.hok.fresh (Nat.le_refl _)
theorem Inv.lstM (I:Inv X pins σ H s) (hH:H l=some (.lst xs)):xs.length≤sizeLine∧∃ (its:List Value) (n:Nat),Vals xs its∧xs.length=its.length∧s.heap.get? l=some { cls:=.type "list",data:=.seq its.toArray n }:=by
 obtain ⟨z,its,n,r,e⟩:=I.hok l _ hH
 exact ⟨z,its,n,r,r.length,e⟩
theorem notLongL {n:Nat} (h:n≤sizeLine):Builtin.List.listTooLong n=false:=by
 unfold Builtin.List.listTooLong
 exact decide_eq_false (by omega)
end
section
variable {X:Cx}
inductive rAppendI (x:V) (vs:List V) (H:Hp) (Q:VK):Prop
 | mk (l xs y:_) (h1:x=.ref l) (h2:vs=[y]) (h3:H l=some (.lst xs)) (h4:xs.length < sizeLine) (h5:Q .non (upd H l (.lst (xs ++ [y])))):rAppendI x vs H Q
def rAppend:V→List V→Hp→VK→Prop:=fun x vs H Q=>rAppendI x vs H Q
theorem mt_append:MtM X "list.append" rAppend:=by
 intro pins s σ H x vs v us Q I rx rv h
 obtain ⟨l,xs,y,rfl,rfl,hH,hz,q⟩:=h
 cases rx
 obtain ⟨u,rfl,ru⟩:=rv.one
 obtain ⟨z,its,n,r,hl,e⟩:=I.lstM hH
 refine call_meets F.slot_list_append ⟨_,e,rfl⟩ F.entry_list_append (F.args_list_append_2 _ _) (PySem.list_append l its.toArray n u (by rw [List.size_toArray]; omega)) ⟨e,?_⟩
 refine ⟨.non,_,I.lset (its':=its ++ [u]) hH e (by simp) (r.append (.cons ru .nil)) ?_,rfl,q⟩
 rw [List.length_append,List.length_singleton]
 omega
inductive rExtendI (x:V) (vs:List V) (H:Hp) (Q:VK):Prop
 | mk (l b xs zs:_) (h1:x=.ref l) (h2:vs=[.ref b]) (h3:H l=some (.lst xs)) (h4:H b=some (.lst zs)) (h5:xs.length+zs.length≤sizeLine) (h6:Q .non (upd H l (.lst (xs ++ zs)))):rExtendI x vs H Q
def rExtend:V→List V→Hp→VK→Prop:=fun x vs H Q=>rExtendI x vs H Q
theorem mt_extend:MtM X "list.extend" rExtend:=by
 intro pins s σ H x vs v us Q I rx rv h
 obtain ⟨l,b,xs,zs,rfl,rfl,hH,hB,hz,q⟩:=h
 cases rx
 obtain ⟨u,rfl,ru⟩:=rv.one
 cases ru
 obtain ⟨z,its,n,r,hl,e⟩:=I.lstM hH
 obtain ⟨z2,its2,n2,r2,hl2,e2⟩:=I.lstM hB
 have hsz:its.toArray.size+its2.toArray.size≤sizeLine:=by rw [List.size_toArray,List.size_toArray]; omega
 have hlong:¬ (!its.toArray.isEmpty && Builtin.List.listTooLong (its.toArray.size+its2.toArray.size))=true:=by
  rw [notLongL hsz,Bool.and_false]
  exact Bool.false_ne_true
 refine call_meets F.slot_list_extend ⟨_,e,rfl⟩ F.entry_list_extend (F.args_list_extend_2 _ _)
  (AutoSeq1.list_extend_list_list_0 l its.toArray n b its2.toArray n2 hlong (by rw [List.size_toArray]; omega) (by omega)) ⟨e,e2,?_⟩
 refine ⟨.non,_,I.lset (its':=its ++ its2) hH e (by simp) (r.append r2) ?_,rfl,q⟩
 rw [List.length_append]
 omega
inductive rPopAtI (x:V) (vs:List V) (H:Hp) (Q:VK):Prop
 | mk (l xs i k y:_) (h1:x=.ref l) (h2:vs=[.int i]) (h3:H l=some (.lst xs)) (h4 : -(2 ^ 63)≤i) (h5:i < 2 ^ 63) (h6:seqIndex? i xs.length=some k) (h7:xs[k]? = some y) (h8:Q y (upd H l (.lst (xs.eraseIdx k)))):rPopAtI x vs H Q
def rPopAt:V→List V→Hp→VK→Prop:=fun x vs H Q=>rPopAtI x vs H Q
theorem mt_popAt:MtM X "list.pop" rPopAt:=by
 intro pins s σ H x vs v us Q I rx rv h
 obtain ⟨l,xs,i,k,y,rfl,rfl,hH,h1,h2,hk,hy,q⟩:=h
 cases rx
 obtain ⟨u,rfl,ru⟩:=rv.one
 obtain ⟨t,rfl⟩:=ru
 obtain ⟨z,its,n,r,hl,e⟩:=I.lstM hH
 obtain ⟨w,hw,rw'⟩:=r.get hy
 refine call_meets F.slot_list_pop ⟨_,e,rfl⟩ F.entry_list_pop (F.args_list_pop_2 _ _)
  (MeetsSeq.list_pop_at l its.toArray n i t k w (fitsIndex_both h1 h2) (by rw [List.size_toArray,← hl]; exact hk) (by rw [← Array.getElem?_toList]; exact hw) (by rw [List.size_toArray]; omega)) ⟨e,?_⟩
 refine ⟨y,_,I.lset (its':=its.eraseIdx k) hH e ?_ (r.eraseIdx k) ?_,rw',q⟩
 ·show its.toArray.eraseIdxIfInBounds k=(its.eraseIdx k).toArray
  rw [List.eraseIdxIfInBounds_toArray]
 ·have:=len_erase xs k
  omega
inductive rCatI (x:V) (y:V) (H:Hp) (Q:VK):Prop
 | mk (l b xs zs:_) (h1:x=.ref l) (h2:y=.ref b) (h3:H l=some (.lst xs)) (h4:H b=some (.lst zs)) (h5:xs.length+zs.length≤sizeLine) (h6:∀ p,H p=none→Q (.ref p) (upd H p (.lst (xs ++ zs)))):rCatI x y H Q
def rCat:R2:=fun x y H Q=>rCatI x y H Q
theorem op_cat:OpR X (binaryOp .Add) rCat:=by
 intro pins s σ H x y v u Q I rx ry h
 obtain ⟨l,b,xs,zs,rfl,rfl,hH,hB,hz,q⟩:=h
 cases rx
 cases ry
 obtain ⟨z,its,n,r,hl,e⟩:=I.lstM hH
 obtain ⟨z2,its2,n2,r2,hl2,e2⟩:=I.lstM hB
 refine PySem.P.add_list e e2 ?_ (by rw [List.size_toArray,List.size_toArray]; omega)
 have ea:its.toArray ++ its2.toArray=(its ++ its2).toArray:=by simp
 rw [ea]
 exact ⟨.ref _,_,I.lnew (t':=s.toks) (r.append r2) (by rw [List.length_append]; omega),rfl,q _ I.fresh⟩
end
section
variable {prog:Program} {w:World} {A:Around} {E:Value→Shared→Prop} {s:Shared}
set_option maxRecDepth 100000 in
end
section
variable {X:Cx}
end
end L2
namespace Att
open PySem PySem.W PySem.Calls PyProof.Rows
theorem ints_of_wellAll {P:Params} {h:Heap}:∀ (ns:List Int) (vs:List Value),WellAll P h vs (ns.map WData.int)→IntsAre vs ns:=by
 intro ns
 induction ns with
 | nil=>
  intro vs w
  rw [List.map_nil] at w
  cases w
  exact .nil
 | cons n ns ih=>
  intro vs w
  rw [List.map_cons] at w
  cases w with
  | cons a b=>
   cases a
   exact .cons _ _ (ih _ b)
theorem script_of {l:OpenLaw} {n:Nat} (hn:l.most=some n) {P:Params} {h:Heap} {args:List WData} {vals:List Value}
  (hpre:l.row.toRowW.claim.pre args=true) (hwl:WellAll P h vals args) :
  ∃ a vs ns,vals=[Value.ref a]∧args=[WData.list (ns.map WData.int)]∧h.get? a=some { cls:=.type "list",data:=.seq vs.toArray }∧IntsAre vs ns∧ns.length≤n:=by
 have hsh:WShape.hasAll [] args [.list .int]=true:=(pre_splitW hpre).1
 have hc:l.pre.holds [] { args:=args } = true:=(pre_splitW hpre).2
 obtain ⟨d,r,rfl,h1,h2⟩:=hasAllW_cons hsh
 obtain rfl:=hasAllW_nil h2
 obtain ⟨xs,rfl,h3⟩:=hasW_list h1
 obtain ⟨ns,rfl⟩:=items_int h3
 have hlen:ns.length≤n:=by
  unfold OpenLaw.pre at hc
  have h4:(WTm.not (.lt (.lit (.int (n:Int))) (.len (.arg 0)))).holds [] { args:=[.list (ns.map .int)] } = true:=by
   have h4:=(holds_andW hc).1
   rw [hn] at h4
   exact h4
  have h5:=condW_of h4 (w_not (w_lt w_lit (w_len_list (w_arg rfl))))
  rw [List.length_map] at h5
  refine Nat.le_of_not_lt fun q=>?_
  have q':(n:Int) < ((ns.length:Nat):Int):=by omega
  first
   | (rw [decide_eq_true q'] at h5; exact absurd h5 (by decide))
   | (simp at h5; omega)
 cases hwl with
 | cons w1 w2=>
  cases w2
  cases w1 with
  | list ho hall=>exact ⟨_,_,ns,rfl,rfl,ho,ints_of_wellAll ns _ hall,hlen⟩
theorem post_true (l:OpenLaw) (args:List WData):l.row.toRowW.claim.post args (.bool true) args=true:=
 postW_of (r:=l.row.toRowW) (X:=(true==true))
  (show WShape.has [] (.bool true) .bool=true by first | rfl | decide | simp [WShape.has,WShape.arms,WShape.armsAll])
  (show (WTm.eq .res (.lit (.bool true))).value [] { args:=args,res:=some (.bool true),after:=args } = some (.bool (true==true)) from w_eq_bool (w_res rfl) w_lit) rfl
theorem attach_call {l:OpenLaw} {n:Nat} {q:Program} {loose:List Str} {XP:(Str→Option Value)→Heap→Prop} {YP:World→Heap→Prop} {d:DefRec}
  (hn:l.most=some n) (hdf:d.params.defaults=[])
  (call:∀ (w:World) (s₀ s₁:Shared) (mg mb:Str→Option Value) (fa:Addr) (o:Obj) (pm cd doc:Value) (a:Addr) (vs:List Value) (ns:List Int),
   Ground q loose [] XP w s₀ mg mb s₁.heap→YP w s₁.heap→
   s₁.heap.get? fa=some o→o.data=.func (docDef d.name d.params d.body d.scope pm cd doc)→s₁.heap.CodeRec cd d.name→mg d.name=some (.ref fa)→
   s₁.heap.get? a=some { cls:=.type "list",data:=.seq vs.toArray }→IntsAre vs ns→ns.length≤n→s₁.gens = #[]→
   codeAny (model l.prog w) callerA (.call (.ref fa) ⟨[.ref a],[]⟩) (fun r s'=>r=.ok (.ret (.bool true))∧OldK s₁.heap s'.heap∧s'.os=s₁.os∧AllBare s'.gens) s₁) :
  WalkO q loose XP YP l.row.toRowW d [] (fun f vs=>PySem.call f vs):=by
 intro w s₀ s₁ mg mb G Y fa o pm cd doc dV kV ho hd hcd hD hmg hg args vals as hpre hlay hrd hwl hlo
 obtain rfl:dV=.none:=Dflts.none hD hdf
 obtain rfl:kV=.none:=Dflts.noKw hD
 obtain ⟨a,vs,ns,rfl,rfl,hobj,hints,hlen⟩:=script_of hn hpre hwl
 refine enter_call (codeAny_mono (call w s₀ s₁ mg mb fa o pm cd doc a vs ns G Y ho (fd_plain hd) hcd hmg hobj hints hlen hg) fun r s' hq=>?_)
 obtain ⟨rfl,h2,h3,h4⟩:=hq
 exact ⟨.inl ⟨.bool true,.bool true,[],rfl,fun _=>rfl,.bool true,post_true l _,fun _=>⟨List.Pairwise.nil,fun _ hm=>(nomatch hm)⟩⟩,h2,h3,h4⟩
section
variable {prog:Program} {w:World} {A:Around} {E:Value→Shared→Prop} {s:Shared} {K:Frag}
def ledger (h:Heap) (L d:Addr):List (Addr × Obj):=(List.range h.objs.size).filterMap fun a=>if a=L∨a=d then none else (h.get? a).map fun o=>(a,o)
end
end Att
namespace L2
open PySem PySem.Spec PyProof.Rows
theorem vals_ints:∀ {vs:List Value} {ns:List Int},IntsAre vs ns→Vals (ns.map V.int) vs
 | _,_,.nil=>.nil
 | _,_,.cons n t h=>.cons ⟨t,rfl⟩ (vals_ints h)
def Only (H:Hp):Prop:=∀ b,H b=none∨∃ o xs,H b=some (.frz o (.lst xs))
theorem law_call {P:Program} {w:World} {K:PySem.W.Frag} {mg mb:Str→Option Value} {CX:CXT} {k:Nat} {fa a:Addr} {fd:FuncData} {x:Str} {sp:Sp} {s₁:Shared} {vs:List Value} {ns:List Int}
  (KX:K.In s₁.heap) (hns:s₁.heap.Ns mainGlobals mg) (hb:s₁.heap.Ns builtinsNs mb) (hbb:∀ x:Str,x≠"__name__"→mb x=bootBuiltins x) (hlim:s₁.heap.NoLimit) (hg:s₁.gens = #[])
  (ha:s₁.heap.get? a=some { cls:=.type "list",data:=.seq vs.toArray }) (hi:IntsAre vs ns) (hl:ns.length≤sizeLine) (hr:Room k callerA)
  (F:∀ base:Heap,K.In base→base.Ns mainGlobals mg→FnOk P w K mg base CX k fa fd [x] sp) (hbind:∀ (s:Shared) (u:Value),BindsTo s fd ⟨[u],[]⟩ [(x,u)])
  (hsp:∀ H:Hp,Only H→SqL K H a (ns.map V.int)→sp [.ref a] H (fun v _=>v=.bl true) fun _ _ _=>False)
  (hCX:∀ H e s',CX [] H s₁ (fun _ _ _=>False) e s'→False) :
  codeAny (model P w) callerA (.call (.ref fa) ⟨[.ref a],[]⟩) (fun r s'=>r=.ok (.ret (.bool true))∧OldK s₁.heap s'.heap∧s'.os=s₁.os∧AllBare s'.gens) s₁:=by
 have rv:=vals_ints hi
 have lenV:=hi.length
 have core:∀ H:Hp,Only H→SqL K H a (ns.map V.int)→HOk P w H s₁.heap→(∀ b,H b≠none→b=a)→(H a≠none→K.lookup a=none)→
   codeAny (model P w) callerA (.call (.ref fa) ⟨[.ref a],[]⟩) (fun r s'=>r=.ok (.ret (.bool true))∧OldK s₁.heap s'.heap∧s'.os=s₁.os∧AllBare s'.gens) s₁:=by
  intro H hO hS hok hA hK
  have base_of:∀ {b:Addr} {o:Obj},s₁.heap.get? b=some o→H b=none→(hidT s₁.heap H).get? b=some o:=fun e n=>hidT_get e n
  have noA:∀ {b:Addr} {o:Obj} {es:Array DictEntry} {ep:Nat},s₁.heap.get? b=some o→o.data=.dict es ep→H b=none:=fun {b o es ep} e d=>by
   cases q:H b with
   | none=>rfl
   | some u=>
    have e':b=a:=hA b (by rw [q]; simp)
    subst e'
    rw [ha] at e; cases e
    have d':Data.seq vs.toArray _=Data.dict es ep:=d
    cases d'
  have nsK:∀ {b:Addr} {m:Str→Option Value},s₁.heap.Ns b m→(hidT s₁.heap H).Ns b m:=fun {b m} ⟨o,es,ep,e,d,r⟩=>⟨o,es,ep,base_of e (noA e d),d,r⟩
  have hKb:K.In (hidT s₁.heap H):=fun b o e=>base_of (KX b o e) (by
   cases q:H b with
   | none=>rfl
   | some u=>
    have e':b=a:=hA b (by rw [q]; simp)
    subst e'
    rw [hK (by rw [q]; simp)] at e; cases e)
  have hM:Mod K mg (hidT s₁.heap H):=⟨hKb,nsK hns,⟨mb,nsK hb,hbb⟩,let ⟨mc,h1,h2⟩:=hlim; ⟨mc,nsK h1,h2⟩⟩
  have e0:Env0 P w K mg (hidT s₁.heap H) callerA [] s₁ H:=⟨rfl,hM,fun b o e=>of_hidT e,Nat.le_of_eq (hidT_size _ _),trivial,fun b hb=>absurd (show b∈([]:List Addr) from hb) (by simp),hok,.of_eq hg⟩
  refine codeAny_mono ((F _ hKb (nsK hns)).run callerA [] s₁ H ⟨[.ref a],[]⟩ [.ref a] [.ref a] _ _ hr e0 (hbind s₁ (.ref a)) (.cons rfl .nil) (hsp H hO hS)) fun r s' h=>?_
  cases r with
  | error e=>exact (hCX H e s' h).elim
  | ok fl=>
   cases fl with
   | next=>exact False.elim h
   | brk=>exact False.elim h
   | cont=>exact False.elim h
   | ret u=>
    obtain ⟨v,H',os,bare,un,hok',r',q⟩:=h
    have q':v=.bl true:=q
    subst q'
    obtain rfl:u=Value.bool true:=r'
    refine ⟨rfl,OldK.of_keep fun b o e=>?_,os,bare⟩
    cases q:H b with
    | none=>exact un.keep b o e q (by intro z; exact absurd (show b∈([]:List Addr) from z) (by simp)) (by simp)
    | some u=>
     rcases hO b with z | ⟨ob,xs,z⟩
     ·rw [q] at z; cases z
     ·have z2:=un.frzs b ob _ z
      obtain ⟨e1,_⟩:=hok b _ z
      obtain ⟨e2,_⟩:=hok' b _ z2
      rw [e] at e1; cases e1
      exact e2
 cases hk:K.lookup a with
 | some o=>
  have e:=KX a o hk
  rw [ha] at e
  cases e
  refine core (fun _=>none) (fun _=>.inl rfl) (.inr ⟨_,vs.toArray,_,hk,rfl,rfl,rfl,by rw [List.size_toArray,lenV]; exact hl,by simpa using rv⟩) (fun b u z=>by have z':(none:Option HO)=some u:=z; cases z') (fun b z=>absurd rfl z) fun z=>absurd rfl z
 | none=>
  refine core (fun b=>if b=a then some (.frz { cls:=.type "list",data:=.seq vs.toArray } (.lst (ns.map V.int))) else none) (fun b=>?_) (.inl (.inr ⟨{ cls:=.type "list",data:=.seq vs.toArray },if_pos rfl⟩)) (fun b u z=>?_) (fun b z=>?_) fun _=>hk
  ·by_cases hb:b=a
   ·exact .inr ⟨_,_,if_pos hb⟩
   ·exact .inl (if_neg hb)
  ·by_cases hb:b=a
   ·have z':=(if_pos hb).symm.trans z
    cases z'
    subst hb
    exact ⟨ha,by rw [List.length_map]; exact hl,vs,_,rv,ha⟩
   ·have z':=(if_neg hb).symm.trans z
    cases z'
  ·by_cases hb:b=a
   ·exact hb
   ·exact absurd (if_neg hb) z
end L2
namespace L2
open PySem PySem.Spec PyProof.Rows
abbrev KOf {K:PySem.W.Frag} {h:Heap} (_:K.In h):PySem.W.Frag:=K
theorem walk_of {l:PySem.W.OpenLaw} {n k:Nat} {q:Program} {loose:List Str} {XP:(Str→Option Value)→Heap→Prop} {YP:World→Heap→Prop} {d:DefRec} {K:Params→PySem.W.Frag} {CX:World→CXT} {sp:World→Sp} {x:Str}
  (hn:l.most=some n) (hn2:n≤sizeLine) (hdf:d.params.defaults=[]) (hr:Room k callerA)
  (hY:∀ (w:World) (h:Heap),YP w h→(K w.params).In h)
  (F:∀ (w:World) (mg:Str→Option Value) (fa:Addr) (h:Heap),(K w.params).In h→h.Ns mainGlobals mg→mg d.name=some (.ref fa)→
   ∃ fd:FuncData,(∀ (s:Shared) (u:Value),BindsTo s fd ⟨[u],[]⟩ [(x,u)])∧
    ∀ base:Heap,(K w.params).In base→base.Ns mainGlobals mg→FnOk l.prog w (K w.params) mg base (CX w) k fa fd [x] (sp w))
  (hsp:∀ (w:World) (H:Hp) (a:Addr) (ns:List Int),ns.length≤n→Only H→SqL (K w.params) H a (ns.map V.int)→sp w [.ref a] H (fun v _=>v=.bl true) fun _ _ _=>False)
  (hCX:∀ (w:World) (H:Hp) (s:Shared) (e:Value) (s':Shared),CX w [] H s (fun _ _ _=>False) e s'→False) :
  PySem.W.WalkO q loose XP YP l.row.toRowW d [] (fun f vs=>PySem.call f vs):=by
 refine Att.attach_call hn hdf fun w s₀ s₁ mg mb fa o pm cd doc a vs ns G Y ho hd hcd hmg hobj hints hlen hg=>?_
 have KX:=hY w _ Y
 obtain ⟨fd,hb,hF⟩:=F w mg fa _ KX G.T.g hmg
 exact law_call KX G.T.g G.T.b G.T.builtins G.T.nolimit hg hobj hints (Nat.le_trans hlen hn2) hr hF hb (fun H hO hS=>hsp w H a ns hlen hO hS) fun H e s'=>hCX w H s₁ e s'
end L2
/- THE LAST THEOREM (shape; LID,My.* are yours):
   My.Adr: a structure of the addresses that your layer names (classes,functions); My.Txt K t: a structure (Prop) of the equations over K;
   My.txt_mk:{K} {implicit addresses ..} (e1:nsIn K mainGlobals "law" = some (some (.ref f))) (e2:K.lookup f=some ⟨oc,od,.func (fnOf "law" "law" params body scope dV kV doc pm an cdv ct),sl⟩) (e3:codeIn K cdv "law" = true) .. : ∃ t,My.Txt K t
set_option maxRecDepth 100000 in
set_option maxHeartbeats 0 in
theorem PySem.Challenge.cw_LID_holds : PySem.Challenge.rw_LID.Holds := by
 w_on; o_law; k_head; (case hw=>w_witness2)
 k_fill
 refine L2.walk_of (l:=PySem.Challenge.rw_LID) (n:=63) (k:=40) (x:="script") (CX:=fun w=>..) (sp:=fun _=>My.sp_law) rfl (by decide) rfl ⟨rfl,by decide,by decide⟩ (fun w h Y=>PySem.W.kIn_of Y) ?F ?S ?C
 case F=>
  intro w mg fa h KX G hmg
  have T:∃ t,My.Txt (L2.KOf KX) t:=by
   dsimp only [L2.KOf]                          -- K must stand as «<heap const> w.params» for k_is
   refine' My.txt_mk ?e1 ?e2 ?e3 ..
   (case e1=>PySem.W.k_is)                    -- in the order: a name -> its address -> its object -> its parts
   (case e2=>PySem.W.k_is)
   ..
  obtain ⟨t,T⟩:=T
  have e0:=hmg.symm.trans (PySem.W.mg_of KX G T.law)
  cases e0                                       -- fa is the law's own address
  exact ⟨_,fun s u=>.of_eq rfl,fun base kb nb=>My.law_fn T kb nb⟩     -- if «.of_eq rfl» comes too early: refine' ⟨_,?b,fun base kb nb=>My.law_fn T kb nb⟩; exact fun s u=>.of_eq rfl
 case S=>exact fun w H a ns hl hO hS=>..
 case C=>exact ..
(the tactic k_is has no namespace: write k_is) -/
namespace L2
open PySem PySem.Spec PyProof.Rows
def defArgs (s:Stmt):Arguments:=match s with
 | .FunctionDef _ a _ _ _ _ _ _ _ _=>a
 | _=>{ posonlyargs:=[],args:=[],vararg:=none,kwonlyargs:=[],kw_defaults:=[],kwarg:=none,defaults:=[] }
def defBody (s:Stmt):List Stmt:=match s with
 | .FunctionDef _ _ b _ _ _ _ _ _ _=>b
 | _=>[]
def defScope (s:Stmt):Scope:=match s with
 | .FunctionDef _ _ _ _ _ _ sc _ _ _=>sc
 | _=>{ kind:=.function,names:=[],isGenerator:=false,isCoroutine:=false }
abbrev CX0:CXT:=fun _ _ _ _ _ _=>False
abbrev E0:XK:=fun _ _ _=>False
theorem pass0 {X:Cx}:Passes CX0 X E0:=fun _ _ _ _ _ _ _ h=>h.elim
structure Fun (K:PySem.W.Frag) (x qual:Str) (st:Stmt) (f:Addr) (fd:FuncData):Prop where
 ex:∃ (oc:Value) (od:Option Addr) (kV doc pm:Value) (an:Option Addr) (cdv ct:Value) (osl:Array (Option Value)),
  fd=PySem.W.fnOf x qual (defArgs st) (defBody st) (defScope st) .none kV doc pm an cdv ct∧K.lookup f=some ⟨oc,od,.func fd,osl⟩∧PySem.W.codeIn K cdv qual=true
 kp:PySem.W.keepIn K (.ref f)=true
section
variable {P:Program} {w:World} {K:PySem.W.Frag} {mg:Str→Option Value} {base:Heap}
theorem Fun.ok {x qual:Str} {st:Stmt} {f:Addr} {fd:FuncData} {N ps:List Str} {k:Nat} {sp:Sp} (F:Fun K x qual st f fd) (S:FnScope N ps (defScope st)) (len:∀ vs H Q E,sp vs H Q E→vs.length=ps.length)
  (hbody:∀ (cdv:Value) (A:Around) (outer:List Env) (s:Shared) (H:Hp) (vs:List V) (Q:VK) (E:XK),Room k (A.deeper (envOfC qual (defScope st) s.heap.objs.size f cdv))→sp vs H Q E→
   ∃ t,PSs (cxOf CX0 P w K mg base N qual (defScope st) f cdv A outer s H E).nox (defBody st) t∧t { nx:=fun _ H'=>Q .non H',rt:=Q } (start N vs) H):FnOk P w K mg base CX0 (k+1) f fd ps sp:=by
 obtain ⟨oc,od,kV,doc,pm,an,cdv,ct,osl,rfl,lk,hcd⟩:=F.ex
 refine fn_of lk hcd S len fun A outer s H vs Q E hr hsp=>?_
 obtain ⟨t,h,q⟩:=hbody cdv A outer s H vs Q E hr hsp
 exact ⟨t,h.nox,q⟩
theorem Fun.binds {x qual:Str} {st:Stmt} {f:Addr} {fd:FuncData} {ps:List Str} (F:Fun K x qual st f fd)
  (h:∀ (kV doc pm:Value) (an:Option Addr) (cdv ct:Value) (us:List Value),us.length=ps.length→bindArgs (PySem.W.fnOf x qual (defArgs st) (defBody st) (defScope st) .none kV doc pm an cdv ct) ⟨us,[]⟩=pure (ps.zip us)):Binds K fd ps []:=by
 obtain ⟨oc,od,kV,doc,pm,an,cdv,ct,osl,rfl,lk,hcd⟩:=F.ex
 exact .all (h kV doc pm an cdv ct)
theorem fun_mk {x qual:Str} {st:Stmt} {f:Addr} {oc:Value} {od an:Option Addr} {osl:Array (Option Value)} {kV doc pm cdv ct:Value} (l:K.lookup f=some ⟨oc,od,.func (PySem.W.fnOf x qual (defArgs st) (defBody st) (defScope st) .none kV doc pm an cdv ct),osl⟩)
  (c:PySem.W.codeIn K cdv qual=true) (k:PySem.W.keepIn K (.ref f)=true):Fun K x qual st f (PySem.W.fnOf x qual (defArgs st) (defBody st) (defScope st) .none kV doc pm an cdv ct):=⟨⟨oc,od,kV,doc,pm,an,cdv,ct,osl,rfl,l,c⟩,k⟩
end
theorem hu_of {A:Around} {k:Nat} (hr:Room k A):A.units+1 < cLine:=Nat.lt_of_le_of_lt (Nat.add_le_add_left (by decide:1≤64) _) hr.units
theorem small1000 {n:Nat} (h:n≤1000):n < sizeLine:=Nat.lt_of_le_of_lt h (by decide)
section
variable {X:Cx}
theorem pv (i:Nat) {x:Str} {pos:Pos} (hN:X.N[i]? = some x:=by rfl) (hv:Vis X.env.scope x:=by first | exact Or.inl rfl | exact Or.inr (Or.inl rfl) | exact Or.inr (Or.inr rfl)) (hd:(x==("__debug__" : Str))=false:=by decide)
  (hcd:(x==("__classdict__" : Str))=false:=by decide):PE X (.Name x pos) (tVar i):=pe_var hN hv hd hcd
end
theorem iteF {A B:Prop} (h:B):if false=true then A else B:=by
 rw [if_neg Bool.false_ne_true]
 exact h
theorem iteT {A B:Prop} (h:A):if true=true then A else B:=by
 rw [if_pos rfl]
 exact h
theorem ite2 {c A B:Prop} [Decidable c] (h1:c→A) (h2:¬ c→B):if c then A else B:=by
 by_cases h:c
 ·rw [if_pos h]
  exact h1 h
 ·rw [if_neg h]
  exact h2 h
theorem iteNS {c A B:Prop} [Decidable c] (hc:c) (h:B):if (!decide c)=true then A else B:=by
 rw [decide_eq_true hc]
 exact iteF h
def Same (H H':Hp):Prop:=∀ b o,H b=some o→H' b=some o
theorem Same.refl (H:Hp):Same H H:=fun _ _ h=>h
theorem Same.trans {H H1 H2:Hp} (a:Same H H1) (b:Same H1 H2):Same H H2:=fun c o h=>b c o (a c o h)
theorem Same.free {H H':Hp} (e:Same H H') {l:Addr} (h:H' l=Option.none):H l=Option.none:=by
 cases q:H l with
 | none=>rfl
 | some o=>
  rw [e l o q] at h
  cases h
end L2
namespace L2
open PySem PySem.Spec PyProof.Rows
section
variable {κ:Type} [DecidableEq κ]
end
section
variable {P:Program} {w:World} {H:Hp} {h:Heap} {a:Addr}
end
section
variable {X:Cx} {pins:List (Addr × Obj)} {σ:St} {H:Hp} {s:Shared} {a:Addr} {y v:V} {u r:Value} {o:Option V} {A:Around} {E:Value→Shared→Prop}
end
section
variable {X:Cx} {pins:List (Addr × Obj)} {σ:St} {H:Hp} {s:Shared} {a:Addr} {kvs:List (Key × V)} {k:Key} {u:Value} {A:Around} {E:Value→Shared→Prop}
end
section
variable {X:Cx} {o i e value:Expr} {pos pos' tpos:Pos} {td ty tv:TE}
end
section
variable {X:Cx} {pos:Pos}
end
structure M2 (X:Cx) (o:Expr) (m:Str) (apos:Pos) (e f:Expr) (cpos:Pos):Prop where
 base:attributeBase o m X.env (eval o X.env)=eval o X.env
 few:((backTo cpos (starEach [e,f] X.env)).all (fun x=>!x.1) && (backToKw cpos (keywordEach [] X.env)).all (fun x=>x.1.isSome)
  && decide (([e,f]:List Expr).length+([]:List Keyword).length+(if ([]:List Keyword).isEmpty then 0 else 1) < 30))=true
 line:(apos.endLine==cpos.line)=true
 trees:backTo cpos (starEach [e,f] X.env)=[(false,eval e X.env),(false,eval f X.env)]
section
variable {X:Cx} {pins:List (Addr × Obj)} {σ:St} {H:Hp} {s:Shared} {a:Addr} {y d:V} {u r:Value} {o:Option V} {A:Around} {E:Value→Shared→Prop}
end
section
variable {X:Cx} {o e f:Expr} {apos cpos:Pos} {td ty tx:TE}
end
end L2
namespace L2
open PySem PySem.Spec PyProof.Rows
def clOf (env:Env):List (Str × NameKind)→List (Str × Addr)→List (Str × Addr)
 | [],acc=>acc
 | (n,.free) :: r,acc=>clOf env r ((n,(env.cells.lookup n).getD 0) :: acc)
 | _ :: r,acc=>clOf env r acc
def ClGood (env:Env) (acc:List (Str × Addr)):Prop:=∀ y c,acc.lookup y=some c→c=(env.cells.lookup y).getD 0
theorem clOf_skip {env:Env} {n:Str} {k:NameKind} {r:List (Str × NameKind)} {acc:List (Str × Addr)} (h:k≠.free):clOf env ((n,k) :: r) acc=clOf env r acc:=by
 cases k <;> first | rfl | exact absurd rfl h
theorem clOf_good {env:Env}:∀ (names:List (Str × NameKind)) (acc:List (Str × Addr)),ClGood env acc→ClGood env (clOf env names acc)
 | [],acc,h=>h
 | (n,k) :: r,acc,h=>by
  by_cases hk:k=.free
  ·subst hk
   refine clOf_good r _ fun y c e=>?_
   rw [List.lookup_cons] at e
   by_cases hy:y=n
   ·subst hy
    simp only [beq_self_eq_true] at e
    exact (Option.some.inj e).symm
   ·have hb:(y==n)=false:=by simpa using hy
    rw [hb] at e
    exact h y c e
  ·rw [clOf_skip hk]
   exact clOf_good r acc h
theorem clOf_has {env:Env} {x:Str}:∀ (names:List (Str × NameKind)) (acc:List (Str × Addr)),((∃ c,acc.lookup x=some c)∨(x,NameKind.free)∈names)→∃ c,(clOf env names acc).lookup x=some c
 | [],acc,h=>by
  rcases h with h | h
  ·exact h
  ·cases h
 | (n,k) :: r,acc,h=>by
  by_cases hk:k=.free
  ·subst hk
   refine clOf_has r _ ?_
   rw [List.lookup_cons]
   by_cases hy:x=n
   ·subst hy
    exact .inl ⟨(env.cells.lookup x).getD 0,by simp only [beq_self_eq_true]⟩
   ·have hb:(x==n)=false:=by simpa using hy
    rw [hb]
    rcases h with h | h
    ·exact .inl h
    ·rcases List.mem_cons.mp h with h | h
     ·exact absurd (congrArg Prod.fst h) hy
     ·exact .inr h
  ·rw [clOf_skip hk]
   refine clOf_has r acc ?_
   rcases h with h | h
   ·exact .inl h
   ·rcases List.mem_cons.mp h with h | h
    ·exact absurd (congrArg Prod.snd h).symm hk
    ·exact .inr h
theorem clOf_mem {env:Env} {x:Str} {c:Addr}:∀ (names:List (Str × NameKind)) (acc:List (Str × Addr)),(clOf env names acc).lookup x=some c→acc.lookup x=some c∨(x,NameKind.free)∈names
 | [],acc,h=>.inl h
 | (n,k) :: r,acc,h=>by
  by_cases hk:k=.free
  ·subst hk
   rcases clOf_mem r _ h with h1 | h1
   ·rw [List.lookup_cons] at h1
    by_cases hy:x=n
    ·subst hy
     exact .inr List.mem_cons_self
    ·have hb:(x==n)=false:=by simpa using hy
     rw [hb] at h1
     exact .inl h1
   ·exact .inr (List.mem_cons_of_mem _ h1)
  ·rw [clOf_skip hk] at h
   rcases clOf_mem r acc h with h1 | h1
   ·exact .inl h1
   ·exact .inr (List.mem_cons_of_mem _ h1)
theorem forIn_cl {env:Env} {f:Str × NameKind→List (Str × Addr)→Sem (ForInStep (List (Str × Addr)))} (h1:∀ n k r,k≠NameKind.free→f (n,k) r=pure (.yield r))
  (h2:∀ n r c,env.cells.lookup n=some c→f (n,.free) r=pure (.yield ((n,c) :: r))) :
  ∀ (names:List (Str × NameKind)) (acc:List (Str × Addr)),(∀ y∈names,y.2=NameKind.free→∃ c,env.cells.lookup y.1=some c)→forIn names acc f=pure (clOf env names acc)
 | [],acc,_=>rfl
 | (n,k) :: r,acc,hc=>by
  have hr:∀ y∈r,y.2=NameKind.free→∃ c,env.cells.lookup y.1=some c:=fun y hy=>hc y (List.mem_cons_of_mem _ hy)
  rw [List.forIn_cons]
  by_cases hk:k=.free
  ·subst hk
   obtain ⟨c,e⟩:=hc (n,.free) List.mem_cons_self rfl
   rw [h2 n acc c e,pure_bind]
   show forIn r ((n,c) :: acc) f=_
   rw [forIn_cl h1 h2 r _ hr]
   show _=pure (clOf env r ((n,(env.cells.lookup n).getD 0) :: acc))
   rw [e]
   rfl
  ·rw [h1 n k acc hk,pure_bind,clOf_skip hk]
   exact forIn_cl h1 h2 r acc hr
theorem closure_is {env:Env} {scope:Scope} (hc:∀ y∈scope.names,y.2=NameKind.free→∃ c,env.cells.lookup y.1=some c):closureFor scope env=pure (clOf env scope.names []):=by
 unfold closureFor
 dsimp only
 rw [forIn_cl (env:=env) ?_ ?_ scope.names [] hc]
 ·rfl
 ·intro n k r hk
  have hb:(k==NameKind.free)=false:=by simpa using hk
  simp only [hb,Bool.false_eq_true,if_false]
 ·intro n r c e
  simp only [cellOf,e,beq_self_eq_true,if_true,pure_bind]
structure CompOk (sc:Scope) (Nm own:List Str) (fr:List Nat) (scope:Scope):Prop where
 kind:scope.kind=.function
 nocell:∀ y∈scope.names,y.2≠NameKind.cell
 free:∀ y∈scope.names,y.2=NameKind.free→sc.names.lookup y.1=some .cell∨sc.names.lookup y.1=some .free
 locs:∀ y∈scope.names,y.2=NameKind.local→scope.names.lookup y.1=some .local
 frs:∀ j∈fr,j < Nm.length∧scope.names.lookup (Nm.getD j "")=some .free
def inNm (own Nm:List Str) (fr:List Nat):List Str:=own ++ fr.map fun j=>Nm.getD j ""
def inSt (n:Nat) (fr:List Nat) (σ:St):St:=List.replicate n none ++ fr.map fun j=>σ.getD j none
structure CD where
 cl:List (Str × Addr)
 C:Addr
 s:Shared
 H:Hp
 fp:List Addr
def compCx (X:Cx) (Nm:List Str) (scope:Scope) (d:CD):Cx:=
 {prog:=X.prog,w:=X.w,K:=X.K,mg:=X.mg,base:=X.base,A:=X.A,N:=Nm,s₀:=d.s,H₀:=d.H,env:=compEnvC scope d.cl d.C X.env,outer:=X.stack,stack:=X.stack,
  ex:=d.fp,fn:=fun _=>false,calm:=X.calm,pn:=[],xe:=fun _ _=>False }
def PTs (X:Cx) (ifs:List Expr) (t:TT):Prop:=
 ∀ (pins:List (Addr × Obj)) (s:Shared) (σ:St) (H:Hp) (Q:Bool→Hp→Prop),Inv X pins σ H s→t σ H Q→
  wpAny (model X.prog X.w) X.A (forIn ifs true fun c r=>if r=true then do let ok ← isTrue c X.env (eval c X.env); pure (ForInStep.yield ok) else pure (ForInStep.yield r)) (TP X pins σ Q) X.xe s
def tYes:TT:=fun _ H Q=>Q true H
theorem pts_nil {X:Cx}:PTs X [] tYes:=by
 intro pins s σ H Q I h
 rw [List.forIn_nil]
 exact wpAny_pure ⟨H,I,h⟩
theorem pts_one {X:Cx} {c:Expr} {t:TT} (hc:PT X c t):PTs X [c] t:=by
 intro pins s σ H Q I h
 rw [List.forIn_cons,if_pos rfl]
 refine wpAny_bind (wpAny_bind (thn (hc pins s σ H Q I h) fun b s1 q=>wpAny_pure ?_))
 show wpAny _ _ (forIn [] b _) _ _ s1
 rw [List.forIn_nil]
 exact wpAny_pure q
def GFr (n:Nat) (g:TG):Prop:=∀ v σ H Q,g v σ H Q→g v σ H fun σ2 H2=>Q σ2 H2∧σ2.length=σ.length∧∀ i,n≤i→σ2[i]? = σ[i]?
theorem gfr_name {n i:Nat} (h:i < n):GFr n (gName i):=fun v σ H Q q=>⟨q,by simp,fun j hj=>by
 rw [List.getElem?_set_ne (by omega)]⟩
def CompW (J:It) (n:Nat) (fr:List Nat) (g:TG) (tt:TT) (te:TE) (σ:St) (H1:Hp) (Q:VK):Prop:=∃ W:Nat→Nat→List V→Hp→Prop,(∃ m,W 0 m [] H1)∧∀ i m acc H2,W i m acc H2→
 acc.length < sizeLine∧((J.stop i H2∧∀ l,H2 l=none→Q (.ref l) (upd H2 l (.lst acc)))∨
  (J.go i H2∧∃ Nx:List V→Hp→Prop,(∀ acc' H',Nx acc' H'→∃ m',m' < m∧W (i+1) m' acc' H')∧
   ∀ x H3,J.yld i H2 x H3→g x (inSt n fr σ) H3 fun σ4 H4=>tt σ4 H4 fun b H5=>if b=true then te σ4 H5 fun v H6=>Nx (acc ++ [v]) H6 else Nx acc H5))
def tComp (n:Nat) (fr:List Nat) (wi:TI) (g:TG) (tt:TT) (te:TE):TE:=fun σ H Q=>wi σ H fun J H1=>CompW J n fr g tt te σ H1 Q
section
variable {X:Cx} {pins:List (Addr × Obj)} {σ:St} {H:Hp} {s:Shared}
theorem Inv.adopt {a:Addr} {o:HO} (I:Inv X pins σ H s) (hp:X.s₀.heap.objs.size≤a) (hn:H a=none) (hL:a≠X.env.locals) (hc:∀ x c,X.env.cells.lookup x=some c→c≠a)
  (hq:∀ p∈X.pn ++ pins,p.1≠a) (new:ObjOk X.prog X.w (upd H a o) s.heap a o):Inv X pins σ (upd H a o) s:=by
 refine ⟨I.ok,I.os,I.bare,⟨I.base.keep,I.base.slot,fun b ob e n hx=>?_,I.base.there,fun b xs e=>?_,fun b ob u e=>?_,fun b ps e=>?_⟩,I.loc,I.cell,?_,fun x c e=>?_,fun p hp'=>?_,fun b u e=>?_,I.len⟩
 ·rw [upd_ne (Nat.ne_of_lt (Nat.lt_of_lt_of_le (Heap.lt_size e) hp))]
  exact I.base.free b ob e n hx
 ·have q:=I.base.tups b xs e
  rw [upd_ne (ne_of_none q hn)]
  exact q
 ·have q:=I.base.frzs b ob u e
  rw [upd_ne (ne_of_none q hn)]
  exact q
 ·obtain ⟨more,q⟩:=I.base.tbls b ps e
  exact ⟨more,by rw [upd_ne (ne_of_none q hn)]; exact q⟩
 ·rw [upd_ne (Ne.symm hL)]
  exact I.free
 ·rw [upd_ne (hc x c e)]
  exact I.freeC x c e
 ·obtain ⟨h1,h2,h3⟩:=I.pin p hp'
  exact ⟨h1,by rw [upd_ne (hq p hp')]; exact h2,h3⟩
 ·by_cases hb:b=a
  ·subst hb
   rw [upd_same] at e
   cases e
   exact new
  ·rw [upd_ne hb] at e
   refine (I.hok b u e).stay (fun c v _ q=>q) (fun c q=>?_) fun c xs q=>?_
   ·rw [upd_ne (ne_of_none q hn)]; exact q
   ·rw [upd_ne (ne_of_none q hn)]; exact q
end
section
variable {prog:Program} {w:World} {A:Around} {R:Result→Shared→Prop} {s:Shared}
theorem loop_comp {elt target iter:Expr} {ifs:List Expr} {scope:Scope} {pos:Pos} {it acc:Value} {env:Env} (J:Nat→Shared→Prop)
  (turn:∀ n s,J n s→wpAny (model prog w) A (pyNext it) (fun r s1=>match r with
   | none=>R (.ok .next) s1
   | some v=>wpAny (model prog w) A (letOwnedTupleGo target it v) (fun _ s2=>wpAny (model prog w) A (assign target env v) (fun _ s3=>
     wpAny (model prog w) A (forIn ifs true fun c r=>if r=true then do let ok ← isTrue c env (eval c env); pure (ForInStep.yield ok) else pure (ForInStep.yield r)) (fun ok s4=>
      if ok=true then wpAny (model prog w) A (eval elt env) (fun x s5=>wpAny (model prog w) A (call (.builtin "list.append") [acc,x]) (fun _ s6=>∃ m,m < n∧J m s6) (fun _ _=>False) s5) (fun _ _=>False) s4
      else ∃ m,m < n∧J m s4) (fun _ _=>False) s3) (fun _ _=>False) s2) (fun _ _=>False) s1) (fun _ _=>False) s)
  (n:Nat) (h:J n s):codeAny (model prog w) A (.compLoop (.ListComp elt [⟨target,iter,ifs,0⟩] scope pos) 0 it acc env) R s:=by
 refine codeAny_loop rfl J (fun k t hJ=>?_) n h
 show wpAny _ A ((compTurn (.ListComp elt [⟨target,iter,ifs,0⟩] scope pos) 0 it acc env).onRaise (fun x=>do noteFrame x env; theTreesLotGoes x)) _ _ t
 refine wpAny_noted ?_
 rw [compTurn_list]
 have no:∀ {α:Type} {m:Sem α} {Q:α→Shared→Prop} {E:Value→Shared→Prop} {u:Shared},wpAny (model prog w) A m Q (fun _ _=>False) u→wpAny (model prog w) A m Q E u:=fun q=>wpAny_mono q (fun _ _ z=>z) fun _ _ z=>z.elim
 refine wpAny_bind (wpAny_standAt (wpAny_bind (no (thn (turn k t hJ) fun r s1 h1=>?_))))
 cases r with
 | none=>exact wpAny_pure h1
 | some v=>
  refine wpAny_bind (no (thn h1 fun _ s2 h2=>wpAny_bind (no (thn h2 fun _ s3 h3=>wpAny_bind (no (thn h3 fun ok s4 h4=>?_))))))
  cases ok with
  | false=>exact wpAny_pure ⟨rfl,h4⟩
  | true=>
   exact wpAny_bind (wpAny_bind (no (thn h4 fun x s5 h5=>wpAny_bind (no (thn h5 fun _ s6 h6=>wpAny_pure (wpAny_pure ⟨rfl,h6⟩))))))
end
section
variable {X:Cx} {sc scope:Scope} {Nm own:List Str} {fr:List Nat} {elt tg iter:Expr} {ifs:List Expr} {cpos:Pos} {wi:TI} {g:TG} {tt:TT} {te:TE}
theorem lookup_relab {env:Env} {x:Str} {k:NameKind}:∀ {names:List (Str × NameKind)},(names.map fun (n,k)=>if (k==NameKind.free && env.scope.kind==.function && env.kindOf n==some .cell) then (n,NameKind.cell) else (n,k)).lookup x=some k→
  names.lookup x=some k∨(k=.cell∧names.lookup x=some .free)
 | [],h=>by simp at h
 | (n,j) :: r,h=>by
  have ih:=@lookup_relab env x k r
  have h':List.lookup x ((if (j==NameKind.free && env.scope.kind==.function && env.kindOf n==some .cell)=true then (n,NameKind.cell) else (n,j)) :: _)=some k:=h
  cases hx:x==n with
  | true=>
   by_cases hc:(j==NameKind.free && env.scope.kind==.function && env.kindOf n==some .cell)=true
   ·rw [if_pos hc] at h'
    simp only [List.lookup_cons,hx] at h' ⊢
    simp only [Bool.and_eq_true,beq_iff_eq] at hc
    exact .inr ⟨(Option.some.inj h').symm,congrArg some hc.1.1⟩
   ·rw [if_neg hc] at h'
    simp only [List.lookup_cons,hx] at h' ⊢
    exact .inl h'
  | false=>
   have h2:List.lookup x (r.map fun (n,k)=>if (k==NameKind.free && env.scope.kind==.function && env.kindOf n==some .cell) then (n,NameKind.cell) else (n,k))=some k:=by
    by_cases hc:(j==NameKind.free && env.scope.kind==.function && env.kindOf n==some .cell)=true
    ·rw [if_pos hc] at h'
     simpa only [List.lookup_cons,hx] using h'
    ·rw [if_neg hc] at h'
     simpa only [List.lookup_cons,hx] using h'
   simp only [List.lookup_cons,hx]
   exact ih h2
theorem relab_free {env:Env} {x:Str}:∀ {names:List (Str × NameKind)},names.lookup x=some .free→
  (names.map fun (n,k)=>if (k==NameKind.free && env.scope.kind==.function && env.kindOf n==some .cell) then (n,NameKind.cell) else (n,k)).lookup x=some .cell∨
  (names.map fun (n,k)=>if (k==NameKind.free && env.scope.kind==.function && env.kindOf n==some .cell) then (n,NameKind.cell) else (n,k)).lookup x=some .free
 | [],h=>by simp at h
 | (n,j) :: r,h=>by
  have ih:=@relab_free env x r
  show List.lookup x ((if (j==NameKind.free && env.scope.kind==.function && env.kindOf n==some .cell)=true then (n,NameKind.cell) else (n,j)) :: _)=_∨List.lookup x ((if (j==NameKind.free && env.scope.kind==.function && env.kindOf n==some .cell)=true then (n,NameKind.cell) else (n,j)) :: _)=_
  cases hx:x==n with
  | true=>
   simp only [List.lookup_cons,hx] at h
   by_cases hc:(j==NameKind.free && env.scope.kind==.function && env.kindOf n==some .cell)=true
   ·rw [if_pos hc]; simp only [List.lookup_cons,hx]; first | exact .inl rfl | exact .inl trivial
   ·rw [if_neg hc]; simp only [List.lookup_cons,hx]; exact .inr h
  | false=>
   simp only [List.lookup_cons,hx] at h
   by_cases hc:(j==NameKind.free && env.scope.kind==.function && env.kindOf n==some .cell)=true
   ·rw [if_pos hc]; simp only [List.lookup_cons,hx]; exact ih h
   ·rw [if_neg hc]; simp only [List.lookup_cons,hx]; exact ih h
theorem comp_core (S:CompOk sc Nm own fr scope) (hsc:X.env.scope=sc) (hN:X.N=Nm) (hc:X.calm=true) (hgf:GFr own.length g) (hi:PI X tg iter wi) (hg:∀ d,PG (compCx X (inNm own Nm fr) scope d) tg g)
  (ht:∀ d,PTs (compCx X (inNm own Nm fr) scope d) ifs tt) (he:∀ d,PE (compCx X (inNm own Nm fr) scope d) elt te) (hs:∀ x,foldedSetIterable iter X.env x=pure x)
  {use:Option (Value→Sem Unit)} {Q0:Value→Shared→Prop} {pins:List (Addr × Obj)} {s:Shared} {σ:St} {H:Hp} (I:Inv X pins σ H s) {Qf:VK} (h:tComp own.length fr wi g tt te σ H Qf)
  (hfin:∀ (D C:Addr) (Hd:Hp) (s':Shared) (m:Str→Option Value),Inv X pins σ Hd s'→Qf (.ref D) Hd→s'.heap.Ns C m→Hd C=none→X.s₀.heap.objs.size≤C→C≠X.env.locals→(∀ x c,X.env.cells.lookup x=some c→c≠C)→
   (∀ p∈X.pn ++ pins,p.1≠C)→compPost (model X.prog X.w) X.A X.xe use Q0 (.ref D) C (.ok .next) s') :
  wpAny (model X.prog X.w) X.A (comprehension (.ListComp elt [⟨tg,iter,ifs,0⟩] scope cpos) scope X.env (firstIterPos [⟨tg,iter,ifs,0⟩] cpos) (newList []) false (eval iter X.env) use) Q0 X.xe s:=by
 have hfree:∀ y∈scope.names,y.2=NameKind.free→∃ c,X.env.cells.lookup y.1=some c:=fun y hy hk=>by
  have q:=S.free y hy hk
  rw [← hsc] at q
  exact I.ok.has y.1 q
 refine wpAny_comprehension_free (g:=⟨tg,iter,ifs,0⟩) (gs:=[]) rfl hs (closure_is hfree) S.kind S.locs ?_
 refine thn (hi pins s σ H _ I h) fun v s1 h1=>thn h1 fun itv s2 h2=>?_
 obtain ⟨it,fp,tn,J,H2,e,I2,T,st2,f2,W,⟨m0,w0⟩,turn⟩:=h2
 subst e
 refine wpAny_newObj_type (wpAny_newFunctionEnv S.nocell (by intro y hy; simp at hy) (fun h1 hns hsb=>?_) S.kind)
 dsimp only at hns hsb ⊢
 generalize hG:s2.heap.push { cls:=.type "list",dict:=none,data:=.seq ([]:List Value).toArray } = G at hns hsb ⊢
 have hC:G.objs.size=s2.heap.objs.size+1:=by rw [← hG,Heap.size_push]
 have hDC:s2.heap.objs.size≠G.objs.size:=by omega
 have lo:∀ b,b < s2.heap.objs.size→b≠G.objs.size∧b≠s2.heap.objs.size:=fun b hb=>⟨by omega,by omega⟩
 have old:∀ b o,s2.heap.get? b=some o→h1.get? b=some o:=fun b o e=>hsb.extBut b o (lo b (Heap.lt_size e)).1 (Heap.get?_push_of_some _ (hG▸Heap.get?_push_of_some _ e))
 have hacc:h1.PlainList s2.heap.objs.size #[]:=⟨_,hsb.extBut _ _ hDC (Heap.get?_push_of_some _ (hG▸Heap.get?_push_size _ rfl))⟩
 have fpl:∀ b∈fp,b < s2.heap.objs.size:=fun b hb=>by
  obtain ⟨o,e,_⟩:=T.obj 0 _ st2 b hb
  exact Heap.lt_size e
 have hDf:s2.heap.objs.size∉fp:=fun z=>Nat.lt_irrefl _ (fpl _ z)
 have hCf:G.objs.size∉fp:=fun z=>Nat.lt_irrefl _ (Nat.lt_trans (fpl _ z) (by rw [hC]; exact Nat.lt_succ_self _))
 have cellL:∀ x c,(clOf X.env scope.names []).lookup x=some c→X.env.cells.lookup x=some c∧(x,NameKind.free)∈scope.names:=fun x c e=>by
  have e1:=clOf_good (env:=X.env) scope.names [] (fun y c z=>by simp at z) x c e
  rcases clOf_mem scope.names [] e with z | z
  ·simp at z
  ·obtain ⟨c',e'⟩:=hfree _ z rfl
   rw [e1,e']
   exact ⟨rfl,z⟩
 have cellLt:∀ x c,X.env.cells.lookup x=some c→c < s2.heap.objs.size:=fun x c e=>by
  obtain ⟨v,q⟩:=I2.cell x c e
  exact q.lt
 let d:CD:=⟨clOf X.env scope.names [],G.objs.size,s2,H2,fp⟩
 have isFree:∀ x,((compCx X (inNm own Nm fr) scope d).env.kindOf x=some .cell∨(compCx X (inNm own Nm fr) scope d).env.kindOf x=some .free)→scope.names.lookup x=some .free:=fun x hx=>by
  have noC:scope.names.lookup x≠some .cell:=fun z=>S.nocell _ (PySem.mem_of_lookup z) rfl
  rcases hx with hx | hx
  ·rcases lookup_relab (names:=scope.names) hx with z | z
   ·exact absurd z noC
   ·exact z.2
  ·rcases lookup_relab (names:=scope.names) hx with z | z
   ·exact z
   ·exact absurd z.1 (by decide)
 have ok:(compCx X (inNm own Nm fr) scope d).Ok:=by
  refine ⟨I.ok.mod,S.kind,I.ok.glob,I.ok.blt,?_,fun x y c e1 e2=>?_,fun x hx=>?_,fun x c z=>?_,I.ok.hd,I.ok.frames,.inl rfl,fun b hb=>⟨?_,fun x c e=>?_⟩,I2.bs,Nat.le_trans I2.ok.bsz I2.sz,fun b o e hb=>?_,fun b hb z=>?_,I2.stack,I2.stkFree⟩
  ·show s2.heap.objs.size≤G.objs.size
   omega
  ·exact I.ok.inj x y c (cellL x c e1).1 (cellL y c e2).1
  ·exact clOf_has scope.names [] (.inr (PySem.mem_of_lookup (isFree x hx)))
  ·exact absurd (show false=true from z) Bool.false_ne_true
  ·exact fun z=>hCf ((show b=G.objs.size from z)▸hb)
  ·exact (f2 b hb).2.2.2.2.1 x c (cellL x c e).1
  ·rcases (f2 b hb).2.2.2.1 with z | z
   ·exact I.ok.noex b o e z
   ·exact absurd (Nat.lt_of_lt_of_le (Heap.lt_size e) (Nat.le_trans I.ok.bsz z)) (Nat.lt_irrefl _)
  ·rcases List.mem_cons.mp (I2.stkSub b z) with z | z
   ·exact (f2 b hb).2.1 z
   ·exact (f2 b hb).2.2.1 z
 have hfrs:∀ (i:Nat) x v,(inNm own Nm fr)[i]? = some x→(inSt own.length fr σ)[i]? = some (some v)→scope.names.lookup x=some .free∧∃ j,Nm[j]? = some x∧σ[j]? = some (some v):=fun i x v e1 e2=>by
  unfold inNm at e1
  unfold inSt at e2
  by_cases hil:i < own.length
  ·rw [List.getElem?_append_left (by simpa using hil),List.getElem?_replicate,if_pos hil] at e2
   cases e2
  ·rw [List.getElem?_append_right (by omega),List.getElem?_map] at e1
   rw [List.getElem?_append_right (by simpa using hil),List.getElem?_map,List.length_replicate] at e2
   cases q:fr[i - own.length]? with
   | none=>rw [q] at e1; cases e1
   | some j=>
    rw [q] at e1 e2
    have hj:=S.frs j (List.mem_of_getElem? q)
    have e1':Nm.getD j "" = x:=Option.some.inj e1
    have e2':σ.getD j none=some v:=Option.some.inj e2
    rw [e1'] at hj
    refine ⟨hj.2,j,?_,?_⟩
    ·rw [← e1',List.getD_eq_getElem?_getD,List.getElem?_eq_getElem hj.1]
     rfl
    ·rw [List.getD_eq_getElem?_getD] at e2'
     cases q2:σ[j]? with
     | none=>rw [q2] at e2'; cases e2'
     | some z=>rw [q2] at e2'; exact congrArg some e2'
 have lenSt:(inSt own.length fr σ).length=(inNm own Nm fr).length:=by
  unfold inSt inNm
  simp
 have J0:∀ tk,Inv (compCx X (inNm own Nm fr) scope d) [] (inSt own.length fr σ) H2 { s2 with heap:=h1,toks:=tk }:=fun tk=>by
  obtain ⟨m,hn,hl⟩:=I2.loc
  refine ⟨ok,rfl,I2.bare,Un.kept old,⟨_,hns,fun i x v e1 e2 _=>?_⟩,fun x c e=>?_,I2.hok.fresh (show s2.heap.objs.size≤G.objs.size by omega),fun x c e=>I2.freeC x c (cellL x c e).1,fun p hp=>absurd (show p∈([]:List (Addr × Obj)) from hp) (by simp),I2.hok.kept old,lenSt⟩
  ·obtain ⟨hf,j,hj1,hj2⟩:=hfrs i x v e1 e2
   have kd:X.env.scope.names.lookup x=some .cell∨X.env.scope.names.lookup x=some .free:=by
    rw [hsc]
    exact S.free _ (PySem.mem_of_lookup hf) rfl
   obtain ⟨u,r,q⟩:=hl j x v (by rw [hN]; exact hj1) hj2 (kd.elim (fun z=>.inr (.inl z)) fun z=>.inr (.inr z))
   refine ⟨u,r,.inr ⟨relab_free hf,?_⟩⟩
   obtain ⟨c,e⟩:=clOf_has (env:=X.env) scope.names [] (.inr (PySem.mem_of_lookup hf))
   refine ⟨c,e,?_⟩
   rcases q with ⟨k,_⟩ | ⟨_,c',e',z⟩
   ·have k':X.env.scope.names.lookup x=some .local:=k
    rcases kd with y | y <;> rw [y] at k' <;> cases k'
   ·have:c=c':=Option.some.inj ((cellL x c e).1.symm.trans e')
    subst this
    obtain ⟨o,ho,hd⟩:=z
    exact ⟨o,old _ o ho,hd⟩
  ·obtain ⟨v,o,ho,hd⟩:=I2.cell x c (cellL x c e).1
   exact ⟨v,o,old _ o ho,hd⟩
 have stat:∀ {H':Hp} {pl:List (Addr × Obj)},(∀ b∈fp,H' b=none)→(∀ p∈pl,p.1∉fp)→∀ b∈fp,FpOk (compCx X (inNm own Nm fr) scope d) pl H' b:=fun hn hp b hb=>
  ⟨hn b hb,fun z=>hCf ((show b=G.objs.size from z)▸hb),ok.exfs b hb,.inl hb,(ok.exf b hb).2,fun p hp' z=>hp p (by simpa using (show p∈([]:List (Addr × Obj)) ++ _ from hp')) (z▸hb)⟩
 have loop:∀ tk,codeAny (model X.prog X.w) X.A (.compLoop (.ListComp elt [⟨tg,iter,ifs,0⟩] scope cpos) 0 (.ref it) (.ref s2.heap.objs.size) (compEnvC scope (clOf X.env scope.names []) G.objs.size X.env))
   (compPost (model X.prog X.w) X.A X.xe use Q0 (.ref s2.heap.objs.size) G.objs.size) { s2 with heap:=h1,toks:=tk }:=by
  intro tk
  refine loop_comp (fun n s'=>∃ i acc its H',Inv (compCx X (inNm own Nm fr) scope d) [] (inSt own.length fr σ) H' s'∧tn i s'.heap∧(∀ b∈fp,H' b=none)∧H' s2.heap.objs.size=none∧Vals acc its∧s'.heap.PlainList s2.heap.objs.size its.toArray∧W i n acc H') ?_ m0
   ⟨0,[],[],H2,J0 tk,T.keep 0 _ _ st2 fun b _ o e=>old b o e,fun b hb=>(f2 b hb).1,I2.hok.fresh (Nat.le_refl _),.nil,hacc,w0⟩
  rintro n s3 ⟨i,acc,its,H3,I3,st3,fr3,nD,va,⟨na,pa⟩,w3⟩
  have pinD:Inv (compCx X (inNm own Nm fr) scope d) [(s2.heap.objs.size,{ cls:=.type "list",data:=.seq its.toArray na })] (inSt own.length fr σ) H3 s3:=I3.pins_of fun p hp=>by
   have hp':=List.mem_singleton.mp hp
   subst hp'
   refine ⟨pa,nD,hDC,fun z=>?_,fun v z=>?_⟩
   ·have z':s2.heap.objs.size∈frs X.stack:=z
    rcases List.mem_cons.mp (I2.stkSub _ z') with y | y
    ·exact absurd I2.lt (by rw [← y]; exact Nat.lt_irrefl _)
    ·exact I2.nofs (Nat.le_refl _) y
   ·have z':Data.seq its.toArray na=Data.cell v:=z
    cases z'
  have pinsOut:∀ p∈[(s2.heap.objs.size,({ cls:=.type "list",data:=.seq its.toArray na }:Obj))],p.1∉fp:=fun p hp=>by
   rw [List.mem_singleton.mp hp]
   exact hDf
  obtain ⟨hz,alt⟩:=turn i n acc H3 w3
  rcases alt with ⟨stop,qn⟩ | ⟨go,Nx,hNx,step⟩
  ·refine thn (T.done (compCx X (inNm own Nm fr) scope d) rfl rfl rfl hc i _ s3 _ H3 _ pinD (stat fr3 pinsOut) st3 stop) fun r s4 ⟨hr,I4⟩=>?_
   subst hr
   have pD:=I4.pin (s2.heap.objs.size,{ cls:=.type "list",data:=.seq its.toArray na }) (List.mem_append_right _ (List.mem_singleton.mpr rfl))
   obtain ⟨m4,hn4,_⟩:=I4.loc
   have I5:Inv X pins σ H3 s4:=I2.call' (ch:=fp) I4.os I4.base I4.hok I4.bare fun b hb=>⟨(f2 b hb).2.2.2.1,(f2 b hb).2.1,(f2 b hb).2.2.2.2.1,(f2 b hb).2.2.2.2.2⟩
   have far:∀ a,s2.heap.objs.size≤a→X.s₀.heap.objs.size≤a∧a≠X.env.locals∧(∀ x c,X.env.cells.lookup x=some c→c≠a)∧∀ p∈X.pn ++ pins,p.1≠a:=fun a ha=>
    ⟨Nat.le_trans I2.sz ha,Nat.ne_of_gt (Nat.lt_of_lt_of_le I2.lt ha),fun x c e=>Nat.ne_of_lt (Nat.lt_of_lt_of_le (cellLt x c e) ha),fun p hp=>Nat.ne_of_lt (Nat.lt_of_lt_of_le (Heap.lt_size (I2.pin p hp).1) ha)⟩
   have fD:=far s2.heap.objs.size (Nat.le_refl _)
   have fC:=far G.objs.size (by omega)
   have I6:=I5.adopt (o:=.lst acc) fD.1 pD.2.1 fD.2.1 fD.2.2.1 fD.2.2.2 ⟨Nat.le_of_lt hz,its,na,va,pD.1⟩
   exact hfin s2.heap.objs.size G.objs.size _ s4 m4 I6 (qn _ pD.2.1) hn4 (by rw [upd_ne (Ne.symm hDC)]; exact I4.free) fC.1 fC.2.1 fC.2.2.1 fC.2.2.2
  ·refine thn (T.item (compCx X (inNm own Nm fr) scope d) rfl rfl rfl hc i _ s3 _ H3 _ pinD (stat fr3 pinsOut) st3 go) fun r s4 ⟨u,hr,h4⟩=>?_
   subst hr
   refine thn h4 fun _ s5 ⟨x,H5,I5,r5,y5,st5,fr5⟩=>?_
   have I5':=I5.pinned (stat fr5 pinsOut) (T.obj _ _ st5)
   refine thn (hg d _ s5 _ H5 x u _ I5' r5 (hgf _ _ _ _ (step x H5 y5))) fun _ s6 ⟨σ6,H6,I6,q6,l6,k6⟩=>?_
   have wk:∀ (j:Nat) v,(inSt own.length fr σ)[j]? = some (some v)→σ6[j]? = some (some v):=fun j v e=>by
    by_cases hj:j < own.length
    ·unfold inSt at e
     rw [List.getElem?_append_left (by simpa using hj),List.getElem?_replicate,if_pos hj] at e
     cases e
    ·rw [k6 j (by omega)]
     exact e
   refine thn (ht d _ s6 σ6 H6 _ I6 q6) fun b s7 ⟨H7,I7,q7⟩=>?_
   have fpK:∀ {σ':St} {H':Hp} {s':Shared},Inv (compCx X (inNm own Nm fr) scope d) ([(s2.heap.objs.size,({ cls:=.type "list",data:=.seq its.toArray na }:Obj))] ++ pinsAt fp s5.heap) σ' H' s'→
     tn (i+1) s'.heap∧(∀ b∈fp,H' b=none)∧H' s2.heap.objs.size=none∧s'.heap.get? s2.heap.objs.size=some { cls:=.type "list",data:=.seq its.toArray na }:=fun {σ' H' s'} I'=>by
    have pD:=I'.pin (s2.heap.objs.size,{ cls:=.type "list",data:=.seq its.toArray na }) (List.mem_append_right _ (List.mem_append_left _ (List.mem_singleton.mpr rfl)))
    refine ⟨T.keep _ _ _ st5 fun b hb o e=>(I'.pin (b,o) (List.mem_append_right _ (List.mem_append_right _ (mem_pinsAt hb e)))).1,fun b hb=>?_,pD.2.1,pD.1⟩
    obtain ⟨o,e,_⟩:=T.obj _ _ st5 b hb
    exact (I'.pin (b,o) (List.mem_append_right _ (List.mem_append_right _ (mem_pinsAt hb e)))).2.1
   have drop:∀ {σ':St} {H':Hp} {s':Shared},(∀ (j:Nat) v,(inSt own.length fr σ)[j]? = some (some v)→σ'[j]? = some (some v))→Inv (compCx X (inNm own Nm fr) scope d) ([(s2.heap.objs.size,({ cls:=.type "list",data:=.seq its.toArray na }:Obj))] ++ pinsAt fp s5.heap) σ' H' s'→
     Inv (compCx X (inNm own Nm fr) scope d) [] (inSt own.length fr σ) H' s':=fun {σ' H' s'} hw I'=>
    (I'.pins_of (pins':=[]) (fun p hp=>absurd hp (by simp))).weak (lenSt.trans I'.len.symm) hw
   cases b with
   | false=>
    rw [if_neg Bool.false_ne_true]
    obtain ⟨m',hm,w'⟩:=hNx acc H7 (by rw [if_neg Bool.false_ne_true] at q7; exact q7)
    obtain ⟨k1,k2,k3,k4⟩:=fpK I7
    exact ⟨m',hm,i+1,acc,its,H7,drop wk I7,k1,k2,k3,va,⟨_,k4⟩,w'⟩
   | true=>
    rw [if_pos rfl]
    rw [if_pos rfl] at q7
    refine thn (he d _ s7 σ6 H7 _ I7 q7) fun y s8 ⟨yv,H8,I8,r8,q8⟩=>?_
    obtain ⟨m',hm,w'⟩:=hNx _ H8 q8
    obtain ⟨k1,k2,k3,k4⟩:=fpK I8
    have hsz:its.toArray.size≤sizeLine:=by
     rw [List.size_toArray,← va.length]
     exact Nat.le_of_lt hz
    refine wpAny_list_append_plain (hsz:=hsz) ⟨_,k4⟩ fun h9 hl9 hs9=>?_
    have I9:Inv (compCx X (inNm own Nm fr) scope d) [] (inSt own.length fr σ) H8 { s8 with heap:=h9 }:=by
     refine (drop wk I8).turned (t':=s8.toks) (it:=s2.heap.objs.size) (fun b o hb e=>hs9.extBut b o hb e) k3 hDC (.inr (Nat.le_refl _)) (fun x c e=>?_) fun p hp=>absurd (show p∈([]:List (Addr × Obj)) from hp) (by simp)
     exact Nat.ne_of_lt (cellLt x c (cellL x c e).1)
    refine ⟨m',hm,i+1,acc ++ [yv],its ++ [y],H8,I9,T.keep _ _ _ k1 fun b hb o e=>hs9.extBut b o (fun z=>hDf (z▸hb)) e,k2,k3,va.append (.cons r8 .nil),?_,w'⟩
    rw [show (its ++ [y]).toArray=its.toArray.push y by simp]
    exact hl9
 exact codeAny_compStart_list (loop _) (T.self _ 0 _ _ _ (T.keep 0 _ _ st2 fun b _ o e=>old b o e) (loop _))
theorem pe_comp (S:CompOk sc Nm own fr scope) (hc:X.calm=true) (hgf:GFr own.length g) (hi:PI X tg iter wi) (hg:∀ d,PG (compCx X (inNm own Nm fr) scope d) tg g)
  (ht:∀ d,PTs (compCx X (inNm own Nm fr) scope d) ifs tt) (he:∀ d,PE (compCx X (inNm own Nm fr) scope d) elt te) (hsc:X.env.scope=sc:=by rfl) (hN:X.N=Nm:=by rfl)
  (hs:∀ x,foldedSetIterable iter X.env x=pure x:=by intro _; rfl):PE X (.ListComp elt [⟨tg,iter,ifs,0⟩] scope cpos) (tComp own.length fr wi g tt te):=by
 intro pins s σ H Q I h
 rw [eval_ListComp]
 refine comp_core (use:=none) S hsc hN hc hgf hi hg ht he hs I h fun D C Hd s' m I' q hn nC c1 c2 c3 c4=>?_
 exact ⟨m,hn,fun h' hb=>⟨.ref D,Hd,I'.turned (t':=s'.toks) (fun b o hne e=>hb.extBut b o hne e) nC c2 (.inr c1) c3 c4,rfl,q⟩⟩
theorem ps_setc {i:Nat} {x:Str} {pos pos':Pos} (hNd:X.N.Nodup) (hix:X.N[i]? = some x) (hx:X.env.scope.names.lookup x=some .local) (S:CompOk sc Nm own fr scope) (hc:X.calm=true) (hgf:GFr own.length g) (hi:PI X tg iter wi)
  (hg:∀ d,PG (compCx X (inNm own Nm fr) scope d) tg g) (ht:∀ d,PTs (compCx X (inNm own Nm fr) scope d) ifs tt) (he:∀ d,PE (compCx X (inNm own Nm fr) scope d) elt te) (hsc:X.env.scope=sc:=by rfl) (hN:X.N=Nm:=by rfl)
  (hs:∀ x,foldedSetIterable iter X.env x=pure x:=by intro _; rfl)
  (hsw:swapsWith (.ListComp elt [⟨tg,iter,ifs,0⟩] scope cpos) (some (.Name x pos')) pos.line X.env=pure true:=by rfl) :
  PS X (.Assign [.Name x pos'] (.ListComp elt [⟨tg,iter,ifs,0⟩] scope cpos) pos) (tAsg (tComp own.length fr wi g tt te) (gName i)):=by
 intro pins s σ H D0 I h
 rw [exec_Assign_Name_used _ _ _ _ hsw]
 refine wpAny_bind (wpAny_standAt (wpAny_bind ?_))
 refine wpAny_bind (thn (comp_core (use:=some (assign (.Name x pos') X.env)) (Q0:=fun _ s'=>SP X pins D0 .next s') S hsc hN hc hgf hi hg ht he hs I h fun D C Hd s' m I' q hn nC c1 c2 c3 c4=>?_) fun _ s' q=>wpAny_pure (wpAny_pure q))
 show wpAny _ _ (assign (.Name x pos') X.env (.ref D)) _ _ s'
 refine wpAny_assign_Name (store_ok2 I' hNd hix (.inl hx) (v:=.ref D) rfl (fun s2 I2 ⟨a,sb,ha⟩=>?_) (.inr hx))
 have hCa:C≠a:=by
  rcases ha with z | z
  ·rw [z]; exact c2
  ·exact (c3 x a z).symm
 refine ⟨m,hn.sameBut sb hCa,fun h' hb=>⟨_,Hd,I2.turned (t':=s2.toks) (fun b o hne e=>hb.extBut b o hne e) nC c2 (.inr c1) c3 c4,q⟩⟩
end
theorem comp_gen {J:It} {n k:Nat} {fr:List Nat} {g:TG} {tt:TT} {te:TE} {σ:St} {H:Hp} {Q:VK} (Pv:Nat→List V→Hp→Prop) (hk:k < sizeLine) (h0:Pv 0 [] H) (hlen:∀ i acc H,Pv i acc H→acc.length≤i)
  (hgo:∀ i acc H,i < k→Pv i acc H→J.go i H) (hst:∀ acc H,Pv k acc H→J.stop k H)
  (hs:∀ i acc H2 x H3,i < k→Pv i acc H2→J.yld i H2 x H3→g x (inSt n fr σ) H3 fun σ4 H4=>tt σ4 H4 fun b H5=>if b=true then te σ4 H5 fun v H6=>Pv (i+1) (acc ++ [v]) H6 else Pv (i+1) acc H5)
  (hd:∀ acc H2,Pv k acc H2→∀ l,H2 l=none→Q (.ref l) (upd H2 l (.lst acc))) :
  CompW J n fr g tt te σ H Q:=by
 refine ⟨fun i m acc H=>m=k - i∧i≤k∧Pv i acc H,⟨k,by simp,Nat.zero_le _,h0⟩,?_⟩
 rintro i m acc H2 ⟨rfl,hi,p⟩
 have hl:=hlen i acc H2 p
 refine ⟨by omega,?_⟩
 by_cases hlt:i < k
 ·exact .inr ⟨hgo i acc H2 hlt p,Pv (i+1),fun acc' H' p'=>⟨k - (i+1),by omega,rfl,hlt,p'⟩,fun x H3 y=>hs i acc H2 x H3 hlt p y⟩
 ·have e:i=k:=by omega
  subst e
  exact .inl ⟨hst acc H2 p,hd acc H2 p⟩
def comp_range {lo:Int} {n k:Nat} {fr:List Nat} {g:TG} {tt:TT} {te:TE} {σ:St} {H:Hp} {Q:VK} (Pv:Nat→List V→Hp→Prop) (hk:k < sizeLine) (h0:Pv 0 [] H) (hlen:∀ i acc H,Pv i acc H→acc.length≤i)
  (hs:∀ i acc H2,i < k→Pv i acc H2→g (.int (lo+i)) (inSt n fr σ) H2 fun σ4 H4=>tt σ4 H4 fun b H5=>if b=true then te σ4 H5 fun v H6=>Pv (i+1) (acc ++ [v]) H6 else Pv (i+1) acc H5)
  (hd:∀ acc H2,Pv k acc H2→∀ l,H2 l=none→Q (.ref l) (upd H2 l (.lst acc))):=
 comp_gen (J:=Itr lo k) (n:=n) (fr:=fr) (g:=g) (tt:=tt) (te:=te) (σ:=σ) (Q:=Q) Pv hk h0 hlen (fun _ _ _ h _=>h) (fun _ _ _=>Nat.le_refl _) (fun i acc H2 x H3 hi p y=>by
  obtain ⟨e1,e2⟩:=y
  subst e1 e2
  exact hs i acc _ hi p) hd
def comp_list {K:PySem.W.Frag} {a:Addr} {xs:List V} {n:Nat} {fr:List Nat} {g:TG} {tt:TT} {te:TE} {σ:St} {H:Hp} {Q:VK} (Pv:Nat→List V→Hp→Prop) (hk:xs.length < sizeLine) (h0:Pv 0 [] H) (hlen:∀ i acc H,Pv i acc H→acc.length≤i)
  (hl:∀ i acc H,Pv i acc H→SqL K H a xs)
  (hs:∀ i acc H2 x,xs[i]? = some x→Pv i acc H2→g x (inSt n fr σ) H2 fun σ4 H4=>tt σ4 H4 fun b H5=>if b=true then te σ4 H5 fun v H6=>Pv (i+1) (acc ++ [v]) H6 else Pv (i+1) acc H5)
  (hd:∀ acc H2,Pv xs.length acc H2→∀ l,H2 l=none→Q (.ref l) (upd H2 l (.lst acc))):=
 comp_gen (J:=Itl K a) (n:=n) (fr:=fr) (g:=g) (tt:=tt) (te:=te) (σ:=σ) (Q:=Q) Pv hk h0 hlen (fun i acc H hi p=>⟨xs,xs[i],hl i acc H p,by simp [hi]⟩) (fun acc H p=>⟨xs,hl _ acc H p,Nat.le_refl _⟩) (fun i acc H2 x H3 hi p y=>by
  obtain ⟨e1,e2⟩:=y
  subst e1
  exact hs i acc _ x (e2 xs (hl i acc _ p)) p) hd
def comp_tup {K:PySem.W.Frag} {a:Addr} {xs:List V} {n:Nat} {fr:List Nat} {g:TG} {tt:TT} {te:TE} {σ:St} {H:Hp} {Q:VK} (Pv:Nat→List V→Hp→Prop) (hk:xs.length < sizeLine) (h0:Pv 0 [] H) (hlen:∀ i acc H,Pv i acc H→acc.length≤i)
  (hl:∀ i acc H,Pv i acc H→SqT K H a xs)
  (hs:∀ i acc H2 x,xs[i]? = some x→Pv i acc H2→g x (inSt n fr σ) H2 fun σ4 H4=>tt σ4 H4 fun b H5=>if b=true then te σ4 H5 fun v H6=>Pv (i+1) (acc ++ [v]) H6 else Pv (i+1) acc H5)
  (hd:∀ acc H2,Pv xs.length acc H2→∀ l,H2 l=none→Q (.ref l) (upd H2 l (.lst acc))):=
 comp_gen (J:=Itt K a) (n:=n) (fr:=fr) (g:=g) (tt:=tt) (te:=te) (σ:=σ) (Q:=Q) Pv hk h0 hlen (fun i acc H hi p=>⟨xs,xs[i],hl i acc H p,by simp [hi]⟩) (fun acc H p=>⟨xs,hl _ acc H p,Nat.le_refl _⟩) (fun i acc H2 x H3 hi p y=>by
  obtain ⟨e1,e2⟩:=y
  subst e1
  exact hs i acc _ x (e2 xs (hl i acc _ p)) p) hd
end L2
namespace L2
open PySem PySem.Spec PyProof.Rows
def Its (cs:List Nat):It:=⟨fun i _=>i < cs.length,fun i H x H'=>H'=H∧∃ c,cs[i]? = some c∧x=.str ⟨#[c]⟩,fun i _=>cs.length≤i⟩
theorem turn_str {P:Program} {w:World} {K:PySem.W.Frag} {tg:Expr} (it:Addr) (ty:String) (hty:ty = "str_ascii_iterator"∨ty = "str_iterator") (x:Str) (t:Tok) :
  Turn P w K tg (Its x.cps.toList) [it] it (fun i h=>h.IsStrIter it ty x t i) where
 mem:=by simp
 obj:=fun i h st b hb=>by
  rw [List.mem_singleton.mp hb]
  obtain ⟨o,e,c,d⟩:=st
  exact ⟨o,e,fun v z=>by rw [d] at z; cases z⟩
 keep:=fun i h h' st k=>by
  obtain ⟨o,e,r⟩:=st
  exact ⟨o,k it (by simp) o e,r⟩
 item:=by
  intro X hP hw hK hc i pins s σ H E I hf st hg
  subst hP hw hK
  have hlt:i < x.cps.toList.length:=hg
  obtain ⟨f0,f1,f2,f3,f4,f5⟩:=hf it (by simp)
  have hx:x.cps[i]? = some (x.cps.toList[i]):=by
   rw [← Array.getElem?_toList]
   exact List.getElem?_eq_getElem hlt
  have fin:∀ h',h'.IsStrIter it ty x t (i+1)→Heap.SameBut it s.heap h'→∃ u,some (Value.str ⟨#[x.cps.toList[i]]⟩ s.toks)=some u∧
    wpAny (model X.prog X.w) X.A (letOwnedTupleGo tg (.ref it) u) (fun _ s2=>∃ y H',Inv X pins σ H' s2∧RelV y u∧(Its x.cps.toList).yld i H y H'∧s2.heap.IsStrIter it ty x t (i+1)∧∀ b∈[it],H' b=none) E { s with heap:=h',toks:=s.toks+1 }:=fun h' st' sb=>by
   have I1:Inv X pins σ H { s with heap:=h',toks:=s.toks+1 }:=I.turned (fun b o hb e=>(sb.2 b hb).trans e) f0 f1 f3 f4 f5
   obtain ⟨o,e,c,d⟩:=id st'
   refine ⟨_,rfl,go_of (s:={ s with heap:=h',toks:=s.toks+1 }) (n:=ty) e c d (by rcases hty with z | z <;> subst z <;> decide) ⟨.str ⟨#[x.cps.toList[i]]⟩,H,I1,⟨_,rfl⟩,⟨rfl,_,List.getElem?_eq_getElem hlt,rfl⟩,st',fun b hb=>(hf b hb).1⟩⟩
  rcases hty with z | z
  ·subst z
   exact wpAny_pyNext_ascii_item st hx fun h' st' sb=>fin h' st' sb
  ·subst z
   exact wpAny_pyNext_wide_item st hx fun h' st' sb=>fin h' st' sb
 done:=by
  intro X hP hw hK hc i pins s σ H E I hf st hg
  subst hP hw hK
  have hle:x.cps.toList.length≤i:=hg
  obtain ⟨f0,f1,f2,f3,f4,f5⟩:=hf it (by simp)
  have hx:x.cps[i]? = none:=by
   rw [← Array.getElem?_toList]
   exact List.getElem?_eq_none_iff.mpr hle
  rcases hty with z | z
  ·subst z
   exact wpAny_pyNext_ascii_end (I.ok.hd hc) st hx fun h' eb=>⟨rfl,I.turned (t':=s.toks) (fun b o hb e=>eb b o hb e) f0 f1 f3 f4 f5⟩
  ·subst z
   exact wpAny_pyNext_wide_end (I.ok.hd hc) st hx fun h' eb=>⟨rfl,I.turned (t':=s.toks) (fun b o hb e=>eb b o hb e) f0 f1 f3 f4 f5⟩
 self:=fun _ _ _ _ _ st h=>by
  rcases hty with z | z
  ·subst z
   exact wpAny_pyIter_striter_ascii st h
  ·subst z
   exact wpAny_pyIter_striter_wide st h
section
variable {X:Cx} {tg e:Expr} {te:TE}
def iStr (te:TE):TI:=fun σ H R=>te σ H fun v H1=>∃ z,v=.str z∧R (Its z.cps.toList) H1
theorem pi_str (he:PE X e te):PI X tg e (iStr te):=by
 intro pins s σ H R I h
 refine thn (he pins s σ H _ I h) fun v s1 ⟨x,H1,I1,r1,q1⟩=>?_
 obtain ⟨z,e1,q⟩:=q1
 subst e1
 obtain ⟨t,rfl⟩:=r1
 have go:∀ (ty:String),(ty = "str_ascii_iterator"∨ty = "str_iterator")→PIE X pins σ tg R (.ref s1.heap.objs.size) { s1 with heap:=s1.heap.push { cls:=.type ty,data:=.fields #[.str z t,.int 0 0] } }:=fun ty hty=>by
  refine ⟨s1.heap.objs.size,[s1.heap.objs.size],_,_,H1,rfl,I1.kept (t':=s1.toks) fun b o e=>Heap.get?_push_of_some _ e,turn_str _ ty hty z t,⟨_,Heap.get?_push_size _ rfl,rfl,rfl⟩,fun b hb=>?_,q⟩
  rw [List.mem_singleton.mp hb]
  exact I1.fpOk (Nat.le_refl _) (I1.hok.fresh (Nat.le_refl _))
 cases ha:z.cps.all (· < 128) with
 | false=>exact wpAny_pyIter_wide ha (go _ (.inr rfl))
 | true=>exact wpAny_pyIter_ascii ha (go _ (.inl rfl))
end
def comp_str {cs:List Nat} {n:Nat} {fr:List Nat} {g:TG} {tt:TT} {te:TE} {σ:St} {H:Hp} {Q:VK} (Pv:Nat→List V→Hp→Prop) (hk:cs.length < sizeLine) (h0:Pv 0 [] H) (hlen:∀ i acc H,Pv i acc H→acc.length≤i)
  (hs:∀ i acc H2 c,cs[i]? = some c→Pv i acc H2→g (.str ⟨#[c]⟩) (inSt n fr σ) H2 fun σ4 H4=>tt σ4 H4 fun b H5=>if b=true then te σ4 H5 fun v H6=>Pv (i+1) (acc ++ [v]) H6 else Pv (i+1) acc H5)
  (hd:∀ acc H2,Pv cs.length acc H2→∀ l,H2 l=none→Q (.ref l) (upd H2 l (.lst acc))):=
 comp_gen (J:=Its cs) (n:=n) (fr:=fr) (g:=g) (tt:=tt) (te:=te) (σ:=σ) (Q:=Q) Pv hk h0 hlen (fun _ _ _ h _=>h) (fun _ _ _=>Nat.le_refl _) (fun i acc H2 x H3 hi p y=>by
  obtain ⟨e1,c,hc,hx⟩:=y
  subst e1 hx
  exact hs i acc _ c hc p) hd
theorem range_getD_all (bs:List Bool):(List.range bs.length).all (fun i=>bs.getD i false)=bs.all id:=by
 rw [Bool.eq_iff_iff,List.all_eq_true,List.all_eq_true]
 constructor
 ·intro h b hb
  obtain ⟨i,hi,rfl⟩:=List.getElem_of_mem hb
  have:=h i (List.mem_range.mpr hi)
  simpa [List.getD_eq_getElem?_getD,hi] using this
 ·intro h i hi
  have hi':=List.mem_range.mp hi
  have:=h bs[i] (List.getElem_mem hi')
  simpa [List.getD_eq_getElem?_getD,hi'] using this
section
variable {X:Cx}
theorem walk_bools {pins:List (Addr × Obj)} {σ:St} {H:Hp} {s:Shared} {p:Addr} {bs:List Bool} {Qv:VK} {f:Nat→(Nat→Bool)→Bool} {b:Bool} (hc:X.calm=true) (I:Inv X pins σ H s) (hq:SqL X.K H p (bs.map V.bl)) (hb:f bs.length (fun i=>bs.getD i false)=b) (q:Qv (.bl b) H) :
  wpAny (model X.prog X.w) X.A.in1 (pyIter (.ref p)) (fun it s₂=>∃ I fp wr n P St tr,it=.ref I∧Walks X.prog X.w X.A.in1 I fp wr n P St∧St 0 s₂.heap∧TruthOf X.prog X.w X.A.in1 P tr∧
   ∀ h' tk,(∀ b o,b∉wr→s₂.heap.get? b=some o→h'.get? b=some o)→EP X pins σ Qv (.bool (f n tr)) { s₂ with heap:=h',toks:=tk }) X.xe s:=by
 obtain ⟨its,r,pl,hz⟩:=I.list hq
 have hlen:its.toArray.size=bs.length:=by
  rw [List.size_toArray,← r.length,List.length_map]
 have hpl:p < s.heap.objs.size:=by
  obtain ⟨o,e,_⟩:=pl.isList
  exact Heap.lt_size e
 refine wpAny_pyIter_list pl.isList ?_
 refine ⟨s.heap.objs.size,[s.heap.objs.size,p],[s.heap.objs.size],its.toArray.size,_,_,fun i=>bs.getD i false,rfl,Walks.list (A:=X.A.in1) (show X.A.in1.handled=none from I.ok.hd hc) s.heap.objs.size p (Nat.ne_of_lt hpl) its.toArray,?_,?_,fun h' tk k=>?_⟩
 ·refine And.intro (show Heap.IsListIter _ _ _ _ from ⟨_,Heap.get?_push_size _ rfl,rfl,rfl⟩) ?_
  obtain ⟨o,e,z⟩:=pl.isList
  exact ⟨o,Heap.get?_push_of_some _ e,z⟩
 ·intro i v s' Q E hv hQ
  have hv':its[i]? = some v:=by simpa using hv
  cases e:(bs.map V.bl)[i]? with
  | none=>
   have z:=r.none_of e
   rw [hv'] at z
   cases z
  | some x=>
   obtain ⟨u,hu,ru⟩:=r.get e
   rw [hv'] at hu
   cases hu
   rw [List.getElem?_map] at e
   cases e2:bs[i]? with
   | none=>rw [e2] at e; cases e
   | some y=>
    rw [e2] at e
    cases e
    cases ru
    refine wpAny_truthy_bool ?_
    have:bs.getD i false=y:=by rw [List.getD_eq_getElem?_getD,e2]; rfl
    exact this▸(show Q (bs.getD i false) s' from hQ)
 ·rw [hlen,hb]
  refine ⟨.bl b,H,I.kept fun c o e=>k c o ?_ (Heap.get?_push_of_some _ e),rfl,q⟩
  have:=Heap.lt_size e
  intro z
  rw [List.mem_singleton.mp z] at this
  exact Nat.lt_irrefl _ this
theorem call_all_bl (hc:X.calm=true):CallR X (.builtin "all") (fun xs H Q=>∃ (p:Addr) (bs:List Bool),xs=[.ref p]∧SqL X.K H p (bs.map V.bl)∧Q (.bl (bs.all id)) H):=by
 intro pins s σ H xs us Q I r h
 obtain ⟨p,bs,rfl,hq,q⟩:=h
 obtain ⟨u,rfl,ru⟩:=vals1 r
 cases ru
 exact call_all_walk (walk_bools (f:=fun n tr=>(List.range n).all tr) hc I hq (range_getD_all bs) q)
theorem strsAre_of:∀ {ys:List Str} {us:List Value},Vals (ys.map V.str) us→StrsAre us ys
 | [],us,r=>by rw [List.map_nil] at r; cases r; exact .nil
 | y :: ys,us,r=>by
  rw [List.map_cons] at r
  cases r with
  | cons r1 r2=>
   obtain ⟨t,e⟩:=r1
   subst e
   exact .cons y t (strsAre_of r2)
theorem vals_strs:∀ {us:List Value} {ys:List Str},StrsAre us ys→Vals (ys.map V.str) us
 | _,_,.nil=>.nil
 | _,_,.cons y t h=>.cons ⟨t,rfl⟩ (vals_strs h)
inductive rJoinI (K:PySem.W.Frag) (x:V) (xs:List V) (H:Hp) (Q:VK):Prop
 | mk (z p ys:_) (h1:x=.str z) (h2:xs=[.ref p]) (h3:SqL K H p (ys.map V.str)) (h4:(ys.map (·.length)).sum+ys.length * z.length≤16777216) (h5:Q (.str (Txt.join z ys)) H):rJoinI K x xs H Q
def rJoin (K:PySem.W.Frag):V→List V→Hp→VK→Prop:=fun x xs H Q=>rJoinI K x xs H Q
theorem mt_join:MtR X "str.join" (rJoin X.K):=by
 intro pins s σ H x xs v us Q I rx rs h
 obtain ⟨z,p,ys,rfl,rfl,hq,hz,q⟩:=h
 obtain ⟨t,rfl⟩:=rx
 obtain ⟨u,rfl,ru⟩:=rs.one
 cases ru
 obtain ⟨its,r,pl,_⟩:=I.list hq
 exact join_list pl.isList (by simpa using strsAre_of r) hz fun t' k=>⟨.str _,H,I.tok _,⟨_,rfl⟩,q⟩
theorem join_nil_list (ys:List Str):(Txt.join (Str.ofString "") ys).cps.toList=(ys.map fun y=>y.cps.toList).flatten:=by
  show (Builtin.Str.glued (Str.ofString "") ys).cps.toList=_
  rw [StrLaws.glued_eq_join]
  induction ys with
  | nil=>rfl
  | cons y r ih=>
   cases r with
   | nil=>simp [Str.join]
   | cons z r=>
    have e:Str.join (Str.ofString "") (y :: z :: r)=y ++ Str.ofString "" ++ Str.join (Str.ofString "") (z :: r):=rfl
    rw [e]
    have h0:(Str.ofString "").cps = #[]:=by decide +kernel
    show ((y.cps ++ (Str.ofString "").cps) ++ (Str.join (Str.ofString "") (z :: r)).cps).toList=_
    rw [h0,Array.append_empty,Array.toList_append,ih,List.map_cons,List.map_cons,List.flatten_cons]
    rfl
inductive rSlSI (x:V) (lo:Option Int) (hi:Option Int) (H:Hp) (Q:VK):Prop
 | mk (z:_) (h1:x=.str z) (h2:z.length≤sizeLine) (h3:Q (.str (Txt.slice z lo hi)) H):rSlSI x lo hi H Q
def rSlS:V→Option Int→Option Int→Hp→VK→Prop:=fun x lo hi H Q=>rSlSI x lo hi H Q
theorem sl_str:SlR X rSlS:=by
 intro pins s σ H x v vl vu lo hi sl Q I rx hs pl pu h
 obtain ⟨z,rfl,hz,q⟩:=h
 obtain ⟨t,rfl⟩:=rx
 refine ⟨"str",_,F.slot_str_getitem.lookup,typeIs_str _ _ _,?_⟩
 have fin:∀ t' k,EP X pins σ Q (.str (Txt.slice z lo hi) t') { s with toks:=k }:=fun t' k=>⟨.str _,H,I.tok _,⟨_,rfl⟩,q⟩
 have hle:(Txt.slice z lo hi).length≤sizeLine:=Nat.le_trans (Txt.slice_le z _ _) hz
 cases pl with
 | none=>
  cases pu with
  | none=>exact wpAny_getItem_str_slice (l:=none) (u:=none) (st:=none) hs rfl (post_val_or_str ⟨hle,fin⟩)
  | int j uj=>exact wpAny_getItem_str_slice (l:=none) (u:=some (j,uj)) (st:=none) hs rfl (post_val_or_str ⟨hle,fin⟩)
 | int i ui=>
  cases pu with
  | none=>exact wpAny_getItem_str_slice (l:=some (i,ui)) (u:=none) (st:=none) hs rfl (post_val_or_str ⟨hle,fin⟩)
  | int j uj=>exact wpAny_getItem_str_slice (l:=some (i,ui)) (u:=some (j,uj)) (st:=none) hs rfl (post_val_or_str ⟨hle,fin⟩)
inductive rSortSI (K:PySem.W.Frag) (xs:List V) (H:Hp) (Q:VK):Prop
 | mk (p ys:_) (h1:xs=[.ref p]) (h2:SqL K H p (ys.map V.str)) (h3:ys.length < 64) (h4:∀ ys' l,ys'.Perm ys→sortedS ys'=true→H l=none→Q (.ref l) (upd H l (.lst (ys'.map V.str)))):rSortSI K xs H Q
def rSortS (K:PySem.W.Frag):List V→Hp→VK→Prop:=fun xs H Q=>rSortSI K xs H Q
theorem call_sorted_str:CallR X (.builtin "sorted") (rSortS X.K):=by
 intro pins s σ H xs us Q I r h
 obtain ⟨p,ys,rfl,hq,h64,q⟩:=h
 obtain ⟨u,rfl,ru⟩:=vals1 r
 cases ru
 obtain ⟨its,r',pl,hz⟩:=I.list hq
 have hlen:=r'.length
 rw [List.length_map] at hlen hz
 refine sorted_strs pl.isList (strsAre_of r') (by omega) fun out ss' a1 a2 a3=>?_
 obtain ⟨e,he⟩:=sortedAll_at s.heap its out
 have hn:H (s.heap.objs.size+1)=none:=I.hok.fresh (Nat.le_succ _)
 refine ⟨.ref (s.heap.objs.size+1),upd H (s.heap.objs.size+1) (.lst (ss'.map V.str)),I.laid (t':=s.toks) (fun _ _=>sortedAll_old) (Nat.le_succ _) ⟨?_,out.toList,e,vals_strs a1,?_⟩,rfl,q ss' _ a2 a3 hn⟩
 ·rw [List.length_map,a2.length_eq]
  exact hz
 ·simpa [seqObj] using he
def oneS (c:Nat):V:=.str ⟨#[c]⟩
theorem vals_signs {x:Str}:∀ (us:List Value) (k:Nat),(∀ i v,us[i]? = some v→SignAt x (k+i) v)→us.length+k=x.cps.toList.length→Vals ((x.cps.toList.drop k).map oneS) us
 | [],k,_,hl=>by
  rw [List.drop_eq_nil_of_le (by simpa using Nat.le_of_eq hl.symm)]
  exact .nil
 | u :: us,k,h,hl=>by
  have hk:k < x.cps.toList.length:=by
   simp only [List.length_cons] at hl
   omega
  rw [List.drop_eq_getElem_cons hk,List.map_cons]
  refine .cons ?_ (vals_signs us (k+1) (fun i v e=>?_) (by simp only [List.length_cons] at hl; omega))
  ·obtain ⟨c,t,hc,rfl⟩:=h 0 u rfl
   have hc':x.cps.toList[k]? = some c:=by
    rw [Array.getElem?_toList]
    exact hc
   rw [List.getElem?_eq_getElem hk] at hc'
   rw [Option.some.inj hc']
   exact ⟨t,rfl⟩
  ·have:=h (i+1) v e
   rw [show k+1+i=k+(i+1) by omega]
   exact this
theorem call_list_text (hc:X.calm=true):CallR X (.type "list") (fun xs H Q=>∃ z,xs=[.str z]∧z.length≤sizeLine∧∀ l,H l=none→Q (.ref l) (upd H l (.lst (z.cps.toList.map oneS)))):=by
 intro pins s σ H xs us Q I r h
 obtain ⟨z,rfl,hz,q⟩:=h
 obtain ⟨u,rfl,t,rfl⟩:=vals1 r
 refine call_list_str (hn:=hz) (I.ok.hd hc) z t fun h' tk acc c kp e it=>?_
 refine ⟨.ref s.heap.objs.size,_,I.laid kp (Nat.le_refl _) (show ObjOk X.prog X.w _ h' _ (.lst (z.cps.toList.map oneS)) from ⟨by rw [List.length_map]; simpa [Str.length] using hz,acc.toList,c,?_,by simpa using e⟩),rfl,q _ (I.hok.fresh (Nat.le_refl _))⟩
 have e1:=vals_signs (x:=z) acc.toList 0 (fun i v e=>by rw [Nat.zero_add]; exact it.2 i v (by rw [← Array.getElem?_toList]; exact e)) (by rw [Array.length_toList,it.1,Nat.add_zero,Array.length_toList])
 rw [List.drop_zero] at e1
 exact e1
theorem RelV.ty_inj {c:V} {u u':Value} (h:RelV c u) (h':RelV c u') (hc:(∃ n,c=.ty n)∨∃ a,c=.ref a):u=u':=by
 rcases hc with ⟨n,rfl⟩ | ⟨a,rfl⟩
 ·exact (show u=Value.type n from h).trans (show u'=Value.type n from h').symm
 ·exact (show u=Value.ref a from h).trans (show u'=Value.ref a from h').symm
inductive rIsI (K:PySem.W.Frag) (xs:List V) (H:Hp) (Q:VK):Prop
 | mk (x n t b:_) (h1:xs=[x,.ty n]) (h2:TyOf K H x t) (h3:PySem.W.kitOne K t (.type n)=some b) (h4:Q (.bl b) H):rIsI K xs H Q
def rIs (K:PySem.W.Frag):List V→Hp→VK→Prop:=fun xs H Q=>rIsI K xs H Q
theorem call_is:CallR X (.builtin "isinstance") (rIs X.K):=by
 intro pins s σ H xs us Q I r h
 obtain ⟨x,n,t,b,rfl,ty,e,q⟩:=h
 obtain ⟨u,w',rfl,rx,rc⟩:=vals2 r
 cases (show w'=Value.type n from rc)
 exact isinst_ok I rx ty e fun tk=>⟨.bl b,H,I.tok _,rfl,q⟩
inductive rIs2I (K:PySem.W.Frag) (xs:List V) (H:Hp) (Q:VK):Prop
 | mk (x tp n m t b:_) (h1:xs=[x,.ref tp]) (h2:H tp=some (.tup [.ty n,.ty m])) (h3:TyOf K H x t) (h4:PySem.W.kitAny K t [.type n,.type m]=some b) (h5:Q (.bl b) H):rIs2I K xs H Q
def rIs2 (K:PySem.W.Frag):List V→Hp→VK→Prop:=fun xs H Q=>rIs2I K xs H Q
theorem call_is2:CallR X (.builtin "isinstance") (rIs2 X.K):=by
 intro pins s σ H xs us Q I r h
 obtain ⟨x,tp,n,m,t,b,rfl,htp,ty,e,q⟩:=h
 obtain ⟨u,w',rfl,rx,rc⟩:=vals2 r
 cases (show w'=Value.ref tp from rc)
 obtain ⟨_,its,rv,p⟩:=(show ObjOk X.prog X.w H s.heap tp (.tup [.ty n,.ty m]) from I.hok tp _ htp)
 obtain ⟨a1,a2,rfl,ra1,ra2⟩:=rv.two
 cases (show a1=Value.type n from ra1)
 cases (show a2=Value.type m from ra2)
 obtain ⟨⟨oc,od,odt,osl⟩,g1,g2,k,g3⟩:=p
 cases (show oc=Value.type "tuple" from g2)
 cases (show odt=Data.seq _ k from g3)
 have fin:∀ tk,EP X pins σ Q (.bool b) { s with toks:=tk }:=fun tk=>⟨.bl b,H,I.tok _,rfl,q⟩
 have no:∀ v:Value,(∀ z:String,v≠.builtin z)→v≠.builtin "__main__.__loader__#opaque":=fun v h=>h _
 cases ty with
 | non=>cases (show u=Value.none from rx); exact PySem.W.kia_tup PySem.W.kitx_none I.kIn True.intro g1 e (no _ fun _ z=>nomatch z) fin
 | bl y=>cases (show u=Value.bool y from rx); exact PySem.W.kia_tup PySem.W.kitx_bool I.kIn True.intro g1 e (no _ fun _ z=>nomatch z) fin
 | int i=>obtain ⟨t,z⟩:=(show ∃ t,u=Value.int i t from rx); cases z; exact PySem.W.kia_tup PySem.W.kitx_int I.kIn True.intro g1 e (no _ fun _ z=>nomatch z) fin
 | str y=>obtain ⟨t,z⟩:=(show ∃ t,u=Value.str y t from rx); cases z; exact PySem.W.kia_tup PySem.W.kitx_str I.kIn True.intro g1 e (no _ fun _ z=>nomatch z) fin
 | flt y=>obtain ⟨t,z⟩:=(show ∃ t,u=Value.float y t from rx); cases z; exact PySem.W.kia_tup PySem.W.kitx_float I.kIn True.intro g1 e (no _ fun _ z=>nomatch z) fin
 | @lst a xs ea=>
  cases (show u=Value.ref a from rx)
  obtain ⟨_,_,k2,_,h1⟩:=(show ObjOk X.prog X.w H s.heap a (.lst xs) from I.hok a _ ea)
  exact PySem.W.kia_tup PySem.W.kitx_list I.kIn ⟨_,h1,rfl⟩ g1 e (no _ fun _ z=>nomatch z) fin
 | @frz a ob xs ea=>
  cases (show u=Value.ref a from rx)
  obtain ⟨_,_,_,k2,_,h1⟩:=(show ObjOk X.prog X.w H s.heap a (.frz ob (.lst xs)) from I.hok a _ ea)
  exact PySem.W.kia_tup PySem.W.kitx_list I.kIn ⟨_,h1,rfl⟩ g1 e (no _ fun _ z=>nomatch z) fin
 | @tup a xs ea=>
  cases (show u=Value.ref a from rx)
  obtain ⟨_,_,_,o2,h1,h2,_⟩:=(show ObjOk X.prog X.w H s.heap a (.tup xs) from I.hok a _ ea)
  exact PySem.W.kia_tup PySem.W.kitx_tuple I.kIn ⟨o2,h1,h2⟩ g1 e (no _ fun _ z=>nomatch z) fin
 | @dK a kvs ea=>
  cases (show u=Value.ref a from rx)
  obtain ⟨_,_,vs,_,o2,es,ep,h1,h2,_⟩:=(show ObjOk X.prog X.w H s.heap a (.dK kvs) from I.hok a _ ea)
  exact PySem.W.kia_tup PySem.W.kitx_dict I.kIn ⟨o2,h1,h2.1⟩ g1 e (no _ fun _ z=>nomatch z) fin
 | @dT a kvs ea=>
  cases (show u=Value.ref a from rx)
  obtain ⟨_,_,xs,_,o2,es,ep,h1,h2,_⟩:=(show ObjOk X.prog X.w H s.heap a (.dT kvs) from I.hok a _ ea)
  exact PySem.W.kia_tup PySem.W.kitx_dict I.kIn ⟨o2,h1,h2.1⟩ g1 e (no _ fun _ z=>nomatch z) fin
 | @ins a C dx fs ea cl ha hn htk hm=>
  cases (show u=Value.ref a from rx)
  obtain ⟨mA,O,_⟩:=ins_get I.hok ea
  obtain ⟨od2,J,_⟩:=O.look
  exact PySem.W.kia_tup (PySem.W.kitx_own (cl.get _) cl.hd ha hn htk hm) I.kIn J g1 e (no _ fun _ z=>nomatch z) fin
end
end L2
namespace L2
open PySem PySem.Spec PyProof.Rows
inductive tCutI (t:TS) (u:TS) (D:Ends) (σ:St) (H:Hp):Prop
 | mk (P:St→Hp→Prop) (h1:t { D with nx:=P } σ H) (h2:∀ σ' H',P σ' H'→u D σ' H'):tCutI t u D σ H
def tCut (t u:TS):TS:=fun D σ H=>tCutI t u D σ H
theorem pss_cut {X:Cx} {st:Stmt} {rest:List Stmt} {t u:TS} (h1:PS X st t) (h2:PSs X rest u):PSs X (st :: rest) (tCut t u):=by
 intro pins s σ H D I h
 obtain ⟨P,q,k⟩:=h
 have z:PSs X (st :: rest) (tSeq (fun D' σ' H'=>D'=D∧σ'=σ∧H'=H) (fun _ _ _=>True))→True:=fun _=>True.intro
 exact pss_cons (t:=fun D' σ' H'=>t { D' with nx:=P } σ' H'∧∀ σ2 H2,P σ2 H2→D'.nx σ2 H2) (u:=u) (fun pins s σ H D I h=>by
  refine thn (h1 pins s σ H _ I h.1) fun f s' r=>?_
  cases f with
  | next=>
   obtain ⟨σ',H',I',p⟩:=r
   exact ⟨σ',H',I',h.2 σ' H' p⟩
  | brk=>exact r
  | cont=>exact r
  | ret v=>exact r) h2 pins s σ H D I ⟨q,k⟩
structure Cal (P:Program) (w:World) (K:PySem.W.Frag) (mg:Str→Option Value) (base:Heap) (x:Str) (k:Nat) (ps:List Str) (sp:Sp) where
 f:Addr
 fd:FuncData
 ok:FnOk P w K mg base CX0 k f fd ps sp
 at_:mg x=some (.ref f)
 kp:PySem.W.keepIn K (.ref f)=true
 b:Binds K fd ps []
theorem pe_c {X:Cx} {x:Str} {k:Nat} {ps:List Str} {sp:Sp} {p pos:Pos} {e:Expr} {es:List Expr} {t:TA} (C:Cal X.prog X.w X.K X.mg X.base x k ps sp) (hr:Room k X.A) (ha:PA X (e :: es) t) (hg:Gl X x:=by rfl)
  (hdb:(x==("__debug__" : Str))=false:=by decide) (he:starEach (e :: es) X.env=(false,eval e X.env) :: starEach es X.env:=by rfl) (hpl:(backTo pos (starEach es X.env)).any (·.1)=false:=by rfl) :
  PE X (.Call (.Name x p) (e :: es) [] pos) (tCall sp [] E0 t):=pe_call C.ok hr hg C.at_ C.kp C.b .nil pass0 ha hdb he hpl
section
variable {X:Cx}
theorem op_le_str:OpR X (compareOp .LtE) (fun x y H Q=>∃ i j,x=.str i∧y=.str j∧Q (.bl (!decide (j.cps.toList < i.cps.toList))) H):=by
 intro pins s σ H x y v u Q I rx ry h
 obtain ⟨i,j,rfl,rfl,q⟩:=h
 obtain ⟨t,rfl⟩:=rx
 obtain ⟨t',rfl⟩:=ry
 exact PySem.P.le_str (fin_bl I q rfl)
end
theorem lt_one (a b:Nat):decide (([a]:List Nat) < [b])=decide (a < b):=by
 rw [Bool.eq_iff_iff,decide_eq_true_eq,decide_eq_true_eq]
 constructor
 ·intro h
  cases h with
  | rel h=>exact h
  | cons h=>cases h
 ·intro h
  exact List.Lex.rel h
section
variable {X:Cx} {K:PySem.W.Frag}
inductive rLenQI (K:PySem.W.Frag) (xs:List V) (H:Hp) (Q:VK):Prop
 | mk (p ys:_) (h1:xs=[V.ref p]) (h2:(SqL K H p ys∨SqT K H p ys)) (h3:Q (.int ys.length) H):rLenQI K xs H Q
def rLenQ (K:PySem.W.Frag):List V→Hp→VK→Prop:=fun xs H Q=>rLenQI K xs H Q
inductive rListQI (K:PySem.W.Frag) (xs:List V) (H:Hp) (Q:VK):Prop
 | mk (p ys:_) (h1:xs=[V.ref p]) (h2:(SqL K H p ys∨SqT K H p ys)) (h3:∀ l,H l=none→Q (.ref l) (upd H l (.lst ys))):rListQI K xs H Q
def rListQ (K:PySem.W.Frag):List V→Hp→VK→Prop:=fun xs H Q=>rListQI K xs H Q
inductive rTupQI (K:PySem.W.Frag) (xs:List V) (H:Hp) (Q:VK):Prop
 | mk (p ys:_) (h1:xs=[V.ref p]) (h2:((SqL K H p ys∧∀ l,H l=none→Q (.ref l) (upd H l (.tup ys)))∨(SqT K H p ys∧Q (.ref p) H))):rTupQI K xs H Q
def rTupQ (K:PySem.W.Frag):List V→Hp→VK→Prop:=fun xs H Q=>rTupQI K xs H Q
inductive rAllQI (K:PySem.W.Frag) (xs:List V) (H:Hp) (Q:VK):Prop
 | mk (p:Addr) (bs:List Bool) (h1:xs=[V.ref p]) (h2:SqL K H p (bs.map V.bl)) (h3:Q (.bl (bs.all id)) H):rAllQI K xs H Q
def rAllQ (K:PySem.W.Frag):List V→Hp→VK→Prop:=fun xs H Q=>rAllQI K xs H Q
theorem CallR.imp {X:Cx} {f:Value} {r r':List V→Hp→VK→Prop} (h:CallR X f r) (hi:∀ xs H Q,r' xs H Q→r xs H Q):CallR X f r':=fun pins s σ H xs us Q I rv q=>h pins s σ H xs us Q I rv (hi xs H Q q)
theorem ix_listK (hK:X.K=K:=by rfl):IxR X (rIxL K):=by subst hK; exact ix_list
theorem ix_tupK (hK:X.K=K:=by rfl):IxR X (rIxT K):=by subst hK; exact ix_tup
theorem ix_seqK (hK:X.K=K:=by rfl):IxR X (rIx K):=by subst hK; exact ix_seq
theorem call_lenK (hK:X.K=K:=by rfl):CallR X (.builtin "len") (rLenQ K):=by subst hK; exact call_len_seq.imp fun _ _ _ ⟨p,ys,e,h,q⟩=>⟨p,ys,e,h,q⟩
theorem call_listK (hK:X.K=K:=by rfl):CallR X (.type "list") (rListQ K):=by subst hK; exact call_list_of.imp fun _ _ _ ⟨p,ys,e,h,q⟩=>⟨p,ys,e,h,q⟩
theorem call_tupK (hK:X.K=K:=by rfl):CallR X (.type "tuple") (rTupQ K):=by subst hK; exact call_tuple_of.imp fun _ _ _ ⟨p,ys,e,h⟩=>⟨p,ys,e,h⟩
theorem call_allK (hc:X.calm=true:=by rfl) (hK:X.K=K:=by rfl):CallR X (.builtin "all") (rAllQ K):=by subst hK; exact (call_all_bl hc).imp fun _ _ _ ⟨p,bs,e,h,q⟩=>⟨p,bs,e,h,q⟩
theorem call_sortK (hK:X.K=K:=by rfl):CallR X (.builtin "sorted") (rSortS K):=by subst hK; exact call_sorted_str
theorem call_isK (hK:X.K=K:=by rfl):CallR X (.builtin "isinstance") (rIs K):=by subst hK; exact call_is
theorem call_is2K (hK:X.K=K:=by rfl):CallR X (.builtin "isinstance") (rIs2 K):=by subst hK; exact call_is2
theorem op_inK (hK:X.K=K:=by rfl):OpR X (compareOp .In) (rIn K false):=by subst hK; exact op_in_seq
theorem sl_listK (hK:X.K=K:=by rfl):SlR X (rSlL K):=by subst hK; exact sl_list
theorem mt_joinK (hK:X.K=K:=by rfl):MtR X "str.join" (rJoin K):=by subst hK; exact mt_join
theorem pi_listK {tg l:Expr} {tl:TE} (hl:PE X l tl) (hK:X.K=K:=by rfl):PI X tg l (iList K tl):=by subst hK; exact pi_list hl
theorem pi_tupK {tg l:Expr} {tl:TE} (hl:PE X l tl) (hK:X.K=K:=by rfl):PI X tg l (iTup K tl):=by subst hK; exact pi_tup hl
theorem pg_tupK {es:List Expr} {k:Nat} {t:TGs} {n:Nat} {pos:Pos} (hc:X.calm=true) (h:PGs X es t) (hK:X.K=K:=by rfl)
  (hn:(assignEach es X.env).length=n:=by rfl) (hst:(assignEach es X.env).findIdx? (·.1)=none:=by rfl):PG X (.Tuple es k pos) (gTup K n t):=by subst hK; exact pg_tup hc h hn hst
theorem pe_bmK {o e:Expr} {es:List Expr} {to:TE} {t:TA} {name:Str} {apos cpos:Pos} {T id:String} {r:V→List V→Hp→VK→Prop} (pa:PlainAttrs T) (slot:Slot T name id) (hty:typeOf (.builtin id)=pure (.type "method_descriptor")) (hm:MtR X id r) (ho:PE X o to)
  (ha:PA X (e :: es) t) (hK:X.K=K:=by rfl) (hbase:attributeBase o name X.env (eval o X.env)=eval o X.env:=by rfl)
  (hfew:((backTo cpos (starEach (e :: es) X.env)).all (fun x=>!x.1) && (backToKw cpos (keywordEach [] X.env)).all (fun x=>x.1.isSome)
   && decide ((e :: es).length+([]:List Keyword).length+(if ([]:List Keyword).isEmpty then 0 else 1) < 30))=true:=by rfl)
  (hline:(apos.endLine==cpos.line)=true:=by rfl) (hs:starEach (e :: es) X.env=(false,eval e X.env) :: starEach es X.env:=by rfl) (hplain:(backTo cpos (starEach es X.env)).any (·.1)=false:=by rfl) :
  PE X (.Call (.Attribute o name apos) (e :: es) [] cpos) (tBM K T r to t):=by subst hK; exact pe_bm pa slot hty hm ho ha hbase hfew hline hs hplain
end
theorem bt_len:bootBuiltins "len" = some (.builtin "len"):=by decide +kernel
theorem bt_sorted:bootBuiltins "sorted" = some (.builtin "sorted"):=by decide +kernel
theorem bt_all:bootBuiltins "all" = some (.builtin "all"):=by decide +kernel
theorem bt_isinstance:bootBuiltins "isinstance" = some (.builtin "isinstance"):=by decide +kernel
theorem bt_max:bootBuiltins "max" = some (.builtin "max"):=by decide +kernel
theorem bt_min:bootBuiltins "min" = some (.builtin "min"):=by decide +kernel
theorem bt_list:bootBuiltins "list" = some (.type "list"):=by decide +kernel
theorem bt_tuple:bootBuiltins "tuple" = some (.type "tuple"):=by decide +kernel
theorem bt_int:bootBuiltins "int" = some (.type "int"):=by decide +kernel
theorem bt_bool:bootBuiltins "bool" = some (.type "bool"):=by decide +kernel
theorem bt_str:bootBuiltins "str" = some (.type "str"):=by decide +kernel
theorem bt_enumerate:bootBuiltins "enumerate" = some (.type "enumerate"):=by decide +kernel
theorem bt_set:bootBuiltins "set" = some (.type "set"):=by decide +kernel
theorem cyes {i:Nat} {x:V} {σ:St} {H:Hp} {te:TE} {Nt:VK} {Nf:Hp→Prop} (h:te (σ.set i (some x)) H Nt):gName i x σ H fun σ4 H4=>tYes σ4 H4 fun b H5=>if b=true then te σ4 H5 Nt else Nf H5:=by
 show if true=true then te (σ.set i (some x)) H Nt else Nf H
 exact iteT h
theorem same_new {H:Hp} {p:Addr} (h:H p=none) (o:HO):Same H (upd H p o):=fun b u q=>by rw [upd_ne (ne_of_none q h)]; exact q
theorem line_le {n:Nat} (h:n≤1000):n≤sizeLine:=Nat.le_of_lt (small1000 h)
def FlowXs (sc:Addr) (xs:List V):Prop:=∃ a b c d:Int,xs=[.ref sc,.int a,.int b,.int c,.int d]∧0≤a∧0≤b∧0≤c∧c < 2147483647∧0≤d
structure FlowAt (H:Hp) (p sc:Addr):Prop where
 here:∃ xs,H p=some (.lst xs)∧FlowXs sc xs
 cells:∃ ns:List Int,H sc=some (.lst (ns.map V.int))
theorem FlowAt.ne {H:Hp} {p sc:Addr} (F:FlowAt H p sc):sc≠p:=by
 obtain ⟨xs,h1,a,b,c,d,e,_⟩:=F.here
 obtain ⟨ns,h2⟩:=F.cells
 refine ne_of h2 h1 fun z=>?_
 have z':ns.map V.int=xs:=by injection z
 rw [e] at z'
 cases ns with
 | nil=>cases z'
 | cons n r=>
  rw [List.map_cons] at z'
  injection z' with z1
  cases z1
theorem FlowAt.go {H:Hp} {p sc:Addr} {xs:List V} (F:FlowAt H p sc) (h:FlowXs sc xs):FlowAt (upd H p (.lst xs)) p sc:=by
 obtain ⟨ns,h2⟩:=F.cells
 exact ⟨⟨xs,upd_same,h⟩,ns,by rw [upd_ne F.ne]; exact h2⟩
def Drew (H H':Hp) (p:Addr):Prop:=∀ b o,H b=some o→b≠p→H' b=some o
theorem FlowAt.same {H H':Hp} {p sc:Addr} (F:FlowAt H p sc) (e:Same H H'):FlowAt H' p sc:=by
 obtain ⟨xs,h1,h2⟩:=F.here
 obtain ⟨ns,h3⟩:=F.cells
 exact ⟨⟨xs,e _ _ h1,h2⟩,ns,e _ _ h3⟩
theorem Drew.refl (H:Hp) (p:Addr):Drew H H p:=fun _ _ h _=>h
theorem Drew.trans {H H1 H2:Hp} {p:Addr} (a:Drew H H1 p) (b:Drew H1 H2 p):Drew H H2 p:=fun c o h n=>b c o (a c o h n) n
theorem Drew.upd {H:Hp} {p:Addr} (o:HO):Drew H (upd H p o) p:=fun b u h n=>by rw [upd_ne n]; exact h
theorem Drew.same {H H':Hp} {p:Addr} (h:Same H H'):Drew H H' p:=fun b o e _=>h b o e
inductive spFlowI (K:PySem.W.Frag) (vs:List V) (H:Hp) (Q:VK):Prop
 | mk (a:Addr) (ns:List Int) (h1:vs=[.ref a]) (h2:SqL K H a (ns.map V.int)) (h3:∀ p sc H',H p=none→Same H H'→FlowAt H' p sc→Q (.ref p) H'):spFlowI K vs H Q
def spFlow (K:PySem.W.Frag):Sp:=fun vs H Q u3_=>spFlowI K vs H Q
inductive spPickI (vs:List V) (H:Hp) (Q:VK):Prop
 | mk (p sc:Addr) (m:Int) (h1:vs=[.ref p,.int m]) (h2:0 < m) (h3:m < 1073741824) (h4:FlowAt H p sc) (h5:∀ r xs,0≤r→r < m→FlowXs sc xs→Q (.int r) (upd H p (.lst xs))):spPickI vs H Q
def spPick:Sp:=fun vs H Q u3_=>spPickI vs H Q
def IsLetters (z:Str) (n:Nat):Prop:=z.cps.toList.length=n∧z.cps.toList.Pairwise (· < ·)∧∀ c∈z.cps.toList,97≤c∧c≤122
inductive spLettersI (vs:List V) (H:Hp) (Q:VK):Prop
 | mk (p sc:Addr) (m:Int) (h1:vs=[.ref p,.int m]) (h2:0≤m) (h3:m≤26) (h4:FlowAt H p sc) (h5:∀ z H',IsLetters z m.toNat→Drew H H' p→FlowAt H' p sc→Q (.str z) H'):spLettersI vs H Q
def spLetters:Sp:=fun vs H Q u3_=>spLettersI vs H Q
inductive Dt where
 | non | bl (b:Bool) | int (i:Int) | str (x:Str) | lst (ds:List Dt) | tup (ds:List Dt)
def Dt.dep:Dt→Nat
 | .lst ds=>(ds.map Dt.dep).foldr max 0+1
 | .tup ds=>(ds.map Dt.dep).foldr max 0+1
 | _=>0
inductive Den (H:Hp):V→Dt→Prop where
 | non:Den H .non .non
 | bl (b:Bool):Den H (.bl b) (.bl b)
 | int (i:Int):Den H (.int i) (.int i)
 | str (x:Str):Den H (.str x) (.str x)
 | lst {a:Addr} {xs:List V} {ds:List Dt} (h:H a=some (.lst xs)) (hz:xs.length≤1000000) (hl:xs.length=ds.length) (hd:∀ (i:Nat) x d,xs[i]? = some x→ds[i]? = some d→Den H x d):Den H (.ref a) (.lst ds)
 | tup {a:Addr} {xs:List V} {ds:List Dt} (h:H a=some (.tup xs)) (hz:xs.length≤1000000) (hl:xs.length=ds.length) (hd:∀ (i:Nat) x d,xs[i]? = some x→ds[i]? = some d→Den H x d):Den H (.ref a) (.tup ds)
theorem Den.same {H H':Hp} (e:Same H H') {v:V} {d:Dt} (h:Den H v d):Den H' v d:=by
 induction h with
 | non=>exact .non
 | bl b=>exact .bl b
 | int i=>exact .int i
 | str x=>exact .str x
 | lst h hz hl hd ih=>exact .lst (e _ _ h) hz hl ih
 | tup h hz hl hd ih=>exact .tup (e _ _ h) hz hl ih
theorem foldr_max {l:List Nat} {x:Nat} (h:x∈l):x≤l.foldr max 0:=by
 induction l with
 | nil=>cases h
 | cons y r ih=>
  rw [List.foldr_cons]
  rcases List.mem_cons.mp h with e | e
  ·subst e; omega
  ·have:=ih e; omega
theorem Dt.dep_lst {ds:List Dt} {d:Dt} (h:d∈ds):d.dep < (Dt.lst ds).dep:=by
 have:=foldr_max (List.mem_map_of_mem (f:=Dt.dep) h)
 rw [Dt.dep]
 omega
theorem Dt.dep_tup {ds:List Dt} {d:Dt} (h:d∈ds):d.dep < (Dt.tup ds).dep:=by
 have:=foldr_max (List.mem_map_of_mem (f:=Dt.dep) h)
 rw [Dt.dep]
 omega
inductive spAlikeI (n:Nat) (vs:List V) (H:Hp) (Q:VK):Prop
 | mk (u v:V) (d:Dt) (h1:vs=[u,v]) (h2:d.dep < n) (h3:Den H u d) (h4:Den H v d) (h5:∀ H',Same H H'→Q (.bl true) H'):spAlikeI n vs H Q
def spAlike (n:Nat):Sp:=fun vs H Q u3_=>spAlikeI n vs H Q
theorem kit_tt (K:PySem.W.Frag) (t:String) (b1 b2 b:Bool) (h1:PySem.W.kitOne K (.type t) (.type "list")=some b1) (h2:PySem.W.kitOne K (.type t) (.type "tuple")=some b2) (hb:(b1 || b2)=b):PySem.W.kitAny K (.type t) [.type "list",.type "tuple"]=some b:=by
 unfold PySem.W.kitAny
 rw [h1]
 cases b1 with
 | true=>subst hb; rfl
 | false=>
  show PySem.W.kitAny K (.type t) [.type "tuple"]=_
  unfold PySem.W.kitAny
  rw [h2]
  cases b2 <;> subst hb <;> rfl
theorem kit_n_l (K:PySem.W.Frag):PySem.W.kitOne K (.type "NoneType") (.type "list")=some false:=by kernel_rfl
theorem kit_n_t (K:PySem.W.Frag):PySem.W.kitOne K (.type "NoneType") (.type "tuple")=some false:=by kernel_rfl
theorem kit_n_b (K:PySem.W.Frag):PySem.W.kitOne K (.type "NoneType") (.type "bool")=some false:=by kernel_rfl
theorem kit_b_l (K:PySem.W.Frag):PySem.W.kitOne K (.type "bool") (.type "list")=some false:=by kernel_rfl
theorem kit_b_t (K:PySem.W.Frag):PySem.W.kitOne K (.type "bool") (.type "tuple")=some false:=by kernel_rfl
theorem kit_b_b (K:PySem.W.Frag):PySem.W.kitOne K (.type "bool") (.type "bool")=some true:=by kernel_rfl
theorem kit_i_l (K:PySem.W.Frag):PySem.W.kitOne K (.type "int") (.type "list")=some false:=by kernel_rfl
theorem kit_i_t (K:PySem.W.Frag):PySem.W.kitOne K (.type "int") (.type "tuple")=some false:=by kernel_rfl
theorem kit_i_b (K:PySem.W.Frag):PySem.W.kitOne K (.type "int") (.type "bool")=some false:=by kernel_rfl
theorem kit_s_l (K:PySem.W.Frag):PySem.W.kitOne K (.type "str") (.type "list")=some false:=by kernel_rfl
theorem kit_s_t (K:PySem.W.Frag):PySem.W.kitOne K (.type "str") (.type "tuple")=some false:=by kernel_rfl
theorem kit_s_b (K:PySem.W.Frag):PySem.W.kitOne K (.type "str") (.type "bool")=some false:=by kernel_rfl
theorem kit_l_l (K:PySem.W.Frag):PySem.W.kitOne K (.type "list") (.type "list")=some true:=by kernel_rfl
theorem kit_l_t (K:PySem.W.Frag):PySem.W.kitOne K (.type "list") (.type "tuple")=some false:=by kernel_rfl
theorem kit_t_l (K:PySem.W.Frag):PySem.W.kitOne K (.type "tuple") (.type "list")=some false:=by kernel_rfl
theorem kit_t_t (K:PySem.W.Frag):PySem.W.kitOne K (.type "tuple") (.type "tuple")=some true:=by kernel_rfl
end L2
namespace L2
open PySem PySem.Spec PyProof.Rows
section
variable {X:Cx} {tg:Expr}
end
def tTru (K:PySem.W.Frag) (ta:TE):TT:=fun σ H Q=>ta σ H fun x H'=>∃ k,TruV K x H' k∧Q k H'
theorem pt_truthK {X:Cx} {K:PySem.W.Frag} {a:Expr} {ta:TE} (ha:PE X a ta) (he:∀ whole,isTrue a X.env whole=(do let v ← whole; standAt a.pos; holding [v] (truthy v))) (hK:X.K=K:=by rfl):PT X a (tTru K ta):=by
 subst hK
 exact pt_truth ha he
end L2
namespace L2
open PySem PySem.Spec PyProof.Rows
def EntS (w:World) (e:Int × Value):Prop:=∃ y u,e=(hashStr w y,Value.str y u)
def keyS (e:Int × Value):Str:=strOf e.2
def SetTx (w:World) (o:Obj) (D:List Str) (n:Nat):Prop:=
 ∃ (es:Array (Int × Value)) (ep:Nat) (t:SetTable),o = { cls:=.type "set",dict:=none,data:=.set es ep t }∧(∀ e∈es.toList,EntS w e)∧
  (es.toList.map keyS).Nodup∧(∀ y,y∈es.toList.map keyS↔y∈D)∧es.size≤n∧t.fits es.size=true∧t.led = !w.params.followText "set-order"∧(es.size=0∨t.plain=false)
theorem lay_marks (t:SetTable) (es:Array (Int × Value)) (h:Int) (x:Value):(layNew t es h x).2.1.led=t.led∧(t.plain=false→(layNew t es h x).2.1.plain=false):=by
 unfold layNew
 split
 ·dsimp only
  unfold SetTable.orStandIn
  split
  ·exact ⟨rfl,fun z=>z⟩
  ·exact ⟨rfl,fun _=>rfl⟩
 ·exact ⟨rfl,fun _=>rfl⟩
theorem relay_marks (t:SetTable) (es:Array (Int × Value)) (n:Nat):(relayAll t es n).2.1.led=t.led∧(t.plain=false→(relayAll t es n).2.1.plain=false):=by
 unfold relayAll
 split
 ·rename_i t' order hr
  dsimp only
  split
  ·unfold SetTable.relaid SetTable.laid at hr
   cases hl:SetTable.layClean (SetTable.sizeAbove n - 1) (es.map (·.1)) with
   | none=>rw [hl] at hr; cases hr
   | some ow=>
    rw [hl] at hr
    have e:=Option.some.inj hr
    have e1:t'.led=t.led:=by rw [← (Prod.mk.inj e).1]
    have e2:t'.plain=t.plain:=by rw [← (Prod.mk.inj e).1]
    exact ⟨e1,fun z=>e2.trans z⟩
  ·exact ⟨rfl,fun _=>rfl⟩
 ·exact ⟨rfl,fun _=>rfl⟩
section
variable {P:Program} {w:World} {A:Around} {E:Value→Shared→Prop} {s:Shared}
theorem elems_of {es:List (Int × Value)} (h:∀ e∈es,EntS w e):ElemsOf (strKind P w) es:=fun e he=>by
 obtain ⟨y,u,rfl⟩:=h e he
 exact ⟨⟨y,by show Value.isStrOf y (.str y u)=true; simp [Value.isStrOf],rfl⟩,rfl⟩
theorem store_text {a:Addr} {es es':Array (Int × Value)} {ep:Nat} {t t':SetTable} {Q:Unit→Shared→Prop} (ho:s.heap.get? a=some { cls:=.type "set",dict:=none,data:=.set es ep t }) (hz:es'.size≤4096)
  (h:∀ h',Heap.SameBut a s.heap h'→h'.get? a=some { cls:=.type "set",dict:=none,data:=.set es' (ep+1) t' }→Q () { s with heap:=h' }):wpAny (model P w) A (storeSet a es' t') Q E s:=by
 refine wpAny_storeSet_of ho rfl (h _ (Heap.SameBut.update _ _ _) ?_) (Nat.le_trans hz (by rw [sizeLine_eq]; omega))
 have e:=Heap.get?_update_self (Obj.putSet es' t') ho (by rw [putSet_of es' t' rfl]; rfl)
 rw [putSet_of es' t' rfl] at e
 exact e
theorem tail_text {g:Bool→Sem Unit} (hg:∀ (b:Bool) (s₁:Shared) (Q':Unit→Shared→Prop),Q' () s₁→wpAny (model P w) A (g b) Q' E s₁) {a:Addr} {es es1:Array (Int × Value)} {ep:Nat} {t t2:SetTable}
  (ho:s.heap.get? a=some { cls:=.type "set",dict:=none,data:=.set es ep t }) (hz:es1.size≤4096) (hf:t2.fits es1.size=true) {wd:Bool} {R:Option Bool→Shared→Prop}
  (h:∀ h' es2 ep2 t3,Heap.SameBut a s.heap h'→h'.get? a=some { cls:=.type "set",dict:=none,data:=.set es2 ep2 t3 }→es2.toList.Perm es1.toList→t3.fits es2.size=true→t3.led=t2.led→(t2.plain=false→t3.plain=false)→
   R (some true) { s with heap:=h' }) :
  wpAny (model P w) A (do
   storeSet a es1 t2
   if (!wd && t2.tooFull)=true then do
    g (relayAll t2 es1 (SetTable.grown es1.size)).2.2
    storeSet a (relayAll t2 es1 (SetTable.grown es1.size)).1
     (relayAll t2 es1 (SetTable.grown es1.size)).2.1
    pure (some true)
   else pure (some true)) R E s:=by
 refine wpAny_bind (store_text ho hz fun h1 sb1 e1=>?_)
 split
 ·have hp:=relayAll_perm t2 es1 (SetTable.grown es1.size)
  have hfr:=relayAll_fits t2 es1 (SetTable.grown es1.size)
  have hmk:=relay_marks t2 es1 (SetTable.grown es1.size)
  generalize hRl:relayAll t2 es1 (SetTable.grown es1.size)=Rl at hp hfr hmk ⊢
  obtain ⟨es2,t3,gv⟩:=Rl
  dsimp only at hp hfr hmk ⊢
  have hsz:es2.size=es1.size:=by rw [← Array.length_toList,hp.length_eq,Array.length_toList]
  refine wpAny_bind (hg _ _ _ ?_)
  refine wpAny_bind (store_text (s:={ s with heap:=h1 }) e1 (by rw [hsz]; exact hz) fun h2 sb2 e2=>?_)
  exact wpAny_pure (h h2 _ _ _ (sb1.trans sb2) e2 hp hfr hmk.1 hmk.2)
 ·exact wpAny_pure (h h1 _ _ _ sb1 e1 (List.Perm.refl _) hf rfl fun z=>z)
theorem key_is {es:List (Int × Value)} (h:∀ e∈es,EntS w e) {e:Int × Value} (he:e∈es) (y:Str):(strKind P w).is y e.2=true↔keyS e=y:=by
 obtain ⟨z,u,rfl⟩:=h e he
 show Value.isStrOf y (.str z u)=true↔z=y
 simp only [Value.isStrOf,beq_iff_eq]
theorem add_text {a:Addr} {o:Obj} {D:List Str} {n:Nat} {Q:Bool→Shared→Prop} (ho:s.heap.get? a=some o) (hS:SetTx w o D n) (hb:n+1 < 4096) (y:Str) (u:Tok)
  (h:∀ b h' o',Heap.SameBut a s.heap h'→h'.get? a=some o'→SetTx w o' (D ++ [y]) (n+1)→Q b { s with heap:=h' }):wpAny (model P w) A (setAddHashed a (.str y u) (hashStr w y)) Q E s:=by
 obtain ⟨es,ep,t,rfl,hen,hnd,hmem,hsz,hf,hled,hpl⟩:=hS
 have hel:ElemsOf (strKind P w) es.toList:=elems_of hen
 have hbs:es.size < scanBound:=by show es.size < 4096; omega
 have hkey:(strKind P w).is y (.str y u)=true:=by show Value.isStrOf y (.str y u)=true; simp [Value.isStrOf]
 unfold setAddHashed setAddHashedIn
 refine wpAny_holding (wpAny_bind (wpAny_setState_of ho rfl hf ?_))
 dsimp only
 rw [byScan_of (knd:=strKind P w) (x:=.str y u) rfl hbs hel]
 simp only [↓reduceIte]
 unfold setAddByScan
 refine wpAny_bind (wpAny_bind (wpAny_rule (wpAny_bind ?_)))
 refine wpAny_setScan_of (knd:=strKind P w) (k:=y) hkey ho rfl hf hel ?_
 have hfi:∀ r,es.toList.findIdx? (fun e=>(strKind P w).is y e.2)=r→r.isSome=decide (y∈es.toList.map keyS):=fun r hr=>by
  subst hr
  rw [Bool.eq_iff_iff,decide_eq_true_eq,List.findIdx?_isSome,List.any_eq_true,List.mem_map]
  exact ⟨fun ⟨e,he,z⟩=>⟨e,he,(key_is (P:=P) hen he y).mp z⟩,fun ⟨e,he,z⟩=>⟨e,he,(key_is (P:=P) hen he y).mpr z⟩⟩
 cases hr:es.toList.findIdx? (fun e=>(strKind P w).is y e.2) with
 | some j=>
  have hin:y∈es.toList.map keyS:=of_decide_eq_true (hfi _ hr).symm
  dsimp only
  refine wpAny_pure (wpAny_pure ?_)
  refine h _ s.heap _ (Heap.SameBut.refl a s.heap) ho ⟨es,ep,t,rfl,hen,hnd,fun z=>?_,by omega,hf,hled,hpl⟩
  rw [hmem z,List.mem_append,List.mem_singleton]
  exact ⟨.inl,fun z=>z.elim id fun e=>e▸(hmem y).mp hin⟩
 | none=>
  have hout:y∉es.toList.map keyS:=fun z=>by
   have:=hfi _ hr
   rw [decide_eq_true z] at this
   cases this
  dsimp only
  have hperm:=layNew_perm t es (hashStr w y) (.str y u)
  have hfits:=layNew_fits t es (hashStr w y) (.str y u)
  have hmk:=lay_marks t es (hashStr w y) (.str y u)
  show wpAny (model P w) A (_ >>= _) _ _ _
  have eh:(strKind P w).hash y=hashStr w y:=rfl
  generalize hL:layNew t es (hashStr w y) (.str y u)=L at hperm hfits hmk ⊢
  obtain ⟨es1,t1,wd,gv⟩:=L
  dsimp only at hperm hfits hmk ⊢
  rw [Array.toList_push] at hperm
  have hsz1:es1.size=es.size+1:=by rw [← Array.length_toList,hperm.length_eq,List.length_append,Array.length_toList]; rfl
  have hgw:∀ (b:Bool) (s₁:Shared) (Q':Unit→Shared→Prop),Q' () s₁→wpAny (model P w) A (match b with | true=>rule "set.scan.the-table-gave-way" | false=>pure ()) Q' E s₁:=
   fun b s₁ Q' hq=>by cases b <;> first | exact wpAny_pure hq | exact wpAny_rule hq
  have fin:∀ t2:SetTable,t2.led=t1.led→t2.plain=false→t2.fits es1.size=true→∀ h' es2 ep2 t3,Heap.SameBut a s.heap h'→h'.get? a=some { cls:=.type "set",dict:=none,data:=.set es2 ep2 t3 }→es2.toList.Perm es1.toList→
    t3.fits es2.size=true→t3.led=t2.led→(t2.plain=false→t3.plain=false)→Q true { s with heap:=h' }:=fun t2 l2 p2 _ h' es2 ep2 t3 sb e2 hp f3 l3 p3=>by
   have pm:es2.toList.Perm (es.toList ++ [(hashStr w y,.str y u)]):=hp.trans hperm
   have pk:(es2.toList.map keyS).Perm (es.toList.map keyS ++ [y]):=by
    have:=pm.map keyS
    rw [List.map_append] at this
    exact this
   refine h _ h' _ sb e2 ⟨es2,ep2,t3,rfl,fun e he=>?_,?_,fun z=>?_,?_,f3,?_,.inr (p3 p2)⟩
   ·rcases List.mem_append.mp (pm.mem_iff.mp he) with z | z
    ·exact hen e z
    ·exact ⟨y,u,List.mem_singleton.mp z⟩
   ·refine pk.nodup_iff.mpr (List.nodup_append.mpr ⟨hnd,by simp,fun a ha b hb=>?_⟩)
    rw [List.mem_singleton.mp hb]
    exact fun z=>hout (z▸ha)
   ·rw [pk.mem_iff,List.mem_append,List.mem_append,hmem z]
   ·have:es2.size=es1.size:=by rw [← Array.length_toList,hp.length_eq,Array.length_toList]
    omega
   ·rw [l3,l2,hmk.1,hled]
  refine wpAny_bind (hgw _ _ _ ?_)
  split
  ·refine wpAny_bind ?_
   rw [hashByValue_scannable 8 (x:=.str y u) rfl]
   refine wpAny_pure ?_
   refine tail_text hgw ho (by omega) (t2:={ t1 with plain:=false }) (SetTable.fits_plain_off hfits) fun h' es2 ep2 t3 sb e2 hp f3 l3 p3=>?_
   dsimp only
   exact wpAny_pure (fin { t1 with plain:=false } rfl rfl (SetTable.fits_plain_off hfits) h' es2 ep2 t3 sb e2 hp f3 l3 p3)
  ·rename_i hnp
   refine wpAny_bind (wpAny_pure ?_)
   simp only [↓reduceIte]
   refine tail_text hgw ho (by omega) hfits fun h' es2 ep2 t3 sb e2 hp f3 l3 p3=>?_
   dsimp only
   exact wpAny_pure (fin t1 rfl (by simpa using hnp) hfits h' es2 ep2 t3 sb e2 hp f3 l3 p3)
def newSetObj (w:World):Obj:={ cls:=.type "set",dict:=none,data:=.set #[] 0 (.fresh 0 0 (!w.params.followText "set-order")) }
theorem new_text (v:Value) {Q₁:Value→Shared→Prop} (h:Q₁ (.ref s.heap.objs.size) { s with heap:=s.heap.push (newSetObj w) }):codeAny (model P w) A (.call (.builtin "set.__new__") ⟨[.type "set",v],[]⟩) (wants Q₁ E) s:=by
 refine codeAny_of_tree ?_
 show wpAny _ A.in1 (do checkBuiltinCall "set.__new__" ⟨[.type "set",v],[]⟩; again (.builtin "set.__new__" ⟨[.type "set",v],[]⟩)) _ _ s
 refine wpAny_bind (wpAny_of_eq (PySem.F.newCall_set_1 v) (wpAny_pure ⟨plainId_quiet PySem.F.plain_set_new _,codeAny_builtin PySem.F.entry_set_new ?_⟩))
 rw [Around.under_plainId PySem.F.plain_set_new _]
 unfold Builtin.«set.__new__» Builtin.Frozenset.newClass
 have hsub:=PySem.sub_set_self
 obtain ⟨hp,g,d,tk,os⟩:=s
 dsimp only
 wp_walk
 refine wpAny_askSetting (wpAny_pure ?_)
 dsimp only
 simp only [newObj]
 exact wpAny_bind (wpAny_alloc (wpAny_pure (wpAny_pure h)))
theorem newTx (w:World):SetTx w (newSetObj w) [] 0:=
 ⟨#[],0,_,rfl,fun e he=>by simp at he,by simp,fun y=>by simp,Nat.le_refl _,rfl,rfl,.inl rfl⟩
set_option maxHeartbeats 3200000 in
end
end L2
namespace L2
open PySem PySem.Spec PyProof.Rows
theorem slot_si_next:Slot "set_iterator" "__next__" "set_iterator.__next__":=
 .of (owner:="set_iterator") (n:="__next__") (by rw [typeLookup_type,builtinLookup_eq_fast]; kernel_rfl) (by decide +kernel) (by decide +kernel) (by decide +kernel) (by first | exact .inl (by decide +kernel) | exact .inr (by decide +kernel)) (by rw [isSubtype_type]; kernel_rfl)
theorem slot_si_iter:Slot "set_iterator" "__iter__" "set_iterator.__iter__":=
 .of (owner:="set_iterator") (n:="__iter__") (by rw [typeLookup_type,builtinLookup_eq_fast]; kernel_rfl) (by decide +kernel) (by decide +kernel) (by decide +kernel) (by first | exact .inl (by decide +kernel) | exact .inr (by decide +kernel)) (by rw [isSubtype_type]; kernel_rfl)
theorem entry_si_next:entryFor table "set_iterator.__next__" = some Builtin.«set_iterator.__next__»:=entryFor_of_tree (by kernel_rfl)
theorem args_si_next (a:Value):argsOk "set_iterator.__next__" ⟨[a],[]⟩:=by unfold argsOk; kernel_rfl
theorem args_si_iter (a:Value):argsOk "set_iterator.__iter__" ⟨[a],[]⟩:=by unfold argsOk; kernel_rfl
theorem entry_set_iter:entryFor table "set.__iter__" = some Builtin.«frozenset.__iter__»:=
 entryFor_alias (id':="frozenset.__iter__") (by kernel_rfl) rfl (by decide +kernel) (by kernel_rfl)
theorem erase_permI {α:Type}:∀ (l:List α) (i:Nat) (h:i < l.length),(l[i] :: l.eraseIdx i).Perm l
 | x :: l,0,h=>List.Perm.refl _
 | x :: l,i+1,h=>by
  have:=erase_permI l i (by simpa using h)
  exact (List.Perm.swap _ _ _).trans (List.Perm.cons x this)
theorem pick_go {α:Type} (next:Nat→Nat):∀ (fuel k:Nat) (left:List α) (out:Array α),left.length=fuel→(pickOrder.go next fuel k left out).toList.Perm (out.toList ++ left)
 | 0,k,left,out,h=>by
  rw [List.eq_nil_of_length_eq_zero h,List.append_nil]
  exact List.Perm.refl _
 | fuel+1,k,left,out,h=>by
  have hlt:next k % left.length < left.length:=Nat.mod_lt _ (by omega)
  unfold pickOrder.go
  rw [List.getElem?_eq_getElem hlt]
  dsimp only
  refine (pick_go next fuel (k+1) _ _ (by rw [List.length_eraseIdx,if_pos hlt]; omega)).trans ?_
  rw [Array.toList_push,List.append_assoc]
  refine List.Perm.append_left _ ?_
  exact (erase_permI _ _ hlt)
theorem pick_perm {α:Type} (next:Nat→Nat) (xs:Array α):(pickOrder next xs).toList.Perm xs.toList:=by
 have:=pick_go next xs.size 0 xs.toList #[] (by simp)
 rw [show (#[]:Array α).toList=[] from rfl,List.nil_append] at this
 exact this
section
variable {P:Program} {w:World} {A:Around} {E:Value→Shared→Prop} {s:Shared}
theorem draw_any {α:Type}:∀ (n:Nat) (xs:List α) {s:Shared} {Q:List α→Shared→Prop},xs.length=n→(∀ ps d',ps.Perm xs→Q ps { s with drawn:=d' })→wpAny (model P w) A (drawOrder n xs) Q E s
 | 0,xs,s,Q,h,hq=>by
  rw [List.eq_nil_of_length_eq_zero h] at hq ⊢
  exact wpAny_pure (hq [] s.drawn (List.Perm.refl _))
 | n+1,[],s,Q,h,hq=>by cases h
 | n+1,x :: xs,s,Q,h,hq=>by
  unfold drawOrder
  refine wpAny_bind ?_
  intro Γ p hΓ
  show Sem.wp _ _ (Sem.choose .order (x :: xs).length Sem.pure) _ _ _ _
  rw [Sem.wp_choose]
  refine ⟨by simp,?_⟩
  have hlt:=Nat.mod_lt ((model P w).w.draws .order (s.drawn.get .order)) (show 0 < (x :: xs).length by simp)
  generalize ((model P w).w.draws .order (s.drawn.get .order)) % (x :: xs).length=i at hlt
  rw [Sem.wp_pure]
  refine (show wpAny (model P w) A (match (x :: xs)[i]? with | some y=>(do return y :: (← drawOrder n ((x :: xs).eraseIdx i))) | none=>unsupported "internal:drawOrder") Q E { s with drawn:=s.drawn.bump .order } from ?_)
  rw [List.getElem?_eq_getElem hlt]
  dsimp only
  refine wpAny_bind (draw_any n _ (by rw [List.length_eraseIdx,if_pos hlt]; omega) fun ps d' hp=>wpAny_pure ?_)
  exact hq _ _ ((List.Perm.cons _ hp).trans (erase_permI _ _ hlt))
def setO (es:Array (Int × Value)) (ep:Nat) (t:SetTable):Obj:={ cls:=.type "set",dict:=none,data:=.set es ep t }
def itO (f:Value) (i:Nat) (S:Addr) (n ep:Nat):Obj:={ cls:=.type "set_iterator",data:=.fields #[f,.int i 0,.ref S,.int n 0,.int ep 0] }
def ItT (w:World) (I S T:Addr) (es:Array (Int × Value)) (ep:Nat) (t:SetTable) (vs:List Value) (i:Nat) (h:Heap):Prop:=
 h.get? S=some (setO es ep t)∧(
  (w.params.followText "set-order" = true∧vs=(pickOrder (w.params.setOrder S ep) es).toList.map (·.2)∧h.get? I=some (itO (.int 0 0) i S es.size ep))∨
  (w.params.followText "set-order" = false∧es.size≤1∧vs=es.toList.map (·.2)∧∃ k:Nat,h.get? I=some (itO (.int k 0) i S es.size ep)∧SetTable.below t.place k=i)∨
  (w.params.followText "set-order" = false∧∃ ps:List Nat,vs=ps.map (fun p=>((es[p]?).map (·.2)).getD .none)∧(∀ p∈ps,p < es.size)∧h.get? I=some (itO (.ref T) i S es.size ep)∧
   h.get? T=some { cls:=.type "tuple",data:=.seq (ps.map fun (p:Nat)=>Value.int p 0).toArray }))
theorem fields_step {a:Addr} {i:Nat} {f v:Value} {j:Nat} {S:Addr} {n ep:Nat} {Q:Unit→Shared→Prop} (ho:s.heap.get? a=some (itO f j S n ep)) (hi:i < 5)
  (h:∀ h',Heap.SameBut a s.heap h'→h'.get? a=some { cls:=.type "set_iterator",data:=.fields ((#[f,.int j 0,.ref S,.int n 0,.int ep 0]:Array Value).setIfInBounds i v) }→Q () { s with heap:=h' }) :
  wpAny (model P w) A (setField (.ref a) i v) Q E s:=
 wpAny_setField_rec (cls:=.type "set_iterator") (vs:=#[f,.int j 0,.ref S,.int n 0,.int ep 0]) ho hi fun h' e sb=>h h' sb e
theorem raise_stop {Q:Option Value→Shared→Prop} {Q0:Fin→Shared→Prop} (hh:A.handled=none) (hQ:∀ h',(∀ b o,s.heap.get? b=some o→h'.get? b=some o)→Q none { s with heap:=h' }) :
  wpAny (model P w) A (do raiseNew (← newExc (.type "StopIteration") [])) Q0 (fun e s'=>wpAny (model P w) A (do if ← isInstance e (.type "StopIteration") then pure none else throw e) Q E s') s:=by
 refine wpAny_bind ?_
 simp only [newExc,newTuple]
 refine wpAny_bind (wpAny_newObj_type ?_ (by size_fits))
 refine wpAny_bind (m:=firstArgMember _ _) (wpAny_of_eq (a:=Value.none) (by first | rfl | (simp only [firstArgMember]; rfl)) ?_)
 refine wpAny_newObj_type ?_ (by size_fits)
 simp only [raiseNew]
 refine wpAny_bind (wpAny_handled ?_)
 rw [hh]
 refine wpAny_bind (wpAny_pure (wpAny_throw ?_))
 refine wpAny_bind (wpAny_isInstance (T:="StopIteration") (b:=true) ⟨_,Heap.get?_push_size _ rfl,rfl⟩ isSubtype_stop ?_)
 exact wpAny_pure (hQ _ fun b o e=>Heap.get?_push_of_some _ (Heap.get?_push_of_some _ e))
theorem by_text {Q:Bool→Shared→Prop} (h:Q (w.params.followText "set-order") s):wpAny (model P w) A setsByText Q E s:=by
 unfold setsByText
 exact wpAny_bind (wpAny_askSetting (wpAny_pure h))
theorem turn_text {I S:Addr} {f v:Value} {i n ep nx:Nat} {Q:Option Value→Shared→Prop} {E0:Value→Shared→Prop} (hI:s.heap.get? I=some (itO f i S n ep))
  (hQ:∀ h',(∀ b,b≠I→h'.get? b=s.heap.get? b)→h'.get? I=some (itO (.int nx 0) (i+1) S n ep)→Q (some v) { s with heap:=h' }) :
  wpAny (model P w) A.in1 (do setField (.ref I) 0 (rawInt nx); setField (.ref I) 1 (rawInt (i+1)); ret v) (fun fin s'=>∃ v,fin=Fin.done (Flow.ret v)∧wpAny (model P w) A (pure (some v)) Q E s') E0 s:=by
 refine wpAny_bind (fields_step hI (by omega) fun h1 sb1 e1=>?_)
 refine wpAny_bind (fields_step (s:={ s with heap:=h1 }) (f:=.int nx 0) e1 (by omega) fun h2 sb2 e2=>?_)
 exact wpAny_pure ⟨v,rfl,wpAny_pure (hQ h2 (fun b hb=>(sb2.2 b hb).trans (sb1.2 b hb)) e2)⟩
theorem below_one {pl:Array Nat} {j:Nat} (h:pl.size=1) (e:pl[0]? = some j):SetTable.below pl (j+1)=1:=by
 obtain ⟨l⟩:=pl
 match l,h with
 | [z],_=>
  have:z=j:=by simpa using e
  subst this
  simp [SetTable.below,SetTable.below.go]
theorem below_zero (pl:Array Nat):SetTable.below pl 0=0:=by
 have:∀ fuel hi,SetTable.below.go pl 0 fuel 0 hi=0:=fun fuel=>by
  induction fuel with
  | zero=>intro hi; rfl
  | succ n ih=>
   intro hi
   unfold SetTable.below.go
   split
   ·dsimp only
    rw [if_neg (Nat.not_lt_zero _)]
    exact ih _
   ·rfl
 exact this _ _
theorem led_ok {Q:Unit→Shared→Prop} {t:SetTable} {es:Array (Int × Value)} (h:t.led=true) (q:Q () s):wpAny (model P w) A (if (!t.led && !es.isEmpty)=true then unsupported "set:maker-not-led" else pure ()) Q E s:=by
 rw [h]
 exact wpAny_pure q
theorem next_text {I S T:Addr} {es:Array (Int × Value)} {ep:Nat} {t:SetTable} {vs:List Value} {i:Nat} {Q:Option Value→Shared→Prop} (hIS:S≠I) (hIT:T≠I) (hst:ItT w I S T es ep t vs i s.heap) (hh:A.handled=none)
  (hf:t.fits es.size=true) (hled:t.led = !w.params.followText "set-order") (hi:i≤vs.length)
  (hQ:∀ v h',vs[i]? = some v→(∀ b,b≠I→h'.get? b=s.heap.get? b)→ItT w I S T es ep t vs (i+1) h'→Q (some v) { s with heap:=h' })
  (hN:vs[i]? = none→∀ h',(∀ b o,b≠I→s.heap.get? b=some o→h'.get? b=some o)→Q none { s with heap:=h' }):wpAny (model P w) A (pyNext (.ref I)) Q E s:=by
 obtain ⟨hS,hm⟩:=hst
 have hI:∃ f,s.heap.get? I=some (itO f i S es.size ep):=by
  rcases hm with ⟨_,_,e⟩ | ⟨_,_,_,k,e,_⟩ | ⟨_,ps,_,_,e,_⟩ <;> exact ⟨_,e⟩
 obtain ⟨f,hI⟩:=hI
 have hT:s.TypeIs (.ref I) "set_iterator":=⟨_,hI,rfl⟩
 have stop:∀ (s1:Shared) (Q0:Fin→Shared→Prop) (f1:Value),(∀ b o,b≠I→s.heap.get? b=some o→s1.heap.get? b=some o)→s1 = { s with heap:=s1.heap }→s1.heap.get? I=some (itO f1 i S es.size ep)→vs[i]? = none→
   wpAny (model P w) A.in1 (do setField (.ref I) 2 .none; raiseNew (← newExc (.type "StopIteration") [])) Q0 (fun e s'=>wpAny (model P w) A (do if ← isInstance e (.type "StopIteration") then pure none else throw e) Q E s') s1:=fun s1 Q0 f1 k e1 eI en=>by
  refine wpAny_bind (fields_step eI (by omega) fun h2 sb2 _=>?_)
  refine raise_stop (A:=A.in1) hh (s:={ s1 with heap:=h2 }) (Q:=Q) (fun h3 k3=>?_) |> fun z=>wpAny_mono z (fun _ _ q=>q) fun e s' q=>wpAny_of_in1 q
  have:=hN en h3 fun b o hb e=>k3 b o ((sb2.2 b hb).trans (k b o hb e))
  rw [e1]
  exact this
 have hpl:t.place.size=es.size:=by
  have:=hf
  simp only [SetTable.fits,Bool.and_eq_true,beq_iff_eq] at this
  exact this.1
 unfold pyNext
 refine wpAny_bind (wpAny_attempt (wpAny_callSpecial?_slot (name:=Str.ofString "__next__") hT slot_si_next (wpAny_call_entry slot_si_next hT entry_si_next ?_ (args_si_next _))))
 unfold Builtin.«set_iterator.__next__»
 refine wpAny_bind (m:=slotArgs "__next__" 0 _) (wpAny_pure (wpAny_bind ?_))
 refine wpAny_fieldsOf hI rfl ?_
 show wpAny (model P w) _ (do if ((← setEntries S).size:Int) != (es.size:Int) then _ else _) _ _ _
 refine wpAny_bind (wpAny_setEntries_of hS rfl hf ?_)
 rw [if_neg (by simp)]
 rcases hm with ⟨hb,rfl,hI'⟩ | ⟨hb,h1,rfl,k,hI',hk⟩ | ⟨hb,ps,rfl,hps,hI',hT'⟩
 ·cases hI.symm.trans hI'
  show wpAny (model P w) _ (setNext S 0 i ep >>= _) _ _ _
  unfold setNext
  refine wpAny_bind (wpAny_bind (wpAny_setState_of hS rfl hf ?_))
  refine wpAny_bind (by_text ?_)
  rw [hb]
  simp only [if_true]
  rw [if_neg (by simp)]
  refine wpAny_bind ?_
  unfold setWalk
  refine wpAny_bind (wpAny_setState_of hS rfl hf (wpAny_bind (by_text ?_)))
  rw [hb]
  simp only [if_true]
  refine wpAny_bind (wpAny_askSetting (wpAny_pure (wpAny_pure ?_)))
  show wpAny (model P w) A.in1 (match ((pickOrder (w.params.setOrder S ep) es)[i]?).map (fun e=>(e.2,0)) with | some (x,next)=>_ | none=>_) _ _ _
  cases hv:(pickOrder (w.params.setOrder S ep) es)[i]? with
  | none=>
   refine stop s _ _ (fun b o _ e=>e) rfl hI ?_
   rw [List.getElem?_map,Array.getElem?_toList,hv]
   rfl
  | some e=>
   have hv':((pickOrder (w.params.setOrder S ep) es).toList.map (·.2))[i]? = some e.2:=by
    rw [List.getElem?_map,Array.getElem?_toList,hv]
    rfl
   exact turn_text (nx:=0) hI fun h' k e1=>hQ _ h' hv' k ⟨(k S hIS).trans hS,.inl ⟨hb,rfl,e1⟩⟩
 ·cases hI.symm.trans hI'
  show wpAny (model P w) _ (setNext S k i ep >>= _) _ _ _
  unfold setNext
  refine wpAny_bind (wpAny_bind (wpAny_setState_of hS rfl hf ?_))
  refine wpAny_bind (by_text ?_)
  rw [hb]
  simp only [Bool.false_eq_true,if_false]
  refine wpAny_ite_split (fun hd=>?_) (fun _=>?_)
  ·have hd':(!t.plain && decide (es.size > 1))=true:=hd
   simp only [Bool.and_eq_true,decide_eq_true_eq] at hd'
   omega
  ·refine wpAny_bind (led_ok (by rw [hled,hb]; rfl) (wpAny_pure ?_))
   rw [hk]
   cases hv:es[i]? with
   | none=>
    refine stop s _ _ (fun b o _ e=>e) rfl hI ?_
    rw [List.getElem?_map,Array.getElem?_toList,hv]
    rfl
   | some e=>
    have hlt:i < es.size:=by
     rcases Nat.lt_or_ge i es.size with z | z
     ·exact z
     ·rw [Array.getElem?_eq_none z] at hv; cases hv
    have hi0:i=0:=by omega
    subst hi0
    have hv':(es.toList.map (·.2))[0]? = some e.2:=by
     rw [List.getElem?_map,Array.getElem?_toList,hv]
     rfl
    have hj:t.place[0]? = some (t.place[0]'(by omega)):=Array.getElem?_eq_getElem (by omega)
    rw [hj]
    obtain ⟨eh,ev⟩:=e
    exact turn_text (nx:=t.place[0]'(by omega)+1) hI fun h' k e1=>hQ _ h' hv' k ⟨(k S hIS).trans hS,.inr (.inl ⟨hb,h1,rfl,_,e1,below_one (by omega) hj⟩)⟩
 ·cases hI.symm.trans hI'
  show wpAny (model P w) A.in1 (seqItems? (.ref T) >>= _) _ _ _
  unfold seqItems?
  refine wpAny_bind (wpAny_bind (wpAny_load hT' (wpAny_pure ?_)))
  show wpAny (model P w) A.in1 (match ((ps.map fun (p:Nat)=>Value.int p 0).toArray)[i]? with | some (.int place _)=>_ | some _=>_ | none=>_) _ _ _
  cases hv:ps[i]? with
  | none=>
   have e0:((ps.map fun (p:Nat)=>Value.int p 0).toArray)[i]? = none:=by
    rw [List.getElem?_toArray,List.getElem?_map,hv]
    rfl
   rw [e0]
   refine wpAny_bind (fields_step hI (by omega) fun h1 sb1 e1=>?_)
   refine stop { s with heap:=h1 } _ (rawInt 0) (fun b o hb e=>(sb1.2 b hb).trans e) rfl e1 ?_
   rw [List.getElem?_map,hv]
   rfl
  | some p=>
   have e0:((ps.map fun (p:Nat)=>Value.int p 0).toArray)[i]? = some (Value.int p 0):=by
    rw [List.getElem?_toArray,List.getElem?_map,hv]
    rfl
   rw [e0]
   have hp:=hps p (List.mem_of_getElem? hv)
   have he:es[p]? = some es[p]:=Array.getElem?_eq_getElem hp
   show wpAny (model P w) A.in1 (setNextDrawn S p ep >>= _) _ _ _
   unfold setNextDrawn
   refine wpAny_bind (wpAny_bind (wpAny_setState_of hS rfl hf ?_))
   dsimp only
   rw [if_neg (by simp)]
   rw [he]
   generalize he2:es[p]=e2 at he
   obtain ⟨eh,ev⟩:=e2
   have hv':(ps.map fun p=>((es[p]?).map (·.2)).getD .none)[i]? = some ev:=by
    rw [List.getElem?_map,hv]
    show some (((es[p]?).map (·.2)).getD .none)=_
    rw [he]
    rfl
   refine wpAny_pure (wpAny_bind (fields_step hI (by omega) fun h1 sb1 e1=>?_))
   exact wpAny_pure ⟨ev,rfl,wpAny_pure (hQ ev h1 hv' (fun b hb=>sb1.2 b hb) ⟨(sb1.2 S hIS).trans hS,.inr (.inr ⟨hb,ps,rfl,hps,e1,(sb1.2 T hIT).trans hT'⟩)⟩)⟩
theorem iter_text {S:Addr} {es:Array (Int × Value)} {ep:Nat} {t:SetTable} {Q:Value→Shared→Prop} (hS:s.heap.get? S=some (setO es ep t)) (hf:t.fits es.size=true) (hp:es.size=0∨t.plain=false) (hz:es.size≤4096)
  (hQ:∀ I T vs h' d',(∀ b o,s.heap.get? b=some o→h'.get? b=some o)→s.heap.objs.size≤I→s.heap.objs.size≤T→T≠I→vs.Perm (es.toList.map (·.2))→ItT w I S T es ep t vs 0 h'→Q (.ref I) { s with heap:=h',drawn:=d' }) :
  wpAny (model P w) A (pyIter (.ref S)) Q E s:=by
 have hT:s.TypeIs (.ref S) "set":=⟨_,hS,rfl⟩
 refine wpAny_pyIter_slot hT PySem.F.slot_set_iter (wpAny_call_entry PySem.F.slot_set_iter hT entry_set_iter ?_ (PySem.F.args_set_iter_1 _))
 unfold Builtin.«frozenset.__iter__» Builtin.Frozenset.slot0
 refine wpAny_bind (wpAny_bind (m:=slotArgs "__iter__" 0 _) (wpAny_pure (wpAny_pure ?_)))
 unfold Builtin.Frozenset.sizeOf
 refine wpAny_bind (wpAny_bind (wpAny_setEntries_of hS rfl hf (wpAny_pure ?_)))
 refine wpAny_bind ?_
 unfold setDrawn
 refine wpAny_bind (wpAny_setState_of hS rfl hf (wpAny_bind (by_text (wpAny_pure ?_))))
 have fin:∀ (s1:Shared) (f:Value),s1.heap.get? S=some (setO es ep t)→(∀ h',(∀ b o,s1.heap.get? b=some o→h'.get? b=some o)→h'.get? s1.heap.objs.size=some (itO f 0 S es.size ep)→Q (.ref s1.heap.objs.size) { s1 with heap:=h' })→
   wpAny (model P w) A.in1 (do ret (← newFields "set_iterator" [f,rawInt 0,.ref S,rawInt es.size,rawInt (← setEpoch S)])) (fun fin s'=>∃ v,fin=.done (.ret v)∧∃ T' r,s'.TypeIs v T'∧typeLookup (.type T') "__next__" = pure (some r)∧Q v s') E s1:=fun s1 f e1 q=>by
  refine wpAny_bind (wpAny_setEpoch_of e1 rfl hf ?_)
  refine wpAny_bind (wpAny_newObj_type ?_ (by size_fits))
  refine wpAny_pure ⟨_,rfl,"set_iterator",_,⟨_,Heap.get?_push_size _ rfl,rfl⟩,slot_si_next.lookup,?_⟩
  exact q _ (fun b o e=>Heap.get?_push_of_some _ e) (Heap.get?_push_size _ rfl)
 have lt:=Heap.lt_size hS
 cases hb:w.params.followText "set-order" with
 | true=>
  dsimp only
  refine wpAny_ite_split (fun hd=>nomatch (show false=true from hd)) (fun _=>wpAny_bind (wpAny_pure ?_))
  refine fin s (rawInt 0) hS fun h' k e=>?_
  exact hQ _ (s.heap.objs.size+1) _ h' s.drawn k (Nat.le_refl _) (Nat.le_succ _) (Nat.succ_ne_self _) ((pick_perm _ es).map _) ⟨k _ _ hS,.inl ⟨hb,rfl,e⟩⟩
 | false=>
  by_cases h1:es.size≤1
  ·dsimp only
   refine wpAny_ite_split (fun hd=>?_) (fun _=>wpAny_bind (wpAny_pure ?_))
   ·have hd':(!t.plain && decide (es.size > 1))=true:=hd
    simp only [Bool.and_eq_true,decide_eq_true_eq] at hd'
    omega
   ·refine fin s (rawInt 0) hS fun h' k e=>?_
    exact hQ _ (s.heap.objs.size+1) _ h' s.drawn k (Nat.le_refl _) (Nat.le_succ _) (Nat.succ_ne_self _) (List.Perm.refl _) ⟨k _ _ hS,.inr (.inl ⟨hb,h1,rfl,0,e,below_zero _⟩)⟩
  ·dsimp only
   refine wpAny_ite_split (fun _=>?_) (fun hd=>absurd (show (!t.plain && decide (es.size > 1))=true from ?_) hd)
   ·refine wpAny_bind (draw_any es.size (List.range es.size) List.length_range fun ps d' hps=>?_)
    have hl:(ps.map fun (i:Nat)=>rawInt i).length=es.size:=by rw [List.length_map,hps.length_eq,List.length_range]
    refine wpAny_bind (wpAny_newTuple ?_ (by rw [hl,sizeLine_eq]; omega))
    have e1:(s.heap.push { cls:=.type "tuple",data:=.seq (ps.map fun (i:Nat)=>rawInt i).toArray }).get? S=some (setO es ep t):=Heap.get?_push_of_some _ hS
    refine fin _ (.ref s.heap.objs.size) e1 fun h' k e=>?_
    have sz:(s.heap.push { cls:=.type "tuple",data:=.seq (ps.map fun (i:Nat)=>rawInt i).toArray }).objs.size=s.heap.objs.size+1:=Heap.size_push _ _
    refine hQ _ s.heap.objs.size (ps.map fun p=>((es[p]?).map (·.2)).getD .none) h' d' (fun b o e=>k b o (Heap.get?_push_of_some _ e)) (by rw [sz]; exact Nat.le_succ _) (Nat.le_refl _) (by rw [sz]; exact Nat.ne_of_lt (Nat.lt_succ_self _)) ?_
     ⟨k _ _ e1,.inr (.inr ⟨hb,ps,rfl,fun p hp=>List.mem_range.mp (hps.mem_iff.mp hp),e,k _ _ (Heap.get?_push_size _ rfl)⟩)⟩
    refine (hps.map _).trans (List.Perm.of_eq ?_)
    refine List.ext_getElem (by simp) fun i h1 h2=>?_
    have hlt:i < es.size:=by simpa using h1
    simp [hlt]
   ·rcases hp with z | z
    ·omega
    ·rw [z]
     exact decide_eq_true (by omega)
theorem entry_si_iter:entryFor table "set_iterator.__iter__" = some Builtin.«dict_keyiterator.__iter__»:=
 entryFor_alias (id':="dict_keyiterator.__iter__") (by kernel_rfl) rfl (by decide +kernel) (by kernel_rfl)
theorem ItT.at {I S T:Addr} {es:Array (Int × Value)} {ep:Nat} {t:SetTable} {vs:List Value} {i:Nat} {h h':Heap} (x:ItT w I S T es ep t vs i h) (k:∀ b,b=I∨b=S∨b=T→∀ o,h.get? b=some o→h'.get? b=some o):ItT w I S T es ep t vs i h':=by
 obtain ⟨hS,hm⟩:=x
 refine ⟨k S (.inr (.inl rfl)) _ hS,?_⟩
 rcases hm with ⟨hb,e,hI⟩ | ⟨hb,h1,e,j,hI,hk⟩ | ⟨hb,ps,e,hps,hI,hT⟩
 ·exact .inl ⟨hb,e,k I (.inl rfl) _ hI⟩
 ·exact .inr (.inl ⟨hb,h1,e,j,k I (.inl rfl) _ hI,hk⟩)
 ·exact .inr (.inr ⟨hb,ps,e,hps,k I (.inl rfl) _ hI,k T (.inr (.inr rfl)) _ hT⟩)
theorem walks_text {I S T:Addr} {es:Array (Int × Value)} {ep:Nat} {t:SetTable} {vs:List Value} (hh:A.handled=none) (hIS:S≠I) (hIT:T≠I) (hf:t.fits es.size=true) (hled:t.led = !w.params.followText "set-order") :
  Walks P w A I [I,S,T] [I] vs.length (fun i v=>vs[i]? = some v) (fun i h=>ItT w I S T es ep t vs i h) where
 sub:=fun b hb=>by simp at hb; simp [hb]
 frame:=fun i h h' st k=>ItT.at st fun b hb o e=>k b (by rcases hb with z | z | z <;> simp [z]) o e
 item:=fun i s Q E hi st hQ=>next_text hIS hIT st hh hf hled (Nat.le_of_lt hi) (fun v h' hv k st'=>hQ v h' s.toks hv st' fun b o hb e=>(k b (fun z=>hb (by simp [z]))).trans e) fun hn=>by
  rw [List.getElem?_eq_getElem hi] at hn
  cases hn
 done:=fun s Q E st hQ=>next_text hIS hIT st hh hf hled (Nat.le_refl _) (fun v h' hv=>by simp at hv) fun _ h' k=>hQ h' s.toks fun b o hb e=>k b o (fun z=>hb (by simp [z])) e
 self:=fun i s Q E st h=>by
  have hI:∃ f,s.heap.get? I=some (itO f i S es.size ep):=by
   rcases st.2 with ⟨_,_,e⟩ | ⟨_,_,_,k,e,_⟩ | ⟨_,ps,_,_,e,_⟩ <;> exact ⟨_,e⟩
  obtain ⟨f,hI⟩:=hI
  have hT:s.TypeIs (.ref I) "set_iterator":=⟨_,hI,rfl⟩
  refine wpAny_pyIter_slot hT slot_si_iter (wpAny_call_entry slot_si_iter hT entry_si_iter ?_ (args_si_iter _))
  show wpAny _ _ (ret (.ref I)) _ _ s
  exact wpAny_pure ⟨_,rfl,"set_iterator",_,hT,slot_si_next.lookup,h⟩
theorem hint_text {r:Addr} {Q:Bool→Shared→Prop} (hT:s.TypeIs (.ref r) "set") (h:Q false s):wpAny (model P w) A (Builtin.List.listLengthHint (.ref r)) Q E s:=by
 unfold Builtin.List.listLengthHint
 refine wpAny_bind (wpAny_specialOf hT PySem.F.slot_set_len.lookup ?_)
 generalize hid:("set.__len__" : String)=id0
 wp_delta
 rw [show splitId id0=some ("set","__len__") from by subst hid; decide +kernel]
 subst hid
 refine wpAny_bind (wpAny_isInstance (T:="set") (b:=true) hT sub_set_self ?_)
 refine wpAny_ite_split (fun z=>absurd z (by decide)) (fun _=>wpAny_ite_split (fun _=>?_) (fun z=>absurd (by decide +kernel) z))
 exact wpAny_bind (wpAny_typeOf hT (wpAny_pure h))
theorem collect_text {S:Addr} {o:Obj} {D:List Str} {n:Nat} {Q:List Value→Shared→Prop} (hh:A.handled=none) (hS:s.heap.get? S=some o) (hX:SetTx w o D n) (hn:n≤4000)
  (hQ:∀ (vs:List Value) (ys:List Str) (h':Heap) tk d',s.heap.objs.size≤h'.objs.size→StrsAre vs ys→ys.Nodup→(∀ y,y∈ys↔y∈D)→ys.length≤n→(∀ b o,s.heap.get? b=some o→h'.get? b=some o)→Q vs { s with heap:=h',toks:=tk,drawn:=d' }) :
  wpAny (model P w) A (collect (.ref S)) Q E s:=by
 obtain ⟨es,ep,t,rfl,hen,hnd,hmem,hsz,hf,hled,hpl⟩:=hX
 have lt:=Heap.lt_size hS
 unfold collect
 refine wpAny_bind (wpAny_runValue (codeAny_builtin PySem.F.entry_proto_collect ?_))
 rw [Around.under_plainId PySem.F.plain_proto_collect _]
 show wpAny _ A.in1 (newList [] >>= fun l=>again (.builtin "list.__iadd__" ⟨[l,.ref S],[]⟩)) _ _ s
 refine wpAny_bind (wpAny_newObj_type ?_)
 refine wpAny_pure ⟨plainId_quiet PySem.F.plain_list_iadd _,codeAny_builtin PySem.F.entry_list_iadd ?_⟩
 rw [Around.under_plainId PySem.F.plain_list_iadd _]
 show wpAny _ A.in1 (Builtin.List.listExtendWith (.ref s.heap.objs.size) (.ref S) (.ref s.heap.objs.size)) _ _ _
 generalize hH:s.heap.push { cls:=.type "list",data:=.seq ([]:List Value).toArray } = H
 have hHs:H.objs.size=s.heap.objs.size+1:=by rw [← hH,Heap.size_push]
 have hL:H.get? s.heap.objs.size=some { cls:=.type "list",data:=.seq #[] 0 }:=hH▸Heap.get?_push_size _ rfl
 have hS1:H.get? S=some (setO es ep t):=hH▸Heap.get?_push_of_some _ hS
 unfold Builtin.List.listExtendWith
 refine wpAny_bind (wpAny_typeOf (T:="set") ⟨_,hS1,rfl⟩ ?_)
 have h1:Builtin.List.listSameRef (.ref s.heap.objs.size) (.ref S)=false:=by simp [Builtin.List.listSameRef,Nat.ne_of_gt lt]
 have h2:(Value.type "set" == Value.type "list")=false:=by decide
 have h3:(Value.type "set" == Value.type "tuple")=false:=by decide
 simp only [h1,h2,h3,Bool.or_false,Bool.false_eq_true,if_false]
 refine wpAny_bind (iter_text (s:={ s with heap:=H }) hS1 hf hpl (by omega) fun I T vs h2 d2 k2 gI gT hTI hvs st=>?_)
 have gI':s.heap.objs.size+1≤I:=hHs▸gI
 have gT':s.heap.objs.size+1≤T:=hHs▸gT
 refine wpAny_bind (wpAny_holding (hint_text ⟨_,k2 _ _ hS1,rfl⟩ ?_))
 have hL2:=k2 _ _ hL
 have hSf:s.heap.objs.size∉[I,S,T]:=by
  simp only [List.mem_cons,List.not_mem_nil,or_false,not_or]
  exact ⟨Nat.ne_of_lt (Nat.lt_of_lt_of_le (Nat.lt_succ_self _) gI'),Nat.ne_of_gt lt,Nat.ne_of_lt (Nat.lt_of_lt_of_le (Nat.lt_succ_self _) gT')⟩
 have hSI:S≠I:=Nat.ne_of_lt (Nat.lt_of_lt_of_le (Nat.lt_succ_of_lt lt) gI')
 have hlen:vs.length=es.size:=by rw [hvs.length_eq,List.length_map,Array.length_toList]
 have W:Walks P w A.in1 I [I,S,T] [I] vs.length (fun i v=>vs[i]? = some v) (fun i h=>ItT w I S T es ep t vs i h):=walks_text (A:=A.in1) hh hSI hTI hf hled
 have stx:∀ us:List Value,us.Perm (es.toList.map (·.2))→∃ ys,StrsAre us ys∧ys.Perm (es.toList.map keyS):=fun us hp=>by
  refine ⟨us.map strOf,strsAre_map us fun v hv=>?_,?_⟩
  ·obtain ⟨e,he,rfl⟩:=List.mem_map.mp (hp.mem_iff.mp hv)
   obtain ⟨y,u,rfl⟩:=hen e he
   exact ⟨y,u,rfl⟩
  ·have:=hp.map strOf
   rw [List.map_map] at this
   exact this
 have key:∀ (h:Heap) (c tk:Nat),ItT w I S T es ep t vs 0 h→(∀ b o,b≠s.heap.objs.size→h2.get? b=some o→h.get? b=some o)→h.get? s.heap.objs.size=some { cls:=.type "list",data:=.seq #[] c }→
   codeAny (model P w) A (.builtin "list.extend.loop" ⟨[.ref s.heap.objs.size,.ref I,.ref s.heap.objs.size],[]⟩)
    (fun r s'=>match r with | .ok (.ret v)=>wpAny (model P w) A (match v with | .ref a=>(do match (← load a).data with | .seq xs _=>pure xs.toList | _=>unsupported "internal:collect") | _=>unsupported "internal:collect") Q E s' | .ok _=>False | .error e=>E e s') { s with heap:=h,toks:=tk,drawn:=d2 }:=fun h c tk st' k hL'=>by
  refine codeAny_extend_loopS W.toS (by rw [hlen,sizeLine_eq]; omega) _ hSf _ vs.length 0 _ #[] c rfl (Nat.zero_le _) st' hL' (ItemsOf.nil _) fun s' acc c' hm hL'' hacc=>?_
  refine wpAny_bind (wpAny_load hL'' ?_)
  have eacc:acc.toList=vs:=by
   refine List.ext_getElem? fun i=>?_
   rw [Array.getElem?_toList]
   cases ev:acc[i]? with
   | some v=>exact (hacc.2 i v ev).symm
   | none=>
    symm
    rw [List.getElem?_eq_none_iff,← hacc.1]
    exact Array.getElem?_eq_none_iff.mp ev
  obtain ⟨ys,sy,py⟩:=stx vs hvs
  obtain ⟨h3,g3,d3,t3,o3⟩:=s'
  have eg:g3=s.gens:=hm.gens
  have ed:d3=d2:=hm.drawn
  have eo:o3=s.os:=hm.os
  subst eg; subst ed; subst eo
  refine wpAny_pure ?_
  rw [eacc]
  refine hQ vs ys h3 t3 d3 (Nat.le_of_lt (Heap.lt_size hL'')) sy (py.nodup_iff.mpr hnd) (fun y=>(py.mem_iff).trans (hmem y)) (by rw [py.length_eq,List.length_map,Array.length_toList]; exact hsz) fun b o e=>?_
  have lb:=Heap.lt_size e
  refine hm.heap b o (fun z=>?_) (k b o (Nat.ne_of_lt lb) (k2 b o (hH▸Heap.get?_push_of_some _ e)))
  rcases List.mem_cons.mp z with z | z
  ·exact Nat.lt_irrefl _ (z▸lb)
  ·have:=List.mem_singleton.mp z
   exact Nat.lt_irrefl _ (Nat.lt_of_lt_of_le (Nat.lt_succ_of_lt lb) (this▸gI'))
 refine wpAny_ite_split (fun _=>?_) (fun z=>absurd (by decide +kernel) z)
 refine wpAny_bind (wpAny_rule (wpAny_bind ?_))
 show wpAny _ _ (updateSeq s.heap.objs.size (·.push .none) >>= fun _=>updateSeq s.heap.objs.size (·.pop)) _ _ _
 refine wpAny_bind (wpAny_updateSeq hL2 rfl ?_)
 have hL3:=Heap.get?_update_self (Obj.mapSeq (·.push Value.none)) hL2 rfl
 refine wpAny_updateSeq (hz:=by seq_fits) hL3 rfl ?_
 have hL4:=Heap.get?_update_self (Obj.mapSeq (·.pop)) hL3 rfl
 have oth:∀ b o,b≠s.heap.objs.size→h2.get? b=some o→((h2.update s.heap.objs.size (Obj.mapSeq (·.push Value.none))).update s.heap.objs.size (Obj.mapSeq (·.pop))).get? b=some o:=fun b o hb e=>
  (Heap.get?_update_other _ _ (Ne.symm hb)).trans ((Heap.get?_update_other _ _ (Ne.symm hb)).trans e)
 refine wpAny_pure ⟨plainId_quiet PySem.F.plain_extend_loop _,key _ _ _ (st.at fun b hb o e=>oth b o (fun z=>hSf (by rw [← z]; rcases hb with y | y | y <;> simp [y])) e) oth hL4⟩
end
end L2
namespace L2
open PySem PySem.Spec PyProof.Rows
section
variable {P:Program} {w:World} {A:Around} {E:Value→Shared→Prop} {s:Shared}
theorem sorted_text {S:Addr} {o:Obj} {D:List Str} {n:Nat} {Q:Value→Shared→Prop} (hh:A.handled=none) (hS:s.heap.get? S=some o) (hX:SetTx w o D n) (hn:n < 64)
  (hQ:∀ (a:Addr) (out:List Value) (e:Nat) (ys:List Str) h' tk d',ys.length≤n→StrsAre out ys→ys.Nodup→(∀ y,y∈ys↔y∈D)→sortedS ys=true→(∀ b o,s.heap.get? b=some o→h'.get? b=some o)→s.heap.objs.size≤a→
   h'.get? a=some (seqObj "list" out.toArray e)→Q (.ref a) { s with heap:=h',toks:=tk,drawn:=d' }):wpAny (model P w) A (call (.builtin "sorted") [.ref S]) Q E s:=by
 refine Calls.call_function_entry kind_sorted plain_sorted entry_sorted (args_sorted1 _) ?_
 unfold Builtin.«sorted»
 refine wpAny_bind (m:=checkCount "sorted" 1 1 _) (wpAny_pure ?_)
 refine wpAny_bind (collect_text (A:=A.in1) hh hS hX (by omega) fun vs ys h' tk d' le sy nd mem len k=>?_)
 have hlen:vs.length=ys.length:=by rw [← sy.strs,List.length_map]
 refine wpAny_bind (wpAny_newList ?_ (by rw [hlen,sizeLine_eq]; omega))
 have hoL:(h'.push (seqObj "list" vs.toArray 0)).get? h'.objs.size=some (seqObj "list" vs.toArray 0):=Heap.get?_push_size _ rfl
 refine wpAny_bind (wpAny_holding (wpAny_call_entry slot_list_sort ⟨_,hoL,rfl⟩ entry_list_sort (list_sort_treeK (s:={ s with heap:=h'.push (seqObj "list" vs.toArray 0),toks:=tk,drawn:=d' }) strKind_oneLt hoL sy.keysOf (fun v₁ v₂ rest e=>keyKind_strs (by rw [← e]; exact sy)) (by omega) fun st' a1 a2=>⟨_,rfl,?_⟩) (args_list_sort _)))
 obtain ⟨ys',s1,s2,s3⟩:=sorted_out_str sy a1 a2
 obtain ⟨e,he⟩:=sortedHeap_at (vs:=vs) (out:=(arrOf st').map (·.2)) (n:=0) hoL
 refine wpAny_pure ⟨_,rfl,hQ h'.objs.size ((arrOf st').map (·.2)).toList e ys' _ tk d' (by rw [s2.length_eq]; exact len) s1 (s2.nodup_iff.mpr nd) (fun y=>s2.mem_iff.trans (mem y)) s3 (fun b o' eb=>?_) le ?_⟩
 ·have lb:=Heap.lt_size (k b o' eb)
  rw [sortedHeap_old (Nat.ne_of_lt lb) (by rw [size_push']; exact Nat.lt_succ_of_lt lb)]
  exact Heap.get?_push_of_some _ (k b o' eb)
 ·rw [Array.toArray_toList]
  exact he
end
theorem Inv.drawAny {X:Cx} {pins:List (Addr × Obj)} {σ:St} {H:Hp} {s:Shared} (I:Inv X pins σ H s) (d:Drawn):Inv X pins σ H { s with drawn:=d }:=
 ⟨I.ok,I.os,I.bare,I.base,I.loc,I.cell,I.free,I.freeC,I.pin,I.hok,I.len⟩
def signs (z:Str):List Str:=z.cps.toList.map fun c=>⟨#[c]⟩
def setH (w:World) (a:Addr) (D:List Str) (n:Nat):HO:=.ext fun h=>∃ o,h.get? a=some o∧SetTx w o D n
section
variable {X:Cx}
end
theorem rise_eq:∀ (a b:List Nat),a.Pairwise (· < ·)→b.Pairwise (· < ·)→(∀ y,y∈a↔y∈b)→a=b
 | [],[],_,_,_=>rfl
 | [],y :: b,_,_,h=>by
  have:=(h y).mpr List.mem_cons_self
  cases this
 | x :: a,[],_,_,h=>by
  have:=(h x).mp List.mem_cons_self
  cases this
 | x :: a,y :: b,ha,hb,h=>by
  cases ha with
  | cons ha1 ha2=>
   cases hb with
   | cons hb1 hb2=>
    have e:x=y:=by
     rcases List.mem_cons.mp ((h x).mp List.mem_cons_self) with e | e
     ·exact e
     ·rcases List.mem_cons.mp ((h y).mpr List.mem_cons_self) with e2 | e2
      ·exact e2.symm
      ·have:=hb1 x e
       have:=ha1 y e2
       omega
    subst e
    rw [rise_eq a b ha2 hb2 fun z=>?_]
    constructor
    ·intro hz
     rcases List.mem_cons.mp ((h z).mp (List.mem_cons_of_mem _ hz)) with e | e
     ·have:=ha1 z hz
      omega
     ·exact e
    ·intro hz
     rcases List.mem_cons.mp ((h z).mpr (List.mem_cons_of_mem _ hz)) with e | e
     ·have:=hb1 z hz
      omega
     ·exact e
end L2
namespace L2
open PySem PySem.Spec PyProof.Rows
end L2
namespace L2
open PySem PySem.Spec PyProof.Rows
def eqL:List V→List V→Bool
 | [],[]=>true
 | x :: xs,y :: ys=>eqV x y && eqL xs ys
 | _,_=>false
theorem all_eqL:∀ (xs ys:List V),(((List.range (min xs.length ys.length)).all fun j=>eqV (xs.getD j .non) (ys.getD j .non)) && xs.length==ys.length)=eqL xs ys
 | [],[]=>rfl
 | [],y :: ys=>by simp [eqL]
 | x :: xs,[]=>by simp [eqL]
 | x :: xs,y :: ys=>by
  have ih:=all_eqL xs ys
  show _=(eqV x y && eqL xs ys)
  rw [← ih,List.length_cons,List.length_cons,Nat.succ_min_succ,List.range_succ_eq_map,List.all_cons,List.all_map]
  have e1:((fun j=>eqV ((x :: xs).getD j .non) ((y :: ys).getD j .non)) ∘ Nat.succ)=fun j=>eqV (xs.getD j .non) (ys.getD j .non):=by
   funext j
   rfl
  rw [e1,Bool.and_assoc]
  have e2:(xs.length+1==ys.length+1)=(xs.length==ys.length):=by
   rw [Bool.eq_iff_iff,beq_iff_eq,beq_iff_eq]
   omega
  rw [e2]
  rfl
theorem Vals.at_:∀ {xs:List V} {us:List Value} {j:Nat} {u:Value},Vals xs us→us[j]? = some u→∃ x,xs[j]? = some x∧RelV x u
 | _,_,j,u,.nil,h=>by simp at h
 | _,_,0,u,.cons r t,h=>by
  cases h
  exact ⟨_,rfl,r⟩
 | _,_,j+1,u,.cons r t,h=>by
  obtain ⟨x,e,r'⟩:=Vals.at_ (j:=j) t (by simpa using h)
  exact ⟨x,by simpa using e,r'⟩
theorem pairs_eqAt {A:Around} {s:Shared} {xs ys:List V} {us ws:List Value} (r1:Vals xs us) (r2:Vals ys ws) (f1:xs.all flatV=true) (f2:ys.all flatV=true) (j:Nat) (h1:j < us.toArray.size) (h2:j < ws.toArray.size) :
  SeqAt.EqAt A s us.toArray[j] ws.toArray[j] (eqV (xs.getD j .non) (ys.getD j .non)):=by
 have g1:us[j]? = some us.toArray[j]:=by simp at h1 ⊢
 have g2:ws[j]? = some ws.toArray[j]:=by simp at h2 ⊢
 obtain ⟨x,e1,q1⟩:=r1.at_ g1
 obtain ⟨y,e2,q2⟩:=r2.at_ g2
 rw [List.getD_eq_getElem?_getD,e1,List.getD_eq_getElem?_getD,e2]
 exact eqAt_V q1 q2 (List.all_eq_true.mp f1 x (List.mem_of_getElem? e1)) (List.all_eq_true.mp f2 y (List.mem_of_getElem? e2))
inductive rEqSI (K:PySem.W.Frag) (neg:Bool) (x:V) (y:V) (H:Hp) (Q:VK):Prop
 | mk (a b xs ys:_) (h1:x=.ref a) (h2:y=.ref b) (h3:((SqL K H a xs∧SqL K H b ys)∨(SqT K H a xs∧SqT K H b ys))) (h4:xs.all flatV=true) (h5:ys.all flatV=true) (h6:Q (.bl (if neg then !eqL xs ys else eqL xs ys)) H):rEqSI K neg x y H Q
def rEqS (K:PySem.W.Frag) (neg:Bool):R2:=fun x y H Q=>rEqSI K neg x y H Q
section
variable {X:Cx} {K:PySem.W.Frag}
theorem size_of {xs:List V} {us:List Value} (r:Vals xs us):us.toArray.size=xs.length:=by
 rw [List.size_toArray]
 exact r.length.symm
theorem eq_false_len {xs ys:List V} (h:xs.length≠ys.length):eqL xs ys=false:=by
 rw [← all_eqL,(beq_eq_false_iff_ne).mpr h,Bool.and_false]
theorem eq_true_len {xs ys:List V} (h:xs.length=ys.length):((List.range xs.length).all fun j=>eqV (xs.getD j .non) (ys.getD j .non))=eqL xs ys:=by
 rw [← all_eqL,h,Nat.min_self,beq_self_eq_true,Bool.and_true]
theorem op_neS (hu:X.A.units < cLine) (hK:X.K=K:=by rfl):OpR X (compareOp .NotEq) (rEqS K true):=by
 subst hK
 intro pins s σ H x y v u Q I rx ry h
 obtain ⟨a,b,xs,ys,rfl,rfl,hq,f1,f2,q⟩:=h
 cases rx
 cases ry
 rcases hq with ⟨ha,hb⟩ | ⟨ha,hb⟩
 ·obtain ⟨i1,r1,p1,_⟩:=I.list ha
  obtain ⟨i2,r2,p2,_⟩:=I.list hb
  by_cases hl:xs.length=ys.length
  ·refine SeqAt.RcNeAt.lists p1.isList p2.isList (by rw [size_of r1,size_of r2,hl]) hu (fun j h1 h2=>pairs_eqAt r1 r2 f1 f2 j h1 h2) _ _ _ _ ⟨.bl _,H,I,rfl,?_⟩
   rw [size_of r1,eq_true_len hl]
   exact q
  ·refine SeqAt.RcNeAt.lists_lengths p1.isList p2.isList (by rw [size_of r1,size_of r2]; exact bne_iff_ne.mpr hl) hu _ _ _ _ ⟨.bl true,H,I,rfl,?_⟩
   have:(!eqL xs ys)=true:=by rw [eq_false_len hl]; rfl
   rw [← this]
   exact q
 ·obtain ⟨i1,r1,p1,_⟩:=I.tuple ha
  obtain ⟨i2,r2,p2,_⟩:=I.tuple hb
  refine SeqAt.RcNeAt.tuples p1 p2 hu (fun j h1 h2=>pairs_eqAt r1 r2 f1 f2 j h1 h2) _ _ _ _ ⟨.bl _,H,I,rfl,?_⟩
  rw [size_of r1,size_of r2,all_eqL]
  exact q
theorem hu_lt {A:Around} {k:Nat} (hr:Room k A):A.units < cLine:=Nat.lt_of_succ_lt (hu_of hr)
end
end L2
namespace L2
open PySem PySem.Spec PyProof.Rows
theorem pi_or {X:Cx} {tg it:Expr} {w1 w2:TI} (h1:PI X tg it w1) (h2:PI X tg it w2):PI X tg it (fun σ H R=>w1 σ H R∨w2 σ H R):=fun pins s σ H R I h=>by
 rcases h with h | h
 ·exact h1 pins s σ H R I h
 ·exact h2 pins s σ H R I h
def numS (n:Int):Str:=Str.ofString (toString n)
section
variable {X:Cx}
theorem call_str_num:CallR X (.type "str") (fun xs H Q=>∃ n:Int,xs=[.int n]∧n.natAbs < 1000000∧Q (.str (numS n)) H):=by
 intro pins s σ H xs us Q I r h
 obtain ⟨n,rfl,hn,q⟩:=h
 refine call_str_int pins s σ H [.int n] us Q I r ⟨n,rfl,?_,q⟩
 by_cases h0:n.natAbs=0
 ·rw [h0]; decide
 ·exact Nat.lt_trans ((Nat.log2_lt h0).mpr (show n.natAbs < 2 ^ 20 by omega)) (by decide)
theorem call_int_num:CallR X (.type "int") (fun xs H Q=>∃ n:Int,xs=[.str (numS n)]∧0≤n∧n < 10 ^ 10∧Q (.int n) H):=by
 intro pins s σ H xs us Q I r h
 obtain ⟨n,rfl,h0,h1,q⟩:=h
 obtain ⟨u,rfl,t,rfl⟩:=vals1 r
 exact PySem.W.KIN.call_num h0 h1 ⟨.int n,H,I.tok _,⟨_,rfl⟩,q⟩
theorem vals_nums:∀ (tk:Nat) (ys:List Str),Vals (ys.map V.str) (strsFrom tk ys)
 | _,[]=>.nil
 | tk,y :: r=>.cons ⟨tk,rfl⟩ (vals_nums (tk+1) r)
inductive rSplitI (x:V) (xs:List V) (H:Hp) (Q:VK):Prop
 | mk (z y:_) (h1:x=.str z) (h2:xs=[.str y]) (h3:y.length=1) (h4:z.length≤1000000) (h5:∀ l,H l=none→Q (.ref l) (upd H l (.lst ((Txt.split z y).map V.str)))):rSplitI x xs H Q
def rSplit:V→List V→Hp→VK→Prop:=fun x xs H Q=>rSplitI x xs H Q
theorem mt_split:MtR X "str.split" rSplit:=by
 intro pins s σ H x xs v us Q I rx rs h
 obtain ⟨z,y,rfl,rfl,hy,hz,q⟩:=h
 obtain ⟨t,rfl⟩:=rx
 obtain ⟨w',rfl,u,rfl⟩:=rs.one
 have hs:(Txt.split z y).length≤z.length+2:=split_le z y
 have hl:sizeLine=16777216:=sizeLine_eq
 have fin:∀ (tk:Nat) (its:List Value),Vals ((Txt.split z y).map V.str) its→EP X pins σ Q (.ref s.heap.objs.size) { s with heap:=s.heap.push { cls:=.type "list",data:=.seq its.toArray },toks:=tk }:=fun tk its hv=>
  ⟨.ref _,_,I.lnew (t':=tk) hv (by rw [List.length_map]; omega),rfl,q _ I.fresh⟩
 have hy0:(y.length==0)=false:=by rw [hy]; rfl
 cases h1:(decide (z.length < y.length) || decide (Builtin.Str.strKind z < Builtin.Str.strKind y))
 ·cases hf:(Builtin.Str.occurrences z y 0 z.length (z.length+1)).isEmpty
  ·have e:Txt.split z y=Builtin.Str.partsBetween z (Builtin.Str.occurrences z y 0 z.length (z.length+1)) y.length:=by
    unfold Txt.split
    rw [if_neg (by rw [h1]; decide),if_neg (by rw [hf]; decide)]
   rw [e] at fin hs
   exact call_meets F.slot_str_split (typeIs_str _ _ _) F.entry_str_split (F.args_str_split_2 _ _) (meets_str_split_sep z y t u h1 hy0 hf (by omega) (by omega)) (fin _ _ (vals_nums _ _))
  ·have e:Txt.split z y=[z]:=by
    unfold Txt.split
    rw [if_neg (by rw [h1]; decide),if_pos hf]
   rw [e] at fin
   exact call_meets F.slot_str_split (typeIs_str _ _ _) F.entry_str_split (F.args_str_split_2 _ _) (meets_str_split_not_found z y t u h1 hy0 hf) (fin _ _ (.cons ⟨_,rfl⟩ .nil))
 ·have e:Txt.split z y=[z]:=by
   unfold Txt.split
   rw [if_pos h1]
  rw [e] at fin
  exact call_meets F.slot_str_split (typeIs_str _ _ _) F.entry_str_split (F.args_str_split_2 _ _) (meets_str_split_cannot_occur z y t u h1) (fin _ _ (.cons ⟨_,rfl⟩ .nil))
end
def jl (c:Nat):List (List Nat)→List Nat
 | []=>[]
 | [x]=>x
 | x :: y :: r=>x ++ c :: jl c (y :: r)
theorem jl_cons (c:Nat) (x y:List Nat) (r:List (List Nat)):jl c (x :: y :: r)=x ++ c :: jl c (y :: r):=rfl
theorem cut_one {c:Nat}:∀ {x y a b:List Nat},c∉x→c∉y→x ++ c :: a=y ++ c :: b→x=y∧a=b
 | [],[],a,b,_,_,h=>⟨rfl,by simpa using h⟩
 | [],d :: y,a,b,_,hy,h=>by
  injection h with h1 h2
  exact absurd (by rw [h1]; exact List.mem_cons_self) hy
 | d :: x,[],a,b,hx,_,h=>by
  injection h with h1 h2
  exact absurd (by rw [h1]; exact List.mem_cons_self) hx
 | d :: x,e :: y,a,b,hx,hy,h=>by
  injection h with h1 h2
  obtain ⟨g1,g2⟩:=cut_one (fun z=>hx (List.mem_cons_of_mem _ z)) (fun z=>hy (List.mem_cons_of_mem _ z)) h2
  exact ⟨by rw [h1,g1],g2⟩
theorem jl_inj {c:Nat}:∀ {p q:List (List Nat)},p≠[]→q≠[]→(∀ x∈p,c∉x)→(∀ x∈q,c∉x)→jl c p=jl c q→p=q
 | [],_,h,_,_,_,_=>absurd rfl h
 | _,[],_,h,_,_,_=>absurd rfl h
 | [x],[y],_,_,_,_,h=>by rw [show x=y from h]
 | [x],y :: z :: r,_,_,hp,_,h=>by
  rw [jl_cons] at h
  have:x=y ++ c :: jl c (z :: r):=h
  exact absurd (by rw [this]; exact List.mem_append_right _ List.mem_cons_self) (hp x List.mem_cons_self)
 | x :: z :: r,[y],_,_,_,hq,h=>by
  rw [jl_cons] at h
  have:x ++ c :: jl c (z :: r)=y:=h
  exact absurd (by rw [← this]; exact List.mem_append_right _ List.mem_cons_self) (hq y List.mem_cons_self)
 | x :: x2 :: r,y :: y2 :: r2,_,_,hp,hq,h=>by
  rw [jl_cons,jl_cons] at h
  obtain ⟨g1,g2⟩:=cut_one (hp x List.mem_cons_self) (hq y List.mem_cons_self) h
  rw [g1,jl_inj (p:=x2 :: r) (q:=y2 :: r2) (by simp) (by simp) (fun z hz=>hp z (List.mem_cons_of_mem _ hz)) (fun z hz=>hq z (List.mem_cons_of_mem _ hz)) g2]
theorem join_jl (c:Nat):∀ ys:List Str,(Str.join ⟨#[c]⟩ ys).cps.toList=jl c (ys.map fun y=>y.cps.toList)
 | []=>rfl
 | [y]=>rfl
 | y :: z :: r=>by
  have e:Str.join ⟨#[c]⟩ (y :: z :: r)=y ++ ⟨#[c]⟩ ++ Str.join ⟨#[c]⟩ (z :: r):=rfl
  rw [e]
  show ((y.cps ++ #[c]) ++ (Str.join ⟨#[c]⟩ (z :: r)).cps).toList=_
  rw [Array.toList_append,Array.toList_append,join_jl c (z :: r)]
  simp [jl]
theorem list_str_inj {a b:List Str} (h:a.map (fun y=>y.cps.toList)=b.map fun y=>y.cps.toList):a=b:=by
 have inj:∀ x y:Str,x.cps.toList=y.cps.toList→x=y:=fun x y e=>by
  cases x
  cases y
  simpa using e
 revert b
 induction a with
 | nil=>intro b h; cases b with
  | nil=>rfl
  | cons y b=>cases h
 | cons x a ih=>intro b h; cases b with
  | nil=>cases h
  | cons y b=>
   rw [List.map_cons,List.map_cons] at h
   injection h with h1 h2
   rw [inj x y h1,ih h2]
theorem split_join {c:Nat} {ys:List Str} (hne:ys≠[]) (hf:∀ y∈ys,c∉y.cps.toList):Txt.split (Txt.join ⟨#[c]⟩ ys) ⟨#[c]⟩=ys:=by
 have h1:Str.join ⟨#[c]⟩ (Txt.split (Txt.join ⟨#[c]⟩ ys) ⟨#[c]⟩)=Txt.join ⟨#[c]⟩ ys:=StrLaws.join_split _ _
 have h2:Txt.join ⟨#[c]⟩ ys=Str.join ⟨#[c]⟩ ys:=StrLaws.glued_eq_join _ _
 have h3:=StrLaws.split_free (Txt.join ⟨#[c]⟩ ys) c
 have h4:Txt.split (Txt.join ⟨#[c]⟩ ys) ⟨#[c]⟩≠[]:=fun e=>by
  have:=split_pos (Txt.join ⟨#[c]⟩ ys) ⟨#[c]⟩
  rw [e] at this
  exact absurd this (by decide)
 generalize Txt.split (Txt.join ⟨#[c]⟩ ys) ⟨#[c]⟩=zs at h1 h3 h4
 rw [h2] at h1
 have h5:=congrArg (fun s:Str=>s.cps.toList) h1
 simp only [join_jl] at h5
 refine list_str_inj (jl_inj (c:=c) (by simpa using h4) (by simpa using hne) (fun x hx=>?_) (fun x hx=>?_) h5)
 ·obtain ⟨y,hy,rfl⟩:=List.mem_map.mp hx
  exact h3 y hy
 ·obtain ⟨y,hy,rfl⟩:=List.mem_map.mp hx
  exact hf y hy
end L2
namespace L2
open PySem PySem.Spec PyProof.Rows
section
variable {X:Cx} {K:PySem.W.Frag}
end
section
open PySem.SeqAt
open PySem.AutoSeq1 (wpAny_loadPart')
open PySem.MeetsSeq PySem.MeetsSeq2 PySem.MeetsSeq3
end
section
variable {X:Cx} {K:PySem.W.Frag}
end
end L2
namespace L2
open PySem PySem.Spec PyProof.Rows
section
open PySem.W (KasT kas_asc kas_count kas_cmp kas_st kas_item)
end
section
variable {prog:Program} {w:World} {A:Around} {E:Value→Shared→Prop} {s:Shared}
end
abbrev lo (ks:List Value) (e:Nat):Obj:={ cls:=.type "list",data:=.seq ks.toArray e }
section
variable {X:Cx} {pins:List (Addr × Obj)} {σ:St} {H:Hp} {s:Shared}
structure Far (X:Cx) (pins:List (Addr × Obj)) (a:Addr):Prop where
 loc:a≠X.env.locals
 fs:a∉X.fs
 new:X.s₀.heap.objs.size≤a
 cell:∀ x c,X.env.cells.lookup x=some c→c≠a
 pin:∀ p∈X.pn ++ pins,p.1≠a
theorem Inv.far (I:Inv X pins σ H s) {a:Addr} (h:s.heap.objs.size≤a):Far X pins a:=by
 obtain ⟨_,f1,f2,f3,f4,f5⟩:=I.fpOk (H':=fun _=>none) h rfl
 exact ⟨f1,f2,Nat.le_trans I.sz h,f4,f5⟩
end
section
variable {X:Cx} {pins:List (Addr × Obj)} {σ:St} {H:Hp} {s:Shared} {x:Str} {k:Nat} {ps:List Str} {sp:Sp} {ok:V→Prop} {kf:V→List V}
end
end L2
namespace L2
open PySem PySem.Spec PyProof.Rows
section
open PySem.W (KasT kas_asc kas_desc kas_tail3 kas_descPart kas_count kas_place kas_bin kas_sort kas_rev)
variable {n:Nat} {lt:Nat→Nat→Bool} {p:Array Nat}
end
end L2
namespace L2
open PySem PySem.Spec PyProof.Rows
section
open PySem.W (kas_count kas_ask kas_item kas_st kas_asc)
end
section
variable {X:Cx} {pins:List (Addr × Obj)} {σ:St} {H:Hp} {s:Shared} {x:Str} {k:Nat} {ps:List Str} {sp:Sp}
end
end L2
namespace L2
open PySem PySem.Spec PyProof.Rows
section
variable {P:Program} {w:World} {A:Around} {E:Value→Shared→Prop} {s:Shared}
end
section
variable {X:Cx} {pins:List (Addr × Obj)} {σ:St} {H:Hp} {s:Shared} {x:Str} {k:Nat} {ps:List Str} {sp:Sp}
end
end L2
namespace L2
open PySem PySem.Spec PyProof.Rows
abbrev bmV:List Value:=[.type "ValueError",.type "Exception",.type "BaseException",.type "object"]
def excK (K:PySem.W.Frag) (C:Addr) (ini:Option Value):Bool:=match K.lookup C with
 | some ⟨.type "type",_,.cls cd,sl⟩=>match cd.mro,sl.toList with
  | .ref C' :: bm,[_,_,_,_,some (.builtin n),_]=>C'==C && n == "ValueError.__new__" && !cd.hasDel && cd.hasDict && PySem.W.tailIn K bmV bm && PySem.W.nsOkIn K cd.ns && PySem.W.nsIn K cd.ns "__init__" == some ini
  | _,_=>false
 | _=>false
structure ExcC (K:PySem.W.Frag) (h:Heap) (C:Addr) (ini:Option Value):Prop where
 obj:∃ nm q N bs bm sn sub ab col dd k0 k1 k2 k3 k5 mN,h.get? C=some (excClassObj nm q C N bs bm true sn sub ab col dd k0 k1 k2 k3 k5 "ValueError.__new__")∧h.Ns N mN∧mN "__init__" = ini∧OwnTail h bmV bm
theorem ns_some {h:Heap} {K:PySem.W.Frag} {N:Addr} {mg:Str→Option Value} {n:Str} {r:Option Value} (X:K.In h) (G:h.Ns N mg) (e:PySem.W.nsIn K N n=some r):mg n=r:=by
 cases r with
 | none=>exact PySem.W.ns_none_of X G e
 | some v=>
  obtain ⟨o,es,ep,ho,hd,_,hf⟩:=G
  unfold PySem.W.nsIn at e
  split at e
  ·rename_i es' n' sl q
   have z:=X _ _ q
   rw [ho] at z
   cases z
   cases hd
   split at e
   ·rename_i en he
    cases e
    rw [← hf,nsFind,findBy,← Array.find?_toList,he]
    rfl
   ·split at e <;> cases e
  ·cases e
theorem excC_of {K:PySem.W.Frag} {h:Heap} {C:Addr} {ini:Option Value} (X:K.In h) (e:excK K C ini=true):ExcC K h C ini:=by
 unfold excK at e
 split at e
 ·rename_i dd cd sl ho
  split at e
  ·rename_i C' bm k0 k1 k2 k3 n k5 hm hs
   simp only [Bool.and_eq_true,beq_iff_eq,Bool.not_eq_true'] at e
   obtain ⟨⟨⟨⟨⟨⟨rfl,rfl⟩,hdel⟩,hdct⟩,ht⟩,hok⟩,hni⟩:=e
   obtain ⟨nm,bs,mro,ns,qn,hd,sn,sub,ab,col,del⟩:=cd
   dsimp only at hm hdel hok hni hdct
   subst hm hdel hdct
   have hsl:sl = #[k0,k1,k2,k3,some (.builtin "ValueError.__new__"),k5]:=by
    cases sl
    simpa using hs
   subst hsl
   have G:h.Ns ns (h.nsMap ns):=.of_isNs (PySem.W.isNs_of_in X hok)
   exact ⟨nm,qn,ns,bs,bm,sn,sub,ab,col,dd,k0,k1,k2,k3,k5,_,X _ _ ho,G,ns_some X G hni,PySem.W.tail_of_in X ht⟩
  ·cases e
 ·cases e
section
variable {prog:Program} {w:World} {A:Around} {E:Value→Shared→Prop} {s:Shared} {K:PySem.W.Frag} {C:Addr}
theorem exc_type {h:Heap} {g:Array GenState} {d:Drawn} {t:Nat} {os:OsState} {nm q:Str} {N f:Addr} {bs bm:List Value} {sn:List Str} {sub:List Value} {ab:Bool} {col:Option Bool} {dd:Option Addr} {k0 k1 k2 k3 k5:Option Value} {mN:Str→Option Value} {rest:List Value} {oI:Obj}
  {Q:Fin→Shared→Prop} (T:OwnTail h bmV bm) (hC:h.get? C=some (excClassObj nm q C N bs bm true sn sub ab col dd k0 k1 k2 k3 k5 "ValueError.__new__")) (hN:h.Ns N mN) (hi:mN "__init__" = some (.ref f)) (hf:h.get? f=some oI) (hfc:oI.cls=.type "function") (hr:rest.length≤sizeLine)
  (hq:∀ h' e,Heap.MadeExcOf h h' e (.ref C) rest→h.objs.size≤e→wpAny (model prog w) A (call (.ref f) (.ref e :: rest)) (fun r s'=>r=.none∧Q (.done (.ret (.ref e))) s') E ⟨h',g,d,t,os⟩) :
  wpAny (model prog w) A (Builtin.«type.__call__» ⟨.ref C :: rest,[]⟩) Q E ⟨h,g,d,t,os⟩:=by
 have F:=PySem.F.excBase_ValueError
 repeat (first | with_reducible refine wpAny_loadPart_at hC ?_ | with_reducible refine wpAny_madeBy_exc hC ?_ | wp_step)
 refine codeAny_call_builtin_code (Code.quiet_builtin _ F.quiet) (wpAny_check_new_subT F T hC (codeAny_exc_new_subT F T hC ?_ hr))
 show wpAny _ _ _ _ _ _
 have kp:∀ b o,h.get? b=some o→((h.push { cls:=.type "tuple",data:=.seq rest.toArray }).push { cls:=.ref C,data:=.fields #[.ref h.objs.size,.none,.none,.none,.bool false,.none] }).get? b=some o:=fun b o e=>Heap.get?_push_of_some _ (Heap.get?_push_of_some _ e)
 have hx:((h.push { cls:=.type "tuple",data:=.seq rest.toArray }).push { cls:=.ref C,data:=.fields #[.ref h.objs.size,.none,.none,.none,.bool false,.none] }).get? (h.objs.size+1)=some
   {cls:=.ref C,data:=.fields #[.ref h.objs.size,.none,.none,.none,.bool false,.none] }:=by heap_get
 have hC1:=kp _ _ hC
 have hf1:=kp _ _ hf
 have hN1:=hN.keeps kp
 have T1:=T.keeps kp
 have cc:(Value.ref C :: bm).contains (.ref C)=true:=by simp
 unfold isInstance
 repeat (first | with_reducible refine wpAny_loadPart_at hx ?_ | (with_reducible refine wpAny_isSubtype_exc hC1 ?_; rw [cc]) | wp_step)
 show wpAny _ _ (typeLookup (.ref C) _) _ _ _
 refine wpAny_typeLookup_tail hC1 hN1 T1 F.mroIs F.init.lookup ?_
 rw [hi]
 refine wpAny_holding (wpAny_bind ?_)
 unfold bindSpecial
 refine wpAny_bind (wpAny_typeOf (T:="function") ⟨_,hf1,hfc⟩ ?_)
 rw [if_pos (by decide)]
 refine wpAny_pure (wpAny_bind (wpAny_mono (hq _ (h.objs.size+1) ⟨kp,Heap.get?_none_of_le (Nat.le_succ _),h.objs.size,hx,Heap.get?_none_of_le (Nat.le_refl _),Heap.get?_push_of_some _ (Heap.get?_push_size _ rfl)⟩ (Nat.le_succ _)) (fun r s' z=>?_) fun _ _ z=>z))
 obtain ⟨rfl,hQ⟩:=z
 wp_walk
 exact hQ
theorem exc_call {h:Heap} {g:Array GenState} {d:Drawn} {t:Nat} {os:OsState} {nm q:Str} {N:Addr} {bs bm:List Value} {sn:List Str} {sub:List Value} {ab:Bool} {col:Option Bool} {dd:Option Addr} {k0 k1 k2 k3 k5:Option Value} {rest:List Value} {Q:Value→Shared→Prop}
  (hC:h.get? C=some (excClassObj nm q C N bs bm true sn sub ab col dd k0 k1 k2 k3 k5 "ValueError.__new__"))
  (hb:wpAny (model prog w) (A.under (.builtin "type.__call__" ⟨.ref C :: rest,[]⟩)) (Builtin.«type.__call__» ⟨.ref C :: rest,[]⟩) (fun fin s'=>∃ v,fin=.done (.ret v)∧Q v s') E ⟨h,g,d,t,os⟩) :
  wpAny (model prog w) A (call (.ref C) rest) Q E ⟨h,g,d,t,os⟩:=by
 have f1:=tc_lookup
 have f2:=tc_bind (.ref C)
 have hT:(⟨h,g,d,t,os⟩:Shared).TypeIs (.ref C) "type":=⟨_,hC,rfl⟩
 refine wpAny_call (codeAny_of_tree ?_)
 show wpAny _ _ (callAny (.ref C) _) _ _ _
 repeat (any_goals (first | assumption | with_reducible refine wpAny_loadPart_at hC ?_ | wp_step))
 refine ⟨rfl,?_⟩
 refine codeAny_call_builtin_at (Code.quiet_builtin _ (by decide +kernel)) entry_typeCall (wpAny_check_type_call_sub hC (wpAny_mono hb (fun fin s' z=>?_) fun _ _ z=>z))
 obtain ⟨v,rfl,hv⟩:=z
 exact hv
theorem exc_make {rest:List Value} {f:Addr} {oI:Obj} {Q:Value→Shared→Prop} (c:ExcC K s.heap C (some (.ref f))) (hf:s.heap.get? f=some oI) (hfc:oI.cls=.type "function") (hr:rest.length≤sizeLine)
  (hq:∀ h' e,Heap.MadeExcOf s.heap h' e (.ref C) rest→s.heap.objs.size≤e→wpAny (model prog w) (A.under (.builtin "type.__call__" ⟨.ref C :: rest,[]⟩)) (call (.ref f) (.ref e :: rest)) (fun r s'=>r=.none∧Q (.ref e) s') E { s with heap:=h' }) :
  wpAny (model prog w) A (call (.ref C) rest) Q E s:=by
 obtain ⟨nm,q,N,bs,bm,sn,sub,ab,col,dd,k0,k1,k2,k3,k5,mN,hC,hN,hi,T⟩:=c.obj
 obtain ⟨hh,g,d,t,os⟩:=s
 exact exc_call hC (exc_type T hC hN hi hf hfc hr fun h' e m le=>wpAny_mono (hq h' e m le) (fun r s' z=>⟨z.1,_,rfl,z.2⟩) fun _ _ z=>z)
end
abbrev exO (C T:Addr) (d:Option Addr):Obj:={ cls:=.ref C,dict:=d,data:=.fields #[.ref T,.none,.none,.none,.bool false,.none] }
section
variable {prog:Program} {w:World} {A:Around} {E:Value→Shared→Prop} {s:Shared} {K:PySem.W.Frag} {x C:Addr} {ox:Obj} {od:Option Obj} {name:Str}
theorem exc_ga {tk:Tok} {fill ex:Bool} {Q:Value→Shared→Prop} (X:K.In s.heap) (I:PySem.W.InstAt s.heap x ox C od) (hga:PySem.W.findIn K (.ref C) "__getattribute__" = some (some (.builtin "BaseException.__getattribute__")))
  (hgn:PySem.W.findIn K (.ref C) "__getattr__" = some none) (hbe:PySem.W.mroIn K C (.type "BaseException")=some true)
  (h:wpAny (model prog w) A.in1 (Builtin.«object.__getattribute__» ⟨[.ref x,.str name tk],[]⟩) (fun fin s'=>match fin with | .done (.ret v)=>wpAny (model prog w) A (handedOut v) Q E s' | _=>False) (fun _ _=>False) s) :
  wpAny (model prog w) A (getAttrBy (.ref x) (.str name tk) fill ex) Q E s:=by
 have L0:=I.type (M:=model prog w)
 have L1:=PySem.W.looks_findIn (M:=model prog w) X hga
 have L2:=PySem.W.looks_findIn (M:=model prog w) X hgn
 have L3:PySem.W.Looks (model prog w) s.heap (isInstance (.ref x) (.type "BaseException")) true:=L0.andThen (PySem.W.looks_mroIn X hbe)
 have G:=PySem.F.attr_ValueError.ga
 have hne:(Value.builtin "BaseException.__getattribute__" == Value.builtin "object.__getattribute__")=false:=by decide +kernel
 unfold getAttrBy
 refine wpAny_holding (wpAny_bind (L0.here (wpAny_bind (L1.here ?_))))
 show wpAny _ _ (if (onTheHeap (Value.ref C) && Value.builtin "BaseException.__getattribute__" == Value.builtin "object.__getattribute__")=true then getAttrEveryday (.ref x) (.str name tk) fill else getAttrByItsOwn (.ref x) (.str name tk) (.ref C) (.builtin "BaseException.__getattribute__") fill ex) _ _ _
 rw [if_neg (by rw [hne,Bool.and_false]; decide)]
 unfold getAttrByItsOwn
 refine wpAny_bind (m:=hookBefore (.ref C)) (show wpAny _ _ (typeLookup (.ref C) "__getattr__") _ _ _ from L2.here ?_)
 refine wpAny_bind (wpAny_attempt (wpAny_holding ?_))
 have hno:¬ (ex && onTheHeap (Value.builtin "BaseException.__getattribute__"))=true:=by
  show ¬ (ex && false)=true
  rw [Bool.and_false]
  decide
 unfold callGetattribute
 rw [if_neg hno]
 unfold boundAndCalled
 rw [G.bind]
 refine wpAny_bind (wpAny_pure ?_)
 show wpAny _ _ (call (.builtin "BaseException.__getattribute__") [.ref x,.str name tk]) _ _ _
 have k1:builtinKind "BaseException.__getattribute__" = some .slot:=by decide +kernel
 have k2:splitId "BaseException.__getattribute__" = some ("BaseException","__getattribute__"):=by decide +kernel
 refine wpAny_call ?_
 refine codeAny_call_builtin G.plain PySem.F.entry_bexc_ga ?_
 refine @PySem.W.check_slot (model prog w) _ _ s "BaseException.__getattribute__" "BaseException" "__getattribute__" (.ref x) [.str name tk] [] _ k1 k2 L3 (PySem.F.args_bexc_ga _ _) ?_
 refine wpAny_mono h (fun fin s' z=>?_) fun _ _ z=>z.elim
 rcases fin with (_ | _ | _ | _) | _ <;> first | exact z | exact z.elim
theorem exc_value {v:Value} {ex:Bool} {Q:Value→Shared→Prop} (X:K.In s.heap) (I:PySem.W.InstAt s.heap x ox C od) (hga:PySem.W.findIn K (.ref C) "__getattribute__" = some (some (.builtin "BaseException.__getattribute__")))
  (hgn:PySem.W.findIn K (.ref C) "__getattr__" = some none) (hbe:PySem.W.mroIn K C (.type "BaseException")=some true) (hf:PySem.W.findObj K C od name=some (.value v)) (hh:PySem.W.handedIn v=true)
  (h:Q v { s with toks:=s.toks+1 }):wpAny (model prog w) A (getAttr (.ref x) name ex) Q E s:=by
 unfold getAttr
 refine wpAny_bind (wpAny_mkText ?_)
 refine exc_ga (s:={ s with toks:=s.toks+1 }) X I hga hgn hbe ?_
 obtain ⟨hh',g,d,t,os⟩:=s
 have L0:=I.type (M:=model prog w)
 have L1:=PySem.W.looks_find (M:=model prog w) X I hf
 refine wpAny_bind (wpAny_pure ?_)
 refine wpAny_bind (wpAny_pure ?_)
 refine wpAny_bind (L0.at ?_)
 refine wpAny_bind (L1.at ?_)
 refine wpAny_pure ?_
 exact PySem.W.handed_on hh h
theorem exc_class {Q:Option Value→Shared→Prop} (X:K.In s.heap) (I:PySem.W.InstAt s.heap x ox C od) (hga:PySem.W.findIn K (.ref C) "__getattribute__" = some (some (.builtin "BaseException.__getattribute__")))
  (hgn:PySem.W.findIn K (.ref C) "__getattr__" = some none) (hbe:PySem.W.mroIn K C (.type "BaseException")=some true) (hm:PySem.W.mroIn K C (.type "object")=some true)
  (hf:PySem.W.findObj K C od "__class__" = some (.bind (.builtin "getset_descriptor.__get__") (.builtin "object.__class__"))) (h:Q (some (.ref C)) { s with toks:=s.toks+1 }):wpAny (model prog w) A (getAttr? (.ref x) "__class__") Q E s:=by
 unfold getAttr? getAttrBy?
 refine wpAny_bind (wpAny_mkText (wpAny_bind (wpAny_attempt ?_)))
 refine exc_ga (s:={ s with toks:=s.toks+1 }) X I hga hgn hbe ?_
 obtain ⟨hh',g,d,t,os⟩:=s
 have L0:=I.type (M:=model prog w)
 have L1:=PySem.W.looks_find (M:=model prog w) X I hf
 refine wpAny_bind (wpAny_pure ?_)
 refine wpAny_bind (wpAny_pure ?_)
 refine wpAny_bind (L0.at ?_)
 refine wpAny_bind (L1.at ?_)
 show wpAny _ _ (holding [Value.builtin "object.__class__"] (call (.builtin "getset_descriptor.__get__") [.builtin "object.__class__",.ref x,.ref C]) >>= ret) _ _ _
 refine wpAny_bind (wpAny_holding (wpAny_call (PySem.W.class_get (s:=⟨hh',g,d,t+1,os⟩) X I hm ?_)))
 refine wpAny_pure ?_
 exact PySem.W.handed_on rfl (wpAny_pure h)
def passB:List Value→Bool
 | []=>false
 | v :: r=>(v :: r)==bmV || match v with | .ref _=>passB r | _=>false
theorem pass_has:∀ {l:List Value},passB l=true→l.contains (.type "object")=true
 | [],e=>by cases e
 | v :: r,e=>by
  unfold passB at e
  rcases Bool.or_eq_true_iff.mp e with z | z
  ·rw [beq_iff_eq.mp z]; decide
  ·cases v with
   | ref a=>rw [List.contains_cons,pass_has (l:=r) z,Bool.or_true]
   | _=>cases z
theorem pass_ok (self:Value):∀ {l:List Value},passB l=true→refuseLoop self "__setattr__" l=pure ()
 | [],e=>by cases e
 | v :: r,e=>by
  unfold passB at e
  rcases Bool.or_eq_true_iff.mp e with z | z
  ·rw [beq_iff_eq.mp z]; exact PySem.F.store_ValueError.passes self
  ·cases v with
   | ref a=>rw [refuseLoop_ref]; exact pass_ok self z
   | _=>cases z
theorem exc_osa {v:Value} {tk:Tok} {cd:ClassData} {R:Result→Shared→Prop} (X:K.In s.heap) (I:PySem.W.InstAt s.heap x ox C od) (hc:PySem.W.clsIn K C=some cd) (hp:passB cd.mro=true) (ha:PySem.W.findIn K (.ref C) name=some none)
  (h:wpAny (model prog w) A.in1 (Builtin.ObjectAttr.storeInOwnDict (.ref x) (.ref C) (.str name tk) name v false) (fun fin s'=>match fin with | .done f=>R (.ok f) s' | .again c'=>c'.quiet=true∧codeAny (model prog w) A c' R s') (fun e s'=>R (.error e) s') s) :
  codeAny (model prog w) A (.call (.builtin "object.__setattr__") ⟨[.ref x,.str name tk,v],[]⟩) R s:=by
 have SF:=PySem.F.store_object
 have ne:cd.mro.isEmpty=false:=by cases q:cd.mro with | nil=>rw [q] at hp; cases hp | cons _ _=>rfl
 have L0:=I.type (M:=model prog w)
 have sub:PySem.W.Looks (model prog w) s.heap (isInstance (.ref x) (.type "object")) true:=L0.andThen (PySem.W.looks_mroIn X (by unfold PySem.W.mroIn; rw [hc,Option.bind_some,if_neg (by rw [ne]; decide),pass_has hp]))
 refine codeAny_call_builtin SF.slot.plain SF.entry ?_
 refine @PySem.W.check_slot (model prog w) _ _ s "object.__setattr__" "object" "__setattr__" (.ref x) [.str name tk,v] [] _ SF.kind SF.split sub (SF.args _ _ _) ?_
 have hm:PySem.W.Looks (model prog w) s.heap (mroOf (.ref C)) cd.mro:=(PySem.W.looks_clsIn X hc).andThen .now
 rw [PySem.W.osa_eq,refuse_eq]
 refine wpAny_bind (wpAny_bind (L0.here (wpAny_bind (hm.here ?_))))
 rw [pass_ok _ hp]
 refine wpAny_pure (wpAny_bind (L0.here (wpAny_bind ((PySem.W.looks_findIn X ha).here (wpAny_bind (wpAny_pure ?_))))))
 exact h
theorem exc_first {T:Addr} {v:Value} {tk:Tok} {cd:ClassData} {Q:Fin→Shared→Prop} (X:K.In s.heap) (hx:s.heap.get? x=some (exO C T none)) (hc:PySem.W.clsIn K C=some cd) (hd:cd.hasDict=true)
  (h:∀ h',h'.Ns1 s.heap.objs.size (fun y=>if y=name then some v else none)→Heap.SameBut s.heap.objs.size ((s.heap.push PySem.W.emptyDict).update x fun o=>{ o with dict:=some s.heap.objs.size }) h'→Q (.done (.ret .none)) { s with heap:=h',toks:=s.toks+1 }) :
  wpAny (model prog w) A (Builtin.ObjectAttr.storeInOwnDict (.ref x) (.ref C) (.str name tk) name v false) Q E s:=by
 have hx1:(s.heap.push PySem.W.emptyDict).get? x=some (exO C T none):=Heap.get?_push_of_some _ hx
 have hxs:x≠s.heap.objs.size:=Nat.ne_of_lt (Heap.lt_size hx)
 refine wpAny_bind (wpAny_pure (wpAny_bind (wpAny_bind (wpAny_loadPart hx (wpAny_bind (PySem.W.Looks.here (PySem.W.looks_clsIn X hc) ?_))))))
 rw [hd]
 refine wpAny_bind (wpAny_alloc ?_)
 refine wpAny_bind (wpAny_update hx1 ?_)
 refine wpAny_pure ?_
 have gd:((s.heap.push PySem.W.emptyDict).update x fun o=>{ o with dict:=some s.heap.objs.size }).get? s.heap.objs.size=some PySem.W.emptyDict:=(Heap.get?_update_ne _ _ _ _ hxs.symm).trans (Heap.get?_push_size _ rfl)
 have nd:((s.heap.push PySem.W.emptyDict).update x fun o=>{ o with dict:=some s.heap.objs.size }).Ns s.heap.objs.size (fun _=>none):=⟨_,#[],_,gd,rfl,fun e he=>absurd he (by simp),fun _=>rfl⟩
 show wpAny _ _ (Builtin.ObjectAttr.storeInDict s.heap.objs.size (.str name tk) name v) _ _ _
 unfold Builtin.ObjectAttr.storeInDict Builtin.ObjectAttr.newKeyGuard
 refine wpAny_bind (wpAny_pure (wpAny_bind (wpAny_nsSet1 (s:={ s with heap:=(s.heap.push PySem.W.emptyDict).update x fun o=>{ o with dict:=some s.heap.objs.size } }) (Heap.Ns1.of_empty nd) fun h' hn' hs=>?_)))
 obtain ⟨oD,esD,epD,hoD,hdD,hcD⟩:=hn'.count (Within.cons name v Within.nil)
 refine wpAny_bind (wpAny_lookBehind hoD (by rw [hdD]; exact pastItsLine_dict (Nat.le_trans hcD (by rw [List.length_cons,List.length_nil,sizeLine_eq]; omega))) ?_)
 exact wpAny_pure (h h' hn' hs)
theorem exc_next {T dx:Addr} {v:Value} {tk:Tok} {cd:ClassData} {mA:Str→Option Value} {ns:List Str} {Q:Fin→Shared→Prop} (X:K.In s.heap) (hx:s.heap.get? x=some (exO C T (some dx))) (hn:s.heap.Ns1 dx mA) (hw:Within mA ns) (hz:ns.length < 1000) (hc:PySem.W.clsIn K C=some cd) (hd:cd.hasDict=true)
  (h:∀ h',h'.Ns1 dx (fun y=>if y=name then some v else mA y)→Heap.SameBut dx s.heap h'→Q (.done (.ret .none)) { s with heap:=h',toks:=s.toks+1 }) :
  wpAny (model prog w) A (Builtin.ObjectAttr.storeInOwnDict (.ref x) (.ref C) (.str name tk) name v false) Q E s:=by
 refine wpAny_bind (wpAny_pure (wpAny_bind (wpAny_bind (wpAny_loadPart hx (wpAny_bind (PySem.W.Looks.here (PySem.W.looks_clsIn X hc) ?_))))))
 rw [hd]
 refine wpAny_pure (a:=some dx) ?_
 show wpAny _ _ (Builtin.ObjectAttr.storeInDict dx (.str name tk) name v) _ _ _
 unfold Builtin.ObjectAttr.storeInDict Builtin.ObjectAttr.newKeyGuard
 refine wpAny_bind (wpAny_pure (wpAny_bind (wpAny_nsSet1 hn fun h' hn' hs=>?_)))
 obtain ⟨oD,esD,epD,hoD,hdD,hcD⟩:=hn'.count (Within.cons name v hw)
 refine wpAny_bind (wpAny_lookBehind hoD (by rw [hdD]; exact pastItsLine_dict (Nat.le_trans hcD (by rw [List.length_cons,sizeLine_eq]; omega))) ?_)
 exact wpAny_pure (h h' hn' hs)
end
end L2
namespace L2
open PySem PySem.Spec PyProof.Rows
def exH (a C:Addr) (d:Option Addr):HO:=.ext fun h=>∃ T,h.get? a=some (exO C T d)
def xdH (dx:Addr) (fs:List (Str × V)):HO:=.ext fun h=>∃ mA,h.Ns1 dx mA∧(∀ f,RelO (fs.lookup f) (mA f))∧PySem.Within mA (fs.map (·.1))
def excF (K:PySem.W.Frag) (C:Addr):Bool:=
 PySem.W.findIn K (.ref C) "__getattribute__" == some (some (.builtin "BaseException.__getattribute__")) && PySem.W.findIn K (.ref C) "__getattr__" == some none && PySem.W.mroIn K C (.type "BaseException")==some true && PySem.W.mroIn K C (.type "object")==some true &&
  (PySem.W.clsIn K C).any (fun cd=>cd.hasDict && passB cd.mro) && PySem.W.findIn K (.ref C) "__setattr__" == some (some (.builtin "object.__setattr__")) && PySem.W.findIn K (.ref C) "__class__" == some (some (.builtin "object.__class__")) &&
  PySem.W.specialIn K (.builtin "object.__class__") "__get__" == some (some (.builtin "getset_descriptor.__get__")) && PySem.W.takesIn K (.builtin "object.__class__")==some true
structure ExcF (K:PySem.W.Frag) (C:Addr):Prop where
 ga:PySem.W.findIn K (.ref C) "__getattribute__" = some (some (.builtin "BaseException.__getattribute__"))
 gn:PySem.W.findIn K (.ref C) "__getattr__" = some none
 be:PySem.W.mroIn K C (.type "BaseException")=some true
 ob:PySem.W.mroIn K C (.type "object")=some true
 cl:∃ cd,PySem.W.clsIn K C=some cd∧cd.hasDict=true∧passB cd.mro=true
 sa:PySem.W.findIn K (.ref C) "__setattr__" = some (some (.builtin "object.__setattr__"))
 cc:PySem.W.findIn K (.ref C) "__class__" = some (some (.builtin "object.__class__"))
 cg:PySem.W.specialIn K (.builtin "object.__class__") "__get__" = some (some (.builtin "getset_descriptor.__get__"))
 ct:PySem.W.takesIn K (.builtin "object.__class__")=some true
theorem excF_of {K:PySem.W.Frag} {C:Addr} (e:excF K C=true):ExcF K C:=by
 unfold excF at e
 simp only [Bool.and_eq_true,beq_iff_eq] at e
 obtain ⟨⟨⟨⟨⟨⟨⟨⟨e1,e2⟩,e3⟩,e4⟩,e5⟩,e6⟩,e7⟩,e8⟩,e9⟩:=e
 obtain ⟨cd,h1,h2⟩:=PySem.W.any_some e5
 simp only [Bool.and_eq_true] at h2
 exact ⟨e1,e2,e3,e4,⟨cd,h1,h2.1,h2.2⟩,e6,e7,e8,e9⟩
theorem ExcF.hasD {K:PySem.W.Frag} {C:Addr} (c:ExcF K C):PySem.W.hasDictIn K C=true:=by
 obtain ⟨cd,h1,h2,_⟩:=c.cl
 unfold PySem.W.hasDictIn
 rw [h1]
 exact h2
section
variable {X:Cx} {pins:List (Addr × Obj)} {σ:St} {H:Hp} {s:Shared} {a C:Addr} {fs:List (Str × V)} {A:Around} {E:Value→Shared→Prop}
theorem setx_first {f:Str} {y:V} {u:Value} {Q:Unit→Shared→Prop} (I:Inv X pins σ H s) (e:H a=some (exH a C none)) (c:ExcF X.K C) (n:NoAttr X.K C f) (ry:RelV y u)
  (h:∀ dx s',H dx=none→Inv X pins σ (upd (upd H a (exH a C (some dx))) dx (xdH dx [(f,y)])) s'→Q () s'):wpAny (model X.prog X.w) A (setAttr (.ref a) f u) Q E s:=by
 obtain ⟨⟨T,g⟩,_,_⟩:=(show ObjOk X.prog X.w H s.heap a (exH a C none) from I.hok a _ e)
 have J:PySem.W.InstAt s.heap a (exO C T none) C none:=⟨g,rfl,rfl,True.intro⟩
 obtain ⟨cd,h1,h2,h3⟩:=c.cl
 refine PySem.W.set_plain I.kIn J c.sa ?_
 refine exc_osa (s:={ s with toks:=s.toks+1 }) I.kIn J h1 h3 n ?_
 refine exc_first (s:={ s with toks:=s.toks+1 }) I.kIn g h1 h2 fun h' hn hs=>?_
 show Q () _
 dsimp only at hn hs
 generalize hD:s.heap.objs.size=D at hn hs
 have hnD:H D=none:=I.hok.fresh (by rw [hD]; exact Nat.le_refl _)
 have naD:a≠D:=ne_of_none e hnD
 have I1:Inv X pins σ H { s with heap:=s.heap.push PySem.W.emptyDict }:=I.kept (t':=s.toks) fun b o q=>Heap.get?_push_of_some _ q
 have g1:(s.heap.push PySem.W.emptyDict).get? a=some (exO C T none):=Heap.get?_push_of_some _ g
 have g2:((s.heap.push PySem.W.emptyDict).update a fun o=>{ o with dict:=some D }).get? a=some (exO C T (some D)):=Heap.get?_update_self _ g1 rfl
 have I2:Inv X pins σ (upd H a (exH a C (some D))) { s with heap:=(s.heap.push PySem.W.emptyDict).update a fun o=>{ o with dict:=some D } }:=
  I1.write (t':=s.toks) (x:=a) (e:=a) (by rw [e]; exact True.intro) (.inl rfl) (fun b o hb q=>(Heap.get?_update_other _ _ (Ne.symm hb)).trans q) ⟨_,g2⟩ ⟨⟨T,g2⟩,⟨_,g2⟩,fun k1 k2 ⟨T',q⟩ k=>⟨T',k _ q⟩⟩
 have fD:Far X pins D:=I.far (by rw [hD]; exact Nat.le_refl _)
 have hn2:upd H a (exH a C (some D)) D=none:=(upd_ne (Ne.symm naD)).trans hnD
 have I3:Inv X pins σ (upd H a (exH a C (some D))) { s with heap:=h',toks:=s.toks+2 }:=Inv.turned (s:={ s with heap:=(s.heap.push PySem.W.emptyDict).update a fun o=>{ o with dict:=some D } }) (t':=s.toks+2) (it:=D) I2 (fun b o hb q=>(hs.2 b hb).trans q) hn2 fD.loc (.inr fD.new) fD.cell fD.pin
 have ok:ObjOk X.prog X.w (upd (upd H a (exH a C (some D))) D (xdH D [(f,y)])) h' D (xdH D [(f,y)]):=by
  refine ⟨⟨_,hn,fun k=>?_,fun k hk=>?_⟩,let ⟨o,_,_,q,_⟩:=hn; ⟨o,q⟩,fun k1 k2 ⟨mA,⟨o,es,ep,q1,q2⟩,q3⟩ k=>⟨mA,⟨o,es,ep,k _ q1,q2⟩,q3⟩⟩
  ·rw [List.lookup_cons]
   by_cases z:k=f
   ·rw [if_pos z,z]
    simp only [beq_self_eq_true]
    exact ry
   ·rw [if_neg z,show (k==f)=false from beq_eq_false_iff_ne.mpr z]
    exact True.intro
  ·by_cases z:k=f
   ·rw [z]; exact List.mem_cons_self
   ·exact absurd (if_neg z) hk
 exact h D _ hnD (I3.adopt (a:=D) (o:=xdH D [(f,y)]) fD.new hn2 fD.loc fD.cell fD.pin ok)
theorem setx_next {f:Str} {y:V} {u:Value} {dx:Addr} {Q:Unit→Shared→Prop} (I:Inv X pins σ H s) (e:H a=some (exH a C (some dx))) (ed:H dx=some (xdH dx fs)) (c:ExcF X.K C) (n:NoAttr X.K C f) (hl:fs.length < 900) (ry:RelV y u)
  (h:∀ s',Inv X pins σ (upd H dx (xdH dx (putF f y fs))) s'→Q () s'):wpAny (model X.prog X.w) A (setAttr (.ref a) f u) Q E s:=by
 obtain ⟨⟨T,g⟩,_,_⟩:=(show ObjOk X.prog X.w H s.heap a (exH a C (some dx)) from I.hok a _ e)
 obtain ⟨⟨mA,hn,r,wi⟩,⟨o,ho⟩,_⟩:=(show ObjOk X.prog X.w H s.heap dx (xdH dx fs) from I.hok dx _ ed)
 have J:PySem.W.InstAt s.heap a (exO C T (some dx)) C (some o):=⟨g,rfl,rfl,ho⟩
 obtain ⟨cd,h1,h2,h3⟩:=c.cl
 refine PySem.W.set_plain I.kIn J c.sa ?_
 refine exc_osa (s:={ s with toks:=s.toks+1 }) I.kIn J h1 h3 n ?_
 refine exc_next (s:={ s with toks:=s.toks+1 }) (ns:=fs.map (·.1)) I.kIn g hn wi (by rw [List.length_map]; omega) h1 h2 fun h' hn' hs=>?_
 refine h _ (I.write (t':=s.toks+2) (x:=dx) (e:=dx) (by rw [ed]; exact True.intro) (.inl rfl) (fun b o hb q=>(hs.2 b hb).trans q) (let ⟨o,_,_,q,_⟩:=hn'; ⟨o,q⟩) ?_)
 refine ⟨⟨_,hn',fun k=>?_,fun k hk=>?_⟩,let ⟨o,_,_,q,_⟩:=hn'; ⟨o,q⟩,fun k1 k2 ⟨mA,⟨o,es,ep,q1,q2⟩,q3⟩ k=>⟨mA,⟨o,es,ep,k _ q1,q2⟩,q3⟩⟩
 ·rw [lookup_putF]
  by_cases q:k=f
  ·rw [if_pos q,if_pos q]; exact ry
  ·rw [if_neg q,if_neg q]; exact r k
 ·by_cases q:k=f
  ·rw [q]; exact (keys_putF f y fs).1
  ·exact (keys_putF f y fs).2 k (wi k fun z=>hk ((if_neg q).trans z))
def sXFld (K:PySem.W.Frag) (ta tv:TE) (f:Str):TS:=fun D σ H=>tv σ H fun y H1=>ta σ H1 fun x H2=>∃ a C,x=.ref a∧ExcF K C∧NoAttr K C f∧
 ((H2 a=some (exH a C none)∧∀ dx,H2 dx=none→D.nx σ (upd (upd H2 a (exH a C (some dx))) dx (xdH dx [(f,y)])))∨
  ∃ dx fs,H2 a=some (exH a C (some dx))∧H2 dx=some (xdH dx fs)∧fs.length < 900∧D.nx σ (upd H2 dx (xdH dx (putF f y fs))))
theorem ps_xfld {K:PySem.W.Frag} {o value:Expr} {ta tv:TE} {f:Str} {pos pos':Pos} (ha:PE X o ta) (hv:PE X value tv) (hs:swapsWith value (some (.Attribute o f pos')) pos.line X.env=pure false:=by rfl) (hK:X.K=K:=by rfl) :
  PS X (.Assign [.Attribute o f pos'] value pos) (sXFld K ta tv f):=by
 subst hK
 intro pins s σ H D I h
 refine plainObj_wpAny_Assign_Attribute (thn (hv pins s σ H _ I h) fun u s1 ⟨y,H1,I1,ry,q⟩=>thn (ha pins s1 σ H1 _ I1 q) fun ov s2 ⟨x,H2,I2,rx,a,C,ex,c,n,q2⟩=>?_) hs
 subst ex
 obtain rfl:ov=Value.ref a:=rx
 rcases q2 with ⟨e,q2⟩ | ⟨dx,fs,e,ed,l,q2⟩
 ·exact setx_first I2 e c n ry fun dx s3 hd I3=>⟨σ,_,I3,q2 dx hd⟩
 ·exact setx_next I2 e ed c n l ry fun s3 I3=>⟨σ,_,I3,q2⟩
theorem ex_new {h':Heap} {e C:Addr} {us:List Value} (I:Inv X pins σ H s) (m:Heap.MadeExcOf s.heap h' e (.ref C) us) (le:s.heap.objs.size≤e):Inv X pins σ (upd H e (exH e C none)) { s with heap:=h' }:=by
 obtain ⟨T,g,_⟩:=m.there
 exact I.laid (t':=s.toks) m.keeps le ⟨⟨T,g⟩,⟨_,g⟩,fun k1 k2 ⟨T',q⟩ k=>⟨T',k _ q⟩⟩
def tExc (C:Addr) (sp:Sp) (t:TA):TE:=fun σ H Q=>t σ H fun vs H1=>vs.length≤1000∧∀ e,H1 e=none→sp (.ref e :: vs) (upd H1 e (exH e C none)) (fun v H2=>v=.non∧Q (.ref e) H2) E0
theorem pe_exc {k:Nat} {f:Addr} {fd:FuncData} {ps:List Str} {sp:Sp} {x:Str} {p pos:Pos} {e:Expr} {es:List Expr} {t:TA} {oI:Obj} (c:excK X.K C (some (.ref f))=true) (hk:PySem.W.keepIn X.K (.ref C)=true) (hm:X.mg x=some (.ref C)) (hf:X.K.lookup f=some oI) (hfc:oI.cls=.type "function")
  (F:FnOk X.prog X.w X.K X.mg X.base CX0 k f fd ps sp) (hb:Binds X.K fd ps []) (hr:Room (k+1) X.A) (ha:PA X (e :: es) t) (hg:Gl X x:=by rfl) (hdb:(x==("__debug__" : Str))=false:=by decide)
  (he:starEach (e :: es) X.env=(false,eval e X.env) :: starEach es X.env:=by rfl) (hpl:(backTo pos (starEach es X.env)).any (·.1)=false:=by rfl):PE X (.Call (.Name x p) (e :: es) [] pos) (tExc C sp t):=by
 intro pins s σ H Q I h
 refine wpAny_Call_Name_kw (ld_glob I hg hm ?_ hdb)
 refine PySem.W.callWith_K (h₀:=X.base) I.ok.mod.kin hk (thn (ha pos pins s σ H _ I h) fun us s1 ⟨vs,H1,I1,r,hz,q⟩=>⟨I1.kIn,?_⟩) he hpl
 refine exc_make (excC_of I1.kIn c) (I1.kIn _ _ hf) hfc (by show us.length≤_; rw [← r.length]; exact line_le hz) fun h' a m le=>?_
 have I2:=ex_new I1 m le
 have hq:=q a (I1.hok.fresh le)
 have r2:Vals (V.ref a :: vs) (Value.ref a :: us):=.cons rfl r
 have hl:(Value.ref a :: us ++ ([]:List Value)).length=ps.length:=by
  rw [List.append_nil,← r2.length]
  exact F.len _ _ _ _ hq
 refine wpAny_call (codeAny_mono (F.run _ X.stack _ _ ⟨Value.ref a :: us,[]⟩ (Value.ref a :: us) _ _ E0 (hr.make C us []) (I2.env0.make C us []) (by have:=hb { s1 with heap:=h' } (Value.ref a :: us) I2.kIn hl; rwa [List.append_nil] at this) r2 hq) fun r s' z=>?_)
 cases r with
 | error e=>exact False.elim z
 | ok fl=>
  cases fl with
  | ret u=>
   obtain ⟨v,H',I3,rv,ev,q3⟩:=I2.after z
   subst ev
   exact ⟨rv,.ref a,H',I3,rfl,q3⟩
  | next=>exact False.elim z
  | brk=>exact False.elim z
  | cont=>exact False.elim z
theorem kitx_exc {K:PySem.W.Frag} {x D:Addr} {ox:Obj} {od:Option Obj} (c:ExcF K D):PySem.W.KitX K (.ref x) (.ref D) (fun h=>PySem.W.InstAt h x ox D od) where
 ty:=fun _ _ _ I=>I.type
 it:=fun _ _ X _=>by
  obtain ⟨cd,hc,_⟩:=c.cl
  unfold PySem.W.clsIn at hc
  split at hc
  ·rename_i ho
   intro A' Q' E' s' k q
   unfold isType loadHead
   exact wpAny_bind (wpAny_loadPart (k _ _ (X _ _ ho)) (wpAny_pure q))
  ·cases hc
 ne:=fun h tp dd its n sl X htp=>by
  obtain ⟨cd,hc,_⟩:=c.cl
  refine Bool.eq_false_iff.mpr fun q=>?_
  obtain rfl:D=tp:=Value.ref.inj (beq_iff_eq.mp q)
  unfold PySem.W.clsIn at hc
  split at hc
  ·rename_i ho
   cases (X _ _ ho).symm.trans htp
  ·cases hc
 ca:=fun X I k=>by
  obtain ⟨cd,hc,_⟩:=c.cl
  refine exc_class X I c.ga c.gn c.be c.ob ?_ k
  unfold PySem.W.findObj
  rw [hc,Option.bind_some,c.cc,Option.bind_some]
  simp [c.cg,c.ct]
structure CalX (P:Program) (w:World) (K:PySem.W.Frag) (mg:Str→Option Value) (base:Heap) (x:Str) (k:Nat) (ps:List Str) (sp:Sp) (C:Addr) where
 f:Addr
 fd:FuncData
 oI:Obj
 exc:excK K C (some (.ref f))=true
 kp:PySem.W.keepIn K (.ref C)=true
 at_:mg x=some (.ref C)
 lk:K.lookup f=some oI
 fc:oI.cls=.type "function"
 ok:FnOk P w K mg base CX0 k f fd ps sp
 b:Binds K fd ps []
theorem pe_x {k:Nat} {ps:List Str} {sp:Sp} {x:Str} {p pos:Pos} {e:Expr} {es:List Expr} {t:TA} (c:CalX X.prog X.w X.K X.mg X.base x k ps sp C) (hr:Room (k+1) X.A) (ha:PA X (e :: es) t) (hg:Gl X x:=by rfl) (hdb:(x==("__debug__" : Str))=false:=by decide)
  (he:starEach (e :: es) X.env=(false,eval e X.env) :: starEach es X.env:=by rfl) (hpl:(backTo pos (starEach es X.env)).any (·.1)=false:=by rfl):PE X (.Call (.Name x p) (e :: es) [] pos) (tExc C sp t):=
 pe_exc c.exc c.kp c.at_ c.lk c.fc c.ok c.b hr ha hg hdb he hpl
end
theorem bt_ValueError:bootBuiltins "ValueError" = some (.type "ValueError"):=by decide +kernel
def clsBody (s:Stmt):List Stmt:=match s with
 | .ClassDef _ _ _ b _ _ _ _ _ _ _=>b
 | _=>[]
end L2
namespace L2
open PySem PySem.Spec PyProof.Rows
section
variable {P:Program} {w:World} {A:Around} {E:Value→Shared→Prop} {s:Shared}
end
section
variable {X:Cx}
inductive rNeEI (K:PySem.W.Frag) (x:V) (y:V) (H:Hp) (Q:VK):Prop
 | mk (a b xs:_) (h1:x=.ref a) (h2:y=.ref b) (h3:SqL K H a xs) (h4:SqL K H b []) (h5:Q (.bl (!xs.isEmpty)) H):rNeEI K x y H Q
def rNeE (K:PySem.W.Frag):R2:=fun x y H Q=>rNeEI K x y H Q
theorem op_neE {K:PySem.W.Frag} (hu:X.A.units < cLine) (hK:X.K=K:=by rfl):OpR X (compareOp .NotEq) (rNeE K):=by
 subst hK
 intro pins s σ H x y v u Q I rx ry h
 obtain ⟨a,b,xs,rfl,rfl,ha,hb,q⟩:=h
 cases xs with
 | nil=>exact op_neS hu rfl pins s σ H _ _ _ _ Q I rx ry ⟨a,b,[],[],rfl,rfl,.inl ⟨ha,hb⟩,rfl,rfl,q⟩
 | cons x xs=>
  cases rx
  cases ry
  obtain ⟨i1,r1,p1,_⟩:=I.list ha
  obtain ⟨i2,r2,p2,_⟩:=I.list hb
  refine SeqAt.RcNeAt.lists_lengths p1.isList p2.isList (by rw [size_of r1,size_of r2]; exact bne_iff_ne.mpr (by simp)) hu _ _ _ _ ⟨.bl true,H,I,rfl,q⟩
end
end L2
namespace L2
open PySem PySem.Spec PyProof.Rows
section
variable {P:Program} {w:World} {A:Around} {E:Value→Shared→Prop} {s:Shared} {d:Addr} {vs:List Value} {ep:Nat}
end
section
variable {X:Cx} {pins:List (Addr × Obj)} {σ:St} {H:Hp} {s:Shared} {x:Str} {k:Nat} {ps:List Str} {sp:Sp}
end
end L2
namespace L2
open PySem PySem.Spec PyProof.Rows
section
open PySem.W (KasT kas_asc kas_desc kas_tail3 kas_descPart kas_count kas_place kas_bin kas_sort kas_rev)
variable {n:Nat} {key:Nat→Nat} {p:Array Nat}
end
end L2
namespace L2
open PySem PySem.Spec PyProof.Rows
section
open PySem.W (kas_sort kas_ask kas_item)
variable {X:Cx} {pins:List (Addr × Obj)} {σ:St} {H:Hp} {s:Shared}
end
end L2
namespace L2
open PySem PySem.Spec PyProof.Rows
section
variable {P:Program} {w:World} {A:Around} {E:Value→Shared→Prop} {s:Shared}
def TextAt (D:List Str) (i:Nat) (v:Value):Prop:=∃ z t,D[i]? = some z∧v=.str z t
theorem loop_texts {R:Result→Shared→Prop} {I:Addr} {fp wr:List Addr} {G:Array GenState→Array GenState→Prop} {D:List Str} {St:Nat→Shared→Prop} (W:WalksS P w A.in1 I fp wr G D.length (TextAt D) St) (S:Addr) (hSf:S∉fp)
  (hb:D.length+1 < 4096):∀ (k i:Nat) (s:Shared) (o:Obj),D.length - i=k→i≤D.length→St i s→s.heap.get? S=some o→SetTx w o (D.take i) i→
   (∀ s' o',Moved (S :: wr) G s s'→s'.heap.get? S=some o'→SetTx w o' D D.length→R (.ok (.ret .none)) s')→
   codeAny (model P w) A (.builtin "set.update.loop" ⟨[.ref S,.ref I],[]⟩) R s:=by
 have hSw:S∉wr:=fun h=>hSf (W.sub _ h)
 have hsub:∀ b∈wr,b∈S :: wr:=fun b hb=>List.mem_cons_of_mem _ hb
 intro k
 induction k with
 | zero=>
  intro i s o hk hi hst ho hS hR
  have hin:i=D.length:=by omega
  subst hin
  refine codeAny_builtin PyProof.Rows.F.entry_set_update_loop ?_
  rw [Around.under_plainId PyProof.Rows.F.plain_set_update_loop _]
  show wpAny _ A.in1 (pyNext (.ref I) >>= _) _ _ s
  refine wpAny_bind (W.done s _ _ hst fun s' hm=>wpAny_pure (hR s' o (hm.mono hsub) (hm.heap S _ hSw ho) ?_))
  rw [List.take_of_length_le (Nat.le_refl _)] at hS
  exact hS
 | succ k ih=>
  intro i s o hk hi hst ho hS hR
  have hlt:i < D.length:=by omega
  refine codeAny_builtin PyProof.Rows.F.entry_set_update_loop ?_
  rw [Around.under_plainId PyProof.Rows.F.plain_set_update_loop _]
  show wpAny _ A.in1 (pyNext (.ref I) >>= _) _ _ s
  refine wpAny_bind (W.item i s _ _ hlt hst fun v s' hP hst' hm=>?_)
  obtain ⟨z,u,hz,rfl⟩:=hP
  show wpAny _ A.in1 (holding [Value.str z u] (setAdd S (.str z u)) >>= _) _ _ s'
  unfold setAdd
  refine wpAny_bind (wpAny_holding (wpAny_holding (wpAny_bind ?_)))
  refine (PySem.strKind P w).pyHash (k:=z) (by show Value.isStrOf z (.str z u)=true; simp [Value.isStrOf]) ?_
  refine add_text (s:={ s' with toks:=s'.toks+1 }) (hm.heap S _ hSw ho) hS (by omega) z u fun _ h' o' hsb e2 hS2=>?_
  have hS3:SetTx w o' (D.take (i+1)) (i+1):=by
   have e:D.take (i+1)=D.take i ++ [z]:=by rw [List.take_add_one,hz]; rfl
   rw [e]
   exact hS2
  refine wpAny_pure ⟨plainId_quiet PyProof.Rows.F.plain_set_update_loop _,ih (i+1) _ o' (by omega) hlt (W.frame _ s' _ _ hst' (Nat.le_succ _) fun b hb o e=>?_) e2 hS3 fun s'' o'' hm'' e'' hS''=>?_⟩
  ·exact (hsb.2 b (fun z:b=S=>hSf (z▸hb))).trans e
  ·exact hR s'' o'' (Moved.trans W.gtrans ((hm.mono hsub).then_heap (Nat.le_succ _) fun b o hb e=>(hsb.2 b (fun z:b=S=>hb (by rw [z]; exact List.mem_cons_self))).trans e) hm'') e'' hS''
theorem sub_list_set:isSubtype (.type "list") (.type "set")=pure false:=by rw [isSubtype_type]; kernel_rfl
theorem sub_list_frozenset:isSubtype (.type "list") (.type "frozenset")=pure false:=by rw [isSubtype_type]; kernel_rfl
theorem walks_texts {I l:Addr} (hh:A.handled=none) (hne:l≠I) {items:Array Value} {D:List Str} (hn:items.size=D.length) (hD:∀ (i:Nat) v,items[i]? = some v→TextAt D i v):Walks P w A I [I,l] [I] D.length (TextAt D) (fun i h=>h.IsListIter I l i∧h.IsList l items):=
 let W:=Walks.list (prog:=P) (w:=w) (A:=A) hh I l hne items
 {sub:=W.sub,frame:=W.frame,self:=W.self,done:=fun s Q E st hQ=>W.done s Q E (by rw [hn]; exact st) hQ
  item:=fun i s Q E hi st hQ=>W.item i s Q E (by rw [hn]; exact hi) st fun v h' tk p=>hQ v h' tk (hD i v p) }
set_option maxHeartbeats 3200000 in
theorem call_set_texts {Q:Value→Shared→Prop} (hh:A.handled=none) {l:Addr} {items:Array Value} {D:List Str} (hl:s.heap.IsList l items) (hn:items.size=D.length) (hD:∀ (i:Nat) v,items[i]? = some v→TextAt D i v) (hb:D.length+1 < 4096)
  (hQ:∀ h' tk o,(∀ b o,s.heap.get? b=some o→h'.get? b=some o)→h'.get? s.heap.objs.size=some o→SetTx w o D D.length→Q (.ref s.heap.objs.size) { s with heap:=h',toks:=tk }) :
  wpAny (model P w) A (call (.type "set") [.ref l]) Q E s:=by
 obtain ⟨c,tl,hmro⟩:=PySem.F.called_set.mro
 have hmade:=PySem.F.called_set.made
 have hsub:=PySem.F.called_set.sub
 refine wpAny_call (codeAny_of_tree ?_)
 show wpAny _ _ (callAny (.type "set") _) _ _ _
 refine wpAny_pure ⟨Code.quiet_builtin _ (by decide +kernel),codeAny_builtin PySem.F.entry_type_call ?_⟩
 rw [Around.under_plain (weight_type_call_type "set" [.ref l] []) rfl]
 have h1:=PySem.F.called_set.notType
 have h2:=PySem.F.called_set.canCreate
 have hct:=PySem.F.typeCall_set_1 (.ref l)
 repeat (any_goals (first | assumption | wp_step))
 refine codeAny_mono (new_text (.ref l) (E:=E) (Q₁:=fun obj s₁=>obj=.ref s.heap.objs.size∧s₁ = { s with heap:=s.heap.push (newSetObj w) }) ⟨rfl,rfl⟩) fun r s₁ hr=>?_
 cases r with
 | error e=>exact hr
 | ok fl=>
  cases fl with
  | ret obj=>
   obtain ⟨rfl,rfl⟩:=hr
   have hS:(s.heap.push (newSetObj w)).get? s.heap.objs.size=some (newSetObj w):=Heap.get?_push_size _ rfl
   have hT:Shared.TypeIs { s with heap:=s.heap.push (newSetObj w) } (.ref s.heap.objs.size) "set":=⟨_,hS,rfl⟩
   have hl1:(s.heap.push (newSetObj w)).IsList l items:=let ⟨o,e,r⟩:=hl; ⟨o,Heap.get?_push_of_some _ e,r⟩
   have ll:l < s.heap.objs.size:=let ⟨_,e,_⟩:=hl; Heap.lt_size e
   have hTl:Shared.TypeIs { s with heap:=s.heap.push (newSetObj w) } (.ref l) "list":=hl1.typeIs
   have hli:=PySem.F.called_set.init.lookup
   have hbi:=PySem.F.called_set.init.bind (.ref s.heap.objs.size)
   repeat (any_goals (first | assumption | wp_step))
   refine codeAny_mono (codeAny_call_builtin (R:=wants (fun r s₂=>r=.none∧∃ h' tk o,s₂ = { s with heap:=h',toks:=tk }∧(∀ b o,s.heap.get? b=some o→h'.get? b=some o)∧h'.get? s.heap.objs.size=some o∧
    SetTx w o D D.length) E) PySem.F.called_set.init.plain PySem.F.entry_set_init (check_set_init_1 hT ?_)) fun r₂ s₂ hr₂=>?_
   ·have hsls:=sub_list_set
    have hslf:=sub_list_frozenset
    have hne:(Value.type "list" == Value.type "dict")=false:=by decide
    have hS':(s.heap.push (newSetObj w)).get? s.heap.objs.size=some { cls:=.type "set",dict:=none,data:=.set #[] 0 (.fresh 0 0 (!w.params.followText "set-order")) }:=hS
    unfold Builtin.«set.__init__» noKeywords Builtin.Frozenset.updateFrom
    generalize hPI:pyIter=PI
    wp_walk
    subst hPI
    refine wpAny_pyIter_list hl1 (wpAny_bind (wpAny_runValue ?_))
    have sz:(s.heap.push (newSetObj w)).objs.size=s.heap.objs.size+1:=Heap.size_push _ _
    have hSf:s.heap.objs.size∉[(s.heap.push (newSetObj w)).objs.size,l]:=by
     rw [sz]
     intro z
     rcases List.mem_cons.mp z with z | z
     ·exact absurd z (Nat.ne_of_lt (Nat.lt_succ_self _))
     ·exact absurd (List.mem_singleton.mp z) (Nat.ne_of_gt ll)
    refine loop_texts (walks_texts (A:=A.in1.in1.in1) (by simp [hh]) (by rw [sz]; exact Nat.ne_of_lt (Nat.lt_succ_of_lt ll)) hn hD).toS s.heap.objs.size hSf hb (D.length - 0) 0 _ (newSetObj w) (by omega) (Nat.zero_le _) ?_ ?_ (newTx w) fun s' o' hm e' hS2=>?_
    ·obtain ⟨o,e,r⟩:=hl1
     exact ⟨⟨_,Heap.get?_push_size _ rfl,rfl,rfl⟩,⟨o,Heap.get?_push_of_some _ e,r⟩⟩
    ·exact Heap.get?_push_of_some _ hS
    obtain ⟨h',g',d',tk',os'⟩:=s'
    have eg:g'=s.gens:=hm.gens
    have ed:d'=s.drawn:=hm.drawn
    have eo:os'=s.os:=hm.os
    subst eg; subst ed; subst eo
    show wpAny _ _ _ _ _ _
    refine wpAny_pure (wpAny_pure ⟨rfl,h',tk',o',rfl,fun b o e=>?_,e',hS2⟩)
    have lt:=Heap.lt_size e
    refine hm.heap b o (fun z=>?_) (Heap.get?_push_of_some _ (Heap.get?_push_of_some _ e))
    rcases List.mem_cons.mp z with z | z
    ·exact Nat.lt_irrefl _ (z▸lt)
    ·have z2:=List.mem_singleton.mp z
     rw [Heap.size_push] at z2
     have:=z2▸lt
     exact Nat.lt_irrefl _ (Nat.lt_of_succ_lt this)
   ·cases r₂ with
    | error e=>exact hr₂
    | ok fl₂=>
     cases fl₂ with
     | ret r=>
      obtain ⟨rfl,h',tk,o,rfl,hk',e',hS'⟩:=hr₂
      repeat (any_goals (first | assumption | wp_step))
      exact hQ h' tk o hk' e' hS'
     | _=>exact hr₂.elim
  | _=>exact hr.elim
end
section
variable {X:Cx}
inductive rSetTI (K:PySem.W.Frag) (w:World) (xs:List V) (H:Hp) (Q:VK):Prop
 | mk (p zs:_) (h1:xs=[.ref p]) (h2:SqL K H p (zs.map V.str)) (h3:zs.length+1 < 4096) (h4:∀ l,H l=none→Q (.ref l) (upd H l (setH w l zs zs.length))):rSetTI K w xs H Q
def rSetT (K:PySem.W.Frag) (w:World):List V→Hp→VK→Prop:=fun xs H Q=>rSetTI K w xs H Q
theorem vals_texts {zs:List Str} {its:List Value} (r:Vals (zs.map V.str) its) (i:Nat) (v:Value) (h:its[i]? = some v):TextAt zs i v:=by
 have hi:i < its.length:=(List.getElem?_eq_some_iff.mp h).1
 have hl:i < zs.length:=by rw [← r.length,List.length_map] at hi; exact hi
 obtain ⟨u,hu,t,rfl⟩:=Vals.get (i:=i) (x:=V.str zs[i]) r (by rw [List.getElem?_map,List.getElem?_eq_getElem hl]; rfl)
 rw [h] at hu
 exact ⟨zs[i],t,List.getElem?_eq_getElem hl,Option.some.inj hu⟩
theorem call_set_l {K:PySem.W.Frag} (hc:X.calm=true) (hK:X.K=K:=by rfl):CallR X (.type "set") (rSetT K X.w):=by
 subst hK
 intro pins s σ H xs us Q I r h
 obtain ⟨p,zs,rfl,hp,hz,q⟩:=h
 obtain ⟨u,rfl,ru⟩:=vals1 r
 obtain rfl:u=Value.ref p:=ru
 obtain ⟨its,rv,pl,_⟩:=I.list hp
 have hl:its.length=zs.length:=by rw [← rv.length,List.length_map]
 refine call_set_texts (I.ok.hd hc) pl.isList (by rw [List.size_toArray]; exact hl) (fun i v e=>vals_texts rv i v (by simpa using e)) hz fun h' tk o k e sx=>?_
 exact ⟨.ref s.heap.objs.size,_,I.laid k (Nat.le_refl _) (show ObjOk X.prog X.w _ h' _ (setH X.w s.heap.objs.size zs zs.length) from ⟨⟨o,e,sx⟩,⟨o,e⟩,fun h1 h2 ⟨o1,e1,x1⟩ k1=>⟨o1,k1 o1 e1,x1⟩⟩),rfl,q _ (I.hok.fresh (Nat.le_refl _))⟩
end
end L2
namespace L2
open PySem PySem.Spec PyProof.Rows
section
variable {P:Program} {w:World} {A:Around} {E:Value→Shared→Prop} {s:Shared} {t r:Addr} {items:Array Value}
end
section
variable {X:Cx}
end
end L2
namespace L2
open PySem PySem.Spec PyProof.Rows
section
variable {X:Cx} {tg:Expr}
end
end L2
namespace L2
open PySem PySem.Spec PyProof.Rows
section
variable {P:Program} {w:World} {H:Hp} {h h':Heap} {f c a:Addr} {fd:FuncData} {q:Str}
end
section
variable {fs ex:List Addr} {H:Hp} {h h':Heap} {P c f:Addr} {o1 o2:HO} {ps more:Array Value}
def made (H:Hp) (P c f:Addr) (ps:Array Value) (o1 o2:HO):Hp:=upd (upd (upd H P (.tbl ps)) c o1) f o2
end
section
variable {X:Cx} {params:Arguments} {body:Expr} {scope:Scope} {pos:Pos} {c P:Addr} {L:List (Pos × Str)}
end
end L2
namespace L2
open PySem PySem.Spec PyProof.Rows
section
variable {P:Program} {w:World} {A:Around} {E:Value→Shared→Prop} {s:Shared} {r:Addr} {x:Str}
end
section
variable {X:Cx}
end
end L2
namespace L2
open PySem PySem.Spec PyProof.Rows
section
variable {X:Cx} {pins:List (Addr × Obj)} {σ:St} {H:Hp} {s:Shared}
end
section
variable {X:Cx}
end
end L2
namespace L2
open PySem PySem.Spec PyProof.Rows
section
variable {P:Program} {w:World} {H:Hp} {s:Shared}
end
section
variable {X:Cx}
end
end L2
namespace L2
open PySem PySem.Spec PyProof.Rows
section
variable {X:Cx} {tg:Expr}
end
end L2
namespace L2
open PySem PySem.Spec PyProof.Rows
section
variable {P:Program} {w:World} {A:Around} {E:Value→Shared→Prop} {s:Shared}
theorem drawT_item {it t:Addr} {i:Nat} {us:Array Value} {x:Value} {Q:Value→Shared→Prop} (hi:s.heap.IsTupleIter it t i) (ht:s.heap.IsTuple t us) (hx:us[i]? = some x)
  (q:∀ h',h'.IsTupleIter it t (i+1)→Heap.SameBut it s.heap h'→Q x { s with heap:=h' }):wpAny (model P w) A (Builtin.SmallTypes.nextOf (.ref it)) Q E s:=by
 obtain ⟨o,e0,ec,ed⟩:=id hi
 obtain ⟨ot,e1,_,n,e2⟩:=ht
 unfold Builtin.SmallTypes.nextOf
 refine wpAny_bind (wpAny_callSpecial?_slot (name:=Str.ofString "__next__") hi.typeIs F.slot_tuple_iterator_next (wpAny_call_entry F.slot_tuple_iterator_next hi.typeIs F.entry_tuple_iterator_next ?_ (F.args_tuple_iterator_next_1 _)))
 refine wpAny_bind (m:=field (.ref it) 0) (wpAny_field e0 ed (x:=.ref t) rfl ?_)
 show wpAny _ _ (ite ((Value.ref t==Value.none)=true) _ _) _ _ s
 refine (if_neg (show ¬ (Value.ref t==Value.none)=true from Bool.false_ne_true))▸?_
 refine wpAny_bind (m:=field (.ref it) 1) (wpAny_field e0 ed (x:=.int i 0) rfl ?_)
 refine wpAny_bind (m:=seqItems? (.ref t)) (wpAny_seqItems e1 e2 ?_)
 simp only [Int.toNat_natCast,hx]
 refine wpAny_bind (wpAny_setField e0 ed (by simp) (wpAny_pure ⟨x,rfl,wpAny_pure (q _ ⟨_,Heap.get?_update_self _ e0 (Obj.isFreed_of_fields (Obj.data_mapFields ed _)),(Obj.cls_mapFields ..).trans ec,?_⟩ (Heap.SameBut.update ..))⟩))
 rw [Obj.data_mapFields ed]
 simp [rawInt]
theorem drawT_end {it t:Addr} {i:Nat} {us:Array Value} {Q:Value→Shared→Prop} (hh:A.handled=none) (hi:s.heap.IsTupleIter it t i) (ht:s.heap.IsTuple t us) (hx:us[i]? = none)
  (q:∀ h' e,Heap.ExtBut it s.heap h'→(∃ o,h'.get? e=some o∧o.cls=.type "StopIteration")→E (.ref e) { s with heap:=h' }):wpAny (model P w) A (Builtin.SmallTypes.nextOf (.ref it)) Q E s:=by
 obtain ⟨o,e0,ec,ed⟩:=id hi
 obtain ⟨ot,e1,_,n,e2⟩:=ht
 unfold Builtin.SmallTypes.nextOf
 refine wpAny_bind (wpAny_callSpecial?_slot (name:=Str.ofString "__next__") hi.typeIs F.slot_tuple_iterator_next (wpAny_call_entry F.slot_tuple_iterator_next hi.typeIs F.entry_tuple_iterator_next ?_ (F.args_tuple_iterator_next_1 _)))
 refine wpAny_bind (m:=field (.ref it) 0) (wpAny_field e0 ed (x:=.ref t) rfl ?_)
 show wpAny _ _ (ite ((Value.ref t==Value.none)=true) _ _) _ _ s
 refine (if_neg (show ¬ (Value.ref t==Value.none)=true from Bool.false_ne_true))▸?_
 refine wpAny_bind (m:=field (.ref it) 1) (wpAny_field e0 ed (x:=.int i 0) rfl ?_)
 refine wpAny_bind (m:=seqItems? (.ref t)) (wpAny_seqItems e1 e2 ?_)
 simp only [Int.toNat_natCast,hx]
 refine wpAny_bind (wpAny_rule (wpAny_bind (wpAny_setField e0 ed (by simp) (wpAny_bind (m:=newExc (.type "StopIteration") []) ?_))))
 simp only [newExc,newTuple,raiseNew]
 refine wpAny_bind (wpAny_newObj_type (wpAny_bind (m:=firstArgMember _ _) (wpAny_of_eq (a:=Value.none) (by first | rfl | (simp only [firstArgMember]; rfl)) (wpAny_newObj_type ?_ (by size_fits)))) (by size_fits))
 refine wpAny_bind (wpAny_handled ?_)
 first | rw [show A.in1.handled=none from hh] | rw [hh]
 exact wpAny_bind (wpAny_pure (wpAny_throw (q _ _ (((Heap.SameBut.update ..).extBut.push _).push _) ⟨_,Heap.get?_push_size _ rfl,rfl⟩)))
theorem drawsT (hh:A.handled=none) (it t:Addr) (hne:t≠it) (us:Array Value):Draws P w A it [it,t] us.size (fun i v=>us[i]? = some v) (fun i h=>h.IsTupleIter it t i∧h.IsTuple t us) where
 live:=fun _ _ ⟨⟨o,e,_⟩,_⟩=>⟨o,e⟩
 frame:=fun _ _ _ ⟨a,b⟩ k=>⟨a.at fun o e=>k it (by simp) o e,b.at fun o e=>k t (by simp) o e⟩
 item:=fun i s Q E hi st q=>drawT_item st.1 st.2 (x:=us[i]) (by simp [hi]) fun h' a b=>q _ h' s.toks (by simp [hi]) ⟨a,st.2.extBut b.extBut hne⟩ b
 done:=fun s Q E st q=>drawT_end hh st.1 st.2 (by simp) q
open AutoSeq1 (wpAny_loadPart') in
theorem enumNewT (t:Addr) (us:Array Value) (n:Nat) (dx:Option Addr) (sl:Array (Option Value)) :
  Meets (Builtin.«enumerate.__new__» ⟨[.type "enumerate",.ref t],[]⟩) (fun _ R s=>s.heap.get? t=some { cls:=.type "tuple",dict:=dx,data:=.seq us n,slots:=sl }∧
   R (.ok (.ret (.ref (s.heap.push { cls:=.type "tuple_iterator",data:=.fields #[.ref t,.int 0 0] }).objs.size))) { s with heap:=(s.heap.push { cls:=.type "tuple_iterator",data:=.fields #[.ref t,.int 0 0] }).push { cls:=.type "enumerate",data:=.fields #[.none,.bool false,.ref s.heap.objs.size,rawInt 0,.none,.none] } }):=
 .of_wp fun prog w A R s h=>by
  obtain ⟨hp,g,d,tk,os⟩:=s
  obtain ⟨ht,q⟩:=h
  have hsub:=sub_enumerate
  have hT:Heap.IsTuple (Shared.heap ⟨hp,g,d,tk,os⟩) t us:=⟨_,ht,rfl,n,rfl⟩
  wp_walk using wpAny_loadPart' ht
  refine wpAny_stack_any fun st=>wpAny_pure ?_
  split
  ·rename_i c _ _ _ _ _
   cases (c==Value.type "enumerate") <;> (wp_walk using wpAny_loadPart' ht,wpAny_pyIter_tuple hT; exact ⟨_,rfl,q⟩)
  ·wp_walk using wpAny_loadPart' ht,wpAny_pyIter_tuple hT
   exact ⟨_,rfl,q⟩
theorem call_enumT {t:Addr} {us:Array Value} {Q:Value→Shared→Prop} (hT:s.heap.IsTuple t us)
  (q:∀ h',IsEnum h' (s.heap.objs.size+1) s.heap.objs.size 0 .none→h'.IsTupleIter s.heap.objs.size t 0→h'.objs.size=s.heap.objs.size+2→(∀ b o,s.heap.get? b=some o→h'.get? b=some o)→Q (.ref (s.heap.objs.size+1)) { s with heap:=h' }) :
  wpAny (model P w) A (call (.type "enumerate") [.ref t]) Q E s:=by
 obtain ⟨⟨c,dx,dt,sl⟩,ht,ec,n,ed⟩:=hT
 obtain rfl:c=.type "tuple":=ec
 obtain rfl:dt=.seq us n:=ed
 refine callType_new F.called_enumerate (by decide) (F.typeCall_enumerate_1 _) (F.newCall_enumerate_1 _) (fun obj=>F.args_object_init_2 obj _) F.entry_enumerate_new (enumNewT t us n dx sl) ⟨ht,?_⟩
 have z:(s.heap.push { cls:=.type "tuple_iterator",data:=.fields #[.ref t,.int 0 0] }).objs.size=s.heap.objs.size+1:=Heap.size_push ..
 show _∧_
 have en:=Heap.get?_push_size (s.heap.push { cls:=.type "tuple_iterator",data:=.fields #[.ref t,.int 0 0] }) (o:={ cls:=.type "enumerate",data:=.fields #[.none,.bool false,.ref s.heap.objs.size,rawInt 0,.none,.none] }) rfl
 rw [z] at en ⊢
 exact ⟨⟨_,en,rfl⟩,q _ en ⟨_,Heap.get?_push_of_some _ (Heap.get?_push_size _ rfl),rfl,rfl⟩ (by rw [Heap.size_push,z]) fun b o x=>Heap.get?_push_of_some _ (Heap.get?_push_of_some _ x)⟩
end
theorem Inv.turnedL {X:Cx} {pins:List (Addr × Obj)} {σ:St} {H:Hp} {s:Shared} {h':Heap} {t':Nat} {fp:List Addr} (I:Inv X pins σ H s) (k:∀ b o,b∉fp→s.heap.get? b=some o→h'.get? b=some o) (hf:∀ b∈fp,FpOk X pins H b) :
  Inv X pins σ H { s with heap:=h',toks:=t' }:=by
 have nit:∀ b u,H b=some u→b∉fp:=fun b u e z=>by rw [(hf b z).1] at e; cases e
 refine I.step (g':=s.gens) (d':=s.drawn) (ch:=fp) (fun b hb=>?_) (fun b o _ _ hc e _=>k b o hc e) (fun b o _ _ hc e _=>⟨o.slots,k b o hc e⟩) (fun _ _ _ _ n=>n) (fun b o hc e=>⟨o,k b o hc e⟩) (fun _ _ e=>e) (fun _ _ _ e=>e) (fun b ps e=>⟨#[],by rw [e]; simp⟩) (fun m hm=>?_) (fun b u e=>?_) I.bare
 ·obtain ⟨_,f1,_,f3,f4,f5⟩:=hf b hb
  exact ⟨f3,f1,f4,f5⟩
 ·obtain ⟨o,es,ep,ho,r⟩:=hm
  exact ⟨o,es,ep,k _ o (fun z=>(hf _ z).2.1 rfl) ho,r⟩
 ·refine (I.hok b u e).stay (fun c v hc q=>k c v (fun y=>?_) q) (fun _ q=>q) fun _ _ q=>q
  rcases hc with z | z
  ·rw [z] at y
   exact nit b u e y
  ·exact nit c _ z y
def ItE (Sq:Hp→List V→Prop):It:=
 ⟨fun i H=>∃ xs x,Sq H xs∧xs[i]? = some x,fun i H x H'=>∃ p y,x=.ref p∧H p=none∧H'=upd H p (.tup [.int i,y])∧∀ xs,Sq H xs→xs[i]? = some y,fun i H=>∃ xs,Sq H xs∧xs.length=i⟩
theorem enum_step {X:Cx} {pins:List (Addr × Obj)} {σ:St} {H:Hp} {s:Shared} {h1 h2:Heap} {e it:Addr} {i:Nat} {tk t':Nat} {u:Value} {y:V} (I:Inv X pins σ H s) (hf:∀ b∈[e,it],FpOk X pins H b) (ru:RelV y u)
  (ht:h1.get? s.heap.objs.size=some { cls:=.type "tuple",data:=.seq #[.int i tk,u] }) (k:∀ b o,b≠e→b≠it→s.heap.get? b=some o→h1.get? b=some o) (sb:Heap.SameBut e h1 h2) (hel:e < s.heap.objs.size) (hil:it < s.heap.objs.size) :
  Inv X pins σ (upd H s.heap.objs.size (.tup [.int i,y])) { s with heap:=h2,toks:=t' }∧∀ b∈[e,it],upd H s.heap.objs.size (.tup [.int i,y]) b=none:=by
 have hn:∀ b∈[e,it],upd H s.heap.objs.size (.tup [.int i,y]) b=none:=fun b hb=>by
  have hb':b=e∨b=it:=by simpa using hb
  have hlt:b < s.heap.objs.size:=by
   rcases hb' with z | z
   ·rw [z]; exact hel
   ·rw [z]; exact hil
  rw [upd_ne (Nat.ne_of_lt hlt)]
  exact (hf b hb).1
 have I1:Inv X pins σ (upd H s.heap.objs.size (.tup [.int i,y])) { s with heap:=s.heap.push { cls:=.type "tuple",data:=.seq #[.int i tk,u] },toks:=s.toks }:=
  I.laid (fun b o q=>Heap.get?_push_of_some _ q) (Nat.le_refl _) ⟨(by show 2≤sizeLine; decide),[.int i tk,u],.cons ⟨tk,rfl⟩ (.cons ru .nil),⟨_,Heap.get?_push_size _ rfl,rfl,_,rfl⟩⟩
 have I2:=I1.turnedL (fp:=[e,it]) (h':=h2) (t':=t') (fun b o hb q=>?_) (fun b hb=>⟨hn b hb,(hf b hb).2⟩)
 ·exact ⟨I2,hn⟩
 have hb1:b≠e:=fun z=>hb (by simp [z])
 have hb2:b≠it:=fun z=>hb (by simp [z])
 refine (sb.2 b hb1).trans ?_
 rcases Heap.get?_push_cases q with ⟨z1,z2⟩ | z
 ·rw [z1,z2]
  exact ht
 ·exact k b o hb1 hb2 z
theorem turn_enumL {P:Program} {w:World} {K:PySem.W.Frag} {es:List Expr} {n:Nat} {pos:Pos} (a e it:Addr) (hei:e≠it) :
  Turn P w K (.Tuple es n pos) (ItE fun H xs=>SqL K H a xs) [e,it] e (fun i h=>(∃ old,IsEnum h e it i old)∧h.IsListIter it a i) where
 mem:=by simp
 obj:=fun i h st b hb=>by
  obtain ⟨⟨old,he⟩,oi,e1,c1,d1⟩:=st
  have hb':b=e∨b=it:=by simpa using hb
  rcases hb' with z | z
  ·subst z
   exact ⟨_,he,fun v z=>by cases z⟩
  ·subst z
   exact ⟨oi,e1,fun v z=>by rw [d1] at z; cases z⟩
 keep:=fun i h h' st k=>⟨let ⟨old,he⟩:=st.1; ⟨old,k e (by simp) _ he⟩,st.2.at fun o q=>k it (by simp) o q⟩
 item:=by
  intro X hP hw hK hc i pins s σ H E I hf st hg
  subst hP hw hK
  obtain ⟨xs,x,hq,hx⟩:=hg
  obtain ⟨its,rv,p,hz⟩:=I.list hq
  obtain ⟨u,hu,ru⟩:=rv.get hx
  obtain ⟨⟨old,he⟩,hit⟩:=st
  have hel:=Heap.lt_size he
  have hil:it < s.heap.objs.size:=by obtain ⟨o,q,_⟩:=id hit; exact Heap.lt_size q
  refine wpAny_pyNext_enum_item he hit p.isList (x:=u) (by simpa using hu) hei fun h1 heo hit1 ht1 hz1 hk1=>⟨_,rfl,?_⟩
  refine wpAny_letOwnedTupleGo_enum heo fun h2 he2 sb=>?_
  obtain ⟨I2,hn⟩:=enum_step (t':=s.toks+1) I hf ru ht1 hk1 sb hel hil
  exact ⟨.ref s.heap.objs.size,_,I2,rfl,⟨_,x,rfl,I.hok.fresh (Nat.le_refl _),rfl,fun ys hy=>by rw [I.list_inj hy hq]; exact hx⟩,⟨⟨_,by simpa using he2⟩,hit1.at fun o q=>(sb.2 it (Ne.symm hei)).trans q⟩,hn⟩
 done:=by
  intro X hP hw hK hc i pins s σ H E I hf st hg
  subst hP hw hK
  obtain ⟨xs,hq,hx⟩:=hg
  obtain ⟨its,rv,p,hz⟩:=I.list hq
  have hl:=rv.length
  obtain ⟨⟨old,he⟩,hit⟩:=st
  obtain ⟨f0,f1,f2,f3,f4,f5⟩:=hf it (by simp)
  exact wpAny_pyNext_enum_end (I.ok.hd hc) he hit p.isList (by simp; omega) fun h' eb=>⟨rfl,I.turned (t':=s.toks) (fun b o hb q=>eb b o hb q) f0 f1 f3 f4 f5⟩
 self:=fun _ _ _ _ _ st h=>let ⟨_,he⟩:=st.1; wpAny_pyIter_enum he h
theorem turn_enumT {P:Program} {w:World} {K:PySem.W.Frag} {es:List Expr} {n:Nat} {pos:Pos} (a e it:Addr) (hei:e≠it) :
  Turn P w K (.Tuple es n pos) (ItE fun H xs=>SqT K H a xs) [e,it] e (fun i h=>(∃ old,IsEnum h e it i old)∧h.IsTupleIter it a i) where
 mem:=by simp
 obj:=fun i h st b hb=>by
  obtain ⟨⟨old,he⟩,oi,e1,c1,d1⟩:=st
  have hb':b=e∨b=it:=by simpa using hb
  rcases hb' with z | z
  ·subst z
   exact ⟨_,he,fun v z=>by cases z⟩
  ·subst z
   exact ⟨oi,e1,fun v z=>by rw [d1] at z; cases z⟩
 keep:=fun i h h' st k=>⟨let ⟨old,he⟩:=st.1; ⟨old,k e (by simp) _ he⟩,st.2.at fun o q=>k it (by simp) o q⟩
 item:=by
  intro X hP hw hK hc i pins s σ H E I hf st hg
  subst hP hw hK
  obtain ⟨xs,x,hq,hx⟩:=hg
  obtain ⟨its,rv,p,hz⟩:=I.tuple hq
  have hl:=rv.length
  have hlt:i < its.toArray.size:=by
   have:=(List.getElem?_eq_some_iff.mp hx).1
   simp
   omega
  obtain ⟨⟨old,he⟩,hit⟩:=st
  have hel:=Heap.lt_size he
  have hT:s.heap.IsTuple a its.toArray:=p
  have hil:it < s.heap.objs.size:=by obtain ⟨o,q,_⟩:=id hit; exact Heap.lt_size q
  have nat:a≠it:=fun z=>by
   obtain ⟨o,q,c,_⟩:=id hit
   obtain ⟨o2,q2,c2,_⟩:=id hT
   rw [z,q] at q2
   cases q2
   rw [c] at c2
   injection c2 with c2
   exact absurd c2 (by decide)
  have nae:a≠e:=fun z=>by
   obtain ⟨o2,q2,c2,_⟩:=id hT
   rw [z,he] at q2
   cases q2
   injection c2 with c2
   exact absurd c2 (by decide)
  have hef:e∉[it,a]:=by simp [hei,Ne.symm nae]
  refine wpAny_pyNext_enum_itemD (drawsT (A:=X.A.in1) (I.ok.hd hc) it a nat its.toArray) he ⟨hit,hT⟩ hlt hei hef fun u h1 tk hu heo hit1 ht1 hz1 hk1=>⟨_,rfl,?_⟩
  refine wpAny_letOwnedTupleGo_enum heo fun h2 he2 sb=>?_
  obtain ⟨u',hu',ru⟩:=rv.get hx
  have eu:u=u':=by
   have h3:its[i]? = some u:=by simpa using hu
   rw [hu'] at h3
   exact (Option.some.inj h3).symm
  subst eu
  obtain ⟨I2,hn⟩:=enum_step (t':=tk+1) I hf ru ht1 hk1 sb hel hil
  exact ⟨.ref s.heap.objs.size,_,I2,rfl,⟨_,x,rfl,I.hok.fresh (Nat.le_refl _),rfl,fun ys hy=>by rw [I.tuple_inj hy hq]; exact hx⟩,⟨⟨_,by simpa using he2⟩,hit1.1.at fun o q=>(sb.2 it (Ne.symm hei)).trans q⟩,hn⟩
 done:=by
  intro X hP hw hK hc i pins s σ H E I hf st hg
  subst hP hw hK
  obtain ⟨xs,hq,hx⟩:=hg
  obtain ⟨its,rv,p,hz⟩:=I.tuple hq
  have hl:=rv.length
  obtain ⟨⟨old,he⟩,hit⟩:=st
  have hT:s.heap.IsTuple a its.toArray:=p
  have nat:a≠it:=fun z=>by
   obtain ⟨o,q,c,_⟩:=id hit
   obtain ⟨o2,q2,c2,_⟩:=id hT
   rw [z,q] at q2
   cases q2
   rw [c] at c2
   injection c2 with c2
   exact absurd c2 (by decide)
  obtain ⟨f0,f1,f2,f3,f4,f5⟩:=hf it (by simp)
  have ei:i=its.toArray.size:=by simp; omega
  subst ei
  exact wpAny_pyNext_enum_endD (drawsT (A:=X.A.in1) (I.ok.hd hc) it a nat its.toArray) he ⟨hit,hT⟩ fun h' eb=>⟨rfl,I.turned (t':=s.toks) (fun b o hb q=>eb b o hb q) f0 f1 f3 f4 f5⟩
 self:=fun _ _ _ _ _ st h=>let ⟨_,he⟩:=st.1; wpAny_pyIter_enum he h
section
variable {X:Cx} {es:List Expr} {n:Nat} {tp:Pos}
def iEnum (K:PySem.W.Frag) (te:TE):TI:=fun σ H R=>te σ H fun x H1=>∃ a xs,x=.ref a∧((SqL K H1 a xs∧R (ItE fun H xs=>SqL K H a xs) H1)∨(SqT K H1 a xs∧R (ItE fun H xs=>SqT K H a xs) H1))
theorem pi_enum {K:PySem.W.Frag} {e:Expr} {te:TE} {p pos:Pos} (hg:Gl X "enumerate") (hm:X.mg "enumerate" = none) (he:PE X e te) (hK:X.K=K:=by rfl)
  (h2:starEach [e] X.env=(false,eval e X.env) :: starEach [] X.env:=by rfl):PI X (.Tuple es n tp) (.Call (.Name "enumerate" p) [e] [] pos) (iEnum K te):=by
 subst hK
 intro pins s σ H R I h
 refine wpAny_Call_Name_kw (ld_blt I hg hm bt_enumerate (PyProof.Rows.callWith_type1 (thn (pa_cons he pa_nil h2 pos pins s σ H (fun vs H1=>match vs with | [x]=>∃ a xs,x=.ref a∧((SqL X.K H1 a xs∧R (ItE fun H xs=>SqL X.K H a xs) H1)∨(SqT X.K H1 a xs∧R (ItE fun H xs=>SqT X.K H a xs) H1)) | _=>False) I h) fun us s1 ⟨vs,H1,I1,r1,q1⟩=>?_) h2 rfl))
 obtain ⟨x0,e0,a,xs,e1,q⟩:∃ x0,vs=[x0]∧∃ a xs,x0=.ref a∧((SqL X.K H1 a xs∧R (ItE fun H xs=>SqL X.K H a xs) H1)∨(SqT X.K H1 a xs∧R (ItE fun H xs=>SqT X.K H a xs) H1)):=by
  match vs,q1 with
  | [x0],q1=>exact ⟨x0,rfl,q1⟩
 subst e0 e1
 obtain ⟨u,rfl,ru⟩:=Vals.one r1
 obtain rfl:u=Value.ref a:=ru
 have fp:∀ b∈[s1.heap.objs.size+1,s1.heap.objs.size],FpOk X pins H1 b:=fun b hb=>by
  have hb':b=s1.heap.objs.size+1∨b=s1.heap.objs.size:=by simpa using hb
  rcases hb' with z | z
  ·rw [z]; exact I1.fpOk (Nat.le_succ _) (I1.hok.fresh (Nat.le_succ _))
  ·rw [z]; exact I1.fpOk (Nat.le_refl _) (I1.hok.fresh (Nat.le_refl _))
 rcases q with ⟨hx,q⟩ | ⟨hx,q⟩
 ·obtain ⟨its,rv,pl,hz⟩:=I1.list hx
  refine call_enumerate_list pl.isList fun h' hE hI hsz hk=>wpAny_pyIter_enum hE ?_
  exact ⟨_,[s1.heap.objs.size+1,s1.heap.objs.size],_,_,H1,rfl,I1.kept (t':=s1.toks) hk,turn_enumL a _ _ (Nat.succ_ne_self _),⟨⟨_,hE⟩,hI⟩,fp,q⟩
 ·obtain ⟨its,rv,pl,hz⟩:=I1.tuple hx
  refine call_enumT (show s1.heap.IsTuple a its.toArray from pl) fun h' hE hI hsz hk=>wpAny_pyIter_enum hE ?_
  exact ⟨_,[s1.heap.objs.size+1,s1.heap.objs.size],_,_,H1,rfl,I1.kept (t':=s1.toks) hk,turn_enumT a _ _ (Nat.succ_ne_self _),⟨⟨_,hE⟩,hI⟩,fp,q⟩
end
theorem for_enum {Sq:Hp→List V→Prop} {xs:List V} {g:TG} {tb:TS} {D:Ends} {σ:St} {H:Hp} (Pv:Nat→St→Hp→Prop) (h0:Pv 0 σ H) (hl:∀ i σ H,i≤xs.length→Pv i σ H→Sq H xs)
  (hs:∀ i x σ H p,xs[i]? = some x→Pv i σ H→H p=none→g (.ref p) σ (upd H p (.tup [.int i,x])) fun σ2 H2=>tb { D with nx:=Pv (i+1),ct:=Pv (i+1),bk:=D.nx } σ2 H2) (hd:∀ σ H,Pv xs.length σ H→D.nx σ H) :
  ∃ W:Nat→Nat→St→Hp→Prop,(∃ m,W 0 m σ H)∧∀ i m σ H,W i m σ H→
   ((ItE Sq).stop i H∧D.nx σ H)∨((ItE Sq).go i H∧∃ N:St→Hp→Prop,(∀ σ' H',N σ' H'→∃ m',m' < m∧W (i+1) m' σ' H')∧∀ x H',(ItE Sq).yld i H x H'→g x σ H' fun σ2 H2=>tb { D with nx:=N,ct:=N,bk:=D.nx } σ2 H2):=by
 refine ⟨fun i m σ H=>m=xs.length - i∧i≤xs.length∧Pv i σ H,⟨xs.length,by simp,Nat.zero_le _,h0⟩,?_⟩
 rintro i m σ H ⟨rfl,hi,p⟩
 have q:=hl i σ H hi p
 by_cases hlt:i < xs.length
 ·refine .inr ⟨⟨xs,xs[i],q,by simp [hlt]⟩,Pv (i+1),fun σ' H' p'=>⟨xs.length - (i+1),by omega,rfl,hlt,p'⟩,fun x H' y=>?_⟩
  obtain ⟨a,y,e1,hn,e2,hy⟩:=y
  subst e1 e2
  exact hs i y σ H a (hy xs q) p hn
 ·have e:i=xs.length:=by omega
  subst e
  exact .inl ⟨⟨xs,q,rfl⟩,hd σ H p⟩
end L2
namespace L2
open PySem PySem.Spec PyProof.Rows
section
variable {P:Program} {w:World} {κ:Type} [DecidableEq κ] {knd:HeapKind P w κ} {A:Around} {E:Value→Shared→Prop} {s:Shared}
end
section
variable {X:Cx}
end
end L2
namespace L2
open PySem PySem.Spec PyProof.Rows
section
variable {X:Cx} {pos:Pos}
end
end L2
namespace L2
open PySem PySem.Spec PyProof.Rows
section
variable {X:Cx}
end
end L2
namespace L2
open PySem PySem.Spec PyProof.Rows
section
variable {X:Cx} {name:Str} {params:Arguments} {body:List Stmt} {scope:Scope} {pos:Pos} {c P:Addr} {L:List (Pos × Str)} {i:Nat}
end
end L2
namespace L2
open PySem PySem.Spec PyProof.Rows
section
variable {P:Program} {w:World} {κ:Type} [DecidableEq κ] {knd:PySem.KeyKind P w κ} {A:Around} {E:Value→Shared→Prop} {s:Shared}
open AutoSeq1 (wpAny_loadPart') in
end
section
variable {X:Cx} {ex:List Expr} {n:Nat} {tp:Pos}
end
end L2
namespace L2
open PySem PySem.Spec PyProof.Rows
section
variable {P:Program} {w:World} {κ:Type} [DecidableEq κ] {knd:HeapKind P w κ} {A:Around} {E:Value→Shared→Prop} {s:Shared}
end
section
variable {X:Cx}
end
end L2
namespace L2
open PySem PySem.Spec PyProof.Rows
section
variable {X:Cx}
end
end L2
namespace L2
open PySem PySem.Spec PyProof.Rows
section
variable {P:Program} {w:World} {A:Around} {E:Value→Shared→Prop} {s:Shared} {it d:Addr} {i ep:Nat} {es:Array DictEntry}
open AutoSeq1 (wpAny_loadPart') in
end
section
variable {X:Cx} {tg:Expr}
end
section
variable {X:Cx} {ex:List Expr} {n:Nat} {tp:Pos}
end
end L2
namespace L2
open PySem PySem.Spec PyProof.Rows
end L2
namespace L2
open PySem PySem.Spec PyProof.Rows
open AutoSeq1 (wpAny_loadPart') in
open AutoSeq1 (wpAny_loadPart') in
section
variable {X:Cx}
end
end L2
namespace L2
open PySem PySem.Spec PyProof.Rows
def Fly (h:Heap) (e C:Addr) (d:Option Addr):Prop:=∃ (oe:Obj) (vs:Array Value),h.get? e=some oe∧oe.cls=.ref C∧oe.dict=d∧oe.data=.fields vs∧1 < vs.size∧
 (vs[1]? = some .none∨∃ T oT ts,vs[1]? = some (.ref T)∧h.get? T=some oT∧oT.data=.fields ts∧ts[3]? = some .none)
def exR (a C:Addr) (d:Option Addr):HO:=.ext fun h=>∃ (oe:Obj) (vs:Array Value),h.get? a=some oe∧oe.cls=.ref C∧oe.dict=d∧oe.data=.fields vs∧1 < vs.size
theorem exR_ok {P:Program} {w:World} {H:Hp} {h:Heap} {a C:Addr} {d:Option Addr} (q:∃ (oe:Obj) (vs:Array Value),h.get? a=some oe∧oe.cls=.ref C∧oe.dict=d∧oe.data=.fields vs∧1 < vs.size):ObjOk P w H h a (exR a C d):=
 ⟨q,let ⟨o,_,e,_⟩:=q; ⟨o,e⟩,fun _ _ ⟨o,vs,e,r⟩ k=>⟨o,vs,k _ e,r⟩⟩
theorem Fly.there {h:Heap} {a C:Addr} {d:Option Addr} (F:Fly h a C d):∃ (oe:Obj) (vs:Array Value),h.get? a=some oe∧oe.cls=.ref C∧oe.dict=d∧oe.data=.fields vs∧1 < vs.size:=
 let ⟨o,vs,e,c,q,f,z,_⟩:=F; ⟨o,vs,e,c,q,f,z⟩
section
variable {M:Model} {A:Around} {E:Value→Shared→Prop} {s:Shared} {base:Heap} {env:Env} {outer:List Env} {L e C:Addr} {d:Option Addr}
def NoteK (env:Env) (outer:List Env) (e:Addr) (h h':Heap):Prop:=
 (∀ b o,b≠e→b∉frs (env :: outer)→h.get? b=some o→h'.get? b=some o)∧∀ b o,b≠e→h.get? b=some o→∃ sl,h'.get? b=some { o with slots:=sl }
theorem entry_ok {oe:Obj} {vs:Array Value} {hd0:Value} {had:Bool} {Q:Unit→Shared→Prop} (hfr:A.frames=some (env :: outer)) (hl:s.heap.FunFrames base (env :: outer)) (hf:env.frame=some L)
  (he:s.heap.get? e=some oe) (hc:oe.cls=.ref C) (hdd:oe.dict=d) (hv:oe.data=.fields vs) (hz:1 < vs.size) (h:∀ h',NoteK env outer e s.heap h'→Fly h' e C d→Q () { s with heap:=h' }) :
  wpAny M A (do let fr ← frameOf env; let pl ← entryPlaceOf L had; let en ← EntryCells.newEntry hd0 fr .none (rawInt L) .none pl; setField (.ref e) 1 en) (fun _ s'=>wpAny M A (setFlight (.ref e) none) Q E s') E s:=by
 have nfr:e∉(env :: outer).filterMap (·.frame):=fun z=>by
  obtain ⟨_,o,q,nf⟩:=hl.mem z
  rw [he] at q
  cases q
  exact nf vs hv
 refine wpAny_bind (wpAny_frameOf_fun hfr hl hf fun h1 k1=>?_)
 refine wpAny_bind (wpAny_entryPlaceOf fun pl hpl=>?_)
 unfold EntryCells.newEntry newFields
 have sz5:=hpl.sizeOk5 hd0 (.ref L) .none (rawInt L) .none
 refine wpAny_bind (wpAny_newObj_type ?_ (hpl.sizeOk5 _ _ _ _ _))
 have g1:h1.get? e=some oe:=(k1.2.1 e nfr).trans he
 have ht3:(([hd0,.ref L,.none,rawInt L,.none] ++ (if pl.isEmpty then List.replicate 6 Value.none else pl)).toArray)[3]? = some (rawInt L):=by simp
 have hts:3 < (([hd0,.ref L,.none,rawInt L,.none] ++ (if pl.isEmpty then List.replicate 6 Value.none else pl)).toArray).size:=(Array.getElem?_eq_some_iff.mp ht3).1
 generalize hoT:([hd0,.ref L,.none,rawInt L,.none] ++ (if pl.isEmpty then List.replicate 6 Value.none else pl)).toArray=ts at ht3 hts
 have g2:=Heap.get?_push_of_some (h:=h1) { cls:=.type "traceback",dict:=none,data:=.fields ts } g1
 refine wpAny_setField g2 hv hz ?_
 have nT:h1.objs.size≠e:=Nat.ne_of_gt (Heap.lt_size g1)
 have v3:=Obj.data_mapFields hv (·.setIfInBounds 1 (Value.ref h1.objs.size))
 have g3:=Heap.get?_update_self (Obj.mapFields (·.setIfInBounds 1 (Value.ref h1.objs.size))) g2 (Obj.isFreed_of_fields v3)
 have t3:((h1.push { cls:=.type "traceback",dict:=none,data:=.fields ts }).update e (Obj.mapFields (·.setIfInBounds 1 (Value.ref h1.objs.size)))).get? h1.objs.size=some { cls:=.type "traceback",dict:=none,data:=.fields ts }:=
  (Heap.get?_update_other _ _ (Ne.symm nT)).trans (Heap.get?_push_size h1 rfl)
 unfold setFlight
 refine wpAny_bind (wpAny_field g3 v3 (x:=.ref h1.objs.size) (by simp [hz]) ?_)
 rw [if_pos (by simp)]
 refine wpAny_setField t3 rfl hts (h _ ⟨fun b o nb nf q=>?_,fun b o nb q=>?_⟩ ?_)
 ·have q1:h1.get? b=some o:=(k1.2.1 b nf).trans q
  rw [Heap.get?_update_other _ _ (Nat.ne_of_gt (Heap.lt_size q1)),Heap.get?_update_other _ _ (Ne.symm nb)]
  exact Heap.get?_push_of_some _ q1
 ·obtain ⟨sl,q1⟩:=k1.2.2 b o q
  refine ⟨sl,?_⟩
  rw [Heap.get?_update_other _ _ (Nat.ne_of_gt (Heap.lt_size q1)),Heap.get?_update_other _ _ (Ne.symm nb)]
  exact Heap.get?_push_of_some _ q1
 ·refine ⟨_,_,(Heap.get?_update_other _ _ nT).trans g3,(Obj.cls_mapFields _ _).trans hc,?_,v3,by simpa using hz,.inr ⟨h1.objs.size,_,_,by simp [hz],Heap.get?_update_self _ t3 (Obj.isFreed_of_fields (Obj.data_mapFields rfl _)),Obj.data_mapFields rfl _,?_⟩⟩
  ·cases oe
   cases hv
   exact hdd
  ·rw [Array.getElem?_setIfInBounds_self_of_lt hts]
   rfl
theorem note_ok {Q:Unit→Shared→Prop} (hfr:A.frames=some (env :: outer)) (hl:s.heap.FunFrames base (env :: outer)) (hf:env.frame=some L) (F:Fly s.heap e C d) (h:∀ h',NoteK env outer e s.heap h'→Fly h' e C d→Q () { s with heap:=h' }) :
  wpAny M A (noteFrame (.ref e) env) (fun _ s'=>wpAny M A (setFlight (.ref e) none) Q E s') E s:=by
 obtain ⟨oe,vs,he,hc,hdd,hv,hz,hT⟩:=F
 unfold noteFrame
 simp only [hf]
 rcases hT with h1 | ⟨T,oT,ts,h1,hT,hdT,h3⟩
 ·refine wpAny_bind (wpAny_field he hv h1 ?_)
  rw [if_neg (by decide)]
  exact entry_ok hfr hl hf he hc hdd hv hz h
 ·refine wpAny_bind (wpAny_field he hv h1 ?_)
  rw [if_pos (by simp)]
  refine wpAny_bind (wpAny_field hT hdT h3 ?_)
  rw [if_neg (show ¬ ((Value.none==rawInt L)=true) from by simp [rawInt])]
  refine wpAny_bind (wpAny_setField hT hdT (Array.getElem?_eq_some_iff.mp h3).1 ?_)
  rw [Heap.update_setField_same s.heap T oT ts 3 .none hT hdT h3]
  exact entry_ok hfr hl hf he hc hdd hv hz h
end
def CXE (P:Program) (w:World):CXT:=fun outer H s E e s'=>∃ (a C:Addr) (d:Option Addr) (H':Hp),e=.ref a∧s'.os=s.os∧AllBare s'.gens∧Un (frs outer) [] H H' s.heap s'.heap∧HOk P w H' s'.heap∧Fly s'.heap a C d∧H' a=some (exR a C d)∧E (.ref a) none H'
section
variable {X:Cx} {pins:List (Addr × Obj)} {σ:St} {H:Hp} {s:Shared} {a C:Addr} {d:Option Addr} {M:Model} {A:Around} {E':Value→Shared→Prop}
theorem note_inv {Q:Unit→Shared→Prop} (I:Inv X pins σ H s) (hA:A.frames=some X.stack) (hst:X.stack=X.env :: X.outer) (hfr:X.env.frame=some X.env.locals) (ha:H a=some (exR a C d)) (F:Fly s.heap a C d)
  (h:∀ h',Inv X pins σ H { s with heap:=h' }→Fly h' a C d→Q () { s with heap:=h' }):wpAny M A (noteFrame (.ref a) X.env) (fun _ s'=>wpAny M A (setFlight (.ref a) none) Q E' s') E' s:=by
 refine note_ok (base:=X.base) (outer:=X.outer) (by rw [hA,hst]) (by rw [← hst]; exact I.stack) hfr F fun h' ⟨k1,k2⟩ F'=>h h' ?_ F'
 have na:∀ b,H b=none→b≠a:=fun b n z=>by rw [z,ha] at n; cases n
 refine I.call (g':=s.gens) (t':=s.toks) (d':=s.drawn) (ch:=[]) ⟨fun b o q n nf _=>k1 b o (na b n) (by rw [← hst]; exact nf) q,fun b o q n _ _=>k2 b o (na b n) q,fun b o q n _=>n,fun b o q _=>?_,fun _ _ q=>q,fun _ _ _ q=>q,fun b ps q=>⟨#[],by rw [q]; simp⟩⟩ (fun b o q=>?_) I.bare (fun b z=>absurd z (by simp))
 ·by_cases z:b=a
  ·obtain ⟨oe,_,e,_⟩:=F'
   exact ⟨oe,by rw [z]; exact e⟩
  ·obtain ⟨sl,e⟩:=k2 b o z q
   exact ⟨_,e⟩
 ·by_cases z:b=a
  ·subst z
   rw [ha] at q
   cases q
   exact exR_ok F'.there
  ·refine (I.hok b o q).stay (fun c v hc r=>k1 c v ?_ ?_ r) (fun _ r=>r) fun _ _ r=>r
   ·rintro rfl
    rcases hc with rfl | hc
    ·exact z rfl
    ·rw [ha] at hc; cases hc
   ·intro hm
    rw [← hst] at hm
    have:=I.stkFree c hm
    rcases hc with rfl | hc
    ·rw [q] at this; cases this
    ·rw [hc] at this; cases this
end
def RX (X:Cx) (E:St→XK):Prop:=∀ (pins:List (Addr × Obj)) (σ:St) (H:Hp) (s:Shared) (a C:Addr) (d:Option Addr),Inv X pins σ H s→H a=some (exR a C d)→Fly s.heap a C d→E σ (.ref a) none H→X.xe (.ref a) s
theorem rx_def {P:Program} {w:World} {K:PySem.W.Frag} {mg:Str→Option Value} {base:Heap} {N:List Str} {qual:Str} {scope:Scope} {f:Addr} {cd:Value} {A:Around} {outer:List Env} {s:Shared} {H:Hp} {E:XK} :
  RX (cxOf (CXE P w) P w K mg base N qual scope f cd A outer s H E) fun _=>E:=by
 intro pins σ H1 s1 a C d I ha F e
 refine wpAny_bind (note_inv I I.ok.frames rfl rfl ha F fun h' I' F'=>?_)
 exact ⟨a,C,d,H1,rfl,I'.os,I'.bare,I'.base,I'.hok,F',ha,e⟩
section
variable {X:Cx} {E:St→XK}
def tCallX (sp:Sp) (E:St→XK) (t:TA):TE:=fun σ H Q=>t σ H fun vs H1=>sp vs H1 Q (E σ)
theorem run_fnX {k:Nat} {f:Addr} {fd:FuncData} {ps:List Str} {sp:Sp} {pins:List (Addr × Obj)} {σ:St} {H:Hp} {s:Shared} {Q:VK} {us:List Value} {vs:List V} (F:FnOk X.prog X.w X.K X.mg X.base (CXE X.prog X.w) k f fd ps sp) (hr:Room k X.A) (hb:Binds X.K fd ps []) (hx:RX X E)
  (I:Inv X pins σ H s) (r:Vals vs us) (h:sp vs H Q (E σ)):wpAny (model X.prog X.w) X.A (call (.ref f) us) (EP X pins σ Q) X.xe s:=by
 have hl:us.length=ps.length:=r.length.symm.trans (F.len _ _ _ _ h)
 have bd:BindsTo s fd ⟨us,[]⟩ (ps.zip us):=by
  have:=hb s us I.kIn (by rw [List.append_nil]; exact hl)
  rwa [List.append_nil] at this
 refine wpAny_call (codeAny_mono (F.run X.A X.stack s H ⟨us,[]⟩ us vs Q (E σ) hr I.env0 bd r h) fun r s' q=>?_)
 cases r with
 | ok fl=>cases fl with
  | ret u=>exact I.after q
  | _=>exact False.elim q
 | error e=>
  obtain ⟨a,C,d,H',rfl,os,bare,un,hok,F,ha,q⟩:=q
  obtain ⟨hh,g,dd,t,os'⟩:=s'
  obtain rfl:os'=s.os:=os
  exact hx pins σ H' _ a C d (I.call (h':=hh) (g':=g) (d':=dd) (t':=t) (ch:=[]) un hok bare fun b z=>absurd z (by simp)) ha F q
theorem pe_callX {k:Nat} {f:Addr} {fd:FuncData} {ps:List Str} {sp:Sp} {x:Str} {p pos:Pos} {e:Expr} {es:List Expr} {t:TA} (F:FnOk X.prog X.w X.K X.mg X.base (CXE X.prog X.w) k f fd ps sp) (hr:Room k X.A) (hg:Gl X x) (hm:X.mg x=some (.ref f)) (hk:PySem.W.keepIn X.K (.ref f)=true) (hb:Binds X.K fd ps []) (hx:RX X E)
  (ha:PA X (e :: es) t) (hdb:(x==("__debug__" : Str))=false:=by decide) (he:starEach (e :: es) X.env=(false,eval e X.env) :: starEach es X.env:=by rfl) (hpl:(backTo pos (starEach es X.env)).any (·.1)=false:=by rfl) :
  PE X (.Call (.Name x p) (e :: es) [] pos) (tCallX sp E t):=by
 intro pins s σ H Q I h
 refine wpAny_Call_Name_kw (ld_glob I hg hm ?_ hdb)
 exact PySem.W.callWith_K (h₀:=X.base) I.ok.mod.kin hk (thn (ha pos pins s σ H _ I h) fun us s1 ⟨vs,H1,I1,r,q⟩=>⟨I1.kIn,run_fnX F hr hb hx I1 r q⟩) he hpl
def sRaise (K:PySem.W.Frag) (te:TE) (E:St→XK):TS:=fun _ σ H=>te σ H fun x H1=>∃ a C d ini,x=.ref a∧excK K C ini=true∧H1 a=some (exH a C d)∧E σ (.ref a) none (upd H1 a (exR a C d))
theorem raise_ok {s:Shared} {K:PySem.W.Frag} {A:Around} {M:Model} {E0:Value→Shared→Prop} {x:Sem Value} {env:Env} {Q:Flow→Shared→Prop} (hh:A.handled=none)
  (h:wpAny M A x (fun v s1=>∃ a C T d ini,v=.ref a∧ExcC K s1.heap C ini∧s1.heap.get? a=some (exO C T d)∧E0 (.ref a) s1) E0 s):wpAny M A (raiseStmt env (some x) none) Q E0 s:=by
 unfold raiseStmt
 refine wpAny_bind (wpAny_mono h (fun v s1 h1=>?_) fun _ _ z=>z)
 obtain ⟨a,C,T,d,ini,rfl,c,he,hE⟩:=h1
 obtain ⟨nm,q,N,bs,bm,sn,sub,ab,col,dd,k0,k1,k2,k3,k5,mN,hC,hN,hi,Tl⟩:=c.obj
 have hbe:bm.contains (.type "BaseException")=true:=Tl.hasType (by decide)
 have hcB:(Value.ref C :: bm).contains (.type "BaseException")=true:=by rw [List.contains_cons,hbe,Bool.or_true]
 obtain ⟨hp,g,dr,tk,os⟩:=s1
 repeat (first | with_reducible refine wpAny_loadPart_at he ?_ | with_reducible refine wpAny_loadPart_at hC ?_ | (with_reducible refine wpAny_isSubtype_exc hC ?_; rw [hcB]) | wp_step)
 exact wpAny_raiseNew_none hh hE
theorem ps_raise {e:Expr} {te:TE} {pos:Pos} {K:PySem.W.Frag} (he:PE X e te) (hx:RX X E) (hc:X.calm=true:=by rfl) (hK:X.K=K:=by rfl):PS X (.Raise (some e) none pos) (sRaise K te E):=by
 subst hK
 intro pins s σ H D I h
 rw [arm_exec_Raise]
 refine wpAny_bind (wpAny_standAt (raise_ok (K:=X.K) (I.ok.hd hc) (wpAny_bind (thn (he pins s σ H _ I h) fun u s1 ⟨x,H1,I1,rx,a,C,d,ini,ex,ck,ea,q⟩=>wpAny_bind (wpAny_standAt (wpAny_pure ?_))))))
 subst ex
 obtain rfl:u=Value.ref a:=rx
 obtain ⟨⟨T,g⟩,_,_⟩:=(show ObjOk X.prog X.w H1 s1.heap a (exH a C d) from I1.hok a _ ea)
 refine ⟨a,C,T,d,ini,rfl,excC_of I1.kIn ck,g,?_⟩
 have F:Fly s1.heap a C d:=⟨_,_,g,rfl,rfl,rfl,(by show 1 < 6; decide),.inl rfl⟩
 refine hx pins σ _ s1 a C d ?_ upd_same F q
 exact I1.write (t':=s1.toks) (h':=s1.heap) (x:=a) (e:=a) (by rw [ea]; exact True.intro) (.inl rfl) (fun b o _ q=>q) ⟨_,g⟩ (exR_ok F.there)
end
abbrev Cx.near (X:Cx) (A:Around) (c:Bool) (pn:List (Addr × Obj)) (xe:Value→Shared→Prop):Cx:={ X with A:=A,calm:=c,pn:=pn,xe:=xe }
section
variable {X:Cx} {pins pins':List (Addr × Obj)} {σ:St} {H:Hp} {s:Shared} {A:Around} {c:Bool} {pn:List (Addr × Obj)} {xe:Value→Shared→Prop}
theorem Inv.near (I:Inv X pins σ H s) (hA:A.frames=X.A.frames) (hc:c=true→A.handled=none) (hp:∀ p∈pn ++ pins',p∈X.pn ++ pins):Inv (X.near A c pn xe) pins' σ H s:=
 ⟨⟨I.ok.mod,I.ok.kind,I.ok.glob,I.ok.blt,I.ok.above,I.ok.inj,I.ok.has,I.ok.cab,hc,hA.trans I.ok.frames,I.ok.stk,I.ok.exf,I.ok.bs,I.ok.bsz,I.ok.noex,I.ok.exfs,I.ok.funs,I.ok.frf⟩,
  I.os,I.bare,I.base,I.loc,I.cell,I.free,I.freeC,fun p h=>I.pin p (hp p h),I.hok,I.len⟩
theorem Inv.unnear (I:Inv (X.near A c pn xe) pins' σ H s) (hA:X.A.frames=A.frames) (hc:X.calm=true→X.A.handled=none) (hp:∀ p∈X.pn ++ pins,p∈pn ++ pins'):Inv X pins σ H s:=
 ⟨⟨I.ok.mod,I.ok.kind,I.ok.glob,I.ok.blt,I.ok.above,I.ok.inj,I.ok.has,I.ok.cab,hc,hA.trans I.ok.frames,I.ok.stk,I.ok.exf,I.ok.bs,I.ok.bsz,I.ok.noex,I.ok.exfs,I.ok.funs,I.ok.frf⟩,
  I.os,I.bare,I.base,I.loc,I.cell,I.free,I.freeC,fun p h=>I.pin p (hp p h),I.hok,I.len⟩
theorem name_goes {M:Model} {E:Value→Shared→Prop} {i:Nat} {n:Str} {pos:Pos} {Q:Unit→Shared→Prop} (I:Inv X pins σ H s) (hN:X.N.Nodup) (hi:X.N[i]? = some n) (hx:X.env.scope.names.lookup n=some .local)
  (h:∀ s',Inv X pins (σ.set i none) H s'→Q () s'):wpAny M A (do bindName X.env n .none; unbindBehindTheSuite X.env n pos) Q E s:=by
 have hcls:(X.env.scope.kind==.class || (X.env.scope.kind==.module && X.env.locals != X.env.globals))=false:=by rw [I.ok.kind]; rfl
 refine wpAny_bind (wpAny_bindName (store_ok (v:=.non) I hN hi (.inl hx) rfl (fun s1 I1=>?_) (.inr hx)))
 obtain ⟨m,hn,hl⟩:=id I1.loc
 unfold unbindBehindTheSuite
 refine wpAny_onRaise ?_
 unfold unbindName
 refine wpAny_bind (wpAny_point (wpAny_bind ?_))
 unfold deleteName
 simp only [show X.env.kindOf n=some .local from hx,hcls]
 rw [if_neg (by decide)]
 have hm:(m n).isSome=true:=by
  obtain ⟨u,_,z⟩:=hl i n .non hi (List.getElem?_set_self (by rw [I.len]; exact (List.getElem?_eq_some_iff.mp hi).1)) (.inl hx)
  rcases z with ⟨_,e⟩ | ⟨z,_⟩
  ·rw [e]; rfl
  ·rcases z with z | z <;> (rw [show X.env.kindOf n=some .local from hx] at z; cases z)
 refine wpAny_bind (wpAny_nsDel_keeps hn fun h2 v2 hn2 hs=>?_)
 rw [hm]
 simp only [Bool.not_true,Bool.false_eq_true,if_false]
 refine wpAny_pure (wpAny_point (h { s1 with heap:=h2 } ?_))
 have cne:=I1.cne
 obtain ⟨oL,_,_,hoL,_⟩:=id hn
 have nL:∀ b o,X.s₀.heap.get? b=some o→b≠X.env.locals:=fun b o q=>Nat.ne_of_lt (Nat.lt_of_lt_of_le (Heap.lt_size q) I.ok.above)
 refine ⟨I1.ok,I1.os,I1.bare,⟨fun b o e n hb hx=>?_,fun b o e n hb hx=>?_,I1.base.free,fun b o e hx=>?_,I1.base.tups,I1.base.frzs,I1.base.tbls⟩,⟨_,hn2,fun j y v' e1 e2 e3=>?_⟩,fun y c e=>?_,I1.free,I1.freeC,fun p hp=>?_,fun b ob e=>?_,by simpa using I.len⟩
 ·exact (hs.2 b (nL b o e)).trans (I1.base.keep b o e n hb hx)
 ·obtain ⟨sl,q⟩:=I1.base.slot b o e n hb hx
  exact ⟨sl,(hs.2 b (nL b o e)).trans q⟩
 ·obtain ⟨o',q⟩:=I1.base.there b o e hx
  exact ⟨o',(hs.2 b (nL b o e)).trans q⟩
 ·by_cases hj:j=i
  ·subst hj
   rw [List.getElem?_set_self (by rw [I.len]; exact (List.getElem?_eq_some_iff.mp hi).1)] at e2
   cases e2
  ·rw [List.getElem?_set_ne (Ne.symm hj)] at e2
   obtain ⟨u',r',q⟩:=hl j y v' e1 (by rw [List.getElem?_set_ne (Ne.symm hj)]; exact e2) e3
   refine ⟨u',r',?_⟩
   rcases q with ⟨k,e⟩ | ⟨k,c,e,z⟩
   ·have ny:y≠n:=fun e=>hj (nodup_ix hN e1 (e▸hi))
    exact .inl ⟨k,(if_neg ny).trans e⟩
   ·exact .inr ⟨k,c,e,z.sameBut hs (cne y c e)⟩
 ·obtain ⟨w',z⟩:=I1.cell y c e
  exact ⟨w',z.sameBut hs (cne y c e)⟩
 ·obtain ⟨e,n,ne,nf,d⟩:=I1.pin p hp
  exact ⟨(hs.2 p.1 ne).trans e,n,ne,nf,d⟩
 ·refine (I1.hok b ob e).stay (fun c w' hc q=>(hs.2 c ?_).trans q) (fun _ q=>q) fun _ _ q=>q
  rintro rfl
  rcases hc with rfl | hc
  ·rw [I1.free] at e; cases e
  ·rw [I1.free] at hc; cases hc
theorem flight_ok {M:Model} {E:Value→Shared→Prop} {a C:Addr} {d:Option Addr} {Q:Unit→Shared→Prop} (F:Fly s.heap a C d) (h:Q () s):wpAny M A (setFlight (.ref a) none) Q E s:=by
 obtain ⟨oe,vs,he,hc,hdd,hv,hz,hT⟩:=F
 unfold setFlight
 rcases hT with h1 | ⟨T,oT,ts,h1,hT,hdT,h3⟩
 ·refine wpAny_bind (wpAny_field he hv h1 ?_)
  rw [if_neg (by decide)]
  exact wpAny_pure h
 ·refine wpAny_bind (wpAny_field he hv h1 ?_)
  rw [if_pos (by simp)]
  refine wpAny_setField hT hdT (Array.getElem?_eq_some_iff.mp h3).1 ?_
  show Q () { s with heap:=s.heap.update T (Obj.mapFields (·.setIfInBounds 3 .none)) }
  rw [Heap.update_setField_same s.heap T oT ts 3 .none hT hdT h3]
  exact h
end
def EX (K:PySem.W.Frag) (Cs:Addr) (i j:Nat) (D:Ends):St→XK:=fun σ v _ H=>∃ a C d,v=.ref a∧H a=some (exR a C d)∧PySem.W.exmOne K (.ref C) (.ref Cs)=some true∧D.nx (((σ.set i (some (.ref a))).set j (some (.ref a))).set i none) H
def tTry (K:PySem.W.Frag) (Cs:Addr) (i j:Nat) (tb:(St→XK)→TS):TS:=fun D σ H=>tb (EX K Cs i j D) D σ H
theorem ps_try {X:Cx} {K:PySem.W.Frag} {Cs:Addr} {i j:Nat} {cls n x:Str} {body:List Stmt} {p p1 p2 p3 hp pos:Pos} {tb:(St→XK)→TS} (hN:X.N.Nodup) (hi:X.N[i]? = some n) (hj:X.N[j]? = some x) (hxn:X.env.scope.names.lookup n=some .local) (hxx:X.env.scope.names.lookup x=some .local)
  (hm:X.mg cls=some (.ref Cs)) (hst:X.stack=X.env :: X.outer) (hfr:X.env.frame=some X.env.locals)
  (hb:∀ (pn:List (Addr × Obj)) (xe:Value→Shared→Prop) (E:St→XK),RX (X.near X.A X.calm pn xe) E→PSs (X.near X.A X.calm pn xe) body (tb E))
  (hg:Gl X cls:=by rfl) (hK:X.K=K:=by rfl) (hdb:(cls==("__debug__" : Str))=false:=by decide) (hd1:(n==("__debug__" : Str))=false:=by decide) (hd2:(n==("__classdict__" : Str))=false:=by decide) (hs:swapsWith (.Name n p2) (some (.Name x p1)) p3.line X.env=pure false:=by rfl) :
  PS X (.Try body [.ExceptHandler (some (.Name cls p)) (some n) [.Assign [.Name x p1] (.Name n p2) p3] hp] [] [] pos) (tTry K Cs i j tb):=by
 subst hK
 intro pins s σ H D I h
 refine wpAny_Try_except ?_
 generalize hXE:(fun (e:Value) (s1:Shared)=>wpAny (model X.prog X.w) X.A (noteFrame e X.env) (fun _ s2=>wpAny (model X.prog X.w) X.A (setFlight e none) (fun _ s3=>wpAny (model X.prog X.w) X.A (handleBy e X.env [.ExceptHandler (some (.Name cls p)) (some n) [.Assign [.Name x p1] (.Name n p2) p3] hp]) (SP X pins D) X.xe s3) X.xe s2) X.xe s1)=XE
 have mA:∀ p∈X.pn ++ pins,p∈(X.pn ++ pins) ++ ([]:List (Addr × Obj)):=fun p h=>by rw [List.append_nil]; exact h
 have I':Inv (X.near X.A X.calm (X.pn ++ pins) XE) [] σ H s:=I.near rfl I.ok.hd fun p h=>by rw [List.append_nil] at h; exact h
 have back:∀ {pins' σ H s},Inv (X.near X.A X.calm (X.pn ++ pins) XE) pins' σ H s→Inv X pins σ H s:=fun I=>I.unnear rfl I.ok.hd fun p h=>List.mem_append_left _ h
 have rx:RX (X.near X.A X.calm (X.pn ++ pins) XE) (EX X.K Cs i j D):=by
  rintro pins' σ1 H1 s1 a C d I1 ha F ⟨a',C',d',e,ha',hex,q⟩
  cases e
  rw [ha] at ha'
  have hCC:C'=C:=by
   obtain ⟨o1,v1,g1,c1,_⟩:=F.there
   obtain ⟨⟨o2,v2,g2,c2,_⟩,_⟩:=(show ObjOk X.prog X.w H1 s1.heap a (exR a C' d') from I1.hok a _ (ha.trans ha'))
   rw [g1] at g2
   cases g2
   rw [c1] at c2
   cases c2
   rfl
  subst hCC
  have I1:=back I1
  show XE (.ref a) s1
  rw [← hXE]
  refine note_inv I1 I1.ok.frames hst hfr ha F fun h2 I2 F2=>?_
  have F2:Fly ({ s1 with heap:=h2 }:Shared).heap a C' d:=F2
  generalize ({ s1 with heap:=h2 }:Shared)=s2 at I2 F2
  have I3:Inv (X.near (X.A.mark (some (.ref a))) false X.pn fun _ _=>False) pins σ1 H1 s2:=I2.near rfl (fun z=>nomatch z) fun p h=>h
  refine wpAny_handleBy_cons (codeAny_handlers_test (ld_glob (X:=X.near (X.A.mark (some (.ref a))) false X.pn fun _ _=>False) I3 hg hm ?_ hdb)) (by intro z; cases z)
  have LT:PySem.W.Looks (model X.prog X.w) s2.heap (typeOf (.ref a)) (.ref C'):=by
   obtain ⟨oe,vs,ge,hc,_⟩:=F2
   exact hc▸(PySem.W.Looks.ld ge).andThen .now
  refine (PySem.W.exm_one I2.kIn LT hex).here ?_
  refine codeAny_handlers_suite_as (flight_ok F2 (store_ok (v:=.ref a) I2 hN hi (.inl hxn) rfl (fun s4 I4=>?_) (.inr hxn)))
  have I4:Inv (X.near (X.A.mark (some (.ref a))) false X.pn fun _ _=>False) pins (σ1.set i (some (.ref a))) H1 s4:=I4.near rfl (fun z=>nomatch z) fun p h=>h
  refine wpAny_mono (pss_one (ps_set (X:=X.near (X.A.mark (some (.ref a))) false X.pn fun _ _=>False) hN hj (.inl hxx) (pe_var hi (.inl hxn) hd1 hd2) hs (.inr hxx)) pins s4 _ H1 { nx:=fun σ' H'=>σ'=(σ1.set i (some (.ref a))).set j (some (.ref a))∧H'=H1,rt:=fun _ _=>False } I4 ?_) (fun f s5 q5=>?_) fun _ _ z=>z.elim
  ·exact ⟨_,List.getElem?_set_self (by rw [I2.len]; exact (List.getElem?_eq_some_iff.mp hi).1),rfl,rfl⟩
  ·cases f with
   | next=>
    obtain ⟨σ5,H5,I5,rfl,rfl⟩:=q5
    have I6:Inv X pins ((σ1.set i (some (.ref a))).set j (some (.ref a))) H5 s5:=I5.unnear rfl I2.ok.hd fun p h=>h
    exact name_goes I6 hN hi hxn fun s7 I7=>⟨_,H5,I7,q⟩
   | ret u=>obtain ⟨_,_,_,_,_,z⟩:=q5; exact z.elim
   | brk=>obtain ⟨_,_,_,z⟩:=q5; exact z.elim
   | cont=>obtain ⟨_,_,_,z⟩:=q5; exact z.elim
 refine wpAny_mono (hb _ XE _ rx [] s σ H D I' h) (fun f s1 q=>?_) fun _ _ q=>q
 cases f with
 | next=>
  obtain ⟨σ1,H1,I1,q⟩:=q
  exact wpAny_execs_nil ⟨σ1,H1,back I1,q⟩
 | ret u=>
  obtain ⟨v,σ1,H1,I1,r,q⟩:=q
  exact ⟨v,σ1,H1,back I1,r,q⟩
 | brk=>obtain ⟨σ1,H1,I1,q⟩:=q; exact ⟨σ1,H1,back I1,q⟩
 | cont=>obtain ⟨σ1,H1,I1,q⟩:=q; exact ⟨σ1,H1,back I1,q⟩
end L2
namespace L2
open PySem PySem.Spec PyProof.Rows
def ExnR (H:Hp) (a C:Addr) (fs:List (Str × V)):Prop:=(H a=some (exR a C none)∧fs=[])∨∃ dx,H a=some (exR a C (some dx))∧H dx=some (xdH dx fs)
theorem ExnR.same {H H':Hp} {a C:Addr} {fs:List (Str × V)} (h:ExnR H a C fs) (e:Same H H'):ExnR H' a C fs:=by
 rcases h with ⟨h1,h2⟩ | ⟨dx,h1,h2⟩
 ·exact .inl ⟨e _ _ h1,h2⟩
 ·exact .inr ⟨dx,e _ _ h1,e _ _ h2⟩
section
variable {X:Cx} {pins:List (Addr × Obj)} {σ:St} {H:Hp} {s:Shared} {a C:Addr} {fs:List (Str × V)} {A:Around} {E:Value→Shared→Prop}
theorem ExnR.inst (I:Inv X pins σ H s) (e:ExnR H a C fs):∃ ox od,PySem.W.InstAt s.heap a ox C od∧∀ f v,fs.lookup f=some v→∃ o u,od=some o∧PySem.W.lookIn f o=some (some u)∧RelV v u:=by
 rcases e with ⟨h1,rfl⟩ | ⟨dx,h1,h2⟩
 ·obtain ⟨⟨oe,vs,g,c,d,fl,_⟩,_,_⟩:=(show ObjOk X.prog X.w H s.heap a (exR a C none) from I.hok a _ h1)
  obtain ⟨cls,dct,dat,sl⟩:=oe
  cases c
  cases d
  cases fl
  exact ⟨_,none,⟨g,rfl,rfl,True.intro⟩,fun f v z=>by cases z⟩
 ·obtain ⟨⟨oe,vs,g,c,d,fl,_⟩,_,_⟩:=(show ObjOk X.prog X.w H s.heap a (exR a C (some dx)) from I.hok a _ h1)
  obtain ⟨cls,dct,dat,sl⟩:=oe
  cases c
  cases d
  cases fl
  obtain ⟨⟨mA,n,r,_⟩,_,_⟩:=(show ObjOk X.prog X.w H s.heap dx (xdH dx fs) from I.hok dx _ h2)
  obtain ⟨od,ho,hl⟩:=lookIn_ns n
  refine ⟨_,some od,⟨g,rfl,rfl,ho⟩,fun f v z=>?_⟩
  obtain ⟨u,hu,ru⟩:=RelO.some_of (v:=v) (o:=mA f) (by rw [← z]; exact r f)
  exact ⟨od,u,rfl,by rw [hl,hu],ru⟩
def tXFldR (K:PySem.W.Frag) (ta:TE) (f:Str):TE:=fun σ H Q=>ta σ H fun x H1=>∃ a C fs v,x=.ref a∧ExnR H1 a C fs∧ExcF K C∧NoAttr K C f∧fs.lookup f=some v∧Q v H1
theorem pe_xfldR {K:PySem.W.Frag} {e:Expr} {ta:TE} {f:Str} {pos:Pos} (he:PE X e ta) (hb:attributeBase e f X.env (eval e X.env)=eval e X.env:=by rfl) (hK:X.K=K:=by rfl):PE X (.Attribute e f pos) (tXFldR K ta f):=by
 subst hK
 intro pins s σ H Q I h
 refine attr_of hb (thn (he pins s σ H _ I h) fun u s1 ⟨x,H1,I1,rx,a,C,fs,v,ex,ea,c,n,l,q⟩=>?_)
 subst ex
 obtain rfl:u=Value.ref a:=rx
 obtain ⟨ox,od,J,hl⟩:=ea.inst I1
 obtain ⟨o,u,rfl,h1,ru⟩:=hl f v l
 exact exc_value I1.kIn J c.ga c.gn c.be (PySem.W.findObj_own c.hasD n rfl h1) (handed_of ru) ⟨v,H1,I1.tok _,ru,q⟩
inductive rIsRI (K:PySem.W.Frag) (xs:List V) (H:Hp) (Q:VK):Prop
 | mk (a C fs c u b:_) (h1:xs=[.ref a,c]) (h2:ExnR H a C fs) (h3:ExcF K C) (h4:RelV c u) (h5:((∃ n,c=.ty n)∨∃ d,c=.ref d)) (h6:PySem.W.kitOne K (.ref C) u=some b) (h7:Q (.bl b) H):rIsRI K xs H Q
def rIsR (K:PySem.W.Frag):List V→Hp→VK→Prop:=fun xs H Q=>rIsRI K xs H Q
theorem call_isR {K:PySem.W.Frag} (hK:X.K=K:=by rfl):CallR X (.builtin "isinstance") (rIsR K):=by
 subst hK
 intro pins s σ H xs us Q I r h
 obtain ⟨a,C,fs,c,u,b,rfl,e,cf,rc,kc,hk,q⟩:=h
 obtain ⟨u1,u2,rfl,r1,r2⟩:=Vals.two r
 obtain rfl:u1=Value.ref a:=r1
 obtain rfl:u2=u:=RelV.ty_inj r2 rc kc
 obtain ⟨ox,od,J,_⟩:=e.inst I
 exact PySem.W.kia_one (kitx_exc cf) I.kIn J hk (fun z=>nomatch z) fun tk=>⟨.bl b,H,I.tok _,rfl,q⟩
theorem flat_bls (bs:List Bool):(bs.map V.bl).all flatV=true:=by
 induction bs with
 | nil=>rfl
 | cons e r ih=>rw [List.map_cons,List.all_cons,ih]; rfl
theorem vals_bl:∀ {bs:List Bool} {us:List Value},Vals (bs.map V.bl) us→us=bs.map Value.bool
 | [],_,.nil=>rfl
 | _ :: _,_,.cons r t=>by
  rw [vals_bl t]
  cases r
  rfl
theorem eqU_bl (b:Bool):eqU (.bl true) (.bool b)=b:=by cases b <;> decide
inductive rCountBI (x:V) (vs:List V) (H:Hp) (Q:VK):Prop
 | mk (l:Addr) (bs:List Bool) (h1:x=.ref l) (h2:vs=[.bl true]) (h3:H l=some (.lst (bs.map V.bl))) (h4:Q (.int (bs.countP id:Nat)) H):rCountBI x vs H Q
def rCountB:V→List V→Hp→VK→Prop:=fun x vs H Q=>rCountBI x vs H Q
theorem mt_countB:MtM X "list.count" rCountB:=by
 intro pins s σ H x vs v us Q I rx rv h
 obtain ⟨l,bs,rfl,rfl,hH,q⟩:=h
 cases rx
 obtain ⟨u,rfl,ru⟩:=rv.one
 obtain ⟨z,its,n,r,hl,e⟩:=I.lstM hH
 have hc:its.toArray.toList.countP (eqU (.bl true))=bs.countP id:=by
  rw [List.toList_toArray,vals_bl r,List.countP_map]
  congr 1
  funext b
  exact eqU_bl b
 refine call_meets F.slot_list_count ⟨_,e,rfl⟩ F.entry_list_count (F.args_list_count_2 _ _) (SeqAt.list_countAt l its.toArray n none #[] u (eqU (.bl true))) ⟨e,fun w hw=>?_,?_⟩
 ·exact mem_eqAt ru rfl r (flat_bls bs) w (by simpa using hw)
 ·rw [hc]
  exact ⟨.int (bs.countP id:Nat),H,I.tok _,⟨_,rfl⟩,q⟩
inductive rIndexBI (x:V) (vs:List V) (H:Hp) (Q:VK):Prop
 | mk (l:Addr) (bs:List Bool) (j:Nat) (h1:x=.ref l) (h2:vs=[.bl true]) (h3:H l=some (.lst (bs.map V.bl))) (h4:bs[j]? = some true) (h5:(∀ m,m < j→bs[m]? = some false)) (h6:Q (.int (j:Nat)) H):rIndexBI x vs H Q
def rIndexB:V→List V→Hp→VK→Prop:=fun x vs H Q=>rIndexBI x vs H Q
theorem mt_indexB:MtM X "list.index" rIndexB:=by
 intro pins s σ H x vs v us Q I rx rv h
 obtain ⟨l,bs,j,rfl,rfl,hH,hj,hm,q⟩:=h
 cases rx
 obtain ⟨u,rfl,ru⟩:=rv.one
 obtain ⟨z,its,n,r,hl,e⟩:=I.lstM hH
 have hlen:its.length=bs.length:=by have:=r.length; rw [List.length_map] at this; exact this.symm
 have hjl:=(List.getElem?_eq_some_iff.mp hj).1
 have hat:∀ (m:Nat) (hm:m < its.toArray.size) (b:Bool),bs[m]? = some b→eqU (.bl true) its.toArray[m]=b:=fun m hm b hb=>by
  have e1:its[m]? = some (Value.bool b):=by rw [vals_bl r,List.getElem?_map,hb]; rfl
  have e2:its.toArray[m]=Value.bool b:=by
   rw [List.getElem_toArray]
   exact (List.getElem?_eq_some_iff.mp e1).2
  rw [e2]
  exact eqU_bl b
 refine call_meets F.slot_list_index ⟨_,e,rfl⟩ F.entry_list_index (F.args_list_index_2 _ _)
  (SeqAt.list_indexAt l its.toArray n none #[] u (eqU (.bl true)) j (by rw [List.size_toArray]; omega) (by rw [List.length_map,sizeLine_eq] at z; omega) (hat _ _ _ hj) fun m hm' hlt=>hat _ _ _ (hm m hlt)) ⟨e,fun w hw=>?_,?_⟩
 ·exact mem_eqAt ru rfl r (flat_bls bs) w (by simpa using hw)
 ·exact ⟨.int (j:Nat),H,I.tok _,⟨_,rfl⟩,q⟩
end
section
variable {P:Program} {w:World} {K:PySem.W.Frag} {mg:Str→Option Value} {base:Heap}
theorem Fun.okX {x qual:Str} {st:Stmt} {f:Addr} {fd:FuncData} {N ps:List Str} {k:Nat} {sp:Sp} (F:Fun K x qual st f fd) (S:FnScope N ps (defScope st)) (len:∀ vs H Q E,sp vs H Q E→vs.length=ps.length)
  (hbody:∀ (A:Around) (outer:List Env) (s:Shared) (H:Hp) (vs:List V) (Q:VK) (E:XK),Room k (A.deeper (envOfC qual (defScope st) s.heap.objs.size f fd.code))→sp vs H Q E→
   ∃ t,PSs (cxOf (CXE P w) P w K mg base N qual (defScope st) f fd.code A outer s H E) (defBody st) t∧t { nx:=fun _ H'=>Q .non H',rt:=Q } (start N vs) H):FnOk P w K mg base (CXE P w) (k+1) f fd ps sp:=by
 obtain ⟨oc,od,kV,doc,pm,an,cdv,ct,osl,rfl,lk,hcd⟩:=F.ex
 exact fn_of lk hcd S len fun A outer s H vs Q E hr hsp=>hbody A outer s H vs Q E hr hsp
structure CalR (P:Program) (w:World) (K:PySem.W.Frag) (mg:Str→Option Value) (base:Heap) (x:Str) (k:Nat) (ps:List Str) (sp:Sp) where
 f:Addr
 fd:FuncData
 ok:FnOk P w K mg base (CXE P w) k f fd ps sp
 at_:mg x=some (.ref f)
 kp:PySem.W.keepIn K (.ref f)=true
 b:Binds K fd ps []
end
theorem pe_r {X:Cx} {E:St→XK} {x:Str} {k:Nat} {ps:List Str} {sp:Sp} {p pos:Pos} {e:Expr} {es:List Expr} {t:TA} (C:CalR X.prog X.w X.K X.mg X.base x k ps sp) (hr:Room k X.A) (hx:RX X E) (ha:PA X (e :: es) t) (hg:Gl X x:=by rfl)
  (hdb:(x==("__debug__" : Str))=false:=by decide) (he:starEach (e :: es) X.env=(false,eval e X.env) :: starEach es X.env:=by rfl) (hpl:(backTo pos (starEach es X.env)).any (·.1)=false:=by rfl) :
  PE X (.Call (.Name x p) (e :: es) [] pos) (tCallX sp E t):=pe_callX C.ok hr hg C.at_ C.kp C.b hx ha hdb he hpl
end L2
namespace L2
open PySem PySem.Spec PyProof.Rows
section
variable {X:Cx} {es:List Expr} {n:Nat} {tp:Pos}
end
end L2
namespace L2
open PySem PySem.Spec PyProof.Rows
section
variable {P:Program} {w:World} {A:Around} {E:Value→Shared→Prop} {s:Shared} {r t:Addr} {items:Array Value}
open AutoSeq1 (wpAny_loadPart') in
end
section
variable {X:Cx}
end
end L2
namespace L2
open PySem PySem.Spec PyProof.Rows
section
variable {X:Cx}
end
end L2
namespace L2
open PySem PySem.Spec PyProof.Rows
inductive AllS:List Expr→List Str→Prop where
 | nil:AllS [] []
 | cons {x:Str} {j} {pos:Pos} {es:List Expr} {zs:List Str} (h:AllS es zs):AllS (.Constant (.str x) j pos :: es) (x :: zs)
def tConsts (zs:List Str):TA:=fun _ H Q=>Q (zs.map V.str) H
theorem pa_consts {X:Cx} {es:List Expr} {zs:List Str} (h:AllS es zs):PA X es (tConsts zs):=by
 induction h with
 | nil=>exact pa_nil
 | cons _ ih=>exact pa_cons pe_str ih rfl
end L2
namespace L2
open PySem PySem.Spec PyProof.Rows
section
open PySem.W (kasC kasC_pure kasC_bind kasC_get kasC_modify kasC_lift kasC_nil kasC_cons kasC_range kas_item kas_cmp kas_st)
variable {prog:Program} {w:World} {A:Around} {s:Shared} {α β:Type} {st:SortSt}
variable {κ:SortKind} {it:Array Keyed} {n:Nat} {lt:Nat→Nat→Bool}
end
end L2
namespace L2
open PySem PySem.Spec PyProof.Rows
section
open PySem.W (kas_item)
variable {lt:Nat→Nat→Bool} {a b o:List Nat} {ia ib x:Nat}
variable {n:Nat} {pa pb:Array Nat} {it:Array Keyed}
variable {out:Array Keyed}
end
end L2
namespace L2
open PySem PySem.Spec PyProof.Rows
section
open PySem.W (kas_item)
variable {prog:Program} {w:World} {A:Around} {s:Shared} {st:SortSt} {κ:SortKind} {it:Array Keyed} {n:Nat} {lt:Nat→Nat→Bool} {pa pb:Array Nat}
section
variable {α β:Type} {R:β→SortSt→Prop}
end
end
end L2
namespace L2
open PySem PySem.Spec PyProof.Rows
section
open PySem.W (kas_item)
variable {lt:Nat→Nat→Bool} {a b o:List Nat} {na nb x:Nat}
variable {n:Nat} {pa pb:Array Nat} {it:Array Keyed} {out:Array Keyed}
end
end L2
namespace L2
open PySem PySem.Spec PyProof.Rows
section
open PySem.W (kas_item)
variable {prog:Program} {w:World} {A:Around} {s:Shared} {st:SortSt} {κ:SortKind} {it:Array Keyed} {n:Nat} {lt:Nat→Nat→Bool} {pa pb:Array Nat} {na nb:Nat}
end
end L2
namespace L2
open PySem PySem.Spec PyProof.Rows
section
open PySem.W (kas_item kas_rev kas_swaps_map)
variable {prog:Program} {w:World} {A:Around} {s:Shared} {κ:SortKind} {it:Array Keyed} {n:Nat} {lt:Nat→Nat→Bool} {p:Array Nat} {pd:Array (Nat × Nat × Nat)} {g:Nat}
section
variable {β:Type} {R:β→SortSt→Prop}
end
end
end L2
namespace L2
open PySem PySem.Spec PyProof.Rows
section
open PySem.W (kas_item)
variable {prog:Program} {w:World} {A:Around} {s:Shared} {κ:SortKind} {it:Array Keyed} {n:Nat} {lt:Nat→Nat→Bool} {p:Array Nat} {g:Nat}
end
end L2
namespace L2
open PySem PySem.Spec PyProof.Rows
section
open PySem.W (kas_item kas_st kasC)
variable {prog:Program} {w:World} {A:Around} {s:Shared} {κ:SortKind} {it:Array Keyed} {n:Nat} {lt:Nat→Nat→Bool} {p:Array Nat}
end
end L2
namespace L2
open PySem PySem.Spec PyProof.Rows
section
open PySem.W (kas_ask kas_item kasC)
end
section
variable {X:Cx} {pins:List (Addr × Obj)} {σ:St} {H:Hp} {s:Shared} {x:Str} {k:Nat} {ps:List Str} {sp:Sp}
end
end L2
namespace L2
open PySem PySem.Spec PyProof.Rows
section
variable {P:Program} {w:World} {A:Around} {E:Value→Shared→Prop} {s:Shared}
end
section
variable {X:Cx} {es:List Expr} {n:Nat} {tp:Pos}
end
end L2
namespace L2
open PySem PySem.Spec PyProof.Rows
end L2
namespace L2
open PySem PySem.Spec PyProof.Rows
section
variable {P:Program} {w:World} {H:Hp} {s:Shared}
end
section
variable {X:Cx}
end
section
open PySem.SeqAt
open PySem.AutoSeq1 (wpAny_loadPart')
open PySem.MeetsSeq PySem.MeetsSeq2 PySem.MeetsSeq3
end
section
variable {X:Cx} {K:PySem.W.Frag}
end
end L2
namespace L2
open PySem PySem.Spec PyProof.Rows
section
variable {P:Program} {w:World} {A:Around} {E:Value→Shared→Prop} {s:Shared}
end
section
variable {X:Cx}
end
end L2
namespace L2
open PySem PySem.Spec PyProof.Rows
end L2
namespace L2
open PySem PySem.Spec PyProof.Rows
section
variable {P:Program} {w:World} {A:Around} {E:Value→Shared→Prop} {s:Shared}
end
section
variable {X:Cx} {es:List Expr} {n:Nat} {tp:Pos}
end
end L2
namespace L2
open PySem PySem.Spec PyProof.Rows
open AutoSeq1 (wpAny_loadPart') in
section
variable {X:Cx}
end
end L2
namespace L2
open PySem PySem.Spec PyProof.Rows
def FlyT (h:Heap) (e C:Addr) (d:Option Addr) (T:Addr):Prop:=∃ (oe:Obj) (vs:Array Value),h.get? e=some oe∧oe.cls=.ref C∧oe.dict=d∧oe.data=.fields vs∧1 < vs.size∧vs[1]? = some (.ref T)∧∃ oT ts x,h.get? T=some oT∧oT.data=.fields ts∧ts[3]? = some x
theorem FlyT.there {h:Heap} {a C:Addr} {d:Option Addr} {T:Addr} (F:FlyT h a C d T):∃ (oe:Obj) (vs:Array Value),h.get? a=some oe∧oe.cls=.ref C∧oe.dict=d∧oe.data=.fields vs∧1 < vs.size:=
 let ⟨o,vs,e,c,q,f,z,_⟩:=F; ⟨o,vs,e,c,q,f,z⟩
theorem FlyT.keep {h h':Heap} {a C:Addr} {d:Option Addr} {T c:Addr} (F:FlyT h a C d T) (ha:a≠c) (hT:T≠c) (k:∀ b o,b≠c→h.get? b=some o→h'.get? b=some o):FlyT h' a C d T:=
 let ⟨o,vs,e,c,q,f,z,t,oT,ts,x,g,r⟩:=F; ⟨o,vs,k _ _ ha e,c,q,f,z,t,oT,ts,x,k _ _ hT g,r⟩
section
variable {M:Model} {A:Around} {E:Value→Shared→Prop} {s:Shared} {base:Heap} {env:Env} {outer:List Env} {L e C T:Addr} {d:Option Addr}
theorem entryT_ok {oe:Obj} {vs:Array Value} {hd0:Value} {had:Bool} {Q:Unit→Shared→Prop} (hfr:A.frames=some (env :: outer)) (hl:s.heap.FunFrames base (env :: outer)) (hf:env.frame=some L)
  (he:s.heap.get? e=some oe) (hc:oe.cls=.ref C) (hdd:oe.dict=d) (hv:oe.data=.fields vs) (hz:1 < vs.size) (h:∀ h' T,NoteK env outer e s.heap h'→FlyT h' e C d T→s.heap.objs.size≤T→Q () { s with heap:=h' }) :
  wpAny M A (do let fr ← frameOf env; let pl ← entryPlaceOf L had; let en ← EntryCells.newEntry hd0 fr .none (rawInt L) .none pl; setField (.ref e) 1 en) Q E s:=by
 have nfr:e∉(env :: outer).filterMap (·.frame):=fun z=>by
  obtain ⟨_,o,q,nf⟩:=hl.mem z
  rw [he] at q
  cases q
  exact nf vs hv
 refine wpAny_bind (wpAny_frameOf_fun hfr hl hf fun h1 k1=>?_)
 refine wpAny_bind (wpAny_entryPlaceOf fun pl hpl=>?_)
 unfold EntryCells.newEntry newFields
 have sz5:=hpl.sizeOk5 hd0 (.ref L) .none (rawInt L) .none
 refine wpAny_bind (wpAny_newObj_type ?_ (hpl.sizeOk5 _ _ _ _ _))
 have g1:h1.get? e=some oe:=(k1.2.1 e nfr).trans he
 have ht3:(([hd0,.ref L,.none,rawInt L,.none] ++ (if pl.isEmpty then List.replicate 6 Value.none else pl)).toArray)[3]? = some (rawInt L):=by simp
 generalize hoT:([hd0,.ref L,.none,rawInt L,.none] ++ (if pl.isEmpty then List.replicate 6 Value.none else pl)).toArray=ts at ht3
 have g2:=Heap.get?_push_of_some (h:=h1) { cls:=.type "traceback",dict:=none,data:=.fields ts } g1
 have nT:h1.objs.size≠e:=Nat.ne_of_gt (Heap.lt_size g1)
 have v3:=Obj.data_mapFields hv (·.setIfInBounds 1 (Value.ref h1.objs.size))
 have g3:=Heap.get?_update_self (Obj.mapFields (·.setIfInBounds 1 (Value.ref h1.objs.size))) g2 (Obj.isFreed_of_fields v3)
 have t3:((h1.push { cls:=.type "traceback",dict:=none,data:=.fields ts }).update e (Obj.mapFields (·.setIfInBounds 1 (Value.ref h1.objs.size)))).get? h1.objs.size=some { cls:=.type "traceback",dict:=none,data:=.fields ts }:=
  (Heap.get?_update_other _ _ (Ne.symm nT)).trans (Heap.get?_push_size h1 rfl)
 refine wpAny_setField g2 hv hz (h _ h1.objs.size ⟨fun b o nb nf q=>?_,fun b o nb q=>?_⟩ ?_ (by rw [k1.1]; exact Nat.le_refl _))
 ·have q1:h1.get? b=some o:=(k1.2.1 b nf).trans q
  rw [Heap.get?_update_other _ _ (Ne.symm nb)]
  exact Heap.get?_push_of_some _ q1
 ·obtain ⟨sl,q1⟩:=k1.2.2 b o q
  refine ⟨sl,?_⟩
  rw [Heap.get?_update_other _ _ (Ne.symm nb)]
  exact Heap.get?_push_of_some _ q1
 ·refine ⟨_,_,g3,(Obj.cls_mapFields _ _).trans hc,?_,v3,by simpa using hz,by simp [hz],_,_,_,t3,rfl,ht3⟩
  cases oe
  cases hv
  exact hdd
theorem noteT_ok {Q:Unit→Shared→Prop} (hfr:A.frames=some (env :: outer)) (hl:s.heap.FunFrames base (env :: outer)) (hf:env.frame=some L) (F:Fly s.heap e C d) (h:∀ h' T,NoteK env outer e s.heap h'→FlyT h' e C d T→s.heap.objs.size≤T→Q () { s with heap:=h' }) :
  wpAny M A (noteFrame (.ref e) env) Q E s:=by
 obtain ⟨oe,vs,he,hc,hdd,hv,hz,hT⟩:=F
 unfold noteFrame
 simp only [hf]
 rcases hT with h1 | ⟨T,oT,ts,h1,hT,hdT,h3⟩
 ·refine wpAny_bind (wpAny_field he hv h1 ?_)
  rw [if_neg (by decide)]
  exact entryT_ok hfr hl hf he hc hdd hv hz h
 ·refine wpAny_bind (wpAny_field he hv h1 ?_)
  rw [if_pos (by simp)]
  refine wpAny_bind (wpAny_field hT hdT h3 ?_)
  rw [if_neg (show ¬ ((Value.none==rawInt L)=true) from by simp [rawInt])]
  refine wpAny_bind (wpAny_setField hT hdT (Array.getElem?_eq_some_iff.mp h3).1 ?_)
  rw [Heap.update_setField_same s.heap T oT ts 3 .none hT hdT h3]
  exact entryT_ok hfr hl hf he hc hdd hv hz h
theorem flyT_put {x:Value} (F:FlyT s.heap e C d T) (ne:T≠e):FlyT (s.heap.update T (Obj.mapFields (·.setIfInBounds 3 x))) e C d T∧(x=.none→Fly (s.heap.update T (Obj.mapFields (·.setIfInBounds 3 x))) e C d)∧∀ b o,b≠T→s.heap.get? b=some o→(s.heap.update T (Obj.mapFields (·.setIfInBounds 3 x))).get? b=some o:=by
 obtain ⟨oe,vs,he,hc,hdd,hv,hz,h1,oT,ts,y,gT,dT,h3⟩:=F
 have hz3:=(Array.getElem?_eq_some_iff.mp h3).1
 have k:∀ b o,b≠T→s.heap.get? b=some o→(s.heap.update T (Obj.mapFields (·.setIfInBounds 3 x))).get? b=some o:=fun b o nb q=>(Heap.get?_update_other _ _ (Ne.symm nb)).trans q
 have dT':=Obj.data_mapFields dT (·.setIfInBounds 3 x)
 have g':=Heap.get?_update_self (Obj.mapFields (·.setIfInBounds 3 x)) gT (Obj.isFreed_of_fields dT')
 have h3':(ts.setIfInBounds 3 x)[3]? = some x:=Array.getElem?_setIfInBounds_self_of_lt hz3
 exact ⟨⟨oe,vs,k _ _ ne.symm he,hc,hdd,hv,hz,h1,_,_,_,g',dT',h3'⟩,fun z=>⟨oe,vs,k _ _ ne.symm he,hc,hdd,hv,hz,.inr ⟨T,_,_,h1,g',dT',h3'.trans (by rw [z])⟩⟩,k⟩
theorem setFlightT {Q:Unit→Shared→Prop} {fr:Option Addr} (F:FlyT s.heap e C d T) (h:Q () { s with heap:=s.heap.update T (Obj.mapFields (·.setIfInBounds 3 (fr.elim .none fun f=>rawInt f))) }):wpAny M A (setFlight (.ref e) fr) Q E s:=by
 obtain ⟨oe,vs,he,hc,hdd,hv,hz,h1,oT,ts,y,gT,dT,h3⟩:=F
 unfold setFlight
 refine wpAny_bind (wpAny_field he hv h1 ?_)
 rw [if_pos (by simp)]
 exact wpAny_setField gT dT (Array.getElem?_eq_some_iff.mp h3).1 h
theorem passT {α:Type} {what:String} {cenv:Env} {Q:α→Shared→Prop} (F:FlyT s.heap e C d T) (ne:T≠e) (h:∀ h',(∀ b o,b≠T→s.heap.get? b=some o→h'.get? b=some o)→FlyT h' e C d T→E (.ref e) { s with heap:=h' }):wpAny M A (PySem.passOn what (.ref e) cenv:Sem α) Q E s:=by
 have F':=F
 obtain ⟨oe,vs,he,hc,hdd,hv,hz,h1,r⟩:=F'
 unfold PySem.passOn
 refine wpAny_bind (wpAny_field he hv h1 ?_)
 rw [if_neg (by simp)]
 have p:=flyT_put (x:=cenv.frame.elim .none fun f=>rawInt f) F ne
 exact wpAny_bind (setFlightT F (wpAny_throw (h _ p.2.2 p.1)))
end
section
variable {X:Cx} {pins:List (Addr × Obj)} {σ:St} {H:Hp} {s:Shared} {a C T:Addr} {d:Option Addr} {M:Model} {A:Around} {E':Value→Shared→Prop}
theorem inv_note {h':Heap} (I:Inv X pins σ H s) (hst:X.stack=X.env :: X.outer) (ha:H a=some (exR a C d)) (k:NoteK X.env X.outer a s.heap h') (F':∃ (oe:Obj) (vs:Array Value),h'.get? a=some oe∧oe.cls=.ref C∧oe.dict=d∧oe.data=.fields vs∧1 < vs.size):Inv X pins σ H { s with heap:=h' }:=by
 obtain ⟨k1,k2⟩:=k
 have na:∀ b,H b=none→b≠a:=fun b n z=>by rw [z,ha] at n; cases n
 refine I.call (g':=s.gens) (t':=s.toks) (d':=s.drawn) (ch:=[]) ⟨fun b o q n nf _=>k1 b o (na b n) (by rw [← hst]; exact nf) q,fun b o q n _ _=>k2 b o (na b n) q,fun b o q n _=>n,fun b o q _=>?_,fun _ _ q=>q,fun _ _ _ q=>q,fun b ps q=>⟨#[],by rw [q]; simp⟩⟩ (fun b o q=>?_) I.bare (fun b z=>absurd z (by simp))
 ·by_cases z:b=a
  ·obtain ⟨oe,_,e,_⟩:=F'
   exact ⟨oe,by rw [z]; exact e⟩
  ·obtain ⟨sl,e⟩:=k2 b o z q
   exact ⟨_,e⟩
 ·by_cases z:b=a
  ·subst z
   rw [ha] at q
   cases q
   exact exR_ok F'
  ·refine (I.hok b o q).stay (fun c v hc r=>k1 c v ?_ ?_ r) (fun _ r=>r) fun _ _ r=>r
   ·rintro rfl
    rcases hc with rfl | hc
    ·exact z rfl
    ·rw [ha] at hc; cases hc
   ·intro hm
    rw [← hst] at hm
    have:=I.stkFree c hm
    rcases hc with rfl | hc
    ·rw [q] at this; cases this
    ·rw [hc] at this; cases this
end
def RXC (X:Cx) (E:XK):Prop:=∀ (pins:List (Addr × Obj)) (σ:St) (H:Hp) (s:Shared) (a C:Addr) (d:Option Addr) (T:Addr),Inv X pins σ H s→H a=some (exR a C d)→FlyT s.heap a C d T→H T=none→X.s₀.heap.objs.size≤T→T≠X.env.locals→(∀ x c,X.env.cells.lookup x=some c→c≠T)→(∀ p∈X.pn ++ pins,p.1≠T)→E (.ref a) none H→X.xe (.ref a) s
theorem rxc_def {P:Program} {w:World} {K:PySem.W.Frag} {mg:Str→Option Value} {base:Heap} {N:List Str} {qual:Str} {scope:Scope} {f:Addr} {cd:Value} {A:Around} {outer:List Env} {s:Shared} {H:Hp} {E:XK} :
  RXC (cxOf (CXE P w) P w K mg base N qual scope f cd A outer s H E) E:=by
 intro pins σ H1 s1 a C d T I ha F hT t1 t2 t3 t4 e
 have ne:T≠a:=fun z=>by rw [z,ha] at hT; cases hT
 have p:=flyT_put (x:=.none) F ne
 have I1:=I.turned (t':=s1.toks) (it:=T) p.2.2 hT t2 (.inr t1) t3 t4
 have F1:=p.2.1 rfl
 have fin:∀ {h':Heap},Inv (cxOf (CXE P w) P w K mg base N qual scope f cd A outer s H E) pins σ H1 { s1 with heap:=h' }→Fly h' a C d→CXE P w outer H s E (.ref a) { s1 with heap:=h' }:=fun I' F'=>⟨a,C,d,H1,rfl,I'.os,I'.bare,I'.base,I'.hok,F',ha,e⟩
 refine wpAny_bind ?_
 obtain ⟨oe,vs,he,hc,hdd,hv,hz,h1,oT,ts,y,gT,dT,h3⟩:=id F
 unfold noteFrame
 show wpAny _ _ (do
  let head ← field (.ref a) 1
  _) _ _ s1
 refine wpAny_bind (wpAny_field he hv h1 ?_)
 rw [if_pos (by simp)]
 refine wpAny_bind (wpAny_field gT dT h3 ?_)
 by_cases c:(y==rawInt (s.heap.objs.size:Nat))=true
 ·rw [if_pos c]
  exact wpAny_pure (setFlightT F (fin I1 F1))
 ·rw [if_neg c]
  refine wpAny_bind (wpAny_setField gT dT (Array.getElem?_eq_some_iff.mp h3).1 ?_)
  obtain ⟨oe,vs,he,hc,hdd,hv,hz,_⟩:=id F1
  exact entry_ok (base:=base) I.ok.frames I1.stack rfl he hc hdd hv hz fun h' k F'=>by
   have J:=inv_note I1 rfl ha k F'.there
   exact fin J F'
def compCxE (X:Cx) (Nm:List Str) (scope:Scope) (d:CD) (xe:Value→Shared→Prop):Cx:={ compCx X Nm scope d with xe:=xe }
section
variable {prog:Program} {w:World} {A:Around} {R:Result→Shared→Prop} {s:Shared}
theorem loop_compE {elt target iter:Expr} {ifs:List Expr} {scope:Scope} {pos:Pos} {it acc:Value} {env:Env} (J:Nat→Shared→Prop)
  (turn:∀ n s,J n s→wpAny (model prog w) A (pyNext it) (fun r s1=>match r with
   | none=>R (.ok .next) s1
   | some v=>wpAny (model prog w) A (letOwnedTupleGo target it v) (fun _ s2=>wpAny (model prog w) A (assign target env v) (fun _ s3=>
     wpAny (model prog w) A (forIn ifs true fun c r=>if r=true then do let ok ← isTrue c env (eval c env); pure (ForInStep.yield ok) else pure (ForInStep.yield r)) (fun ok s4=>
      if ok=true then wpAny (model prog w) A (eval elt env) (fun x s5=>wpAny (model prog w) A (call (.builtin "list.append") [acc,x]) (fun _ s6=>∃ m,m < n∧J m s6) (notedBy (model prog w) A env fun x s=>R (.error x) s) s5) (notedBy (model prog w) A env fun x s=>R (.error x) s) s4
      else ∃ m,m < n∧J m s4) (notedBy (model prog w) A env fun x s=>R (.error x) s) s3) (notedBy (model prog w) A env fun x s=>R (.error x) s) s2) (notedBy (model prog w) A env fun x s=>R (.error x) s) s1) (notedBy (model prog w) A env fun x s=>R (.error x) s) s)
  (n:Nat) (h:J n s):codeAny (model prog w) A (.compLoop (.ListComp elt [⟨target,iter,ifs,0⟩] scope pos) 0 it acc env) R s:=by
 refine codeAny_loop rfl J (fun k t hJ=>?_) n h
 show wpAny _ A ((compTurn (.ListComp elt [⟨target,iter,ifs,0⟩] scope pos) 0 it acc env).onRaise (fun x=>do noteFrame x env; theTreesLotGoes x)) _ _ t
 refine wpAny_noted ?_
 rw [compTurn_list]
 refine wpAny_bind (wpAny_standAt (wpAny_bind (thn (turn k t hJ) fun r s1 h1=>?_)))
 cases r with
 | none=>exact wpAny_pure h1
 | some v=>
  refine wpAny_bind (thn h1 fun _ s2 h2=>wpAny_bind (thn h2 fun _ s3 h3=>wpAny_bind (thn h3 fun ok s4 h4=>?_)))
  cases ok with
  | false=>exact wpAny_pure ⟨rfl,h4⟩
  | true=>
   exact wpAny_bind (wpAny_bind (thn h4 fun x s5 h5=>wpAny_bind (thn h5 fun _ s6 h6=>wpAny_pure (wpAny_pure ⟨rfl,h6⟩))))
end
section
variable {X:Cx} {sc scope:Scope} {Nm own:List Str} {fr:List Nat} {elt tg iter:Expr} {ifs:List Expr} {cpos:Pos} {wi:TI} {g:TG} {tt:TT} {te:TE} {E:XK}
theorem comp_coreE (S:CompOk sc Nm own fr scope) (hsc:X.env.scope=sc) (hN:X.N=Nm) (hc:X.calm=true) (hgf:GFr own.length g) (hi:PI X tg iter wi) (hst:X.stack=X.env :: X.outer) (hfr:X.env.frame=some X.env.locals) (hx:RXC X E) (hg:∀ d xe,PG (compCxE X (inNm own Nm fr) scope d xe) tg g)
  (ht:∀ d xe,PTs (compCxE X (inNm own Nm fr) scope d xe) ifs tt) (he:∀ d xe,RX (compCxE X (inNm own Nm fr) scope d xe) (fun _=>E)→PE (compCxE X (inNm own Nm fr) scope d xe) elt te) (hs:∀ x,foldedSetIterable iter X.env x=pure x)
  {use:Option (Value→Sem Unit)} {Q0:Value→Shared→Prop} {pins:List (Addr × Obj)} {s:Shared} {σ:St} {H:Hp} (I:Inv X pins σ H s) {Qf:VK} (h:tComp own.length fr wi g tt te σ H Qf)
  (hfin:∀ (D C:Addr) (Hd:Hp) (s':Shared) (m:Str→Option Value),Inv X pins σ Hd s'→Qf (.ref D) Hd→s'.heap.Ns C m→Hd C=none→X.s₀.heap.objs.size≤C→C≠X.env.locals→(∀ x c,X.env.cells.lookup x=some c→c≠C)→
   (∀ p∈X.pn ++ pins,p.1≠C)→compPost (model X.prog X.w) X.A X.xe use Q0 (.ref D) C (.ok .next) s') :
  wpAny (model X.prog X.w) X.A (comprehension (.ListComp elt [⟨tg,iter,ifs,0⟩] scope cpos) scope X.env (firstIterPos [⟨tg,iter,ifs,0⟩] cpos) (newList []) false (eval iter X.env) use) Q0 X.xe s:=by
 have hfree:∀ y∈scope.names,y.2=NameKind.free→∃ c,X.env.cells.lookup y.1=some c:=fun y hy hk=>by
  have q:=S.free y hy hk
  rw [← hsc] at q
  exact I.ok.has y.1 q
 refine wpAny_comprehension_free (g:=⟨tg,iter,ifs,0⟩) (gs:=[]) rfl hs (closure_is hfree) S.kind S.locs ?_
 refine thn (hi pins s σ H _ I h) fun v s1 h1=>thn h1 fun itv s2 h2=>?_
 obtain ⟨it,fp,tn,J,H2,e,I2,T,st2,f2,W,⟨m0,w0⟩,turn⟩:=h2
 subst e
 refine wpAny_newObj_type (wpAny_newFunctionEnv S.nocell (by intro y hy; simp at hy) (fun h1 hns hsb=>?_) S.kind)
 dsimp only at hns hsb ⊢
 generalize hG:s2.heap.push { cls:=.type "list",dict:=none,data:=.seq ([]:List Value).toArray } = G at hns hsb ⊢
 have hC:G.objs.size=s2.heap.objs.size+1:=by rw [← hG,Heap.size_push]
 have hDC:s2.heap.objs.size≠G.objs.size:=by omega
 have lo:∀ b,b < s2.heap.objs.size→b≠G.objs.size∧b≠s2.heap.objs.size:=fun b hb=>⟨by omega,by omega⟩
 have old:∀ b o,s2.heap.get? b=some o→h1.get? b=some o:=fun b o e=>hsb.extBut b o (lo b (Heap.lt_size e)).1 (Heap.get?_push_of_some _ (hG▸Heap.get?_push_of_some _ e))
 have hacc:h1.PlainList s2.heap.objs.size #[]:=⟨_,hsb.extBut _ _ hDC (Heap.get?_push_of_some _ (hG▸Heap.get?_push_size _ rfl))⟩
 have fpl:∀ b∈fp,b < s2.heap.objs.size:=fun b hb=>by
  obtain ⟨o,e,_⟩:=T.obj 0 _ st2 b hb
  exact Heap.lt_size e
 have hDf:s2.heap.objs.size∉fp:=fun z=>Nat.lt_irrefl _ (fpl _ z)
 have hCf:G.objs.size∉fp:=fun z=>Nat.lt_irrefl _ (Nat.lt_trans (fpl _ z) (by rw [hC]; exact Nat.lt_succ_self _))
 have cellL:∀ x c,(clOf X.env scope.names []).lookup x=some c→X.env.cells.lookup x=some c∧(x,NameKind.free)∈scope.names:=fun x c e=>by
  have e1:=clOf_good (env:=X.env) scope.names [] (fun y c z=>by simp at z) x c e
  rcases clOf_mem scope.names [] e with z | z
  ·simp at z
  ·obtain ⟨c',e'⟩:=hfree _ z rfl
   rw [e1,e']
   exact ⟨rfl,z⟩
 have cellLt:∀ x c,X.env.cells.lookup x=some c→c < s2.heap.objs.size:=fun x c e=>by
  obtain ⟨v,q⟩:=I2.cell x c e
  exact q.lt
 let d:CD:=⟨clOf X.env scope.names [],G.objs.size,s2,H2,fp⟩
 generalize hXE:(notedBy (model X.prog X.w) X.A (compEnvC scope (clOf X.env scope.names []) G.objs.size X.env) fun x s=>compPost (model X.prog X.w) X.A X.xe use Q0 (.ref s2.heap.objs.size) G.objs.size (.error x) s)=XE
 have isFree:∀ x,((compCxE X (inNm own Nm fr) scope d XE).env.kindOf x=some .cell∨(compCxE X (inNm own Nm fr) scope d XE).env.kindOf x=some .free)→scope.names.lookup x=some .free:=fun x hx=>by
  have noC:scope.names.lookup x≠some .cell:=fun z=>S.nocell _ (PySem.mem_of_lookup z) rfl
  rcases hx with hx | hx
  ·rcases lookup_relab (names:=scope.names) hx with z | z
   ·exact absurd z noC
   ·exact z.2
  ·rcases lookup_relab (names:=scope.names) hx with z | z
   ·exact z
   ·exact absurd z.1 (by decide)
 have ok:(compCxE X (inNm own Nm fr) scope d XE).Ok:=by
  refine ⟨I.ok.mod,S.kind,I.ok.glob,I.ok.blt,?_,fun x y c e1 e2=>?_,fun x hx=>?_,fun x c z=>?_,I.ok.hd,I.ok.frames,.inl rfl,fun b hb=>⟨?_,fun x c e=>?_⟩,I2.bs,Nat.le_trans I2.ok.bsz I2.sz,fun b o e hb=>?_,fun b hb z=>?_,I2.stack,I2.stkFree⟩
  ·show s2.heap.objs.size≤G.objs.size
   omega
  ·exact I.ok.inj x y c (cellL x c e1).1 (cellL y c e2).1
  ·exact clOf_has scope.names [] (.inr (PySem.mem_of_lookup (isFree x hx)))
  ·exact absurd (show false=true from z) Bool.false_ne_true
  ·exact fun z=>hCf ((show b=G.objs.size from z)▸hb)
  ·exact (f2 b hb).2.2.2.2.1 x c (cellL x c e).1
  ·rcases (f2 b hb).2.2.2.1 with z | z
   ·exact I.ok.noex b o e z
   ·exact absurd (Nat.lt_of_lt_of_le (Heap.lt_size e) (Nat.le_trans I.ok.bsz z)) (Nat.lt_irrefl _)
  ·rcases List.mem_cons.mp (I2.stkSub b z) with z | z
   ·exact (f2 b hb).2.1 z
   ·exact (f2 b hb).2.2.1 z
 have hfrs:∀ (i:Nat) x v,(inNm own Nm fr)[i]? = some x→(inSt own.length fr σ)[i]? = some (some v)→scope.names.lookup x=some .free∧∃ j,Nm[j]? = some x∧σ[j]? = some (some v):=fun i x v e1 e2=>by
  unfold inNm at e1
  unfold inSt at e2
  by_cases hil:i < own.length
  ·rw [List.getElem?_append_left (by simpa using hil),List.getElem?_replicate,if_pos hil] at e2
   cases e2
  ·rw [List.getElem?_append_right (by omega),List.getElem?_map] at e1
   rw [List.getElem?_append_right (by simpa using hil),List.getElem?_map,List.length_replicate] at e2
   cases q:fr[i - own.length]? with
   | none=>rw [q] at e1; cases e1
   | some j=>
    rw [q] at e1 e2
    have hj:=S.frs j (List.mem_of_getElem? q)
    have e1':Nm.getD j "" = x:=Option.some.inj e1
    have e2':σ.getD j none=some v:=Option.some.inj e2
    rw [e1'] at hj
    refine ⟨hj.2,j,?_,?_⟩
    ·rw [← e1',List.getD_eq_getElem?_getD,List.getElem?_eq_getElem hj.1]
     rfl
    ·rw [List.getD_eq_getElem?_getD] at e2'
     cases q2:σ[j]? with
     | none=>rw [q2] at e2'; cases e2'
     | some z=>rw [q2] at e2'; exact congrArg some e2'
 have lenSt:(inSt own.length fr σ).length=(inNm own Nm fr).length:=by
  unfold inSt inNm
  simp
 have J0:∀ tk,Inv (compCxE X (inNm own Nm fr) scope d XE) [] (inSt own.length fr σ) H2 { s2 with heap:=h1,toks:=tk }:=fun tk=>by
  obtain ⟨m,hn,hl⟩:=I2.loc
  refine ⟨ok,rfl,I2.bare,Un.kept old,⟨_,hns,fun i x v e1 e2 _=>?_⟩,fun x c e=>?_,I2.hok.fresh (show s2.heap.objs.size≤G.objs.size by omega),fun x c e=>I2.freeC x c (cellL x c e).1,fun p hp=>absurd (show p∈([]:List (Addr × Obj)) from hp) (by simp),I2.hok.kept old,lenSt⟩
  ·obtain ⟨hf,j,hj1,hj2⟩:=hfrs i x v e1 e2
   have kd:X.env.scope.names.lookup x=some .cell∨X.env.scope.names.lookup x=some .free:=by
    rw [hsc]
    exact S.free _ (PySem.mem_of_lookup hf) rfl
   obtain ⟨u,r,q⟩:=hl j x v (by rw [hN]; exact hj1) hj2 (kd.elim (fun z=>.inr (.inl z)) fun z=>.inr (.inr z))
   refine ⟨u,r,.inr ⟨relab_free hf,?_⟩⟩
   obtain ⟨c,e⟩:=clOf_has (env:=X.env) scope.names [] (.inr (PySem.mem_of_lookup hf))
   refine ⟨c,e,?_⟩
   rcases q with ⟨k,_⟩ | ⟨_,c',e',z⟩
   ·have k':X.env.scope.names.lookup x=some .local:=k
    rcases kd with y | y <;> rw [y] at k' <;> cases k'
   ·have:c=c':=Option.some.inj ((cellL x c e).1.symm.trans e')
    subst this
    obtain ⟨o,ho,hd⟩:=z
    exact ⟨o,old _ o ho,hd⟩
  ·obtain ⟨v,o,ho,hd⟩:=I2.cell x c (cellL x c e).1
   exact ⟨v,o,old _ o ho,hd⟩
 have stat:∀ {H':Hp} {pl:List (Addr × Obj)},(∀ b∈fp,H' b=none)→(∀ p∈pl,p.1∉fp)→∀ b∈fp,FpOk (compCxE X (inNm own Nm fr) scope d XE) pl H' b:=fun hn hp b hb=>
  ⟨hn b hb,fun z=>hCf ((show b=G.objs.size from z)▸hb),ok.exfs b hb,.inl hb,(ok.exf b hb).2,fun p hp' z=>hp p (by simpa using (show p∈([]:List (Addr × Obj)) ++ _ from hp')) (z▸hb)⟩
 have far:∀ a,s2.heap.objs.size≤a→X.s₀.heap.objs.size≤a∧a≠X.env.locals∧(∀ x c,X.env.cells.lookup x=some c→c≠a)∧∀ p∈X.pn ++ pins,p.1≠a:=fun a ha=>
  ⟨Nat.le_trans I2.sz ha,Nat.ne_of_gt (Nat.lt_of_lt_of_le I2.lt ha),fun x c e=>Nat.ne_of_lt (Nat.lt_of_lt_of_le (cellLt x c e) ha),fun p hp=>Nat.ne_of_lt (Nat.lt_of_lt_of_le (Heap.lt_size (I2.pin p hp).1) ha)⟩
 have rx:RX (compCxE X (inNm own Nm fr) scope d XE) fun _=>E:=by
  intro pins' σ' H' s' a Ce de I' ha F e
  show XE (.ref a) s'
  rw [← hXE]
  show wpAny (model X.prog X.w) X.A (noteFrame (.ref a) X.env) _ _ s'
  have I5:Inv X pins σ H' s':=I2.call' (ch:=fp) I'.os I'.base I'.hok I'.bare fun b hb=>⟨(f2 b hb).2.2.2.1,(f2 b hb).2.1,(f2 b hb).2.2.2.2.1,(f2 b hb).2.2.2.2.2⟩
  refine noteT_ok (base:=X.base) (outer:=X.outer) (I5.ok.frames.trans (by rw [hst])) (by rw [← hst]; exact I5.stack) hfr F fun h3 T k3 F3 hT=>?_
  obtain ⟨m,hn,_⟩:=I'.loc
  have hCz:G.objs.size < s'.heap.objs.size:=hn.lt
  have fC:=far G.objs.size (by omega)
  have fT:=far T (by omega)
  have I6:=inv_note I5 hst ha k3 F3.there
  have nC:H' G.objs.size=none:=I'.free
  have nT:H' T=none:=I'.hok.fresh hT
  have aC:a≠G.objs.size:=fun z=>by rw [z,nC] at ha; cases ha
  have aT:T≠a:=fun z=>by rw [z,ha] at nT; cases nT
  have TC:T≠G.objs.size:=Nat.ne_of_gt (Nat.lt_of_lt_of_le hCz hT)
  have hn3:h3.Ns G.objs.size m:=by
   obtain ⟨o,es,ep,q,r⟩:=id hn
   refine ⟨o,es,ep,k3.1 _ o aC.symm (fun z=>?_) q,r⟩
   rw [← hst] at z
   obtain ⟨_,o',q',_⟩:=I2.stack.mem z
   exact absurd (Nat.lt_of_lt_of_le (Heap.lt_size q') (Nat.le_of_lt (hC▸Nat.lt_succ_self _))) (Nat.lt_irrefl _)
  refine (show ∃ m,h3.Ns G.objs.size m∧∀ h',Heap.SameBut G.objs.size h3 h'→∀ cenv:Env,cenv.locals=G.objs.size→wpAny (model X.prog X.w) X.A (PySem.passOn "comprehension.variables-let-go" (.ref a) cenv:Sem Value) (fun _ _=>False) X.xe { s' with heap:=h' } from ⟨m,hn3,fun h4 hb cenv _=>?_⟩) |> fun q=>(by cases use <;> exact q)
  have I7:=I6.turned (t':=s'.toks) (it:=G.objs.size) (fun b o hne e=>hb.extBut b o hne e) nC fC.2.1 (.inr fC.1) fC.2.2.1 fC.2.2.2
  have F4:FlyT ({ s' with heap:=h4 }:Shared).heap a Ce de T:=F3.keep aC TC fun b o hne e=>hb.extBut b o hne e
  refine passT F4 aT fun h5 k5 F5=>?_
  exact hx pins σ H' _ a Ce de T (I7.turned (t':=s'.toks) (it:=T) k5 nT fT.2.1 (.inr fT.1) fT.2.2.1 fT.2.2.2) ha F5 nT fT.1 fT.2.1 fT.2.2.1 fT.2.2.2 e
 have loop:∀ tk,codeAny (model X.prog X.w) X.A (.compLoop (.ListComp elt [⟨tg,iter,ifs,0⟩] scope cpos) 0 (.ref it) (.ref s2.heap.objs.size) (compEnvC scope (clOf X.env scope.names []) G.objs.size X.env))
   (compPost (model X.prog X.w) X.A X.xe use Q0 (.ref s2.heap.objs.size) G.objs.size) { s2 with heap:=h1,toks:=tk }:=by
  intro tk
  refine loop_compE (fun n s'=>∃ i acc its H',Inv (compCxE X (inNm own Nm fr) scope d XE) [] (inSt own.length fr σ) H' s'∧tn i s'.heap∧(∀ b∈fp,H' b=none)∧H' s2.heap.objs.size=none∧Vals acc its∧s'.heap.PlainList s2.heap.objs.size its.toArray∧W i n acc H') ?_ m0
   ⟨0,[],[],H2,J0 tk,T.keep 0 _ _ st2 fun b _ o e=>old b o e,fun b hb=>(f2 b hb).1,I2.hok.fresh (Nat.le_refl _),.nil,hacc,w0⟩
  rintro n s3 ⟨i,acc,its,H3,I3,st3,fr3,nD,va,⟨na,pa⟩,w3⟩
  rw [hXE]
  have pinD:Inv (compCxE X (inNm own Nm fr) scope d XE) [(s2.heap.objs.size,{ cls:=.type "list",data:=.seq its.toArray na })] (inSt own.length fr σ) H3 s3:=I3.pins_of fun p hp=>by
   have hp':=List.mem_singleton.mp hp
   subst hp'
   refine ⟨pa,nD,hDC,fun z=>?_,fun v z=>?_⟩
   ·have z':s2.heap.objs.size∈frs X.stack:=z
    rcases List.mem_cons.mp (I2.stkSub _ z') with y | y
    ·exact absurd I2.lt (by rw [← y]; exact Nat.lt_irrefl _)
    ·exact I2.nofs (Nat.le_refl _) y
   ·have z':Data.seq its.toArray na=Data.cell v:=z
    cases z'
  have pinsOut:∀ p∈[(s2.heap.objs.size,({ cls:=.type "list",data:=.seq its.toArray na }:Obj))],p.1∉fp:=fun p hp=>by
   rw [List.mem_singleton.mp hp]
   exact hDf
  obtain ⟨hz,alt⟩:=turn i n acc H3 w3
  rcases alt with ⟨stop,qn⟩ | ⟨go,Nx,hNx,step⟩
  ·refine thn (T.done (compCxE X (inNm own Nm fr) scope d XE) rfl rfl rfl hc i _ s3 _ H3 _ pinD (stat fr3 pinsOut) st3 stop) fun r s4 ⟨hr,I4⟩=>?_
   subst hr
   have pD:=I4.pin (s2.heap.objs.size,{ cls:=.type "list",data:=.seq its.toArray na }) (List.mem_append_right _ (List.mem_singleton.mpr rfl))
   obtain ⟨m4,hn4,_⟩:=I4.loc
   have I5:Inv X pins σ H3 s4:=I2.call' (ch:=fp) I4.os I4.base I4.hok I4.bare fun b hb=>⟨(f2 b hb).2.2.2.1,(f2 b hb).2.1,(f2 b hb).2.2.2.2.1,(f2 b hb).2.2.2.2.2⟩
   have fD:=far s2.heap.objs.size (Nat.le_refl _)
   have fC:=far G.objs.size (by omega)
   have I6:=I5.adopt (o:=.lst acc) fD.1 pD.2.1 fD.2.1 fD.2.2.1 fD.2.2.2 ⟨Nat.le_of_lt hz,its,na,va,pD.1⟩
   exact hfin s2.heap.objs.size G.objs.size _ s4 m4 I6 (qn _ pD.2.1) hn4 (by rw [upd_ne (Ne.symm hDC)]; exact I4.free) fC.1 fC.2.1 fC.2.2.1 fC.2.2.2
  ·refine thn (T.item (compCxE X (inNm own Nm fr) scope d XE) rfl rfl rfl hc i _ s3 _ H3 _ pinD (stat fr3 pinsOut) st3 go) fun r s4 ⟨u,hr,h4⟩=>?_
   subst hr
   refine thn h4 fun _ s5 ⟨x,H5,I5,r5,y5,st5,fr5⟩=>?_
   have I5':=I5.pinned (stat fr5 pinsOut) (T.obj _ _ st5)
   refine thn (hg d XE _ s5 _ H5 x u _ I5' r5 (hgf _ _ _ _ (step x H5 y5))) fun _ s6 ⟨σ6,H6,I6,q6,l6,k6⟩=>?_
   have wk:∀ (j:Nat) v,(inSt own.length fr σ)[j]? = some (some v)→σ6[j]? = some (some v):=fun j v e=>by
    by_cases hj:j < own.length
    ·unfold inSt at e
     rw [List.getElem?_append_left (by simpa using hj),List.getElem?_replicate,if_pos hj] at e
     cases e
    ·rw [k6 j (by omega)]
     exact e
   refine thn (ht d XE _ s6 σ6 H6 _ I6 q6) fun b s7 ⟨H7,I7,q7⟩=>?_
   have fpK:∀ {σ':St} {H':Hp} {s':Shared},Inv (compCxE X (inNm own Nm fr) scope d XE) ([(s2.heap.objs.size,({ cls:=.type "list",data:=.seq its.toArray na }:Obj))] ++ pinsAt fp s5.heap) σ' H' s'→
     tn (i+1) s'.heap∧(∀ b∈fp,H' b=none)∧H' s2.heap.objs.size=none∧s'.heap.get? s2.heap.objs.size=some { cls:=.type "list",data:=.seq its.toArray na }:=fun {σ' H' s'} I'=>by
    have pD:=I'.pin (s2.heap.objs.size,{ cls:=.type "list",data:=.seq its.toArray na }) (List.mem_append_right _ (List.mem_append_left _ (List.mem_singleton.mpr rfl)))
    refine ⟨T.keep _ _ _ st5 fun b hb o e=>(I'.pin (b,o) (List.mem_append_right _ (List.mem_append_right _ (mem_pinsAt hb e)))).1,fun b hb=>?_,pD.2.1,pD.1⟩
    obtain ⟨o,e,_⟩:=T.obj _ _ st5 b hb
    exact (I'.pin (b,o) (List.mem_append_right _ (List.mem_append_right _ (mem_pinsAt hb e)))).2.1
   have drop:∀ {σ':St} {H':Hp} {s':Shared},(∀ (j:Nat) v,(inSt own.length fr σ)[j]? = some (some v)→σ'[j]? = some (some v))→Inv (compCxE X (inNm own Nm fr) scope d XE) ([(s2.heap.objs.size,({ cls:=.type "list",data:=.seq its.toArray na }:Obj))] ++ pinsAt fp s5.heap) σ' H' s'→
     Inv (compCxE X (inNm own Nm fr) scope d XE) [] (inSt own.length fr σ) H' s':=fun {σ' H' s'} hw I'=>
    (I'.pins_of (pins':=[]) (fun p hp=>absurd hp (by simp))).weak (lenSt.trans I'.len.symm) hw
   cases b with
   | false=>
    rw [if_neg Bool.false_ne_true]
    obtain ⟨m',hm,w'⟩:=hNx acc H7 (by rw [if_neg Bool.false_ne_true] at q7; exact q7)
    obtain ⟨k1,k2,k3,k4⟩:=fpK I7
    exact ⟨m',hm,i+1,acc,its,H7,drop wk I7,k1,k2,k3,va,⟨_,k4⟩,w'⟩
   | true=>
    rw [if_pos rfl]
    rw [if_pos rfl] at q7
    refine thn (he d XE rx _ s7 σ6 H7 _ I7 q7) fun y s8 ⟨yv,H8,I8,r8,q8⟩=>?_
    obtain ⟨m',hm,w'⟩:=hNx _ H8 q8
    obtain ⟨k1,k2,k3,k4⟩:=fpK I8
    have hsz:its.toArray.size≤sizeLine:=by
     rw [List.size_toArray,← va.length]
     exact Nat.le_of_lt hz
    refine wpAny_list_append_plain (hsz:=hsz) ⟨_,k4⟩ fun h9 hl9 hs9=>?_
    have I9:Inv (compCxE X (inNm own Nm fr) scope d XE) [] (inSt own.length fr σ) H8 { s8 with heap:=h9 }:=by
     refine (drop wk I8).turned (t':=s8.toks) (it:=s2.heap.objs.size) (fun b o hb e=>hs9.extBut b o hb e) k3 hDC (.inr (Nat.le_refl _)) (fun x c e=>?_) fun p hp=>absurd (show p∈([]:List (Addr × Obj)) from hp) (by simp)
     exact Nat.ne_of_lt (cellLt x c (cellL x c e).1)
    refine ⟨m',hm,i+1,acc ++ [yv],its ++ [y],H8,I9,T.keep _ _ _ k1 fun b hb o e=>hs9.extBut b o (fun z=>hDf (z▸hb)) e,k2,k3,va.append (.cons r8 .nil),?_,w'⟩
    rw [show (its ++ [y]).toArray=its.toArray.push y by simp]
    exact hl9
 exact codeAny_compStart_list (loop _) (T.self _ 0 _ _ _ (T.keep 0 _ _ st2 fun b _ o e=>old b o e) (loop _))
theorem ps_setcX {i:Nat} {x:Str} {pos pos':Pos} (hNd:X.N.Nodup) (hix:X.N[i]? = some x) (hxl:X.env.scope.names.lookup x=some .local) (S:CompOk sc Nm own fr scope) (hc:X.calm=true) (hgf:GFr own.length g) (hi:PI X tg iter wi)
  (hx:RXC X E) (hg:∀ d xe,PG (compCxE X (inNm own Nm fr) scope d xe) tg g) (ht:∀ d xe,PTs (compCxE X (inNm own Nm fr) scope d xe) ifs tt) (he:∀ d xe,RX (compCxE X (inNm own Nm fr) scope d xe) (fun _=>E)→PE (compCxE X (inNm own Nm fr) scope d xe) elt te) (hst:X.stack=X.env :: X.outer:=by rfl) (hfr:X.env.frame=some X.env.locals:=by rfl) (hsc:X.env.scope=sc:=by rfl) (hN:X.N=Nm:=by rfl)
  (hs:∀ x,foldedSetIterable iter X.env x=pure x:=by intro _; rfl)
  (hsw:swapsWith (.ListComp elt [⟨tg,iter,ifs,0⟩] scope cpos) (some (.Name x pos')) pos.line X.env=pure true:=by rfl) :
  PS X (.Assign [.Name x pos'] (.ListComp elt [⟨tg,iter,ifs,0⟩] scope cpos) pos) (tAsg (tComp own.length fr wi g tt te) (gName i)):=by
 intro pins s σ H D0 I h
 rw [exec_Assign_Name_used _ _ _ _ hsw]
 refine wpAny_bind (wpAny_standAt (wpAny_bind ?_))
 refine wpAny_bind (thn (comp_coreE (use:=some (assign (.Name x pos') X.env)) (Q0:=fun _ s'=>SP X pins D0 .next s') S hsc hN hc hgf hi hst hfr hx hg ht he hs I h fun D C Hd s' m I' q hn nC c1 c2 c3 c4=>?_) fun _ s' q=>wpAny_pure (wpAny_pure q))
 show wpAny _ _ (assign (.Name x pos') X.env (.ref D)) _ _ s'
 refine wpAny_assign_Name (store_ok2 I' hNd hix (.inl hxl) (v:=.ref D) rfl (fun s2 I2 ⟨a,sb,ha⟩=>?_) (.inr hxl))
 have hCa:C≠a:=by
  rcases ha with z | z
  ·rw [z]; exact c2
  ·exact (c3 x a z).symm
 refine ⟨m,hn.sameBut sb hCa,fun h' hb=>⟨_,Hd,I2.turned (t':=s2.toks) (fun b o hne e=>hb.extBut b o hne e) nC c2 (.inr c1) c3 c4,q⟩⟩
end
end L2
namespace L2
open PySem PySem.Spec PyProof.Rows
theorem SetTx.few {w:World} {o:Obj} {D:List Str} {n m:Nat} (h:SetTx w o D n) (hm:∀ ys:List Str,ys.Nodup→(∀ y∈ys,y∈D)→ys.length≤m):SetTx w o D m:=by
 obtain ⟨es,ep,t,e,a,nd,mem,_,r⟩:=h
 refine ⟨es,ep,t,e,a,nd,mem,?_,r⟩
 have:=hm _ nd fun y hy=>(mem y).mp hy
 simpa using this
inductive rSortSetMI (w:World) (xs:List V) (H:Hp) (Q:VK):Prop
 | mk (p D n:_) (h1:xs=[.ref p]) (h2:H p=some (setH w p D n)) (h3:(∀ ys:List Str,ys.Nodup→(∀ y∈ys,y∈D)→ys.length≤63)) (h4:∀ (ys:List Str) l,ys.Nodup→(∀ y,y∈ys↔y∈D)→sortedS ys=true→H l=none→Q (.ref l) (upd H l (.lst (ys.map V.str)))):rSortSetMI w xs H Q
def rSortSetM (w:World):List V→Hp→VK→Prop:=fun xs H Q=>rSortSetMI w xs H Q
theorem call_sortsetM {X:Cx} (hc:X.calm=true):CallR X (.builtin "sorted") (rSortSetM X.w):=by
 intro pins s σ H xs us Q I r h
 obtain ⟨p,D,n,rfl,hp,hm,q⟩:=h
 obtain ⟨u,rfl,ru⟩:=vals1 r
 cases ru
 obtain ⟨⟨o,e,sx⟩,_,_⟩:=(show ObjOk X.prog X.w H s.heap p (setH X.w p D n) from I.hok p _ hp)
 refine sorted_text (I.ok.hd hc) e (sx.few hm) (by decide) fun a out ee ys h' tk d' len sy nd mem so k le ea=>?_
 have hnone:H a=none:=I.hok.fresh le
 have hlen:out.length=ys.length:=by rw [← sy.strs,List.length_map]
 have lenD:ys.length≤sizeLine:=by rw [sizeLine_eq]; omega
 exact ⟨.ref a,_,(I.drawAny d').laid (s:={ s with drawn:=d' }) k le (show ObjOk X.prog X.w _ h' a (.lst (ys.map V.str)) from ⟨by rw [List.length_map]; exact lenD,out,ee,vals_strs sy,ea⟩),rfl,q ys a nd mem so hnone⟩
end L2
namespace My
open PySem PySem.Spec PyProof.Rows L2
def top (i:Nat):Stmt:=PySem.Challenge.pw_spreadwords_k19_texts_of_no_machine.main.body.getD i (.Pass ⟨0,0,0,0⟩)
abbrev s_rising:Stmt:=top 8
abbrev s_is_word:Stmt:=top 9
abbrev s_show_row:Stmt:=top 13
abbrev s_show_machine:Stmt:=top 14
abbrev s_is_number:Stmt:=top 15
abbrev s_read_letters:Stmt:=top 16
abbrev s_read_numbers:Stmt:=top 17
abbrev s_read_so_many:Stmt:=top 18
abbrev s_read_machine:Stmt:=top 19
abbrev s_law_flow:Stmt:=top 21
abbrev s_law_pick:Stmt:=top 22
abbrev s_law_alike:Stmt:=top 23
abbrev s_law_letters:Stmt:=top 24
abbrev s_law_caught:Stmt:=top 25
abbrev s_law_any_machine:Stmt:=top 26
abbrev s_law_number:Stmt:=top 27
abbrev s_law_machine_text:Stmt:=top 28
abbrev s_law_sign:Stmt:=top 29
abbrev s_law_row_otherwise:Stmt:=top 30
abbrev s_law_otherwise:Stmt:=top 31
abbrev s_law_number_in:Stmt:=top 32
abbrev s_law_are_letters:Stmt:=top 33
abbrev s_law_read:Stmt:=top 34
abbrev s_law_asked:Stmt:=top 35
abbrev s_law:Stmt:=top 36
theorem sc_rising:FnScope ["row"] ["row"] (defScope s_rising):=⟨rfl,rfl,rfl,by decide +kernel,rfl,by decide +kernel,by decide +kernel⟩
theorem sc_is_word:FnScope ["text"] ["text"] (defScope s_is_word):=⟨rfl,rfl,rfl,by decide +kernel,rfl,by decide +kernel,by decide +kernel⟩
theorem sc_show_row:FnScope ["name","numbers"] ["name","numbers"] (defScope s_show_row):=⟨rfl,rfl,rfl,by decide +kernel,rfl,by decide +kernel,by decide +kernel⟩
theorem sc_show_machine:FnScope ["machine","rows"] ["machine"] (defScope s_show_machine):=⟨rfl,rfl,rfl,by decide +kernel,rfl,by decide +kernel,by decide +kernel⟩
theorem sc_is_number:FnScope ["word","figures"] ["word"] (defScope s_is_number):=⟨rfl,rfl,rfl,by decide +kernel,rfl,by decide +kernel,by decide +kernel⟩
theorem sc_read_letters:FnScope ["row","words","letters"] ["row"] (defScope s_read_letters):=⟨rfl,rfl,rfl,by decide +kernel,rfl,by decide +kernel,by decide +kernel⟩
theorem sc_read_numbers:FnScope ["rows","at","name","words"] ["rows","at","name"] (defScope s_read_numbers):=⟨rfl,rfl,rfl,by decide +kernel,rfl,by decide +kernel,by decide +kernel⟩
theorem sc_read_so_many:FnScope ["rows","at","name","count","numbers"] ["rows","at","name","count"] (defScope s_read_so_many):=⟨rfl,rfl,rfl,by decide +kernel,rfl,by decide +kernel,by decide +kernel⟩
theorem sc_read_machine:FnScope ["text","rows","letters","begin","ends","last","steps"] ["text"] (defScope s_read_machine):=⟨rfl,rfl,rfl,by decide +kernel,rfl,by decide +kernel,by decide +kernel⟩
theorem sc_law_flow:FnScope ["_law_script"] ["_law_script"] (defScope s_law_flow):=⟨rfl,rfl,rfl,by decide +kernel,rfl,by decide +kernel,by decide +kernel⟩
theorem sc_law_pick:FnScope ["_law_flow_here","_law_many","_law_cell","_law_digit"] ["_law_flow_here","_law_many"] (defScope s_law_pick):=⟨rfl,rfl,rfl,by decide +kernel,rfl,by decide +kernel,by decide +kernel⟩
theorem sc_law_alike:FnScope ["_law_found","_law_due"] ["_law_found","_law_due"] (defScope s_law_alike):=⟨rfl,rfl,rfl,by decide +kernel,rfl,by decide +kernel,by decide +kernel⟩
theorem sc_law_letters:FnScope ["_law_flow_here","_law_many","_law_left"] ["_law_flow_here","_law_many"] (defScope s_law_letters):=⟨rfl,rfl,rfl,by decide +kernel,rfl,by decide +kernel,by decide +kernel⟩
theorem sc_law_caught:FnScope ["_law_e","_law_sorts"] ["_law_e"] (defScope s_law_caught):=⟨rfl,rfl,rfl,by decide +kernel,rfl,by decide +kernel,by decide +kernel⟩
theorem sc_law_any_machine:FnScope ["_law_flow_here","_law_way","_law_many","_law_rooms","_law_letters_here","_law_ends","_law_begin"] ["_law_flow_here"] (defScope s_law_any_machine):=⟨rfl,rfl,rfl,by decide +kernel,rfl,by decide +kernel,by decide +kernel⟩
theorem sc_law_number:FnScope ["_law_flow_here","_law_wide"] ["_law_flow_here"] (defScope s_law_number):=⟨rfl,rfl,rfl,by decide +kernel,rfl,by decide +kernel,by decide +kernel⟩
theorem sc_law_machine_text:FnScope ["_law_machine","_law_letters_here","_law_begin","_law_ends","_law_steps","_law_rows"] ["_law_machine"] (defScope s_law_machine_text):=⟨rfl,rfl,rfl,by decide +kernel,rfl,by decide +kernel,by decide +kernel⟩
theorem sc_law_sign:FnScope ["_law_flow_here","_law_near","_law_some","_law_far","_law_signs"] ["_law_flow_here"] (defScope s_law_sign):=⟨rfl,rfl,rfl,by decide +kernel,rfl,by decide +kernel,by decide +kernel⟩
theorem sc_law_row_otherwise:FnScope ["_law_flow_here","_law_row","_law_way","_law_words","_law_at","_law_spot","_law_some"] ["_law_flow_here","_law_row"] (defScope s_law_row_otherwise):=⟨rfl,rfl,rfl,by decide +kernel,rfl,by decide +kernel,by decide +kernel⟩
theorem sc_law_otherwise:FnScope ["_law_flow_here","_law_text","_law_way","_law_rows","_law_at","_law_other","_law_some"] ["_law_flow_here","_law_text"] (defScope s_law_otherwise):=⟨rfl,rfl,rfl,by decide +kernel,rfl,by decide +kernel,by decide +kernel⟩
theorem sc_law_number_in:FnScope ["_law_word"] ["_law_word"] (defScope s_law_number_in):=⟨rfl,rfl,rfl,by decide +kernel,rfl,by decide +kernel,by decide +kernel⟩
theorem sc_law_are_letters:FnScope ["_law_word","_law_small"] ["_law_word"] (defScope s_law_are_letters):=⟨rfl,rfl,rfl,by decide +kernel,rfl,by decide +kernel,by decide +kernel⟩
theorem sc_law_read:FnScope ["_law_text","_law_rows","_law_letters_here","_law_found","_law_at","_law_row","_law_words","_law_numbers"] ["_law_text"] (defScope s_law_read):=⟨rfl,rfl,rfl,by decide +kernel,rfl,by decide +kernel,by decide +kernel⟩
theorem sc_law_asked:FnScope ["_law_text","_law_caught_here","_law_e"] ["_law_text"] (defScope s_law_asked):=⟨rfl,rfl,rfl,by decide +kernel,rfl,by decide +kernel,by decide +kernel⟩
theorem sc_law:FnScope ["_law_script","_law_flow_here","_law_machine","_law_good","_law_texts","_law_k","_law_text","_law_turn","_law_due"] ["_law_script"] (defScope s_law):=⟨rfl,rfl,rfl,by decide +kernel,rfl,by decide +kernel,by decide +kernel⟩
abbrev s_NoText_init:Stmt:=(clsBody (top 2)).getD 0 (.Pass ⟨0,0,0,0⟩)
theorem sc_NoText_init:FnScope ["self","at"] ["self","at"] (defScope s_NoText_init):=⟨rfl,rfl,rfl,by decide +kernel,rfl,by decide +kernel,by decide +kernel⟩
theorem nd_law_alike_0:(inNm ["_law_k"] ["_law_found","_law_due"] [0,1]).Nodup:=by decide +kernel
theorem nd_law_letters_0:(inNm ["_law_k"] ["_law_flow_here","_law_many","_law_left"] [0,2]).Nodup:=by decide +kernel
theorem nd_rising_0:(inNm ["n"] ["row"] [0]).Nodup:=by decide +kernel
theorem nd_is_word_0:(inNm ["sign"] ["text"] []).Nodup:=by decide +kernel
theorem nd_show_row_0:(inNm ["number"] ["name","numbers"] []).Nodup:=by decide +kernel
theorem nd_show_machine_0:(inNm ["row"] ["machine","rows"] []).Nodup:=by decide +kernel
theorem nd_is_number_0:(inNm ["sign"] ["word","figures"] []).Nodup:=by decide +kernel
theorem nd_read_numbers_0:(inNm ["word"] ["rows","at","name","words"] []).Nodup:=by decide +kernel
theorem nd_read_numbers_1:(inNm ["word"] ["rows","at","name","words"] []).Nodup:=by decide +kernel
theorem nd_read_machine_0:(inNm ["at"] ["text","rows","letters","begin","ends","last","steps"] [1,2]).Nodup:=by decide +kernel
theorem nd_law_any_machine_0:(inNm ["_law_k"] ["_law_flow_here","_law_way","_law_many","_law_rooms","_law_letters_here","_law_ends","_law_begin"] [0]).Nodup:=by decide +kernel
theorem nd_law_any_machine_1:(inNm ["_law_room"] ["_law_flow_here","_law_way","_law_many","_law_rooms","_law_letters_here","_law_ends","_law_begin"] [0,4]).Nodup:=by decide +kernel
theorem nd_law_any_machine_2:(inNm ["_law_k"] ["_law_room","_law_flow_here","_law_letters_here"] [1]).Nodup:=by decide +kernel
theorem nd_law_machine_text_0:(inNm ["_law_room"] ["_law_machine","_law_letters_here","_law_begin","_law_ends","_law_steps","_law_rows"] []).Nodup:=by decide +kernel
theorem nd_law_machine_text_1:(inNm ["_law_row"] ["_law_machine","_law_letters_here","_law_begin","_law_ends","_law_steps","_law_rows"] []).Nodup:=by decide +kernel
theorem nd_law_machine_text_2:(inNm ["_law_to"] ["_law_row"] []).Nodup:=by decide +kernel
theorem nd_law_number_in_0:(inNm ["_law_sign_here"] ["_law_word"] []).Nodup:=by decide +kernel
theorem nd_law_are_letters_0:(inNm ["_law_sign_here"] ["_law_word","_law_small"] []).Nodup:=by decide +kernel
theorem nd_law_read_0:(inNm ["_law_word"] ["_law_text","_law_rows","_law_letters_here","_law_found","_law_at","_law_row","_law_words","_law_numbers"] []).Nodup:=by decide +kernel
structure Blt (mg:Str→Option Value):Prop where
 ValueError:mg "ValueError" = none
 all:mg "all" = none
 bool:mg "bool" = none
 enumerate:mg "enumerate" = none
 int:mg "int" = none
 isinstance:mg "isinstance" = none
 len:mg "len" = none
 list:mg "list" = none
 max:mg "max" = none
 min:mg "min" = none
 range:mg "range" = none
 set:mg "set" = none
 sorted:mg "sorted" = none
 str:mg "str" = none
 tuple:mg "tuple" = none
theorem iteD {p A B:Prop} [Decidable p] (hp:p) (h:A):if decide p=true then A else B:=by
 rw [if_pos (decide_eq_true hp)]
 exact h
inductive spLawI (K:PySem.W.Frag) (vs:List V) (H:Hp) (Q:VK):Prop
 | mk (a:Addr) (ns:List Int) (h1:vs=[.ref a]) (h2:SqL K H a (ns.map V.int)) (h3:ns.length≤63) (h4:∀ H',Q (.bl true) H'):spLawI K vs H Q
def spLaw (K:PySem.W.Frag):Sp:=fun vs H Q u3_=>spLawI K vs H Q
section
variable {P:Program} {w:World} {K:PySem.W.Frag} {mg:Str→Option Value} {base:Heap}
theorem rd_ix {K:PySem.W.Frag} {σ:L2.St} {H:Hp} {Q:VK} {p:Addr} {xs:List V} {i:Int} {v:V} {j:Nat} (h0:σ[j]? = some (some (.ref p))) (hp:H p=some (.lst xs)) (hv:atI xs i=some v) (q:Q v H):tOp (rIxL K) (tVar j) (tC (.int i)) σ H Q:=
 ⟨_,h0,p,xs,i,v,rfl,rfl,SqL.of hp,hv,q⟩
theorem ok_law_flow {f:Addr} {fd:FuncData} (F:Fun K "_law_flow" "_law_flow" s_law_flow f fd) (Z:Blt mg):FnOk P w K mg base CX0 1 f fd ["_law_script"] (spFlow K):=by
 refine F.ok sc_law_flow (fun vs H Q E h=>?_) (fun cdv A outer s H vs Q E hr h=>?_)
 ·obtain ⟨a,ns,rfl,_⟩:=h
  rfl
 obtain ⟨a,ns,rfl,hS,k⟩:=h
 refine ⟨_,(pss_one (ps_ret (pe_lst (pa_cons (pe_callTy (call_listK (K:=K)) (by rfl) Z.list bt_list (pa_cons (pv 0) pa_nil)) (pa_cons pe_int (pa_cons pe_int (pa_cons pe_int (pa_cons pe_int pa_nil)))))))),?_⟩
 refine ⟨_,rfl,a,_,rfl,.inl hS,fun l hl=>?_⟩
 refine ⟨(by show 5≤sizeLine; decide),fun p hp=>?_⟩
 have e1:Same H (upd H l (.lst (ns.map V.int))):=same_new hl _
 refine k p l _ (e1.free hp) (e1.trans (same_new hp _)) ⟨⟨_,upd_same,0,0,1,0,rfl,by decide,by decide,by decide,by decide,by decide⟩,ns,?_⟩
 rw [upd_ne (ne_of_none upd_same hp)]
 exact upd_same
theorem pick_last (c:Int) (m:Int) (hm:0 < m):0≤c % m∧c % m < m:=⟨Int.emod_nonneg _ (by omega),Int.emod_lt_of_pos _ hm⟩
theorem atI_ints {ns:List Int} {a:Int} (h0:0≤a) (h1:a < ((ns.map V.int).length:Int)):∃ z,atI (ns.map V.int) a=some (.int z):=by
 have hk:a.toNat < ns.length:=by
  rw [List.length_map] at h1
  omega
 have q:atI (ns.map V.int) ((a.toNat:Nat):Int)=some (.int ns[a.toNat]):=atI_nat (by rw [List.getElem?_map,List.getElem?_eq_getElem hk]; rfl)
 rw [show ((a.toNat:Nat):Int)=a by omega] at q
 exact ⟨_,q⟩
theorem ok_law_pick {f:Addr} {fd:FuncData} (F:Fun K "_law_pick" "_law_pick" s_law_pick f fd) (Z:Blt mg):FnOk P w K mg base CX0 1 f fd ["_law_flow_here","_law_many"] spPick:=by
 refine F.ok sc_law_pick (fun vs H Q E h=>?_) (fun cdv A outer s H vs Q E hr h=>?_)
 ·obtain ⟨p,sc,m,rfl,_⟩:=h
  rfl
 obtain ⟨p,sc,m,rfl,hm0,hm1,FA,k⟩:=h
 obtain ⟨xs,hp,a,b,c,d,rfl,ha,hb,hc0,hc1,hd⟩:=FA.here
 obtain ⟨ns,hs⟩:=FA.cells
 refine ⟨_,(pss_cut (ps_if (PW.pt (pw_and (pt_cmpR op_eq (pe_ix (ix_listK (K:=K)) (pv 0) pe_int (fun _ _=>rfl)) pe_int (nomark _)) (pw_and1 (pt_cmpR op_lt (pe_ix (ix_listK (K:=K)) (pv 0) pe_int (fun _ _=>rfl)) (pe_callB (call_lenK (K:=K)) (by rfl) Z.len bt_len (pa_cons (pe_ix (ix_listK (K:=K)) (pv 0) pe_int (fun _ _=>rfl)) pa_nil)) (nomark _))))) 
    (pss_cons (ps_set (i:=2) sc_law_pick.nd (by rfl) (Or.inl (by rfl)) (pe_ix (ix_listK (K:=K)) (pe_ix (ix_listK (K:=K)) (pv 0) pe_int (fun _ _=>rfl)) (pe_ix (ix_listK (K:=K)) (pv 0) pe_int (fun _ _=>rfl)) (fun _ _=>rfl))) 
    (pss_cons (ps_asg (pe_op op_add (pe_ix (ix_listK (K:=K)) (pv 0) pe_int (fun _ _=>rfl)) pe_int) (pg_sub (pv 0) pe_int set_list)) 
    (pss_one (ps_if (pt_cmpR op_ge (pv 2) (pe_op op_pow pe_int pe_int) (nomark _)) 
     (pss_one (ps_asg (pv 2) (pg_sub (pv 0) pe_int set_list))) 
     (pss_one (ps_asg (pe_op op_mod (pe_op op_add (pe_op op_add (pe_op op_mul (pe_ix (ix_listK (K:=K)) (pv 0) pe_int (fun _ _=>rfl)) pe_int) (pe_op op_mod (pv 2) pe_int)) pe_int) pe_int) (pg_sub (pv 0) pe_int set_list))))))) pss_nil) 
   (pss_cons (ps_if (pt_cmpR op_gt (pe_ix (ix_listK (K:=K)) (pv 0) pe_int (fun _ _=>rfl)) pe_int (nomark _)) 
    (pss_cons (ps_set (i:=3) sc_law_pick.nd (by rfl) (Or.inl (by rfl)) (pe_op op_mod (pe_ix (ix_listK (K:=K)) (pv 0) pe_int (fun _ _=>rfl)) (pv 1))) 
    (pss_cons (ps_asg (pe_op op_fdiv (pe_ix (ix_listK (K:=K)) (pv 0) pe_int (fun _ _=>rfl)) (pv 1)) (pg_sub (pv 0) pe_int set_list)) 
    (pss_one (ps_ret (pv 3))))) pss_nil) 
   (pss_cons (ps_asg (pe_op op_add (pe_ix (ix_listK (K:=K)) (pv 0) pe_int (fun _ _=>rfl)) pe_int) (pg_sub (pv 0) pe_int set_list)) 
   (pss_cons (ps_asg (pe_op op_mod (pe_op op_add (pe_op op_add (pe_op op_mul (pe_ix (ix_listK (K:=K)) (pv 0) pe_int (fun _ _=>rfl)) pe_int) pe_int) (pe_ix (ix_listK (K:=K)) (pv 0) pe_int (fun _ _=>rfl))) pe_int) (pg_sub (pv 0) pe_int set_list)) 
   (pss_one (ps_ret (pe_op op_mod (pe_op op_fdiv (pe_op op_mod (pe_op op_mul (pe_op op_add (pe_op op_mod (pe_ix (ix_listK (K:=K)) (pv 0) pe_int (fun _ _=>rfl)) pe_int) pe_int) (pe_op op_add (pe_op op_fdiv (pe_ix (ix_listK (K:=K)) (pv 0) pe_int (fun _ _=>rfl)) pe_int) pe_int)) pe_int) pe_int) (pv 1)))))))),?_⟩
 refine (let zz0:TS:=_; let zz1:TS:=tSeq _ zz0; let zz2:TS:=tSeq _ zz1; let zz3:TS:=_; let zz4:TS:=tSeq _ zz3; let zz5:TS:=tSeq _ zz4; let zz6:TS:=tSeq (tIfS _ zz5 _) zz2; let zz7:TS:=_; let zz8:TS:=tSeq _ zz7; let zz9:TS:=tSeq _ zz8; (?_:tCut (tIfS _ zz9 _) zz6 _ _ _))
 refine ⟨fun σ' H'=>∃ cv xs',σ'=[some (V.ref p),some (V.int m),cv,none]∧H' p=some (.lst xs')∧(∀ o,upd H' p o=upd H p o)∧FlowXs sc xs',?_,?_⟩
 ·have stay:∃ cv xs',[some (V.ref p),some (V.int m),none,none]=[some (V.ref p),some (V.int m),cv,none]∧H p=some (.lst xs')∧(∀ o,upd H p o=upd H p o)∧FlowXs sc xs':=⟨_,_,rfl,hp,fun _=>rfl,a,b,c,d,rfl,ha,hb,hc0,hc1,hd⟩
  refine rd_ix rfl hp (atI_nat (j:=2) rfl) ?_
  refine ⟨rfl,_,rfl,?_⟩
  refine ite2 (fun _=>?_) (fun _=>stay)
  refine rd_ix rfl hp (atI_nat (j:=1) rfl) ?_
  refine rd_ix rfl hp (atI_nat (j:=0) rfl) ?_
  refine ⟨sc,_,rfl,.inl (SqL.of hs),_,_,rfl,rfl,_,rfl,?_⟩
  refine ite2 (fun lt=>?_) (fun _=>stay)
  obtain ⟨z,hz⟩:=atI_ints (ns:=ns) ha (of_decide_eq_true lt)
  refine rd_ix rfl hp (atI_nat (j:=0) rfl) ?_
  refine rd_ix rfl hp (atI_nat (j:=1) rfl) ?_
  refine ⟨sc,_,_,_,rfl,rfl,SqL.of hs,hz,?_⟩
  refine rd_ix rfl hp (atI_nat (j:=1) rfl) ?_
  refine ⟨_,_,rfl,rfl,_,rfl,p,_,_,1,rfl,rfl,hp,rfl,?_⟩
  have hp1:upd H p (.lst [.ref sc,.int (a+1),.int b,.int c,.int d]) p=some (.lst [.ref sc,.int (a+1),.int b,.int c,.int d]):=upd_same
  refine ⟨_,rfl,_,_,rfl,rfl,⟨by decide,by decide,by decide⟩,_,_,rfl,rfl,_,rfl,?_⟩
  refine ite2 (fun big=>?_) (fun _=>?_)
  ·have big':(10:Int) ^ 18≤z:=of_decide_eq_true big
   refine ⟨_,rfl,_,rfl,p,_,_,2,rfl,rfl,hp1,rfl,?_⟩
   exact ⟨_,_,rfl,upd_same,fun o=>by rw [upd_upd,upd_upd],a+1,z,c,d,rfl,by omega,by omega,hc0,hc1,hd⟩
  ·refine rd_ix rfl hp1 (atI_nat (j:=3) rfl) ?_
   refine ⟨_,_,rfl,rfl,.inl ⟨by omega,by omega⟩,?_⟩
   refine ⟨_,rfl,_,_,rfl,rfl,(by show (0:Int) < 1000003; decide),_,_,rfl,rfl,_,_,rfl,rfl,_,_,rfl,rfl,(by show (0:Int) < 2147483647; decide),?_⟩
   refine ⟨_,rfl,p,_,_,3,rfl,rfl,hp1,rfl,?_⟩
   have q:=pick_last (c * 40013+z % 1000003+1) 2147483647 (by decide)
   exact ⟨_,_,rfl,upd_same,fun o=>by rw [upd_upd,upd_upd],a+1,b,_,d,rfl,by omega,hb,q.1,q.2,hd⟩
 ·rintro σ' H' ⟨cv,xs',rfl,hp',hu,a',b',c',d',rfl,ha',hb',hc0',hc1',hd'⟩
  refine rd_ix rfl hp' (atI_nat (j:=2) rfl) ?_
  refine ⟨_,_,rfl,rfl,_,rfl,?_⟩
  refine ite2 (fun pos=>?_) (fun _=>?_)
  ·have pos':0 < b':=of_decide_eq_true pos
   refine rd_ix rfl hp' (atI_nat (j:=2) rfl) ?_
   refine ⟨_,rfl,_,_,rfl,rfl,hm0,?_⟩
   refine rd_ix rfl hp' (atI_nat (j:=2) rfl) ?_
   refine ⟨_,rfl,_,_,rfl,rfl,⟨hm0,hm1⟩,_,rfl,p,_,_,2,rfl,rfl,hp',rfl,?_⟩
   refine ⟨_,rfl,?_⟩
   have q:=pick_last b' m hm0
   have e:=k (b' % m) [.ref sc,.int a',.int (b' / m),.int c',.int d'] q.1 q.2 ⟨a',b' / m,c',d',rfl,ha',Int.ediv_nonneg hb' (by omega),hc0',hc1',hd'⟩
   rw [← hu] at e
   exact e
  ·refine rd_ix rfl hp' (atI_nat (j:=4) rfl) ?_
   refine ⟨_,_,rfl,rfl,_,rfl,p,_,_,4,rfl,rfl,hp',rfl,?_⟩
   have hp2:upd H' p (.lst [.ref sc,.int a',.int b',.int c',.int (d'+1)]) p=some (.lst [.ref sc,.int a',.int b',.int c',.int (d'+1)]):=upd_same
   refine rd_ix rfl hp2 (atI_nat (j:=3) rfl) ?_
   refine ⟨_,_,rfl,rfl,.inl ⟨by omega,by omega⟩,_,_,rfl,rfl,?_⟩
   refine rd_ix rfl hp2 (atI_nat (j:=4) rfl) ?_
   refine ⟨_,_,rfl,rfl,_,_,rfl,rfl,(by show (0:Int) < 2147483647; decide),?_⟩
   refine ⟨_,rfl,p,_,_,3,rfl,rfl,hp2,rfl,?_⟩
   have q:=pick_last (c' * 48271+12820163+(d'+1)) 2147483647 (by decide)
   have hp3:∀ H3:Hp,upd H3 p (.lst [.ref sc,.int a',.int b',.int ((c' * 48271+12820163+(d'+1)) % 2147483647),.int (d'+1)]) p=some (.lst [.ref sc,.int a',.int b',.int ((c' * 48271+12820163+(d'+1)) % 2147483647),.int (d'+1)]):=fun _=>upd_same
   refine rd_ix rfl (hp3 _) (atI_nat (j:=3) rfl) ?_
   refine ⟨_,_,rfl,rfl,(by show (0:Int) < 65521; decide),_,_,rfl,rfl,?_⟩
   refine rd_ix rfl (hp3 _) (atI_nat (j:=3) rfl) ?_
   have q2:=pick_last ((c' * 48271+12820163+(d'+1)) % 2147483647) 65521 (by decide)
   refine ⟨_,_,rfl,rfl,⟨by decide,by decide⟩,_,_,rfl,rfl,_,_,rfl,rfl,.inl ⟨by omega,by omega⟩,_,_,rfl,rfl,(by show (0:Int) < 1000003; decide),_,_,rfl,rfl,⟨by decide,by decide⟩,_,rfl,_,_,rfl,rfl,hm0,?_⟩
   have q3:=pick_last (((c' * 48271+12820163+(d'+1)) % 2147483647 % 65521+1) * ((c' * 48271+12820163+(d'+1)) % 2147483647 / 65521+7919) % 1000003 / 7) m hm0
   have e:=k _ [.ref sc,.int a',.int b',.int ((c' * 48271+12820163+(d'+1)) % 2147483647),.int (d'+1)] q3.1 q3.2 ⟨a',b',_,d'+1,rfl,ha',hb',q.1,q.2,by omega⟩
   rw [← hu,← upd_upd (H:=H') (o:=.lst [.ref sc,.int a',.int b',.int c',.int (d'+1)])] at e
   exact e
theorem atI_0 {α:Type} {xs:List α} {i:Nat} {v:α} (h:xs[i]? = some v):atI xs (0+(i:Int))=some v:=by
 rw [Int.zero_add]
 exact atI_nat h
def Sq2 (H:Hp) (a:Addr) (xs:List V):Prop:=H a=some (.lst xs)∨H a=some (.tup xs)
theorem Sq2.ix {K:PySem.W.Frag} {H:Hp} {a:Addr} {xs:List V} {i:Int} {v:V} {Q:VK} (h:Sq2 H a xs) (hv:atI xs i=some v) (q:Q v H):rIx K (.ref a) (.int i) H Q:=by
 rcases h with h | h
 ·exact .inl ⟨a,xs,i,v,rfl,rfl,SqL.of h,hv,q⟩
 ·exact .inr (.inl ⟨a,xs,i,v,rfl,rfl,SqT.of h,hv,q⟩)
theorem Sq2.same {H H':Hp} {a:Addr} {xs:List V} (h:Sq2 H a xs) (e:Same H H'):Sq2 H' a xs:=by
 rcases h with h | h
 ·exact .inl (e _ _ h)
 ·exact .inr (e _ _ h)
theorem all_true (n:Nat):(List.replicate n true).all id=true:=by
 induction n with
 | zero=>rfl
 | succ n ih=>rw [List.replicate_succ,List.all_cons,ih]; rfl
theorem alike_turn {n:Nat} {a b:Addr} {xs ys:List V} {ds:List Dt} {H1 H2:Hp} {i:Nat} {σ:L2.St} (ha:Sq2 H1 a xs) (hb:Sq2 H1 b ys) (hx:xs.length=ds.length) (hy:ys.length=ds.length) (hdp:∀ d'∈ds,d'.dep < n)
  (dx:∀ (i:Nat) x d',xs[i]? = some x→ds[i]? = some d'→Den H1 x d') (dy:∀ (i:Nat) x d',ys[i]? = some x→ds[i]? = some d'→Den H1 x d') (e2:Same H1 H2) (hi':i < ys.length)
  (h0:σ[0]? = some (some (.int (0+(i:Int))))) (h1:σ[1]? = some (some (.ref a))) (h2:σ[2]? = some (some (.ref b))) :
  tCall (spAlike n) [] E0 (tCons (tOp (rIx K) (tVar 1) (tVar 0)) (tCons (tOp (rIx K) (tVar 2) (tVar 0)) tNil)) σ H2 fun v H6=>List.replicate i (V.bl true) ++ [v]=List.replicate (i+1) (V.bl true)∧Same H1 H6:=by
 have hix:i < xs.length:=by omega
 have hid:i < ds.length:=by omega
 refine ⟨_,h1,_,h0,(ha.same e2).ix (atI_0 (List.getElem?_eq_getElem hix)) ?_⟩
 refine ⟨_,h2,_,h0,(hb.same e2).ix (atI_0 (List.getElem?_eq_getElem hi')) ?_⟩
 refine ⟨xs[i],ys[i],ds[i],rfl,hdp _ (List.getElem_mem hid),(dx i _ _ (List.getElem?_eq_getElem hix) (List.getElem?_eq_getElem hid)).same e2,(dy i _ _ (List.getElem?_eq_getElem hi') (List.getElem?_eq_getElem hid)).same e2,fun H3 e3=>⟨?_,e2.trans e3⟩⟩
 rw [List.replicate_succ']
theorem alike_step {n:Nat} {f:Addr} {fd:FuncData} (F:Fun K "_law_alike" "_law_alike" s_law_alike f fd) (Z:Blt mg) (C_law_alike:Cal P w K mg base "_law_alike" n ["_law_found","_law_due"] (spAlike n)) :
  FnOk P w K mg base CX0 (n+1) f fd ["_law_found","_law_due"] (spAlike (n+1)):=by
 refine F.ok sc_law_alike (fun vs H Q E h=>?_) (fun cdv A outer s H vs Q E hr h=>?_)
 ·obtain ⟨u,v,d,rfl,_⟩:=h
  rfl
 obtain ⟨u,v,d,rfl,hd,du,dv,k⟩:=h
 refine ⟨_,(pss_cons (ps_if (pt_truthK (K:=K) (pe_callB (call_is2K (K:=K)) (by rfl) Z.isinstance bt_isinstance (pa_cons (pv 1) (pa_cons (pe_tup (pa_cons (pe_bltn (v:=V.ty "list") (by rfl) Z.list bt_list rfl) (pa_cons (pe_bltn (v:=V.ty "tuple") (by rfl) Z.tuple bt_tuple rfl) pa_nil))) pa_nil))) (fun _=>rfl)) 
    (pss_cons (ps_if (pt_cmpR op_ne (pe_callB (call_isK (K:=K)) (by rfl) Z.isinstance bt_isinstance (pa_cons (pv 0) (pa_cons (pe_bltn (v:=V.ty "list") (by rfl) Z.list bt_list rfl) pa_nil))) (pe_callB (call_isK (K:=K)) (by rfl) Z.isinstance bt_isinstance (pa_cons (pv 1) (pa_cons (pe_bltn (v:=V.ty "list") (by rfl) Z.list bt_list rfl) pa_nil))) (nomark _)) 
     (pss_one (ps_ret pe_bl)) pss_nil) 
    (pss_cons (ps_if (pt_cmpR op_ne (pe_callB (call_isK (K:=K)) (by rfl) Z.isinstance bt_isinstance (pa_cons (pv 0) (pa_cons (pe_bltn (v:=V.ty "tuple") (by rfl) Z.tuple bt_tuple rfl) pa_nil))) (pe_callB (call_isK (K:=K)) (by rfl) Z.isinstance bt_isinstance (pa_cons (pv 1) (pa_cons (pe_bltn (v:=V.ty "tuple") (by rfl) Z.tuple bt_tuple rfl) pa_nil))) (nomark _)) 
     (pss_one (ps_ret pe_bl)) pss_nil) 
    (pss_cons (ps_if (pt_cmpR op_ne (pe_callB (call_lenK (K:=K)) (by rfl) Z.len bt_len (pa_cons (pv 0) pa_nil)) (pe_callB (call_lenK (K:=K)) (by rfl) Z.len bt_len (pa_cons (pv 1) pa_nil)) (nomark _)) 
     (pss_one (ps_ret pe_bl)) pss_nil) 
    (pss_one (ps_ret (pe_callB (call_allK (K:=K)) (by rfl) Z.all bt_all (pa_cons (pe_comp (sc:=defScope s_law_alike) (Nm:=["_law_found","_law_due"]) (own:=["_law_k"]) (fr:=[0,1]) ⟨rfl,by decide +kernel,by decide +kernel,by decide +kernel,by decide +kernel⟩ (by rfl) (gfr_name (by decide)) (pi_range1 (by rfl) Z.range (pa_cons (pe_callB (call_lenK (K:=K)) (by rfl) Z.len bt_len (pa_cons (pv 1) pa_nil)) pa_nil)) (fun d=>(pg_name (i:=0) nd_law_alike_0 (by rfl) (Or.inl (by rfl)))) (fun d=>pts_nil) (fun d=>(pe_c C_law_alike hr (pa_cons (pe_ix (ix_seqK (K:=K)) (pv 1) (pv 0) (fun _ _=>rfl)) (pa_cons (pe_ix (ix_seqK (K:=K)) (pv 2) (pv 0) (fun _ _=>rfl)) pa_nil))))) pa_nil))))))) pss_nil) 
   (pss_one (ps_ret (pe_and (pe_cmpR op_eq (pe_callB (call_isK (K:=K)) (by rfl) Z.isinstance bt_isinstance (pa_cons (pv 0) (pa_cons (pe_bltn (v:=V.ty "bool") (by rfl) Z.bool bt_bool rfl) pa_nil))) (pe_callB (call_isK (K:=K)) (by rfl) Z.isinstance bt_isinstance (pa_cons (pv 1) (pa_cons (pe_bltn (v:=V.ty "bool") (by rfl) Z.bool bt_bool rfl) pa_nil))) (nomark _)) (pe_one (pe_cmpR op_eq (pv 0) (pv 1) (nomark _))))))),?_⟩
 refine (let zz0:TS:=_; let zz1:TS:=_; let zz2:TS:=tSeq _ zz1; let zz3:TS:=tSeq _ zz2; let zz4:TS:=tSeq _ zz3; (?_:tSeq (tIfS _ zz4 _) zz0 _ _ _))
 have hz2:sizeLine=16777216:=sizeLine_eq
 cases du with
 | non=>
  cases dv
  refine ⟨_,rfl,(by show 2≤sizeLine; decide),fun tp htp=>?_⟩
  refine ⟨_,tp,_,_,_,_,rfl,upd_same,.non,kit_tt K "NoneType" _ _ _ (kit_n_l K) (kit_n_t K) rfl,_,rfl,iteF ?_⟩
  refine ⟨_,rfl,_,_,_,_,rfl,.non,kit_n_b K,_,rfl,_,_,_,_,rfl,.non,kit_n_b K,rfl,_,rfl,iteD rfl ?_⟩
  refine ⟨_,rfl,_,rfl,rfl,?_⟩
  rw [decide_eq_true rfl]
  exact k _ (same_new htp _)
 | bl b=>
  cases dv
  refine ⟨_,rfl,(by show 2≤sizeLine; decide),fun tp htp=>?_⟩
  refine ⟨_,tp,_,_,_,_,rfl,upd_same,.bl b,kit_tt K "bool" _ _ _ (kit_b_l K) (kit_b_t K) rfl,_,rfl,iteF ?_⟩
  refine ⟨_,rfl,_,_,_,_,rfl,.bl b,kit_b_b K,_,rfl,_,_,_,_,rfl,.bl b,kit_b_b K,rfl,_,rfl,iteD rfl ?_⟩
  refine ⟨_,rfl,_,rfl,rfl,?_⟩
  rw [decide_eq_true rfl]
  exact k _ (same_new htp _)
 | int i=>
  cases dv
  refine ⟨_,rfl,(by show 2≤sizeLine; decide),fun tp htp=>?_⟩
  refine ⟨_,tp,_,_,_,_,rfl,upd_same,.int i,kit_tt K "int" _ _ _ (kit_i_l K) (kit_i_t K) rfl,_,rfl,iteF ?_⟩
  refine ⟨_,rfl,_,_,_,_,rfl,.int i,kit_i_b K,_,rfl,_,_,_,_,rfl,.int i,kit_i_b K,rfl,_,rfl,iteD rfl ?_⟩
  refine ⟨_,rfl,_,rfl,rfl,?_⟩
  rw [decide_eq_true rfl]
  exact k _ (same_new htp _)
 | str x=>
  cases dv
  refine ⟨_,rfl,(by show 2≤sizeLine; decide),fun tp htp=>?_⟩
  refine ⟨_,tp,_,_,_,_,rfl,upd_same,.str x,kit_tt K "str" _ _ _ (kit_s_l K) (kit_s_t K) rfl,_,rfl,iteF ?_⟩
  refine ⟨_,rfl,_,_,_,_,rfl,.str x,kit_s_b K,_,rfl,_,_,_,_,rfl,.str x,kit_s_b K,rfl,_,rfl,iteD rfl ?_⟩
  refine ⟨_,rfl,_,rfl,rfl,?_⟩
  rw [decide_eq_true rfl]
  exact k _ (same_new htp _)
 | @lst a xs ds h hz hl hdd=>
  cases dv with
  | @lst b ys _ h' hz' hl' hdd'=>
   refine ⟨_,rfl,(by show 2≤sizeLine; decide),fun tp htp=>?_⟩
   have e1:Same H (upd H tp (.tup [.ty "list",.ty "tuple"])):=same_new htp _
   refine ⟨_,tp,_,_,_,_,rfl,upd_same,.lst (e1 _ _ h'),kit_tt K "list" _ _ _ (kit_l_l K) (kit_l_t K) rfl,_,rfl,iteT ?_⟩
   refine ⟨_,rfl,_,_,_,_,rfl,.lst (e1 _ _ h),kit_l_l K,_,rfl,_,_,_,_,rfl,.lst (e1 _ _ h'),kit_l_l K,rfl,_,rfl,iteNS rfl ?_⟩
   refine ⟨_,rfl,_,_,_,_,rfl,.lst (e1 _ _ h),kit_l_t K,_,rfl,_,_,_,_,rfl,.lst (e1 _ _ h'),kit_l_t K,rfl,_,rfl,iteNS rfl ?_⟩
   refine ⟨_,rfl,a,xs,rfl,.inl (SqL.of (e1 _ _ h)),_,rfl,b,ys,rfl,.inl (SqL.of (e1 _ _ h')),rfl,_,rfl,iteNS (by rw [hl,hl']) ?_⟩
   refine ⟨_,rfl,b,ys,rfl,.inl (SqL.of (e1 _ _ h')),_,rfl,by omega,by omega,?_⟩
   have sa:Sq2 (upd H tp (.tup [.ty "list",.ty "tuple"])) a xs:=.inl (e1 _ _ h)
   have sb:Sq2 (upd H tp (.tup [.ty "list",.ty "tuple"])) b ys:=.inl (e1 _ _ h')
   refine comp_range (lo:=0) (k:=((ys.length:Int)).toNat) (fun i acc H2=>acc=List.replicate i (V.bl true)∧Same (upd H tp (.tup [.ty "list",.ty "tuple"])) H2) (by omega) ⟨rfl,Same.refl _⟩ (fun i acc H2 p=>by rw [p.1,List.length_replicate]; exact Nat.le_refl _)
    (fun i acc H2 hi p=>?_) (fun acc H2 p l hl2=>?_)
   ·obtain ⟨rfl,e2⟩:=p
    exact cyes (alike_turn sa sb hl hl' (fun d' hd'=>by have:=Dt.dep_lst hd'; omega) (fun i x d' z1 z2=>(hdd i x d' z1 z2).same e1) (fun i x d' z1 z2=>(hdd' i x d' z1 z2).same e1) e2 (by omega) rfl rfl rfl)
   ·obtain ⟨rfl,e2⟩:=p
    refine ⟨l,List.replicate ((ys.length:Int)).toNat true,rfl,SqL.of (by rw [upd_same,List.map_replicate]),?_⟩
    rw [all_true]
    exact k _ ((e1.trans e2).trans (same_new hl2 _))
 | @tup a xs ds h hz hl hdd=>
  cases dv with
  | @tup b ys _ h' hz' hl' hdd'=>
   refine ⟨_,rfl,(by show 2≤sizeLine; decide),fun tp htp=>?_⟩
   have e1:Same H (upd H tp (.tup [.ty "list",.ty "tuple"])):=same_new htp _
   refine ⟨_,tp,_,_,_,_,rfl,upd_same,.tup (e1 _ _ h'),kit_tt K "tuple" _ _ _ (kit_t_l K) (kit_t_t K) rfl,_,rfl,iteT ?_⟩
   refine ⟨_,rfl,_,_,_,_,rfl,.tup (e1 _ _ h),kit_t_l K,_,rfl,_,_,_,_,rfl,.tup (e1 _ _ h'),kit_t_l K,rfl,_,rfl,iteNS rfl ?_⟩
   refine ⟨_,rfl,_,_,_,_,rfl,.tup (e1 _ _ h),kit_t_t K,_,rfl,_,_,_,_,rfl,.tup (e1 _ _ h'),kit_t_t K,rfl,_,rfl,iteNS rfl ?_⟩
   refine ⟨_,rfl,a,xs,rfl,.inr (SqT.of (e1 _ _ h)),_,rfl,b,ys,rfl,.inr (SqT.of (e1 _ _ h')),rfl,_,rfl,iteNS (by rw [hl,hl']) ?_⟩
   refine ⟨_,rfl,b,ys,rfl,.inr (SqT.of (e1 _ _ h')),_,rfl,by omega,by omega,?_⟩
   have sa:Sq2 (upd H tp (.tup [.ty "list",.ty "tuple"])) a xs:=.inr (e1 _ _ h)
   have sb:Sq2 (upd H tp (.tup [.ty "list",.ty "tuple"])) b ys:=.inr (e1 _ _ h')
   refine comp_range (lo:=0) (k:=((ys.length:Int)).toNat) (fun i acc H2=>acc=List.replicate i (V.bl true)∧Same (upd H tp (.tup [.ty "list",.ty "tuple"])) H2) (by omega) ⟨rfl,Same.refl _⟩ (fun i acc H2 p=>by rw [p.1,List.length_replicate]; exact Nat.le_refl _)
    (fun i acc H2 hi p=>?_) (fun acc H2 p l hl2=>?_)
   ·obtain ⟨rfl,e2⟩:=p
    exact cyes (alike_turn sa sb hl hl' (fun d' hd'=>by have:=Dt.dep_tup hd'; omega) (fun i x d' z1 z2=>(hdd i x d' z1 z2).same e1) (fun i x d' z1 z2=>(hdd' i x d' z1 z2).same e1) e2 (by omega) rfl rfl rfl)
   ·obtain ⟨rfl,e2⟩:=p
    refine ⟨l,List.replicate ((ys.length:Int)).toNat true,rfl,SqL.of (by rw [upd_same,List.map_replicate]),?_⟩
    rw [all_true]
    exact k _ ((e1.trans e2).trans (same_new hl2 _))
theorem alike_none {f:Addr} {fd:FuncData}:FnOk P w K mg base CX0 0 f fd ["_law_found","_law_due"] (spAlike 0):=by
 have no:∀ vs H Q E,¬ spAlike 0 vs H Q E:=fun vs H Q E h=>by
  obtain ⟨u,v,d,_,hd,_⟩:=h
  omega
 exact ⟨fun vs H Q E h=>absurd h (no vs H Q E),fun A outer s H args us vs Q E _ _ _ _ h=>absurd h (no vs H Q E)⟩
theorem ok_law_alike {f:Addr} {fd:FuncData} (F:Fun K "_law_alike" "_law_alike" s_law_alike f fd) (b:Binds K fd ["_law_found","_law_due"] []) (m:mg "_law_alike" = some (.ref f)) (Z:Blt mg):∀ n:Nat,FnOk P w K mg base CX0 n f fd ["_law_found","_law_due"] (spAlike n)
 | 0=>alike_none
 | n+1=>alike_step F Z ⟨f,fd,ok_law_alike F b m Z n,m,F.kp,b⟩
def one (c:Nat):Str:=⟨#[c]⟩
theorem one_list (c:Nat):(one c).cps.toList=[c]:=rfl
theorem strs_ones {ys':List Str} {cs:List Nat} (h:ys'.Perm (cs.map one)):∃ cs':List Nat,cs'.Perm cs∧ys'=cs'.map one:=by
 have e:∀ y∈ys',y=one (y.cps.toList.headD 0):=fun y hy=>by
  obtain ⟨c,_,rfl⟩:=List.mem_map.mp (h.mem_iff.mp hy)
  rfl
 have e2:ys'=(ys'.map fun y=>y.cps.toList.headD 0).map one:=by
  rw [List.map_map]
  have:∀ (l:List Str),(∀ y∈l,y=one (y.cps.toList.headD 0))→l=l.map (one ∘ fun y=>y.cps.toList.headD 0):=by
   intro l
   induction l with
   | nil=>intro _; rfl
   | cons y r ih=>
    intro hl
    rw [List.map_cons,← ih fun z hz=>hl z (List.mem_cons_of_mem _ hz)]
    exact congrArg (· :: r) (hl y List.mem_cons_self)
  exact this ys' e
 refine ⟨_,?_,e2⟩
 have p:=h.map fun y:Str=>y.cps.toList.headD 0
 rw [List.map_map] at p
 have:(fun y:Str=>y.cps.toList.headD 0) ∘ one=id:=rfl
 rw [this,List.map_id] at p
 exact p
theorem lt_cps_one (a b:Nat):ltCps (one a).cps.toList (one b).cps.toList=decide (a < b):=by
 rw [ltCps_eq]
 exact lt_one a b
theorem rising_ones:∀ (p:Nat) (cs:List Nat),risingS (one p) (cs.map one)=true→∀ c∈cs,p≤c
 | _,[],_,c,hc=>by cases hc
 | p,x :: r,h,c,hc=>by
  have h':(!ltCps (one x).cps.toList (one p).cps.toList && risingS (one x) (r.map one))=true:=h
  rw [Bool.and_eq_true,lt_cps_one] at h'
  have h1:p≤x:=by
   have:=h'.1
   simp at this
   exact this
  rcases List.mem_cons.mp hc with e | e
  ·subst e; exact h1
  ·exact Nat.le_trans h1 (rising_ones x r h'.2 c e)
theorem sorted_ones:∀ (cs:List Nat),sortedS (cs.map one)=true→cs.Pairwise (·≤·)
 | [],_=>.nil
 | p :: r,h=>by
  have h':risingS (one p) (r.map one)=true:=h
  refine List.Pairwise.cons (rising_ones p r h') (sorted_ones r ?_)
  cases r with
  | nil=>rfl
  | cons x r=>
   have h2:(!ltCps (one x).cps.toList (one p).cps.toList && risingS (one x) (r.map one))=true:=h'
   rw [Bool.and_eq_true] at h2
   exact h2.2
theorem lt_of_le_nodup:∀ {cs:List Nat},cs.Pairwise (·≤·)→cs.Nodup→cs.Pairwise (· < ·)
 | [],_,_=>.nil
 | p :: r,h,n=>by
  cases h with
  | cons h1 h2=>
   rw [List.nodup_cons] at n
   refine List.Pairwise.cons (fun c hc=>?_) (lt_of_le_nodup h2 n.2)
   have:=h1 c hc
   have:p≠c:=fun e=>n.1 (e▸hc)
   omega
theorem erase_perm {α:Type}:∀ {l:List α} {n:Nat} {v:α},l[n]? = some v→(v :: l.eraseIdx n).Perm l
 | [],n,v,h=>by simp at h
 | x :: r,0,v,h=>by
  have e:x=v:=by simpa using h
  subst e
  exact List.Perm.refl _
 | x :: r,n+1,v,h=>by
  have ih:=erase_perm (l:=r) (n:=n) (v:=v) (by simpa using h)
  rw [List.eraseIdx_cons_succ]
  exact (List.Perm.swap x v _).trans (List.Perm.cons x ih)
theorem erase_map {α β:Type} (f:α→β):∀ (l:List α) (i:Nat),(l.map f).eraseIdx i=(l.eraseIdx i).map f
 | [],_=>rfl
 | _ :: _,0=>rfl
 | x :: r,i+1=>by
  rw [List.map_cons,List.eraseIdx_cons_succ,List.eraseIdx_cons_succ,List.map_cons,erase_map f r i]
theorem flat_ones (cs:List Nat):((cs.map one).map fun y=>y.cps.toList).flatten=cs:=by
 induction cs with
 | nil=>rfl
 | cons c r ih=>rw [List.map_cons,List.map_cons,List.flatten_cons,ih]; rfl
theorem sum_ones (cs:List Nat):((cs.map one).map (·.length)).sum=cs.length:=by
 induction cs with
 | nil=>rfl
 | cons c r ih=>rw [List.map_cons,List.map_cons,List.sum_cons,ih,List.length_cons,Nat.add_comm]; rfl
def abc:List Nat:=(List.range 26).map (· + 97)
theorem abc_is:(Str.ofString "abcdefghijklmnopqrstuvwxyz").cps.toList=abc:=by decide +kernel
theorem abc_nodup:abc.Nodup:=by decide +kernel
theorem abc_mem {c:Nat} (h:c∈abc):97≤c∧c≤122:=by
 unfold abc at h
 obtain ⟨i,hi,rfl⟩:=List.mem_map.mp h
 have:=List.mem_range.mp hi
 omega
theorem oneS_map (cs:List Nat):cs.map oneS=(cs.map one).map V.str:=by
 rw [List.map_map]
 rfl
theorem ok_law_letters {f:Addr} {fd:FuncData} (F:Fun K "_law_letters" "_law_letters" s_law_letters f fd) (Z:Blt mg) (C_law_pick:Cal P w K mg base "_law_pick" 1 ["_law_flow_here","_law_many"] spPick) :
  FnOk P w K mg base CX0 2 f fd ["_law_flow_here","_law_many"] spLetters:=by
 refine F.ok sc_law_letters (fun vs H Q E h=>?_) (fun cdv A outer s H vs Q E hr h=>?_)
 ·obtain ⟨p,sc,m,rfl,_⟩:=h
  rfl
 obtain ⟨p,sc,m,rfl,hm0,hm1,FA,k⟩:=h
 refine ⟨_,(pss_cons (ps_set (i:=2) sc_law_letters.nd (by rfl) (Or.inr (by rfl)) (pe_callTy (call_list_text (by rfl)) (by rfl) Z.list bt_list (pa_cons pe_str pa_nil))) 
   (pss_one (ps_ret (pe_bmK (K:=K) PySem.F.plainAttrs_str PySem.F.slot_str_join PySem.F.type_str_join (mt_joinK (K:=K)) pe_str (pa_cons (pe_callB (call_sortK (K:=K)) (by rfl) Z.sorted bt_sorted (pa_cons (pe_comp (sc:=defScope s_law_letters) (Nm:=["_law_flow_here","_law_many","_law_left"]) (own:=["_law_k"]) (fr:=[0,2]) ⟨rfl,by decide +kernel,by decide +kernel,by decide +kernel,by decide +kernel⟩ (by rfl) (gfr_name (by decide)) (pi_range1 (by rfl) Z.range (pa_cons (pv 1) pa_nil)) (fun d=>(pg_name (i:=0) nd_law_letters_0 (by rfl) (Or.inl (by rfl)))) (fun d=>pts_nil) (fun d=>(pe_bmK (K:=K) PySem.F.plainAttrs_list PySem.F.slot_list_pop PySem.F.type_list_pop mt_popAt (pv 2) (pa_cons (pe_c C_law_pick (hr.mono (by decide)) (pa_cons (pv 1) (pa_cons (pe_callB (call_lenK (K:=K)) (by rfl) Z.len bt_len (pa_cons (pv 2) pa_nil)) pa_nil))) pa_nil)))) pa_nil)) pa_nil))))),?_⟩
 refine (let zz0:TS:=_; (?_:tSeq _ zz0 _ _ _))
 refine ⟨_,rfl,(by decide +kernel),fun l hl=>?_⟩
 have e1:Same H (upd H l (.lst ((Str.ofString "abcdefghijklmnopqrstuvwxyz").cps.toList.map oneS))):=same_new hl _
 have npl:p≠l:=by
  obtain ⟨xs,hp,_⟩:=FA.here
  exact ne_of_none hp hl
 refine ⟨rfl,_,rfl,_,rfl,by omega,by omega,?_⟩
 refine comp_range (lo:=0) (k:=m.toNat) (fun i acc H2=>∃ ys rem:List Nat,acc=ys.map oneS∧ys.length=i∧H2 l=some (.lst (rem.map oneS))∧(ys ++ rem).Perm abc∧FlowAt H2 p sc∧Drew H H2 p) (Nat.lt_of_le_of_lt (show m.toNat≤26 by omega) (by decide))
  ⟨[],abc,rfl,rfl,by rw [upd_same,abc_is],List.Perm.refl _,FA.same e1,Drew.same e1⟩ (fun i acc H2 ⟨ys,rem,e,hl',_⟩=>by rw [e,List.length_map,hl']; exact Nat.le_refl _) (fun i acc H2 hi hp=>?_) (fun acc H2 hp q hq=>?_)
 ·obtain ⟨ys,rem,rfl,hyl,hrem,hperm,FA2,dr⟩:=hp
  have hlen:ys.length+rem.length=26:=by
   have:=hperm.length_eq
   rw [List.length_append] at this
   exact this
  refine cyes ?_
  refine ⟨_,rfl,.inl ⟨rfl,_,SqL.of hrem⟩,_,rfl,_,rfl,l,_,rfl,.inl (SqL.of hrem),p,sc,_,rfl,?_,?_,FA2,fun r xs hr0 hr1 hxs=>?_⟩
  ·rw [List.length_map]; omega
  ·rw [List.length_map]; omega
  ·have hr1':r < (rem.length:Int):=by
    rw [List.length_map] at hr1
    exact hr1
   have hrn:r.toNat < rem.length:=by omega
   have hv:rem[r.toNat]? = some rem[r.toNat]:=List.getElem?_eq_getElem hrn
   have hl2:upd H2 p (.lst xs) l=some (.lst (rem.map oneS)):=by rw [upd_ne (Ne.symm npl)]; exact hrem
   refine ⟨l,_,r,r.toNat,oneS rem[r.toNat],rfl,rfl,hl2,by omega,by omega,?_,?_,?_⟩
   ·rw [List.length_map]
    exact seqIndex_of hr0 hr1'
   ·rw [List.getElem?_map,hv]
    rfl
   ·refine ⟨ys ++ [rem[r.toNat]],rem.eraseIdx r.toNat,by rw [List.map_append]; rfl,by rw [List.length_append,hyl]; rfl,?_,?_,?_,?_⟩
    ·rw [upd_same,erase_map]
    ·rw [List.append_assoc]
     exact (List.Perm.append_left ys (erase_perm hv)).trans hperm
    ·have FA3:=FA2.go hxs
     obtain ⟨xs',h1,h2⟩:=FA3.here
     obtain ⟨ns,h3⟩:=FA3.cells
     refine ⟨⟨xs',by rw [upd_ne npl]; exact h1,h2⟩,ns,?_⟩
     rw [upd_ne ?_]
     ·exact h3
     ·obtain ⟨ns0,h0⟩:=FA.cells
      exact ne_of_none h0 hl
    ·intro b o hb hne
     rw [upd_ne (ne_of_none hb hl),upd_ne hne]
     exact dr b o hb hne
 ·obtain ⟨ys,rem,rfl,hyl,hrem,hperm,FA2,dr⟩:=hp
  have hn:ys.Nodup:=(List.nodup_append.mp (hperm.nodup_iff.mpr abc_nodup)).1
  refine ⟨q,ys.map one,rfl,SqL.of (by rw [upd_same,oneS_map]),by rw [List.length_map]; omega,fun ys' l2 hp2 hs2 hl2=>?_⟩
  obtain ⟨cs,hc,rfl⟩:=strs_ones hp2
  have hclen:=hc.length_eq
  refine ⟨_,l2,cs.map one,rfl,rfl,SqL.of upd_same,?_,?_⟩
  ·rw [sum_ones,List.length_map]
   have:(Str.ofString "").length=0:=by decide +kernel
   rw [this]
   omega
  ·have e3:=join_nil_list (cs.map one)
   rw [flat_ones] at e3
   refine k _ _ ⟨?_,?_,fun c hcm=>?_⟩ ?_ ?_
   ·rw [e3]; omega
   ·rw [e3]
    exact lt_of_le_nodup (sorted_ones cs hs2) (hc.nodup_iff.mpr hn)
   ·rw [e3] at hcm
    exact abc_mem (hperm.mem_iff.mp (List.mem_append_left _ (hc.mem_iff.mp hcm)))
   ·exact dr.trans (Drew.trans (Drew.same (same_new hq _)) (Drew.same (same_new hl2 _)))
   ·exact (FA2.same (same_new hq _)).same (same_new hl2 _)
theorem FlowAt.drew {H H':Hp} {p sc:Addr} (F:FlowAt H p sc) (d:Drew H H' p) (h:∃ xs,H' p=some (.lst xs)∧FlowXs sc xs):FlowAt H' p sc:=by
 obtain ⟨ns,h3⟩:=F.cells
 exact ⟨h,ns,d _ _ h3 F.ne⟩
theorem drew_go {H0 H:Hp} {p:Addr} (d:Drew H0 H p) (o:HO):Drew H0 (upd H p o) p:=d.trans (Drew.upd o)
theorem atI_sign {l:Str} {r:Int} (h0:0≤r) (h1:r < (l.length:Int)):∃ c,c∈l.cps.toList∧atI l.cps.toList r=some c:=by
 have hk:r.toNat < l.cps.toList.length:=by
  have:l.cps.toList.length=l.length:=by simp [Str.length]
  omega
 refine ⟨l.cps.toList[r.toNat],List.getElem_mem hk,?_⟩
 have q:atI l.cps.toList ((r.toNat:Nat):Int)=some l.cps.toList[r.toNat]:=atI_nat (List.getElem?_eq_getElem hk)
 rw [show ((r.toNat:Nat):Int)=r by omega] at q
 exact q
def Drawn (H:Hp) (p sc:Addr) (l:Str) (i:Nat) (acc:List V) (H2:Hp):Prop:=∃ ys:List Nat,acc=ys.map oneS∧ys.length=i∧(∀ c∈ys,c∈l.cps.toList)∧FlowAt H2 p sc∧Drew H H2 p
theorem join_ones_len (ys:List Nat) (h:ys.length≤1000):((ys.map one).map (·.length)).sum+(ys.map one).length * (Str.ofString "").length≤16777216:=by
 have:(Str.ofString "").length=0:=by decide +kernel
 rw [sum_ones,this]
 omega
theorem join_ones (ys:List Nat):(Txt.join (Str.ofString "") (ys.map one)).cps.toList=ys:=by
 rw [join_nil_list,flat_ones]
def wB (c:Nat):Bool:=decide (97≤c) && decide (c≤122)
def rB (cs:List Nat) (i:Nat):Bool:=decide (cs.getD i 0 < cs.getD (i+1) 0)
def risB (cs:List Nat):Bool:=((List.range (cs.length - 1)).map (rB cs)).all id
def wordB (cs:List Nat):Bool:=(cs.map wB).all id
inductive spRisingI (vs:List V) (H:Hp) (Q:VK):Prop
 | mk (z:Str) (h1:vs=[.str z]) (h2:z.length≤1000) (h3:∀ H',Same H H'→Q (.bl (risB z.cps.toList)) H'):spRisingI vs H Q
def spRising:Sp:=fun vs H Q u3_=>spRisingI vs H Q
inductive spIsWordI (vs:List V) (H:Hp) (Q:VK):Prop
 | mk (z:Str) (h1:vs=[.str z]) (h2:z.length≤1000) (h3:∀ H',Same H H'→Q (.bl (wordB z.cps.toList)) H'):spIsWordI vs H Q
def spIsWord:Sp:=fun vs H Q u3_=>spIsWordI vs H Q
theorem len_list (z:Str):z.cps.toList.length=z.length:=by simp [Str.length]
theorem a_list:(Str.ofString "a").cps.toList=[97]:=by decide +kernel
theorem z_list:(Str.ofString "z").cps.toList=[122]:=by decide +kernel
theorem chain_az {σ:L2.St} {H:Hp} {c:Nat} {Q:VK} {j:Nat} (hj:σ[j]? = some (some (.str ⟨#[c]⟩))) (q:Q (.bl (wB c)) H) :
  tChain (fun x y H Q=>∃ i j,x=V.str i∧y=V.str j∧Q (.bl (!decide (j.cps.toList < i.cps.toList))) H) (fun x y H Q=>∃ i j,x=V.str i∧y=V.str j∧Q (.bl (!decide (j.cps.toList < i.cps.toList))) H) (tC (.str (Str.ofString "a"))) (tVar j) (tC (.str (Str.ofString "z"))) σ H Q:=by
 refine ⟨_,hj,_,_,rfl,rfl,_,rfl,?_⟩
 have e1:decide ((⟨#[c]⟩:Str).cps.toList < (Str.ofString "a").cps.toList)=decide (c < 97):=by rw [a_list]; exact lt_one c 97
 have e2:decide ((Str.ofString "z").cps.toList < (⟨#[c]⟩:Str).cps.toList)=decide (122 < c):=by rw [z_list]; exact lt_one 122 c
 rw [e1]
 by_cases h:c < 97
 ·have:wB c=false:=by unfold wB; rw [decide_eq_false (by omega)]; rfl
  rw [decide_eq_true h]
  rw [this] at q
  exact iteF q
 ·rw [decide_eq_false h]
  refine iteT ⟨_,_,rfl,rfl,?_⟩
  rw [e2]
  have:wB c = !decide (122 < c):=by
   unfold wB
   rw [decide_eq_true (show 97≤c by omega),Bool.true_and]
   by_cases h2:122 < c
   ·rw [decide_eq_true h2,decide_eq_false (by omega)]; rfl
   ·rw [decide_eq_false h2,decide_eq_true (by omega)]; rfl
  rw [this] at q
  exact q
def Seen (H:Hp) (f:Nat→Bool) (cs:List Nat) (i:Nat) (acc:List V) (H2:Hp):Prop:=acc=((cs.take i).map f).map V.bl∧i≤cs.length∧Same H H2
theorem seen_len {H:Hp} {f:Nat→Bool} {cs:List Nat}:∀ i acc H2,Seen H f cs i acc H2→acc.length≤i:=fun i acc H2 ⟨e,_,_⟩=>by
 rw [e,List.length_map,List.length_map,List.length_take]
 exact Nat.min_le_left _ _
theorem seen_step {H H2:Hp} {f:Nat→Bool} {cs:List Nat} {i:Nat} {acc:List V} {c:Nat} (hc:cs[i]? = some c) (h:Seen H f cs i acc H2):Seen H f cs (i+1) (acc ++ [.bl (f c)]) H2:=by
 obtain ⟨rfl,hi,e⟩:=h
 have hlt:i < cs.length:=(List.getElem?_eq_some_iff.mp hc).1
 refine ⟨?_,hlt,e⟩
 rw [List.take_add_one,hc,List.map_append,List.map_append]
 rfl
theorem atI_at {cs:List Nat} {i:Nat} (h:i < cs.length):atI cs (0+(i:Int))=some (cs.getD i 0):=by
 rw [List.getD_eq_getElem?_getD,List.getElem?_eq_getElem h]
 exact atI_0 (List.getElem?_eq_getElem h)
theorem atI_at1 {cs:List Nat} {i:Nat} (h:i+1 < cs.length):atI cs (0+(i:Int)+1)=some (cs.getD (i+1) 0):=by
 have:=atI_at h
 rw [show (0:Int)+((i+1:Nat):Int)=0+(i:Int)+1 by omega] at this
 exact this
theorem less_next {σ:L2.St} {H:Hp} {z:Str} {Q:VK} {i:Nat} {jr jn:Nat} (hz:z.length≤1000) (hi:i+1 < z.cps.toList.length) (hr:σ[jr]? = some (some (.str z))) (hn:σ[jn]? = some (some (.int (0+(i:Int))))) (q:Q (.bl (rB z.cps.toList i)) H) :
  tOp (fun x y H Q=>∃ i j,x=V.str i∧y=V.str j∧Q (.bl (decide (i.cps.toList < j.cps.toList))) H) (tOp rIxS (tVar jr) (tVar jn)) (tOp rIxS (tVar jr) (tOp (rI0 fun i j=>.int (i+j)) (tVar jn) (tC (.int 1)))) σ H Q:=by
 refine ⟨_,hr,_,hn,z,_,_,rfl,rfl,line_le hz,atI_at (by omega),_,hr,_,hn,_,_,rfl,rfl,z,_,_,rfl,rfl,line_le hz,atI_at1 hi,_,_,rfl,rfl,?_⟩
 have e:decide ((⟨#[z.cps.toList.getD i 0]⟩:Str).cps.toList < (⟨#[z.cps.toList.getD (i+1) 0]⟩:Str).cps.toList)=rB z.cps.toList i:=lt_one _ _
 rw [e]
 exact q
def SeenR (H:Hp) (cs:List Nat) (i:Nat) (acc:List V) (H2:Hp):Prop:=acc=((List.range i).map (rB cs)).map V.bl∧Same H H2
theorem seenR_len {H:Hp} {cs:List Nat}:∀ i acc H2,SeenR H cs i acc H2→acc.length≤i:=fun i acc H2 ⟨e,_⟩=>by
 rw [e,List.length_map,List.length_map,List.length_range]
 exact Nat.le_refl _
theorem seenR_step {H H2:Hp} {cs:List Nat} {i:Nat} {acc:List V} (h:SeenR H cs i acc H2):SeenR H cs (i+1) (acc ++ [.bl (rB cs i)]) H2:=by
 obtain ⟨rfl,e⟩:=h
 refine ⟨?_,e⟩
 rw [List.range_succ,List.map_append,List.map_append]
 rfl
theorem ok_rising {f:Addr} {fd:FuncData} (F:Fun K "rising" "rising" s_rising f fd) (Z:Blt mg):FnOk P w K mg base CX0 1 f fd ["row"] spRising:=by
 refine F.ok sc_rising (fun vs H Q E h=>?_) (fun cdv A outer s H vs Q E hr h=>?_)
 ·obtain ⟨z,rfl,_⟩:=h
  rfl
 obtain ⟨z,rfl,hz,k⟩:=h
 refine ⟨_,(pss_one (ps_ret (pe_callB (call_allK (K:=K)) (by rfl) Z.all bt_all (pa_cons (pe_comp (sc:=defScope s_rising) (Nm:=["row"]) (own:=["n"]) (fr:=[0]) ⟨rfl,by decide +kernel,by decide +kernel,by decide +kernel,by decide +kernel⟩ (by rfl) (gfr_name (by decide)) (pi_range1 (by rfl) Z.range (pa_cons (pe_op op_sub (pe_callB call_len_str (by rfl) Z.len bt_len (pa_cons (pv 0) pa_nil)) pe_int) pa_nil)) (fun d=>(pg_name (i:=0) nd_rising_0 (by rfl) (Or.inl (by rfl)))) (fun d=>pts_nil) (fun d=>(pe_cmpR op_lt_str (pe_ix ix_str (pv 1) (pv 0) (fun _ _=>rfl)) (pe_ix ix_str (pv 1) (pe_op op_add (pv 0) pe_int) (fun _ _=>rfl)) (nomark _)))) pa_nil)))),?_⟩
 have hl:=len_list z
 refine ⟨_,rfl,z,rfl,line_le hz,_,_,rfl,rfl,_,rfl,by omega,by omega,?_⟩
 refine comp_range (lo:=0) (k:=((z.length:Int) - 1).toNat) (SeenR H z.cps.toList) (Nat.lt_of_le_of_lt (show ((z.length:Int) - 1).toNat≤1000 by omega) (by decide)) ⟨rfl,Same.refl _⟩ seenR_len
  (fun i acc H2 hi hp=>cyes (less_next hz (by omega) rfl rfl (seenR_step hp))) (fun acc H2 hp l hl2=>?_)
 obtain ⟨rfl,e⟩:=hp
 refine ⟨l,_,rfl,SqL.of upd_same,?_⟩
 have q:=k _ (e.trans (same_new hl2 (.lst (((List.range ((z.length:Int) - 1).toNat).map (rB z.cps.toList)).map V.bl))))
 unfold risB at q
 rw [hl,show z.length - 1=((z.length:Int) - 1).toNat by omega] at q
 exact q
theorem ok_is_word {f:Addr} {fd:FuncData} (F:Fun K "is_word" "is_word" s_is_word f fd) (Z:Blt mg):FnOk P w K mg base CX0 1 f fd ["text"] spIsWord:=by
 refine F.ok sc_is_word (fun vs H Q E h=>?_) (fun cdv A outer s H vs Q E hr h=>?_)
 ·obtain ⟨z,rfl,_⟩:=h
  rfl
 obtain ⟨z,rfl,hz,k⟩:=h
 refine ⟨_,(pss_one (ps_ret (pe_callB (call_allK (K:=K)) (by rfl) Z.all bt_all (pa_cons (pe_comp (sc:=defScope s_is_word) (Nm:=["text"]) (own:=["sign"]) (fr:=[]) ⟨rfl,by decide +kernel,by decide +kernel,by decide +kernel,by decide +kernel⟩ (by rfl) (gfr_name (by decide)) (pi_str (pv 0)) (fun d=>(pg_name (i:=0) nd_is_word_0 (by rfl) (Or.inl (by rfl)))) (fun d=>pts_nil) (fun d=>(pe_chain op_le_str op_le_str pe_str (pv 0) pe_str))) pa_nil)))),?_⟩
 have hl:=len_list z
 refine ⟨_,rfl,z,rfl,?_⟩
 refine comp_str (cs:=z.cps.toList) (Seen H wB z.cps.toList) (by rw [hl]; exact small1000 hz) ⟨rfl,Nat.zero_le _,Same.refl _⟩ seen_len
  (fun i acc H2 c hc hp=>cyes (chain_az rfl (seen_step hc hp))) (fun acc H2 hp l hl2=>?_)
 obtain ⟨rfl,_,e⟩:=hp
 rw [List.take_length]
 exact ⟨l,_,rfl,SqL.of upd_same,k _ (e.trans (same_new hl2 _))⟩
theorem str_ext {x y:Str} (h:x.cps.toList=y.cps.toList):x=y:=by
 cases x with
 | mk a=>
  cases y with
  | mk b=>exact congrArg Str.mk (Array.toList_inj.mp h)
theorem ifN {c:Bool} {A B:Prop} (h:c=false) (b:B):if c=true then A else B:=by rw [h]; exact b
theorem ifY {c:Bool} {A B:Prop} (h:c=true) (a:A):if c=true then A else B:=by rw [if_pos h]; exact a
theorem ris_pw {α:Type} (lt:α→α→Prop) (tr:∀ {a b c},lt a b→lt b c→lt a c) (d:α):∀ xs:List α,(∀ i,i+1 < xs.length→lt (xs.getD i d) (xs.getD (i+1) d))↔xs.Pairwise lt
 | []=>⟨fun _=>.nil,fun _ i h=>by simp at h⟩
 | [x]=>⟨fun _=>List.pairwise_singleton _ _,fun _ i h=>by simp at h⟩
 | x :: y :: r=>by
  have ih:=ris_pw lt tr d (y :: r)
  constructor
  ·intro h
   have h2:=ih.mp fun i hi=>h (i+1) (by simpa using hi)
   refine List.Pairwise.cons (fun z hz=>?_) h2
   have hxy:lt x y:=h 0 (by simp)
   rcases List.mem_cons.mp hz with e | e
   ·rw [e]; exact hxy
   ·cases h2 with
    | cons h3 _=>exact tr hxy (h3 z e)
  ·intro h i hi
   cases h with
   | cons h1 h2=>
    cases i with
    | zero=>exact h1 y List.mem_cons_self
    | succ i=>exact ih.mpr h2 i (by simpa using hi)
theorem all_range {n:Nat} {p:Nat→Bool}:((List.range n).map p).all id=true↔∀ i,i < n→p i=true:=by
 rw [List.all_map,List.all_eq_true]
 exact ⟨fun h i hi=>h i (List.mem_range.mpr hi),fun h i hi=>h i (List.mem_range.mp hi)⟩
theorem risB_iff (cs:List Nat):risB cs=true↔cs.Pairwise (· < ·):=by
 rw [← ris_pw (· < ·) (fun h k=>Nat.lt_trans h k) 0 cs]
 unfold risB rB
 rw [all_range]
 exact ⟨fun h i hi=>of_decide_eq_true (h i (by omega)),fun h i hi=>decide_eq_true (h i (by omega))⟩
theorem wB_abc (c:Nat):wB c=decide (c∈abc):=by
 unfold wB
 rw [Bool.eq_iff_iff,Bool.and_eq_true,decide_eq_true_eq,decide_eq_true_eq,decide_eq_true_eq]
 refine ⟨fun h=>?_,abc_mem⟩
 unfold abc
 exact List.mem_map.mpr ⟨c - 97,List.mem_range.mpr (by omega),by omega⟩
theorem sorted_cs {sm:List Nat} {ys:List Str} (nd:ys.Nodup) (mem:∀ y,y∈ys↔y∈sm.map one) (so:sortedS ys=true):∃ cs:List Nat,ys=cs.map one∧cs.Pairwise (· < ·)∧∀ c,c∈cs↔c∈sm:=by
 have e:ys=(ys.map fun y=>y.cps.toList.headD 0).map one:=by
  rw [List.map_map]
  have:∀ (l:List Str),(∀ y∈l,y∈sm.map one)→l=l.map (one ∘ fun y=>y.cps.toList.headD 0):=by
   intro l
   induction l with
   | nil=>intro _; rfl
   | cons y r ih=>
    intro hl
    rw [List.map_cons,← ih fun z hz=>hl z (List.mem_cons_of_mem _ hz)]
    obtain ⟨c,_,rfl⟩:=List.mem_map.mp (hl y List.mem_cons_self)
    rfl
  exact this ys fun y hy=>(mem y).mp hy
 generalize (ys.map fun y=>y.cps.toList.headD 0)=cs at e
 subst e
 have oi:∀ a b:Nat,one a=one b→a=b:=fun a b h=>by
  have:(one a).cps.toList=(one b).cps.toList:=by rw [h]
  rw [one_list,one_list] at this
  exact (List.cons.inj this).1
 have nd':cs.Nodup:=(List.pairwise_map.mp nd).imp fun h e=>h (by rw [e])
 refine ⟨cs,rfl,lt_of_le_nodup (sorted_ones cs so) nd',fun c=>?_⟩
 have:=mem (one c)
 rw [List.mem_map,List.mem_map] at this
 constructor
 ·intro h
  obtain ⟨d,hd,e⟩:=this.mp ⟨c,h,rfl⟩
  rw [← oi d c e]
  exact hd
 ·intro h
  obtain ⟨d,hd,e⟩:=this.mpr ⟨c,h,rfl⟩
  rw [← oi d c e]
  exact hd
theorem pw_len:∀ (cs:List Nat) (u v:Nat),cs.Pairwise (· < ·)→(∀ c∈cs,u≤c∧c≤v)→cs.length≤v+1 - u
 | [],_,_,_,_=>Nat.zero_le _
 | c :: r,u,v,h,hm=>by
  have h':=List.pairwise_cons.mp h
  have:=pw_len r (c+1) v h'.2 fun d hd=>⟨h'.1 d hd,(hm d (List.mem_cons_of_mem _ hd)).2⟩
  have:=hm c List.mem_cons_self
  rw [List.length_cons]
  omega
theorem jl_sum (c:Nat):∀ ls:List (List Nat),ls≠[]→(jl c ls).length+1=(ls.map fun x=>x.length+1).sum
 | [],h=>absurd rfl h
 | [x],_=>by simp [jl]
 | x :: y :: r,_=>by
  have ih:=jl_sum c (y :: r) (by simp)
  rw [jl_cons,List.length_append,List.length_cons,List.map_cons,List.sum_cons,← ih]
  omega
theorem sum_of {c:Nat} {ys:List Str} (h:ys≠[]):(Txt.join ⟨#[c]⟩ ys).length+1=(ys.map fun y=>y.length+1).sum:=by
 have e:Txt.join ⟨#[c]⟩ ys=Str.join ⟨#[c]⟩ ys:=StrLaws.glued_eq_join _ _
 have h2:=join_jl c ys
 rw [← len_list,e,h2,jl_sum c _ (by simpa using h),List.map_map]
 exact congrArg List.sum (List.map_congr_left fun y _=>by show y.cps.toList.length+1=_; rw [len_list])
theorem mem_sum {f:Str→Nat} {z:Str}:∀ {ys:List Str},z∈ys→f z≤(ys.map f).sum
 | y :: r,h=>by
  rw [List.map_cons,List.sum_cons]
  rcases List.mem_cons.mp h with e | h
  ·rw [e]; omega
  ·have:=mem_sum (f:=f) h
   omega
theorem split_mem {c:Nat} {t z:Str} (h:z∈Txt.split t ⟨#[c]⟩):z.length≤t.length:=by
 have e:Txt.join ⟨#[c]⟩ (Txt.split t ⟨#[c]⟩)=t:=(StrLaws.glued_eq_join _ _).trans (StrLaws.join_split t ⟨#[c]⟩)
 have h1:=sum_of (c:=c) (ys:=Txt.split t ⟨#[c]⟩) fun z=>by rw [z] at h; cases h
 have h2:=mem_sum (f:=fun y=>y.length+1) h
 rw [e] at h1
 omega
theorem sum_ge:∀ ys:List Str,ys.length≤(ys.map fun y=>y.length+1).sum
 | []=>Nat.zero_le _
 | y :: r=>by
  have:=sum_ge r
  rw [List.map_cons,List.sum_cons,List.length_cons]
  omega
theorem nodup_lt:∀ (n:Nat) (l:List Nat),l.Nodup→(∀ x∈l,x < n)→l.length≤n
 | 0,[],_,_=>Nat.le_refl _
 | 0,x :: _,_,h=>absurd (h x List.mem_cons_self) (Nat.not_lt_zero _)
 | n+1,l,nd,h=>by
  have ih:=nodup_lt n (l.filter (· != n)) (nd.filter _) fun x hx=>by
   obtain ⟨h1,h2⟩:=List.mem_filter.mp hx
   have:=h x h1
   have h3:x≠n:=by simpa using h2
   omega
  have key:∀ (l:List Nat),l.Nodup→l.length≤(l.filter (· != n)).length+1:=by
   intro l
   induction l with
   | nil=>intro _; exact Nat.zero_le _
   | cons a t iht=>
    intro nd
    obtain ⟨na,nt⟩:=List.nodup_cons.mp nd
    rw [List.filter_cons]
    by_cases c:a=n
    ·subst c
     rw [if_neg (by simp)]
     have:t.filter (· != a)=t:=List.filter_eq_self.mpr fun x hx=>by
      have:x≠a:=fun z=>na (z▸hx)
      simpa using this
     rw [this]
     exact Nat.le_refl _
    ·rw [if_pos (by simpa using c)]
     have:=iht nt
     simp only [List.length_cons]
     omega
  have:=key l nd
  omega
variable {R:Nat→Nat→Prop} {k1 k2:Nat→Nat}
theorem ones_few {ys:List Str} (nd:ys.Nodup) (h:∀ y∈ys,∃ c,(97≤c∧c≤122)∧y=one c):ys.length≤26:=by
 have hm:∀ n∈ys.map (fun y=>y.cps.toList.headD 0 - 97),n < 26:=fun n hn=>by
  obtain ⟨y,hy,rfl⟩:=List.mem_map.mp hn
  obtain ⟨c,hc,rfl⟩:=h y hy
  show c - 97 < 26
  omega
 have hn:(ys.map fun y=>y.cps.toList.headD 0 - 97).Nodup:=by
  refine List.pairwise_map.mpr (List.Pairwise.imp_of_mem (fun {a b} ha hb hne e=>hne ?_) nd)
  obtain ⟨c,hc,rfl⟩:=h a ha
  obtain ⟨d,hd,rfl⟩:=h b hb
  have e:c - 97=d - 97:=e
  rw [show c=d by omega]
 have:=nodup_lt 26 _ hn hm
 rwa [List.length_map] at this
def nI (n:Nat):V:=.int (n:Int)
def Tk (H H':Hp):Prop:=∀ b ys,H b=some (.tup ys)→H' b=some (.tup ys)
theorem Tk.same {H H':Hp} (e:Same H H'):Tk H H':=fun b ys h=>e b _ h
theorem Tk.drew {H H':Hp} {p sc:Addr} (F:FlowAt H p sc) (d:Drew H H' p):Tk H H':=fun b ys h=>by
 obtain ⟨xs,hp,_⟩:=F.here
 exact d _ _ h (ne_of h hp fun z=>nomatch z)
theorem same_put {H H':Hp} {c:Addr} (e:Same H H') (h:H c=none) (o:HO):Same H (upd H' c o):=fun b u q=>by
 rw [upd_ne (ne_of_none q h)]
 exact e b u q
theorem none_of {H H':Hp} {p:Addr} (e:Same H H') (h:H' p=none):H p=none:=by
 cases z:H p with
 | none=>rfl
 | some o=>rw [e _ _ z] at h; cases h
inductive TR {α:Type} (tv:α→List V) (H:Hp):List V→List α→Prop where
 | nil:TR tv H [] []
 | cons {a:Addr} {r:α} {vs:List V} {rs:List α} (h:H a=some (.tup (tv r))) (t:TR tv H vs rs):TR tv H (.ref a :: vs) (r :: rs)
section
variable {α:Type} {tv:α→List V}
theorem TR.keep {H H':Hp} (e:Tk H H'):∀ {vs:List V} {rs:List α},TR tv H vs rs→TR tv H' vs rs
 | _,_,.nil=>.nil
 | _,_,.cons h t=>.cons (e _ _ h) (t.keep e)
theorem TR.snoc {H:Hp} {a:Addr} {r:α} (h:H a=some (.tup (tv r))):∀ {vs:List V} {rs:List α},TR tv H vs rs→TR tv H (vs ++ [.ref a]) (rs ++ [r])
 | _,_,.nil=>.cons h .nil
 | _,_,.cons h' t=>.cons h' (t.snoc h)
theorem TR.len {H:Hp}:∀ {vs:List V} {rs:List α},TR tv H vs rs→vs.length=rs.length
 | _,_,.nil=>rfl
 | _,_,.cons _ t=>by rw [List.length_cons,List.length_cons,t.len]
theorem TR.at_ {H:Hp}:∀ {vs:List V} {rs:List α} {i:Nat} {x:V},TR tv H vs rs→vs[i]? = some x→∃ a r,x=.ref a∧rs[i]? = some r∧H a=some (.tup (tv r))
 | _,_,i,x,.nil,h=>by simp at h
 | _,_,0,x,.cons (a:=a) (r:=r) h' t,h=>by
  cases h
  exact ⟨a,r,rfl,rfl,h'⟩
 | _,_,i+1,x,.cons h' t,h=>t.at_ (i:=i) (by simpa using h)
end
theorem map_take {α β:Type} {f:α→β} {l:List α} {i:Nat} {x:α} (h:l[i]? = some x):(l.take (i+1)).map f=(l.take i).map f ++ [f x]:=by
 rw [List.take_add_one,h,List.map_append]
 rfl
theorem map_snoc {α β:Type} (f:α→β) (l:List α) (x:α):l.map f ++ [f x]=(l ++ [x]).map f:=by
 rw [List.map_append]
 rfl
def tns (r:List Nat):List V:=r.map nI
def MT (H:Hp) (m:Addr) (l:Str) (b:Nat) (es:List Nat) (st:List (List Nat)):Prop:=∃ (e s:Addr) (xs:List V),H m=some (.tup [.str l,nI b,.ref e,.ref s])∧H e=some (.tup (es.map nI))∧H s=some (.tup xs)∧TR tns H xs st
theorem MT.keep {H H':Hp} {m:Addr} {l:Str} {b:Nat} {es:List Nat} {st:List (List Nat)} (h:MT H m l b es st) (e:Tk H H'):MT H' m l b es st:=by
 obtain ⟨e1,s1,xs,h1,h2,h3,h4⟩:=h
 exact ⟨e1,s1,xs,e _ _ h1,e _ _ h2,e _ _ h3,h4.keep e⟩
structure OkM (l:Str) (b:Nat) (es:List Nat) (st:List (List Nat)):Prop where
 let_:∃ n,IsLetters l n∧1≤n∧n≤26
 beg:b < 1000
 ends:es.length≤900∧∀ x∈es,x < 1000
 room:1≤st.length∧st.length≤900
 rows:∀ r∈st,r.length=l.length∧∀ x∈r,x < 1000
def nS (n:Nat):Str:=numS (n:Int)
def numOk (cs:List Nat):Bool:=cs.all (fun c=>decide (48≤c) && decide (c≤57)) && (decide (1≤cs.length) && decide (cs.length≤3)) && (decide (cs=[48]) || decide (cs.getD 0 0≠48))
theorem nums_ok:∀ n,n < 1000→numOk ((Nat.toDigits 10 n).map Char.toNat)=true:=by decide +kernel
theorem nS_ok {n:Nat} (h:n < 1000):numOk (nS n).cps.toList=true:=by
 have:=nums_ok n h
 rw [← PySem.W.KIN.signs_num] at this
 exact this
theorem nS_all {n:Nat} (h:n < 1000):(∀ c∈(nS n).cps.toList,48≤c∧c≤57)∧1≤(nS n).length∧(nS n).length≤3∧((nS n).cps.toList=[48]∨(nS n).cps.toList.getD 0 0≠48):=by
 have:=nS_ok h
 unfold numOk at this
 rw [Bool.and_eq_true,Bool.and_eq_true,Bool.and_eq_true,Bool.or_eq_true,List.all_eq_true] at this
 obtain ⟨⟨h1,h2,h3⟩,h4⟩:=this
 rw [len_list] at h2 h3
 refine ⟨fun c hc=>?_,of_decide_eq_true h2,of_decide_eq_true h3,?_⟩
 ·have:=h1 c hc
  rw [Bool.and_eq_true] at this
  exact ⟨of_decide_eq_true this.1,of_decide_eq_true this.2⟩
 ·rcases h4 with z | z
  ·exact .inl (of_decide_eq_true z)
  ·exact .inr (of_decide_eq_true z)
theorem s_blank:Str.ofString " " = ⟨#[32]⟩:=by decide +kernel
theorem s_feed:Str.ofString "\n" = ⟨#[10]⟩:=by decide +kernel
def rowL (name:Str) (ns:List Nat):List Str:=name :: ns.map nS
def rowS (name:Str) (ns:List Nat):Str:=Txt.join ⟨#[32]⟩ (rowL name ns)
def letS (l:Str):Str:=Txt.join ⟨#[32]⟩ [Str.ofString "letters",l]
def rowsL (l:Str) (b:Nat) (es:List Nat) (st:List (List Nat)):List Str:=[letS l,rowS (Str.ofString "begin") [b],rowS (Str.ofString "ends") es] ++ st.map (rowS (Str.ofString "room"))
def machS (l:Str) (b:Nat) (es:List Nat) (st:List (List Nat)):Str:=Txt.join ⟨#[10]⟩ (rowsL l b es st)
theorem join_le (c:Nat) (ys:List Str):(Txt.join ⟨#[c]⟩ ys).length≤(ys.map (·.length)).sum+ys.length:=by
 have h:Txt.join ⟨#[c]⟩ ys=Str.join ⟨#[c]⟩ ys:=StrLaws.glued_eq_join _ _
 rw [h]
 have:=StrLaws.join_length_le ⟨#[c]⟩ ys
 have e:(⟨#[c]⟩:Str).length=1:=rfl
 rw [e,Nat.mul_one] at this
 exact this
theorem sum_le {ys:List Str} {k:Nat} (h:∀ y∈ys,y.length≤k):(ys.map (·.length)).sum≤ys.length * k:=by
 induction ys with
 | nil=>simp
 | cons y r ih=>
  rw [List.map_cons,List.sum_cons,List.length_cons,Nat.succ_mul]
  have:=h y List.mem_cons_self
  have:=ih fun z hz=>h z (List.mem_cons_of_mem _ hz)
  omega
theorem row_parts {name:Str} {ns:List Nat} (hn:name.length≤10) (h:∀ x∈ns,x < 1000):∀ y∈rowL name ns,y.length≤10:=fun y hy=>by
 rcases List.mem_cons.mp hy with e | e
 ·rw [e]; exact hn
 ·obtain ⟨x,hx,rfl⟩:=List.mem_map.mp e
  have:=(nS_all (h x hx)).2.2.1
  omega
theorem row_len {name:Str} {ns:List Nat} (hn:name.length≤10) (h:∀ x∈ns,x < 1000):(rowS name ns).length≤11 * (ns.length+1):=by
 have h1:=join_le 32 (rowL name ns)
 have h2:=sum_le (row_parts hn h)
 have h3:(rowL name ns).length=ns.length+1:=by
  unfold rowL
  rw [List.length_cons,List.length_map]
 unfold rowS
 rw [h3] at h1 h2
 omega
inductive spShowRowI (vs:List V) (H:Hp) (Q:VK):Prop
 | mk (name:Str) (q:Addr) (ns:List Nat) (h1:vs=[.str name,.ref q]) (h2:name.length≤10) (h3:ns.length≤900) (h4:(∀ x∈ns,x < 1000)) (h5:(H q=some (.lst (ns.map nI))∨H q=some (.tup (ns.map nI)))) (h6:∀ H',Same H H'→Q (.str (rowS name ns)) H'):spShowRowI vs H Q
def spShowRow:Sp:=fun vs H Q u3_=>spShowRowI vs H Q
theorem ok_show_row {f:Addr} {fd:FuncData} (F:Fun K "show_row" "show_row" s_show_row f fd) (Z:Blt mg):FnOk P w K mg base CX0 1 f fd ["name","numbers"] spShowRow:=by
 refine F.ok sc_show_row (fun vs H Q E h=>?_) (fun cdv A outer s H vs Q E hr h=>?_)
 ·obtain ⟨name,q,ns,rfl,_⟩:=h
  rfl
 obtain ⟨name,q,ns,rfl,hn,hnl,hns,hq,k⟩:=h
 refine ⟨_,(pss_one (ps_ret (pe_bmK (K:=K) PySem.F.plainAttrs_str PySem.F.slot_str_join PySem.F.type_str_join (mt_joinK (K:=K)) pe_str (pa_cons (pe_op op_cat (pe_lst (pa_cons (pv 0) pa_nil)) (pe_comp (sc:=defScope s_show_row) (Nm:=["name","numbers"]) (own:=["number"]) (fr:=[]) ⟨rfl,by decide +kernel,by decide +kernel,by decide +kernel,by decide +kernel⟩ (by rfl) (gfr_name (by decide)) (pi_or (pi_listK (K:=K) (pv 1)) (pi_tupK (K:=K) (pv 1))) (fun d=>(pg_name (i:=0) nd_show_row_0 (by rfl) (Or.inl (by rfl)))) (fun d=>pts_nil) (fun d=>(pe_callTy call_str_num (by rfl) Z.str bt_str (pa_cons (pv 0) pa_nil))))) pa_nil)))),?_⟩
 refine ⟨rfl,_,rfl,(by show 1≤sizeLine; decide),fun l1 hl1=>?_⟩
 have e1:=same_new hl1 (.lst [.str name])
 have h1:upd H l1 (.lst [.str name]) l1=some (.lst [.str name]):=upd_same
 generalize upd H l1 (.lst [.str name])=H1 at e1 h1
 have turn:∀ (i:Nat) (acc:List V) (H2:Hp) (n:Nat),ns[i]? = some n→(acc=(ns.take i).map (fun n=>V.str (nS n))∧Same H1 H2)→∀ σ:L2.St,tCB (fun xs H Q=>∃ n:Int,xs=[.int n]∧n.natAbs < 1000000∧Q (.str (numS n)) H) (tCons (tVar 0) tNil) ((inSt 1 [] σ).set 0 (some (nI n))) H2 fun v H6=>(acc ++ [v]=(ns.take (i+1)).map (fun n=>V.str (nS n))∧Same H1 H6):=fun i acc H2 n hi p σ=>by
  have hn1:=hns n (List.mem_of_getElem? hi)
  refine ⟨_,rfl,_,rfl,by show ((n:Nat):Int).natAbs < 1000000; omega,?_,p.2⟩
  rw [p.1,map_take hi]
  rfl
 have done:∀ (acc:List V) (H2:Hp),(acc=(ns.take ns.length).map (fun n=>V.str (nS n))∧Same H1 H2)→∀ l2,H2 l2=none→rCat (.ref l1) (.ref l2) (upd H2 l2 (.lst acc)) fun v H3=>rJoin K (V.str (Str.ofString " ")) [v] H3 Q:=fun acc H2 p l2 hl2=>by
  obtain ⟨rfl,e2⟩:=p
  rw [List.take_length]
  have s3:=same_new hl2 (.lst (ns.map fun n=>V.str (nS n)))
  refine ⟨l1,l2,[.str name],_,rfl,rfl,s3 _ _ (e2 _ _ h1),upd_same,(by rw [List.length_map]; exact line_le (by show 1+ns.length≤1000; omega)),fun l3 hl3=>?_⟩
  refine ⟨_,l3,rowL name ns,rfl,rfl,SqL.of (upd_same.trans ?_),?_,?_⟩
  ·unfold rowL
   rw [List.map_cons,List.map_map]
   rfl
  ·have h2:=sum_le (row_parts hn hns)
   have h3:(rowL name ns).length=ns.length+1:=by
    unfold rowL
    rw [List.length_cons,List.length_map]
   rw [s_blank]
   show _+_ * 1≤_
   rw [h3] at h2 ⊢
   omega
  ·rw [s_blank]
   exact k _ (((e1.trans e2).trans s3).trans (same_new hl3 _))
 rcases hq with hq | hq
 ·refine .inl ⟨_,rfl,q,rfl,⟨_,SqL.of (e1 _ _ hq)⟩,?_⟩
  refine comp_list (K:=K) (a:=q) (xs:=ns.map nI) (fun i acc H2=>acc=(ns.take i).map (fun n=>V.str (nS n))∧Same H1 H2) (by rw [List.length_map]; exact small1000 (by omega)) ⟨rfl,Same.refl _⟩ (fun i acc H2 p=>by rw [p.1,List.length_map,List.length_take]; exact Nat.min_le_left _ _)
   (fun i acc H2 p=>SqL.of (p.2 _ _ (e1 _ _ hq))) (fun i acc H2 x hx p=>?_) (fun acc H2 p l2 hl2=>done acc H2 (by rw [List.length_map] at p; exact p) l2 hl2)
  rw [List.getElem?_map] at hx
  cases hi:ns[i]? with
  | none=>rw [hi] at hx; cases hx
  | some n=>
   rw [hi] at hx
   cases hx
   exact cyes (turn i acc H2 n hi p _)
 ·refine .inr ⟨_,rfl,q,rfl,⟨_,SqT.of (e1 _ _ hq)⟩,?_⟩
  refine comp_tup (K:=K) (a:=q) (xs:=ns.map nI) (fun i acc H2=>acc=(ns.take i).map (fun n=>V.str (nS n))∧Same H1 H2) (by rw [List.length_map]; exact small1000 (by omega)) ⟨rfl,Same.refl _⟩ (fun i acc H2 p=>by rw [p.1,List.length_map,List.length_take]; exact Nat.min_le_left _ _)
   (fun i acc H2 p=>SqT.of (p.2 _ _ (e1 _ _ hq))) (fun i acc H2 x hx p=>?_) (fun acc H2 p l2 hl2=>done acc H2 (by rw [List.length_map] at p; exact p) l2 hl2)
  rw [List.getElem?_map] at hx
  cases hi:ns[i]? with
  | none=>rw [hi] at hx; cases hx
  | some n=>
   rw [hi] at hx
   cases hx
   exact cyes (turn i acc H2 n hi p _)
theorem let_add (l:Str):Str.ofString "letters " ++ l=letS l:=by
 have e:Str.ofString "letters " = Str.ofString "letters" ++ (⟨#[32]⟩:Str):=by decide +kernel
 have h:letS l=Str.join ⟨#[32]⟩ [Str.ofString "letters",l]:=StrLaws.glued_eq_join _ _
 rw [h,e]
 rfl
theorem beg_add (b:Nat):Str.ofString "begin " ++ nS b=rowS (Str.ofString "begin") [b]:=by
 have e:Str.ofString "begin " = Str.ofString "begin" ++ (⟨#[32]⟩:Str):=by decide +kernel
 have h:rowS (Str.ofString "begin") [b]=Str.join ⟨#[32]⟩ [Str.ofString "begin",nS b]:=StrLaws.glued_eq_join _ _
 rw [h,e]
 rfl
theorem n_letters:(Str.ofString "letters").length=7:=by decide +kernel
theorem n_begin:(Str.ofString "begin").length=5:=by decide +kernel
theorem n_ends:(Str.ofString "ends").length=4:=by decide +kernel
theorem n_room:(Str.ofString "room").length=4:=by decide +kernel
theorem OkM.len {l:Str} {b:Nat} {es:List Nat} {st:List (List Nat)} (h:OkM l b es st):1≤l.length∧l.length≤26:=by
 obtain ⟨n,hl,h1,h2⟩:=h.let_
 have:=len_list l
 have:=hl.1
 omega
theorem rows_small {l:Str} {b:Nat} {es:List Nat} {st:List (List Nat)} (h:OkM l b es st):∀ y∈rowsL l b es st,y.length≤10000:=fun y hy=>by
 have hl:=h.len
 unfold rowsL at hy
 rcases List.mem_append.mp hy with z | z
 ·simp only [List.mem_cons,List.not_mem_nil,or_false] at z
  rcases z with z | z | z
  ·rw [z]
   have:=join_le 32 [Str.ofString "letters",l]
   simp only [List.map_cons,List.map_nil,List.sum_cons,List.sum_nil,List.length_cons,List.length_nil,n_letters] at this
   show (Txt.join ⟨#[32]⟩ [Str.ofString "letters",l]).length≤10000
   omega
  ·rw [z]
   have:=row_len (name:=Str.ofString "begin") (ns:=[b]) (by rw [n_begin]; decide) (fun x hx=>by rw [List.mem_singleton.mp hx]; exact h.beg)
   simp only [List.length_cons,List.length_nil] at this
   omega
  ·rw [z]
   have:=row_len (name:=Str.ofString "ends") (ns:=es) (by rw [n_ends]; decide) h.ends.2
   have:=h.ends.1
   omega
 ·obtain ⟨r,hr,rfl⟩:=List.mem_map.mp z
  have:=row_len (name:=Str.ofString "room") (ns:=r) (by rw [n_room]; decide) (h.rows r hr).2
  have:=(h.rows r hr).1
  omega
theorem rows_len (l:Str) (b:Nat) (es:List Nat) (st:List (List Nat)):(rowsL l b es st).length=3+st.length:=by
 unfold rowsL
 rw [List.length_append,List.length_map]
 rfl
theorem rows_sum {l:Str} {b:Nat} {es:List Nat} {st:List (List Nat)} (h:OkM l b es st):((rowsL l b es st).map (·.length)).sum+(rowsL l b es st).length≤10000000:=by
 have h1:=sum_le (rows_small h)
 have h2:=rows_len l b es st
 have h3:=h.room.2
 have:(rowsL l b es st).length * 10000≤903 * 10000:=Nat.mul_le_mul_right _ (by omega)
 omega
inductive spShowMI (vs:List V) (H:Hp) (Q:VK):Prop
 | mk (m:Addr) (l:Str) (b:Nat) (es:List Nat) (st:List (List Nat)) (h1:vs=[.ref m]) (h2:MT H m l b es st) (h3:OkM l b es st) (h4:∀ H',Same H H'→Q (.str (machS l b es st)) H'):spShowMI vs H Q
def spShowM:Sp:=fun vs H Q u3_=>spShowMI vs H Q
theorem ok_show_machine {f:Addr} {fd:FuncData} (F:Fun K "show_machine" "show_machine" s_show_machine f fd) (Z:Blt mg) (C_show_row:Cal P w K mg base "show_row" 1 ["name","numbers"] spShowRow):FnOk P w K mg base CX0 2 f fd ["machine"] spShowM:=by
 refine F.ok sc_show_machine (fun vs H Q E h=>?_) (fun cdv A outer s H vs Q E hr h=>?_)
 ·obtain ⟨m,l,b,es,st,rfl,_⟩:=h
  rfl
 obtain ⟨m,l,b,es,st,rfl,hM,ok,k⟩:=h
 refine ⟨_,(pss_cons (ps_set (i:=1) sc_show_machine.nd (by rfl) (Or.inl (by rfl)) (pe_lst (pa_cons (pe_op op_add_str pe_str (pe_ix (ix_tupK (K:=K)) (pv 0) pe_int (fun _ _=>rfl))) (pa_cons (pe_c C_show_row (hr.mono (by decide)) (pa_cons pe_str (pa_cons (pe_lst (pa_cons (pe_ix (ix_tupK (K:=K)) (pv 0) pe_int (fun _ _=>rfl)) pa_nil)) pa_nil))) (pa_cons (pe_c C_show_row (hr.mono (by decide)) (pa_cons pe_str (pa_cons (pe_ix (ix_tupK (K:=K)) (pv 0) pe_int (fun _ _=>rfl)) pa_nil))) pa_nil))))) 
   (pss_cons (ps_expr (pe_bmK (K:=K) PySem.F.plainAttrs_list PySem.F.slot_list_extend PySem.F.type_list_extend mt_extend (pv 1) (pa_cons (pe_comp (sc:=defScope s_show_machine) (Nm:=["machine","rows"]) (own:=["row"]) (fr:=[]) ⟨rfl,by decide +kernel,by decide +kernel,by decide +kernel,by decide +kernel⟩ (by rfl) (gfr_name (by decide)) (pi_tupK (K:=K) (pe_ix (ix_tupK (K:=K)) (pv 0) pe_int (fun _ _=>rfl))) (fun d=>(pg_name (i:=0) nd_show_machine_0 (by rfl) (Or.inl (by rfl)))) (fun d=>pts_nil) (fun d=>(pe_c C_show_row (hr.mono (by decide)) (pa_cons pe_str (pa_cons (pv 0) pa_nil))))) pa_nil))) 
   (pss_one (ps_ret (pe_bmK (K:=K) PySem.F.plainAttrs_str PySem.F.slot_str_join PySem.F.type_str_join (mt_joinK (K:=K)) pe_str (pa_cons (pv 1) pa_nil)))))),?_⟩
 refine (let zz0:TS:=_; let zz1:TS:=tSeq _ zz0; (?_:tSeq _ zz1 _ _ _))
 obtain ⟨e,s',xs,h1,h2,h3,R⟩:=hM
 have hl:=ok.len
 have hxl:=R.len
 have n8:(Str.ofString "letters ").length=8:=by decide +kernel
 refine ⟨_,rfl,m,_,0,_,rfl,rfl,SqT.of h1,atI_nat (j:=0) rfl,_,_,rfl,rfl,line_le (by rw [n8]; omega),?_⟩
 rw [let_add]
 refine ⟨_,rfl,m,_,1,_,rfl,rfl,SqT.of h1,atI_nat (j:=1) rfl,(by show 1≤sizeLine; decide),fun l1 hl1=>?_⟩
 have e1:=same_new hl1 (.lst [nI b])
 have g1:upd H l1 (.lst [nI b]) l1=some (.lst [nI b]):=upd_same
 generalize upd H l1 (.lst [nI b])=H1 at e1 g1
 refine ⟨_,l1,[b],rfl,by rw [n_begin]; decide,(by show 1≤900; decide),fun x hx=>by rw [List.mem_singleton.mp hx]; exact ok.beg,.inl g1,fun H2 e2=>?_⟩
 have e02:=e1.trans e2
 refine ⟨_,rfl,m,_,2,_,rfl,rfl,SqT.of (e02 _ _ h1),atI_nat (j:=2) rfl,_,e,es,rfl,by rw [n_ends]; decide,ok.ends.1,ok.ends.2,.inr (e02 _ _ h2),fun H3 e3=>⟨(by show 3≤sizeLine; decide),fun rp hrp=>?_⟩⟩
 have e03:=e02.trans e3
 have e04:=e03.trans (same_new hrp (.lst [.str (letS l),.str (rowS (Str.ofString "begin") [b]),.str (rowS (Str.ofString "ends") es)]))
 have hrp0:=none_of e03 hrp
 have g4:upd H3 rp (.lst [.str (letS l),.str (rowS (Str.ofString "begin") [b]),.str (rowS (Str.ofString "ends") es)]) rp=some (.lst [.str (letS l),.str (rowS (Str.ofString "begin") [b]),.str (rowS (Str.ofString "ends") es)]):=upd_same
 generalize upd H3 rp (.lst [.str (letS l),.str (rowS (Str.ofString "begin") [b]),.str (rowS (Str.ofString "ends") es)])=H4 at e04 g4
 refine ⟨_,rfl,.inl ⟨rfl,_,SqL.of g4⟩,_,rfl,m,_,3,_,rfl,rfl,SqT.of (e04 _ _ h1),atI_nat (j:=3) rfl,s',rfl,⟨_,SqT.of (e04 _ _ h3)⟩,?_⟩
 refine comp_tup (K:=K) (a:=s') (xs:=xs) (fun i acc H5=>acc=(st.take i).map (fun r=>V.str (rowS (Str.ofString "room") r))∧Same H4 H5) (by rw [hxl]; exact small1000 (by have:=ok.room.2; omega)) ⟨rfl,Same.refl _⟩ (fun i acc H5 p=>by rw [p.1,List.length_map,List.length_take]; exact Nat.min_le_left _ _)
  (fun i acc H5 p=>SqT.of (p.2 _ _ (e04 _ _ h3))) (fun i acc H5 x hx p=>?_) (fun acc H5 p y hy=>?_)
 ·obtain ⟨rfl,e5⟩:=p
  obtain ⟨a,r,rfl,hr',ha⟩:=(R.keep (Tk.same (e04.trans e5))).at_ hx
  have hro:=ok.rows r (List.mem_of_getElem? hr')
  refine cyes ⟨_,rfl,_,a,r,rfl,by rw [n_room]; decide,by omega,hro.2,.inr ha,fun H6 e6=>⟨?_,e5.trans e6⟩⟩
  rw [map_take hr']
 ·obtain ⟨rfl,e5⟩:=p
  rw [hxl,List.take_length]
  have s6:=same_new hy (.lst (st.map fun r=>V.str (rowS (Str.ofString "room") r)))
  have g6:=s6 _ _ (e5 _ _ g4)
  refine ⟨rp,y,_,_,rfl,rfl,g6,upd_same,(by rw [List.length_map]; exact line_le (by have:=ok.room.2; show 3+st.length≤1000; omega)),?_⟩
  refine ⟨rfl,_,rfl,_,rp,rowsL l b es st,rfl,rfl,SqL.of (upd_same.trans ?_),?_,?_⟩
  ·unfold rowsL
   rw [List.map_append,List.map_map]
   rfl
  ·have:=rows_sum ok
   rw [s_feed]
   show _+_ * 1≤_
   omega
  ·rw [s_feed]
   exact k _ (same_put ((e04.trans e5).trans s6) hrp0 _)
def dB (c:Nat):Bool:=decide (48≤c) && decide (c≤57)
theorem l_0:(Str.ofString "0").cps.toList=[48]:=by decide +kernel
theorem l_9:(Str.ofString "9").cps.toList=[57]:=by decide +kernel
theorem atI_code0 {u:List Nat} (h:0 < u.length):atI u (0:Int)=some (u.getD 0 0):=atI_nat (j:=0) (by rw [List.getD_eq_getElem?_getD,List.getElem?_eq_getElem h]; rfl)
theorem let_true {l:Str} {n:Nat} (h:IsLetters l n):wordB l.cps.toList=true∧risB l.cps.toList=true:=by
 obtain ⟨_,h2,h3⟩:=h
 constructor
 ·unfold wordB
  rw [List.all_map,List.all_eq_true]
  intro c hc
  have:=h3 c hc
  show wB c=true
  unfold wB
  rw [decide_eq_true this.1,decide_eq_true this.2]
  rfl
 ·unfold risB
  rw [List.all_map,List.all_eq_true]
  intro i hi
  have hi':=List.mem_range.mp hi
  show rB l.cps.toList i=true
  unfold rB
  rw [decide_eq_true_eq,List.getD_eq_getElem?_getD,List.getElem?_eq_getElem (by omega),List.getD_eq_getElem?_getD,List.getElem?_eq_getElem (by omega)]
  exact List.pairwise_iff_getElem.mp h2 i (i+1) (by omega) (by omega) (by omega)
theorem let_free {l:Str} {n:Nat} (h:IsLetters l n) (c:Nat) (hc:c < 97):c∉l.cps.toList:=fun z=>by
 have:=(h.2.2 c z).1
 omega
theorem f_letters:32∉(Str.ofString "letters").cps.toList:=by decide +kernel
theorem f_begin:32∉(Str.ofString "begin").cps.toList:=by decide +kernel
theorem f_ends:32∉(Str.ofString "ends").cps.toList:=by decide +kernel
theorem f_room:32∉(Str.ofString "room").cps.toList:=by decide +kernel
theorem nl_letters:10∉(Str.ofString "letters").cps.toList:=by decide +kernel
theorem nl_begin:10∉(Str.ofString "begin").cps.toList:=by decide +kernel
theorem nl_ends:10∉(Str.ofString "ends").cps.toList:=by decide +kernel
theorem nl_room:10∉(Str.ofString "room").cps.toList:=by decide +kernel
theorem nS_free {n c:Nat} (h:n < 1000) (hc:c < 48):c∉(nS n).cps.toList:=fun z=>by
 have:=((nS_all h).1 c z).1
 omega
theorem split_let {l:Str} {n:Nat} (h:IsLetters l n):Txt.split (letS l) ⟨#[32]⟩=[Str.ofString "letters",l]:=split_join (by simp) fun y hy=>by
 simp only [List.mem_cons,List.not_mem_nil,or_false] at hy
 rcases hy with e | e
 ·rw [e]; exact f_letters
 ·rw [e]; exact let_free h 32 (by decide)
theorem split_row {name:Str} {ns:List Nat} (hn:32∉name.cps.toList) (h:∀ x∈ns,x < 1000):Txt.split (rowS name ns) ⟨#[32]⟩=rowL name ns:=split_join (by simp [rowL]) fun y hy=>by
 rcases List.mem_cons.mp hy with e | e
 ·rw [e]; exact hn
 ·obtain ⟨x,hx,rfl⟩:=List.mem_map.mp e
  exact nS_free (h x hx) (by decide)
theorem jl_free {c d:Nat} (hcd:c≠d):∀ {ys:List (List Nat)},(∀ y∈ys,c∉y)→c∉jl d ys
 | [],_,h=>by cases h
 | [x],h,z=>h x List.mem_cons_self z
 | x :: y :: r,h,z=>by
  rw [jl_cons] at z
  rcases List.mem_append.mp z with z | z
  ·exact h x List.mem_cons_self z
  ·rcases List.mem_cons.mp z with z | z
   ·exact hcd z
   ·exact jl_free hcd (fun w hw=>h w (List.mem_cons_of_mem _ hw)) z
theorem join_free {c d:Nat} (hcd:c≠d) {ys:List Str} (h:∀ y∈ys,c∉y.cps.toList):c∉(Txt.join ⟨#[d]⟩ ys).cps.toList:=by
 have e:Txt.join ⟨#[d]⟩ ys=Str.join ⟨#[d]⟩ ys:=StrLaws.glued_eq_join _ _
 rw [e,join_jl]
 refine jl_free hcd fun y hy=>?_
 obtain ⟨z,hz,rfl⟩:=List.mem_map.mp hy
 exact h z hz
theorem row_free {name:Str} {ns:List Nat} (hn:10∉name.cps.toList) (h:∀ x∈ns,x < 1000):10∉(rowS name ns).cps.toList:=join_free (by decide) fun y hy=>by
 rcases List.mem_cons.mp hy with e | e
 ·rw [e]; exact hn
 ·obtain ⟨x,hx,rfl⟩:=List.mem_map.mp e
  exact nS_free (h x hx) (by decide)
theorem split_mach {l:Str} {b:Nat} {es:List Nat} {st:List (List Nat)} (ok:OkM l b es st):Txt.split (machS l b es st) ⟨#[10]⟩=rowsL l b es st:=split_join (by simp [rowsL]) fun y hy=>by
 unfold rowsL at hy
 rcases List.mem_append.mp hy with z | z
 ·simp only [List.mem_cons,List.not_mem_nil,or_false] at z
  rcases z with z | z | z
  ·rw [z]
   obtain ⟨n,hl,_,_⟩:=ok.let_
   refine join_free (by decide) fun y hy=>?_
   simp only [List.mem_cons,List.not_mem_nil,or_false] at hy
   rcases hy with e | e
   ·rw [e]; exact nl_letters
   ·rw [e]; exact let_free hl 10 (by decide)
  ·rw [z]; exact row_free nl_begin fun x hx=>by rw [List.mem_singleton.mp hx]; exact ok.beg
  ·rw [z]; exact row_free nl_ends ok.ends.2
 ·obtain ⟨r,hr,rfl⟩:=List.mem_map.mp z
  exact row_free nl_room (ok.rows r hr).2
theorem cut_1 (x:V) (xs:List V):cutV (x :: xs) (some 1) none=xs:=by
 unfold cutV
 rw [HT.sIx_none,show (1:Int)=((1:Nat):Int) from rfl,HT.sIx_nat,List.length_cons,Nat.min_eq_left (by omega)]
 simp
theorem dig1:∀ a,a < 10→(Nat.toDigits 10 a).map Char.toNat=[48+a]:=by decide +kernel
theorem dig2:∀ a,a < 10→∀ b,b < 10→a≠0→(Nat.toDigits 10 (10 * a+b)).map Char.toNat=[48+a,48+b]:=by decide +kernel
theorem dig3:∀ a,a < 10→∀ b,b < 10→∀ c,c < 10→a≠0→(Nat.toDigits 10 (100 * a+10 * b+c)).map Char.toNat=[48+a,48+b,48+c]:=by decide +kernel
theorem nS_list (n:Nat):(nS n).cps.toList=(Nat.toDigits 10 n).map Char.toNat:=by
 rw [← PySem.W.KIN.signs_num]
 rfl
theorem num_is {z:Str} (h:numOk z.cps.toList=true):∃ n,n < 1000∧z=nS n:=by
 suffices ∀ cs:List Nat,numOk cs=true→∃ n,n < 1000∧(Nat.toDigits 10 n).map Char.toNat=cs by
  obtain ⟨n,hn,e⟩:=this _ h
  exact ⟨n,hn,str_ext (by rw [nS_list,e])⟩
 intro cs h
 unfold numOk at h
 rw [Bool.and_eq_true,Bool.and_eq_true,Bool.and_eq_true,Bool.or_eq_true,List.all_eq_true,decide_eq_true_eq,decide_eq_true_eq,decide_eq_true_eq,decide_eq_true_eq] at h
 obtain ⟨⟨h1,h2,h3⟩,h4⟩:=h
 have d:∀ c∈cs,∃ a,a < 10∧c=48+a:=fun c hc=>by
  have:=h1 c hc
  rw [Bool.and_eq_true,decide_eq_true_eq,decide_eq_true_eq] at this
  exact ⟨c - 48,by omega,by omega⟩
 match cs,h2,h3,h4,d with
 | [],h2,_,_,_=>simp at h2
 | [x],_,_,_,d=>
  obtain ⟨a,ha,rfl⟩:=d x (by simp)
  exact ⟨a,by omega,dig1 a ha⟩
 | [x,y],_,_,h4,d=>
  obtain ⟨a,ha,rfl⟩:=d x (by simp)
  obtain ⟨b,hb,rfl⟩:=d y (by simp)
  refine ⟨10 * a+b,by omega,dig2 a ha b hb fun e=>?_⟩
  subst e
  rcases h4 with z | z
  ·cases z
  ·exact z rfl
 | [x,y,w],_,_,h4,d=>
  obtain ⟨a,ha,rfl⟩:=d x (by simp)
  obtain ⟨b,hb,rfl⟩:=d y (by simp)
  obtain ⟨c,hc,rfl⟩:=d w (by simp)
  refine ⟨100 * a+10 * b+c,by omega,dig3 a ha b hb c hc fun e=>?_⟩
  subst e
  rcases h4 with z | z
  ·cases z
  ·exact z rfl
 | _ :: _ :: _ :: _ :: _,_,h3,_,_=>simp only [List.length_cons] at h3; omega
def numO (z:Str):Option Nat:=(List.range 1000).find? fun n=>decide (nS n=z)
theorem numO_some {z:Str} {n:Nat} (h:numO z=some n):n < 1000∧z=nS n:=by
 have h1:=List.mem_of_find?_eq_some h
 have h2:=List.find?_some h
 exact ⟨List.mem_range.mp h1,(of_decide_eq_true h2).symm⟩
theorem val_nS:∀ n,n < 1000→((Nat.toDigits 10 n).map Char.toNat).foldl (fun a c=>10 * a+(c - 48)) 0=n:=by decide +kernel
theorem nS_inj {n m:Nat} (hn:n < 1000) (hm:m < 1000) (h:nS n=nS m):n=m:=by
 rw [← val_nS n hn,← val_nS m hm,← nS_list,← nS_list,h]
theorem numO_nS {n:Nat} (h:n < 1000):numO (nS n)=some n:=by
 cases e:numO (nS n) with
 | none=>
  unfold numO at e
  rw [List.find?_eq_none] at e
  exact absurd (decide_eq_true rfl) (e n (List.mem_range.mpr h))
 | some m=>
  obtain ⟨h1,h2⟩:=numO_some e
  rw [nS_inj h h1 h2]
theorem numO_iff (z:Str):(numO z).isSome=numOk z.cps.toList:=by
 rw [Bool.eq_iff_iff]
 constructor
 ·intro h
  obtain ⟨n,e⟩:=Option.isSome_iff_exists.mp h
  obtain ⟨h1,rfl⟩:=numO_some e
  exact nS_ok h1
 ·intro h
  obtain ⟨n,hn,rfl⟩:=num_is h
  rw [numO_nS hn]
  rfl
def allN:List Str→Option (List Nat)
 | []=>some []
 | z :: r=>match numO z,allN r with
  | some n,some ns=>some (n :: ns)
  | _,_=>none
theorem allN_some:∀ {ws:List Str} {ns:List Nat},allN ws=some ns→ws=ns.map nS∧∀ x∈ns,x < 1000
 | [],ns,h=>by cases h; exact ⟨rfl,by simp⟩
 | z :: r,ns,h=>by
  unfold allN at h
  cases e1:numO z with
  | none=>rw [e1] at h; cases h
  | some n=>
   cases e2:allN r with
   | none=>rw [e1,e2] at h; cases h
   | some m=>
    rw [e1,e2] at h
    cases h
    obtain ⟨h1,h2⟩:=numO_some e1
    obtain ⟨h3,h4⟩:=allN_some e2
    refine ⟨by rw [h2,h3]; rfl,fun x hx=>?_⟩
    rcases List.mem_cons.mp hx with q | q
    ·rw [q]; exact h1
    ·exact h4 x q
theorem allN_map:∀ {ns:List Nat},(∀ x∈ns,x < 1000)→allN (ns.map nS)=some ns
 | [],_=>rfl
 | n :: ns,h=>by
  rw [List.map_cons]
  unfold allN
  rw [numO_nS (h n List.mem_cons_self),allN_map fun x hx=>h x (List.mem_cons_of_mem _ hx)]
theorem allN_iff:∀ ws:List Str,(allN ws).isSome=(ws.map fun z=>numOk z.cps.toList).all id
 | []=>rfl
 | z :: r=>by
  have ih:=allN_iff r
  rw [List.map_cons,List.all_cons,← ih]
  show _=(numOk z.cps.toList && _)
  rw [← numO_iff,show allN (z :: r)=match numO z,allN r with | some n,some ns=>some (n :: ns) | _,_=>none from rfl]
  cases numO z with
  | none=>rfl
  | some n=>cases allN r <;> rfl
abbrev wds (z:Str):List Str:=Txt.split z ⟨#[32]⟩
abbrev rws (z:Str):List Str:=Txt.split z ⟨#[10]⟩
def numsO (name z:Str):Option (List Nat):=if (wds z).headD "" = name then allN (wds z).tail else none
def letB19 (l:Str):Bool:=decide (l.length≠0) && (wordB l.cps.toList && risB l.cps.toList)
def letO (z:Str):Option Str:=if (wds z).length=2∧(wds z).headD "" = Str.ofString "letters"∧letB19 ((wds z).getD 1 "")=true then some ((wds z).getD 1 "") else none
def nameAt (i:Nat):Str:=if i=1 then Str.ofString "begin" else if i=2 then Str.ofString "ends" else Str.ofString "room"
def rowO (l:Str) (i:Nat) (z:Str):Option (List Nat):=match numsO (nameAt i) z with
 | none=>none
 | some ns=>if (i=1→ns.length=1)∧(3≤i→ns.length=l.length) then some ns else none
abbrev Rd:=Nat ⊕ (Str × List (List Nat))
def goR (l:Str):List (List Nat)→Nat→List Str→Rd
 | F,i,[]=>if i < 4 then .inl i else .inr (l,F)
 | F,i,z :: r=>match rowO l i z with
  | none=>.inl i
  | some ns=>goR l (F ++ [ns]) (i+1) r
def rdT:List Str→Rd
 | []=>.inl 0
 | z :: r=>match letO z with
  | none=>.inl 0
  | some l=>goR l [] 1 r
theorem wds_ne (z:Str):wds z≠[]:=fun e=>by
 have:=split_pos z ⟨#[32]⟩
 rw [show Txt.split z ⟨#[32]⟩=[] from e] at this
 exact absurd this (by decide)
theorem rws_ne (z:Str):rws z≠[]:=fun e=>by
 have:=split_pos z ⟨#[10]⟩
 rw [show Txt.split z ⟨#[10]⟩=[] from e] at this
 exact absurd this (by decide)
theorem wds_cons (z:Str):wds z=(wds z).headD "" :: (wds z).tail:=by
 cases e:wds z with
 | nil=>exact absurd e (wds_ne z)
 | cons w r=>rfl
theorem join_wds (z:Str):Txt.join ⟨#[32]⟩ (wds z)=z:=by
 have h:Txt.join ⟨#[32]⟩ (wds z)=Str.join ⟨#[32]⟩ (wds z):=StrLaws.glued_eq_join _ _
 rw [h]
 exact StrLaws.join_split z ⟨#[32]⟩
theorem join_rws (z:Str):Txt.join ⟨#[10]⟩ (rws z)=z:=by
 have h:Txt.join ⟨#[10]⟩ (rws z)=Str.join ⟨#[10]⟩ (rws z):=StrLaws.glued_eq_join _ _
 rw [h]
 exact StrLaws.join_split z ⟨#[10]⟩
theorem numsO_some {name z:Str} {ns:List Nat} (h:numsO name z=some ns):z=rowS name ns∧∀ x∈ns,x < 1000:=by
 unfold numsO at h
 by_cases c:(wds z).headD "" = name
 ·rw [if_pos c] at h
  obtain ⟨h1,h2⟩:=allN_some h
  refine ⟨?_,h2⟩
  have e:=wds_cons z
  rw [c,h1] at e
  have j:=join_wds z
  rw [e] at j
  exact j.symm
 ·rw [if_neg c] at h; cases h
theorem numsO_row {name:Str} {ns:List Nat} (hn:32∉name.cps.toList) (h:∀ x∈ns,x < 1000):numsO name (rowS name ns)=some ns:=by
 unfold numsO
 have e:wds (rowS name ns)=rowL name ns:=split_row hn h
 rw [e]
 unfold rowL
 rw [if_pos (show (name :: ns.map nS).headD "" = name from rfl)]
 exact allN_map h
theorem letO_some {z l:Str} (h:letO z=some l):z=letS l∧letB19 l=true:=by
 unfold letO at h
 split at h
 ·rename_i c
  obtain ⟨c1,c2,c3⟩:=c
  have e:(wds z).getD 1 "" = l:=Option.some.inj h
  rw [e] at c3
  refine ⟨?_,c3⟩
  have j:=join_wds z
  match w:wds z,c1 with
  | [a,b],_=>
   rw [w] at c2 e j
   have c2:a=Str.ofString "letters":=c2
   have e:b=l:=e
   rw [← j,c2,e]
   rfl
 ·cases h
theorem letB_is {l:Str} (h:letB19 l=true):∃ n,IsLetters l n∧1≤n∧n≤26:=by
 unfold letB19 at h
 rw [Bool.and_eq_true,Bool.and_eq_true,decide_eq_true_eq] at h
 obtain ⟨h0,h1,h2⟩:=h
 have hp:=(risB_iff _).mp h2
 have hm:∀ c∈l.cps.toList,97≤c∧c≤122:=fun c hc=>by
  unfold wordB at h1
  rw [List.all_map,List.all_eq_true] at h1
  have:wB c=true:=h1 c hc
  unfold wB at this
  rw [Bool.and_eq_true,decide_eq_true_eq,decide_eq_true_eq] at this
  exact this
 refine ⟨l.cps.toList.length,⟨rfl,hp,hm⟩,by rw [len_list]; omega,?_⟩
 have:=pw_len _ 97 122 hp hm
 omega
theorem letO_let {l:Str} {n:Nat} (h:IsLetters l n) (hn:1≤n):letO (letS l)=some l:=by
 have e:wds (letS l)=[Str.ofString "letters",l]:=split_let h
 unfold letO
 rw [e]
 obtain ⟨w1,w2⟩:=let_true h
 refine if_pos ⟨rfl,rfl,?_⟩
 show letB19 l=true
 unfold letB19
 rw [w1,w2]
 have:=h.1
 rw [len_list] at this
 rw [decide_eq_true (show l.length≠0 by omega)]
 rfl
theorem goR_told {l:Str}:∀ {r:List Str} {F:List (List Nat)} {i:Nat} {l':Str} {F':List (List Nat)},goR l F i r=.inr (l',F')→l'=l∧4≤i+r.length∧∃ G,F'=F ++ G∧G.length=r.length∧∀ (j:Nat) z,r[j]? = some z→∃ ns,G[j]? = some ns∧rowO l (i+j) z=some ns
 | [],F,i,l',F',h=>by
  unfold goR at h
  split at h
  ·cases h
  ·cases h
   exact ⟨rfl,by simp only [List.length_nil]; omega,[],(List.append_nil _).symm,rfl,fun j z q=>by simp at q⟩
 | z :: r,F,i,l',F',h=>by
  unfold goR at h
  cases e:rowO l i z with
  | none=>rw [e] at h; cases h
  | some ns=>
   rw [e] at h
   obtain ⟨h1,h2,G,h3,h4,h5⟩:=goR_told h
   refine ⟨h1,by rw [List.length_cons]; omega,ns :: G,by rw [h3,List.append_assoc]; rfl,by rw [List.length_cons,List.length_cons,h4],fun j y q=>?_⟩
   cases j with
   | zero=>cases q; exact ⟨ns,rfl,e⟩
   | succ j=>
    obtain ⟨ms,q1,q2⟩:=h5 j y (by simpa using q)
    exact ⟨ms,by simpa using q1,by rw [← q2,Nat.add_assoc,Nat.add_comm 1 j]⟩
theorem row_ge (name:Str) (ns:List Nat):ns.length≤(rowS name ns).length:=by
 have h1:=sum_of (c:=32) (ys:=rowL name ns) (by simp [rowL])
 have h2:=sum_ge (rowL name ns)
 have h3:(rowL name ns).length=ns.length+1:=by unfold rowL; rw [List.length_cons,List.length_map]
 unfold rowS
 omega
def bOf (F:List (List Nat)):Nat:=(F.getD 0 []).headD 0
theorem rowO_some {l z:Str} {i:Nat} {ns:List Nat} (h:rowO l i z=some ns):z=rowS (nameAt i) ns∧(∀ x∈ns,x < 1000)∧(i=1→ns.length=1)∧(3≤i→ns.length=l.length):=by
 unfold rowO at h
 cases e:numsO (nameAt i) z with
 | none=>rw [e] at h; cases h
 | some ms=>
  rw [e] at h
  dsimp only at h
  split at h
  ·rename_i c
   cases h
   obtain ⟨h1,h2⟩:=numsO_some e
   exact ⟨h1,h2,c.1,c.2⟩
  ·cases h
theorem rdT_told {t l:Str} {F:List (List Nat)} (ht:t.length≤800) (h:rdT (rws t)=.inr (l,F)):∃ es st,F=[bOf F] :: es :: st∧OkM l (bOf F) es st∧t=machS l (bOf F) es st:=by
 have hsl:=split_le t ⟨#[10]⟩
 have hj:=join_rws t
 cases er:rws t with
 | nil=>exact absurd er (rws_ne t)
 | cons z r=>
  rw [er] at h hj
  have hsl:(z :: r).length≤t.length+2:=by rw [← er]; exact hsl
  unfold rdT at h
  dsimp only at h
  cases el:letO z with
  | none=>rw [el] at h; cases h
  | some l'=>
   rw [el] at h
   obtain ⟨rfl,h4,G,hG,hGl,hR⟩:=goR_told h
   rw [List.nil_append] at hG
   subst hG
   obtain ⟨hz,hlb⟩:=letO_some el
   match r,F,h4,hGl,hR with
   | z1 :: z2 :: z3 :: r,f1 :: es :: s0 :: st,h4,hGl,hR=>
    obtain ⟨_,q1,q2⟩:=hR 0 z1 rfl
    cases q1
    obtain ⟨_,p1,p2⟩:=hR 1 z2 rfl
    cases p1
    obtain ⟨a1,a2,a3,_⟩:=rowO_some q2
    obtain ⟨b1,b2,_,_⟩:=rowO_some p2
    have hf1:∃ b,f1=[b]:=by
     have:=a3 rfl
     match f1,this with
     | [b],_=>exact ⟨b,rfl⟩
    obtain ⟨b,rfl⟩:=hf1
    have hl:(s0 :: st).length=(z3 :: r).length:=by simpa using hGl
    have hrow:∀ (j:Nat) y,(z3 :: r)[j]? = some y→∃ ns,(s0 :: st)[j]? = some ns∧y=rowS (Str.ofString "room") ns∧ns.length=l.length∧∀ x∈ns,x < 1000:=fun j y q=>by
     obtain ⟨ns,n1,n2⟩:=hR (j+2) y (by simpa using q)
     obtain ⟨c1,c2,_,c4⟩:=rowO_some n2
     refine ⟨ns,by simpa using n1,?_,c4 (by omega),c2⟩
     rw [c1]
     unfold nameAt
     rw [if_neg (by omega),if_neg (by omega)]
    have hrl:z3 :: r=(s0 :: st).map (rowS (Str.ofString "room")):=by
     refine List.ext_getElem? fun j=>?_
     rcases Nat.lt_or_ge j (z3 :: r).length with q | q
     ·obtain ⟨ns,n1,n2,_⟩:=hrow j _ (List.getElem?_eq_getElem q)
      rw [List.getElem?_eq_getElem q,List.getElem?_map,n1,n2]
      rfl
     ·rw [List.getElem?_eq_none q,List.getElem?_eq_none (by rw [List.length_map,hl]; exact q)]
    have hsz:∀ y∈z :: z1 :: z2 :: z3 :: r,y.length≤800:=fun y hy=>by
     have:=Nat.le_trans (split_mem (c:=10) (show y∈rws t by rw [er]; exact hy)) ht
     exact this
    refine ⟨es,s0 :: st,rfl,⟨letB_is hlb,a2 b (by simp),⟨?_,b2⟩,⟨by simp,?_⟩,fun rr hrr=>?_⟩,?_⟩
    ·have:=hsz z2 (by simp)
     rw [b1] at this
     have:=row_ge (nameAt (1+1)) es
     omega
    ·have:(z :: z1 :: z2 :: z3 :: r).length≤802:=by omega
     simp only [List.length_cons] at this hl ⊢
     omega
    ·obtain ⟨j,hj,e⟩:=List.getElem_of_mem hrr
     obtain ⟨ns,n1,_,n3,n4⟩:=hrow j ((z3 :: r)[j]'(by omega)) (List.getElem?_eq_getElem _)
     rw [List.getElem?_eq_getElem hj,e] at n1
     cases n1
     exact ⟨n3,n4⟩
    ·rw [← hj,hz,a1,b1,hrl]
     rfl
theorem goR_rows {l:Str}:∀ {st:List (List Nat)} {F:List (List Nat)} {i:Nat},3≤i→4≤i+st.length→(∀ r∈st,r.length=l.length∧∀ x∈r,x < 1000)→goR l F i (st.map (rowS (Str.ofString "room")))=.inr (l,F ++ st)
 | [],F,i,_,h4,_=>by
  unfold goR
  rw [List.length_nil] at h4
  rw [List.map_nil]
  dsimp only
  rw [if_neg (by omega),List.append_nil]
 | r :: st,F,i,h3,h4,hs=>by
  rw [List.map_cons]
  unfold goR
  have e:rowO l i (rowS (Str.ofString "room") r)=some r:=by
   unfold rowO
   have en:nameAt i=Str.ofString "room":=by unfold nameAt; rw [if_neg (by omega),if_neg (by omega)]
   rw [en,numsO_row f_room (hs r List.mem_cons_self).2]
   exact if_pos ⟨fun z=>by omega,fun _=>(hs r List.mem_cons_self).1⟩
  rw [e]
  dsimp only
  rw [goR_rows (by omega) (by rw [List.length_cons] at h4; omega) fun x hx=>hs x (List.mem_cons_of_mem _ hx),List.append_assoc]
  rfl
theorem rdT_good {l:Str} {b:Nat} {es:List Nat} {st:List (List Nat)} (ok:OkM l b es st):rdT (rowsL l b es st)=.inr (l,[b] :: es :: st):=by
 obtain ⟨n,hl,hn,_⟩:=ok.let_
 show (match letO (letS l) with | none=>Sum.inl 0 | some l=>goR l [] 1 ([rowS (Str.ofString "begin") [b],rowS (Str.ofString "ends") es] ++ st.map (rowS (Str.ofString "room"))))=_
 rw [letO_let hl hn]
 have e1:rowO l 1 (rowS (Str.ofString "begin") [b])=some [b]:=by
  unfold rowO
  rw [show nameAt 1=Str.ofString "begin" from rfl,numsO_row f_begin fun x hx=>by rw [List.mem_singleton.mp hx]; exact ok.beg]
  exact if_pos ⟨fun _=>rfl,fun z=>by omega⟩
 have e2:rowO l 2 (rowS (Str.ofString "ends") es)=some es:=by
  unfold rowO
  rw [show nameAt 2=Str.ofString "ends" from rfl,numsO_row f_ends ok.ends.2]
  exact if_pos ⟨fun z=>by omega,fun z=>by omega⟩
 show (match rowO l 1 (rowS (Str.ofString "begin") [b]) with | none=>Sum.inl 1 | some ns=>goR l ([] ++ [ns]) 2 (rowS (Str.ofString "ends") es :: st.map (rowS (Str.ofString "room"))))=_
 rw [e1]
 show (match rowO l 2 (rowS (Str.ofString "ends") es) with | none=>Sum.inl 2 | some ns=>goR l ([[b]] ++ [ns]) 3 (st.map (rowS (Str.ofString "room"))))=_
 rw [e2]
 exact goR_rows (Nat.le_refl _) (by have:=ok.room.1; omega) ok.rows
theorem chain_d {σ:L2.St} {H:Hp} {c:Nat} {Q:VK} {j:Nat} (hj:σ[j]? = some (some (.str ⟨#[c]⟩))) (q:Q (.bl (dB c)) H) :
  tChain (fun x y H Q=>∃ i j,x=V.str i∧y=V.str j∧Q (.bl (!decide (j.cps.toList < i.cps.toList))) H) (fun x y H Q=>∃ i j,x=V.str i∧y=V.str j∧Q (.bl (!decide (j.cps.toList < i.cps.toList))) H) (tC (.str (Str.ofString "0"))) (tVar j) (tC (.str (Str.ofString "9"))) σ H Q:=by
 refine ⟨_,hj,_,_,rfl,rfl,_,rfl,?_⟩
 have e1:decide ((⟨#[c]⟩:Str).cps.toList < (Str.ofString "0").cps.toList)=decide (c < 48):=by rw [l_0]; exact lt_one c 48
 have e2:decide ((Str.ofString "9").cps.toList < (⟨#[c]⟩:Str).cps.toList)=decide (57 < c):=by rw [l_9]; exact lt_one 57 c
 rw [e1]
 by_cases h:c < 48
 ·have:dB c=false:=by unfold dB; rw [decide_eq_false (by omega)]; rfl
  rw [decide_eq_true h]
  rw [this] at q
  exact iteF q
 ·rw [decide_eq_false h]
  refine iteT ⟨_,_,rfl,rfl,?_⟩
  rw [e2]
  have:dB c = !decide (57 < c):=by
   unfold dB
   rw [decide_eq_true (show 48≤c by omega),Bool.true_and]
   by_cases h2:57 < c
   ·rw [decide_eq_true h2,decide_eq_false (by omega)]; rfl
   ·rw [decide_eq_false h2,decide_eq_true (by omega)]; rfl
  rw [this] at q
  exact q
inductive spIsNumI (vs:List V) (H:Hp) (Q:VK):Prop
 | mk (z:Str) (h1:vs=[.str z]) (h2:z.length≤1000) (h3:∀ H',Same H H'→Q (.bl (numOk z.cps.toList)) H'):spIsNumI vs H Q
def spIsNum:Sp:=fun vs H Q u3_=>spIsNumI vs H Q
theorem ok_is_number {f:Addr} {fd:FuncData} {u_MOST_FIGURES:Value} (F:Fun K "is_number" "is_number" s_is_number f fd) (Z:Blt mg) (c_MOST_FIGURES:mg "MOST_FIGURES" = some u_MOST_FIGURES) (r_MOST_FIGURES:RelV (V.int 3) u_MOST_FIGURES):FnOk P w K mg base CX0 1 f fd ["word"] spIsNum:=by
 refine F.ok sc_is_number (fun vs H Q E h=>?_) (fun cdv A outer s H vs Q E hr h=>?_)
 ·obtain ⟨z,rfl,_⟩:=h
  rfl
 obtain ⟨z,rfl,hz,k⟩:=h
 refine ⟨_,(pss_cons (ps_set (i:=1) sc_is_number.nd (by rfl) (Or.inl (by rfl)) (pe_callB (call_allK (K:=K)) (by rfl) Z.all bt_all (pa_cons (pe_comp (sc:=defScope s_is_number) (Nm:=["word","figures"]) (own:=["sign"]) (fr:=[]) ⟨rfl,by decide +kernel,by decide +kernel,by decide +kernel,by decide +kernel⟩ (by rfl) (gfr_name (by decide)) (pi_str (pv 0)) (fun d=>(pg_name (i:=0) nd_is_number_0 (by rfl) (Or.inl (by rfl)))) (fun d=>pts_nil) (fun d=>(pe_chain op_le_str op_le_str pe_str (pv 0) pe_str))) pa_nil))) 
   (pss_one (ps_ret (pe_and (pv 1) (pe_and (pe_chain op_le op_le pe_int (pe_callB call_len_str (by rfl) Z.len bt_len (pa_cons (pv 0) pa_nil)) (pe_glob (by rfl) c_MOST_FIGURES r_MOST_FIGURES)) (pe_one (pe_or (pe_cmpR op_eq (pv 0) pe_str (nomark _)) (pe_one (pe_cmpR op_ne (pe_ix ix_str (pv 0) pe_int (fun _ _=>rfl)) pe_str (nomark _)))))))))),?_⟩
 refine (let zz0:TS:=_; (?_:tSeq _ zz0 _ _ _))
 have hll:=len_list z
 refine ⟨_,rfl,z,rfl,?_⟩
 refine comp_str (cs:=z.cps.toList) (Seen H dB z.cps.toList) (by rw [hll]; exact small1000 hz) ⟨rfl,Nat.zero_le _,Same.refl _⟩ seen_len
  (fun i acc H2 c hc hp=>cyes (chain_d rfl (seen_step hc hp))) (fun acc H2 hp y hy=>?_)
 obtain ⟨rfl,_,e2⟩:=hp
 rw [List.take_length]
 refine ⟨y,_,rfl,SqL.of upd_same,?_⟩
 replace k:=k _ (e2.trans (same_new hy (.lst ((z.cps.toList.map dB).map V.bl))))
 generalize upd H2 y _=H3 at k
 unfold numOk at k
 rw [show z.cps.toList.all (fun c=>decide (48≤c) && decide (c≤57))=(z.cps.toList.map dB).all id by rw [List.all_map]; rfl,hll] at k
 refine ⟨_,rfl,_,rfl,?_⟩
 cases ha:(z.cps.toList.map dB).all id with
 | false=>rw [ha] at k; exact iteF k
 | true=>
  rw [ha] at k
  refine iteT ⟨_,rfl,z,rfl,line_le hz,_,_,rfl,rfl,_,rfl,?_⟩
  by_cases c1:1≤z.length
  case neg=>
   rw [decide_eq_false c1] at k
   exact ifN (decide_eq_false (by omega)) ⟨_,rfl,iteF k⟩
  rw [decide_eq_true c1] at k
  refine ifY (decide_eq_true (by omega)) ⟨_,_,rfl,rfl,_,rfl,?_⟩
  by_cases c2:z.length≤3
  case neg=>
   rw [decide_eq_false c2] at k
   exact ifN (decide_eq_false (by omega)) k
  rw [decide_eq_true c2] at k
  refine ifY (decide_eq_true (by omega)) ⟨_,rfl,rfl,_,rfl,?_⟩
  by_cases c3:z=Str.ofString "0"
  ·rw [decide_eq_true (show z.cps.toList=[48] by rw [c3,l_0])] at k
   exact ifY (decide_eq_true (congrArg V.str c3)) k
  rw [decide_eq_false (show ¬ z.cps.toList=[48] from fun e=>c3 (str_ext (by rw [e,l_0])))] at k
  refine ifN (decide_eq_false (fun e=>c3 (V.str.inj e))) ⟨_,rfl,z,0,_,rfl,rfl,line_le hz,atI_code0 (by omega),rfl,?_⟩
  have e0:decide (V.str ⟨#[z.cps.toList.getD 0 0]⟩=V.str (Str.ofString "0"))=decide (z.cps.toList.getD 0 0=48):=by
   rw [Bool.eq_iff_iff,decide_eq_true_eq,decide_eq_true_eq]
   refine ⟨fun e=>?_,fun e=>by rw [e]; decide +kernel⟩
   have e:=congrArg (fun s:Str=>s.cps.toList) (V.str.inj e)
   simp only [l_0] at e
   exact (List.cons.inj e).1
  rw [e0]
  have e1:(!decide (z.cps.toList.getD 0 0=48))=(true && (true && true) && (false || decide (z.cps.toList.getD 0 0≠48))):=by simp
  rw [e1]
  exact k
inductive spOneDI (C:Addr) (f:Str) (vs:List V) (H:Hp) (Q:VK):Prop
 | mk (a y:_) (h1:vs=[.ref a,y]) (h2:H a=some (exH a C none)) (h3:∀ H' dx,a≠dx→(∀ b o,b≠a→H b=some o→H' b=some o)→H' a=some (exH a C (some dx))→H' dx=some (xdH dx [(f,y)])→Q .non H'):spOneDI C f vs H Q
def spOneD (C:Addr) (f:Str):Sp:=fun vs H Q u3_=>spOneDI C f vs H Q
theorem ok_NoText_init {C f:Addr} {fd:FuncData} (F:Fun K "__init__" "NoText.__init__" s_NoText_init f fd) (cf:ExcF K C) (n:NoAttr K C "at"):FnOk P w K mg base CX0 1 f fd ["self","at"] (spOneD C "at"):=by
 refine F.ok sc_NoText_init (fun vs H Q E h=>?_) (fun cdv A outer s H vs Q E hr h=>?_)
 ·obtain ⟨a,y,rfl,_⟩:=h
  rfl
 obtain ⟨a,y,rfl,e,k⟩:=h
 refine ⟨_,(pss_one (ps_xfld (K:=K) (pv 0) (pv 1))),?_⟩
 refine ⟨_,rfl,_,rfl,a,C,rfl,cf,n,.inl ⟨e,fun dx hd=>?_⟩⟩
 have nad:a≠dx:=ne_of_none e hd
 refine k _ dx nad (fun b o nb q=>?_) ((upd_ne nad).trans upd_same) upd_same
 rw [upd_ne (ne_of_none q hd),upd_ne nb]
 exact q
abbrev oneF (n:Int):List (Str × V):=[(Str.ofString "at",.int n)]
theorem raise_one {K:PySem.W.Frag} {H:Hp} {C:Addr} {n:Int} {E:XK} {g:Addr} (hx:excK K C (some (.ref g))=true) (k:∀ a H',Same H H'→ExnR H' a C (oneF n)→E (.ref a) none H') :
  ([V.int n].length≤1000∧∀ e,H e=none→spOneD C "at" (.ref e :: [V.int n]) (upd H e (exH e C none)) (fun v H2=>v=.non∧∃ a C' d ini,V.ref e=.ref a∧excK K C' ini=true∧H2 a=some (exH a C' d)∧E (.ref a) none (upd H2 a (exR a C' d))) E0):=by
 refine ⟨(by show 1≤1000; decide),fun e he=>⟨e,_,rfl,upd_same,fun H' dx nd kp h1 h2=>⟨rfl,e,C,some dx,_,rfl,hx,h1,?_⟩⟩⟩
 refine k e _ (fun b o q=>?_) (.inr ⟨dx,upd_same,(upd_ne nd.symm).trans h2⟩)
 have nb:=ne_of_none q he
 rw [upd_ne nb]
 exact kp b o nb ((upd_ne nb).trans q)
inductive spReadLXI (cT:Addr) (vs:List V) (H:Hp) (Q:VK) (E:XK):Prop
 | mk (z:Str) (h1:vs=[.str z]) (h2:z.length≤1000) (h3:(∀ l,letO z=some l→∀ H',Same H H'→Q (.str l) H')) (h4:(letO z=none→∀ a H',Same H H'→ExnR H' a cT (oneF ((0:Nat):Int))→E (.ref a) none H')):spReadLXI cT vs H Q E
def spReadLX (cT:Addr):Sp:=fun vs H Q E=>spReadLXI cT vs H Q E
theorem ok_read_letters {f:Addr} {fd:FuncData} {g cT:Addr} (F:Fun K "read_letters" "read_letters" s_read_letters f fd) (Z:Blt mg) (hx:excK K cT (some (.ref g))=true) (C_NoText:CalX P w K mg base "NoText" 1 ["self","at"] (spOneD cT "at") cT)
  (C_is_word:Cal P w K mg base "is_word" 1 ["text"] spIsWord) (C_rising:Cal P w K mg base "rising" 1 ["row"] spRising):FnOk P w K mg base (CXE P w) 3 f fd ["row"] (spReadLX cT):=by
 refine F.okX sc_read_letters (fun vs H Q E h=>?_) (fun A outer s H vs Q E hr h=>?_)
 ·obtain ⟨z,rfl,_⟩:=h
  rfl
 obtain ⟨z,rfl,hz,kq,kx⟩:=h
 refine ⟨_,(pss_cons (ps_set (i:=1) sc_read_letters.nd (by rfl) (Or.inl (by rfl)) (pe_bmK (K:=K) PySem.F.plainAttrs_str PySem.F.slot_str_split PySem.F.type_str_split mt_split (pv 0) (pa_cons pe_str pa_nil))) 
   (pss_cons (ps_if (PW.pt (pw_or (pt_cmpR op_ne (pe_callB (call_lenK (K:=K)) (by rfl) Z.len bt_len (pa_cons (pv 1) pa_nil)) pe_int (nomark _)) (pw_or1 (pt_cmpR op_ne (pe_ix (ix_listK (K:=K)) (pv 1) pe_int (fun _ _=>rfl)) pe_str (nomark _))))) 
    (pss_one (ps_raise (K:=K) (pe_x C_NoText (hr.mono (by decide)) (pa_cons pe_int pa_nil)) rx_def)) pss_nil) 
   (pss_cons (ps_set (i:=2) sc_read_letters.nd (by rfl) (Or.inl (by rfl)) (pe_ix (ix_listK (K:=K)) (pv 1) pe_int (fun _ _=>rfl))) 
   (pss_cons (ps_if (PW.pt (pw_or (pt_cmpR op_eq (pv 2) pe_str (nomark _)) (pw_or1 (pt_not (PW.pt (pw_and (pt_truthK (K:=K) (pe_c C_is_word (hr.mono (by decide)) (pa_cons (pv 2) pa_nil)) (fun _=>rfl)) (pw_and1 (pt_truthK (K:=K) (pe_c C_rising (hr.mono (by decide)) (pa_cons (pv 2) pa_nil)) (fun _=>rfl))))))))) 
    (pss_one (ps_raise (K:=K) (pe_x C_NoText (hr.mono (by decide)) (pa_cons pe_int pa_nil)) rx_def)) pss_nil) 
   (pss_one (ps_ret (pv 2))))))),?_⟩
 refine (let zz0:TS:=_; let zz1:TS:=tSeq _ zz0; let zz2:TS:=tSeq _ zz1; let zz3:TS:=tSeq _ zz2; (?_:tSeq _ zz3 _ _ _))
 have hwl:∀ y∈Txt.split z ⟨#[32]⟩,y.length≤1000:=fun y hy=>Nat.le_trans (split_mem hy) hz
 refine ⟨_,rfl,rfl,z,⟨#[32]⟩,rfl,rfl,rfl,by omega,fun q hq=>?_⟩
 unfold letO wds at kq kx
 have e1:=same_new hq (.lst ((Txt.split z ⟨#[32]⟩).map V.str))
 have h1:=upd_same (H:=H) (a:=q) (o:=.lst ((Txt.split z ⟨#[32]⟩).map V.str))
 generalize upd H q (.lst ((Txt.split z ⟨#[32]⟩).map V.str))=H1 at e1 h1
 generalize Txt.split z ⟨#[32]⟩=ws at h1 kq kx hwl
 have kr:∀ {H2:Hp},Same H1 H2→¬ (ws.length=2∧ws.headD "" = Str.ofString "letters"∧letB19 (ws.getD 1 "")=true)→∀ a H',Same H2 H'→ExnR H' a cT (oneF ((0:Nat):Int))→E (.ref a) none H':=fun e2 c a H' e ex=>kx (if_neg c) a H' ((e1.trans e2).trans e) ex
 refine ⟨_,rfl,q,_,rfl,.inl (SqL.of h1),rfl,_,rfl,?_⟩
 by_cases c1:ws.length=2
 case neg=>exact ifY (by show (!decide (V.int (((ws.map V.str).length:Nat):Int)=V.int 2))=true; rw [decide_eq_false (fun e=>c1 (by have:=V.int.inj e; rw [List.length_map] at this; omega))]; rfl) (iteT (raise_one hx (kr (Same.refl _) fun c=>c1 c.1)))
 obtain ⟨a,l,rfl⟩:∃ a l,ws=[a,l]:=by
  match ws,c1 with
  | [a,l],_=>exact ⟨a,l,rfl⟩
 refine ifN rfl ⟨_,rfl,q,_,0,_,rfl,rfl,SqL.of h1,atI_nat (j:=0) rfl,rfl,_,rfl,?_⟩
 by_cases c2:a=Str.ofString "letters"
 case neg=>exact ifY (by show (!decide (V.str a=V.str "letters"))=true; rw [decide_eq_false (fun e=>c2 (V.str.inj e))]; rfl) (raise_one hx (kr (Same.refl _) fun c=>c2 c.2.1))
 subst c2
 refine ifN rfl ⟨_,rfl,q,_,1,_,rfl,rfl,SqL.of h1,atI_nat (j:=1) rfl,?_⟩
 refine ⟨_,rfl,rfl,_,rfl,?_⟩
 have hlB:letB19 ([Str.ofString "letters",l].getD 1 "")=letB19 l:=rfl
 by_cases c4:l=Str.ofString ""
 ·refine ifY (decide_eq_true (congrArg V.str c4)) (iteT (raise_one hx (kr (Same.refl _) fun c=>?_)))
  have:=c.2.2
  rw [hlB,c4] at this
  revert this
  decide +kernel
 have hl0:l.length≠0:=fun e=>c4 (str_ext (by rw [List.eq_nil_of_length_eq_zero (show l.cps.toList.length=0 by rw [len_list]; exact e)]; decide +kernel))
 have hl:letB19 l=(wordB l.cps.toList && risB l.cps.toList):=by unfold letB19; rw [decide_eq_true hl0,Bool.true_and]
 have hll:=hwl l (by simp)
 refine ifN (decide_eq_false (fun e=>c4 (V.str.inj e))) ⟨_,rfl,l,rfl,hll,fun H2 e2=>⟨_,rfl,?_⟩⟩
 cases hb:wordB l.cps.toList with
 | false=>exact iteF (iteT (raise_one hx (kr e2 fun c=>by have:=c.2.2; rw [hlB,hl,hb] at this; cases this)))
 | true=>
  refine iteT ⟨_,rfl,l,rfl,hll,fun H3 e3=>⟨_,rfl,?_⟩⟩
  cases hc:risB l.cps.toList with
  | false=>exact iteT (raise_one hx (kr (e2.trans e3) fun c=>by have:=c.2.2; rw [hlB,hl,hb,hc] at this; cases this))
  | true=>exact iteF ⟨_,rfl,kq l (if_pos ⟨rfl,rfl,by rw [hlB,hl,hb,hc]; rfl⟩) H3 ((e1.trans e2).trans e3)⟩
inductive spReadNXI (cT:Addr) (vs:List V) (H:Hp) (Q:VK) (E:XK):Prop
 | mk (rp:Addr) (ys:List Str) (i:Nat) (name:Str) (h1:vs=[.ref rp,nI i,.str name]) (h2:H rp=some (.lst (ys.map V.str))) (h3:i≤ys.length) (h4:(∀ y∈ys,y.length≤1000)) (h5:(∀ z ns,ys[i]? = some z→numsO name z=some ns→∀ q H',H q=none→Same H H'→H' q=some (.tup (ns.map nI))→Q (.ref q) H')) (h6:((∀ z,ys[i]? = some z→numsO name z=none)→∀ a H',Same H H'→ExnR H' a cT (oneF (i:Nat))→E (.ref a) none H')):spReadNXI cT vs H Q E
def spReadNX (cT:Addr):Sp:=fun vs H Q E=>spReadNXI cT vs H Q E
theorem ok_read_numbers {f:Addr} {fd:FuncData} {g cT:Addr} (F:Fun K "read_numbers" "read_numbers" s_read_numbers f fd) (Z:Blt mg) (hx:excK K cT (some (.ref g))=true) (C_NoText:CalX P w K mg base "NoText" 1 ["self","at"] (spOneD cT "at") cT)
  (C_is_number:Cal P w K mg base "is_number" 1 ["word"] spIsNum):FnOk P w K mg base (CXE P w) 3 f fd ["rows","at","name"] (spReadNX cT):=by
 refine F.okX sc_read_numbers (fun vs H Q E h=>?_) (fun A outer s H vs Q E hr h=>?_)
 ·obtain ⟨rp,ys,i,name,rfl,_⟩:=h
  rfl
 obtain ⟨rp,ys,i,name,rfl,hrp,hi,hy,kq,kx⟩:=h
 refine ⟨_,(pss_cons (ps_if (pt_cmpR op_eq (pv 1) (pe_callB (call_lenK (K:=K)) (by rfl) Z.len bt_len (pa_cons (pv 0) pa_nil)) (nomark _)) 
    (pss_one (ps_raise (K:=K) (pe_x C_NoText (hr.mono (by decide)) (pa_cons (pv 1) pa_nil)) rx_def)) pss_nil) 
   (pss_cons (ps_set (i:=3) sc_read_numbers.nd (by rfl) (Or.inl (by rfl)) (pe_bmK (K:=K) PySem.F.plainAttrs_str PySem.F.slot_str_split PySem.F.type_str_split mt_split (pe_ix (ix_listK (K:=K)) (pv 0) (pv 1) (fun _ _=>rfl)) (pa_cons pe_str pa_nil))) 
   (pss_cons (ps_if (PW.pt (pw_or (pt_cmpR op_ne (pe_ix (ix_listK (K:=K)) (pv 3) pe_int (fun _ _=>rfl)) (pv 2) (nomark _)) (pw_or1 (pt_not (pt_truthK (K:=K) (pe_callB (call_allK (K:=K)) (by rfl) Z.all bt_all (pa_cons (pe_comp (sc:=defScope s_read_numbers) (Nm:=["rows","at","name","words"]) (own:=["word"]) (fr:=[]) ⟨rfl,by decide +kernel,by decide +kernel,by decide +kernel,by decide +kernel⟩ (by rfl) (gfr_name (by decide)) (pi_listK (K:=K) (pe_slice (sl_listK (K:=K)) (pv 3) (po_some pe_int) po_none)) (fun d=>(pg_name (i:=0) nd_read_numbers_0 (by rfl) (Or.inl (by rfl)))) (fun d=>pts_nil) (fun d=>(pe_c C_is_number (hr.mono (by decide)) (pa_cons (pv 0) pa_nil)))) pa_nil)) (fun _=>rfl)))))) 
    (pss_one (ps_raise (K:=K) (pe_x C_NoText (hr.mono (by decide)) (pa_cons (pv 1) pa_nil)) rx_def)) pss_nil) 
   (pss_one (ps_ret (pe_callTy (call_tupK (K:=K)) (by rfl) Z.tuple bt_tuple (pa_cons (pe_comp (sc:=defScope s_read_numbers) (Nm:=["rows","at","name","words"]) (own:=["word"]) (fr:=[]) ⟨rfl,by decide +kernel,by decide +kernel,by decide +kernel,by decide +kernel⟩ (by rfl) (gfr_name (by decide)) (pi_listK (K:=K) (pe_slice (sl_listK (K:=K)) (pv 3) (po_some pe_int) po_none)) (fun d=>(pg_name (i:=0) nd_read_numbers_1 (by rfl) (Or.inl (by rfl)))) (fun d=>pts_nil) (fun d=>(pe_callTy call_int_num (by rfl) Z.int bt_int (pa_cons (pv 0) pa_nil)))) pa_nil))))))),?_⟩
 refine (let zz0:TS:=_; let zz1:TS:=tSeq _ zz0; let zz2:TS:=tSeq _ zz1; (?_:tSeq _ zz2 _ _ _))
 refine ⟨_,rfl,_,rfl,rp,_,rfl,.inl (SqL.of hrp),rfl,_,rfl,?_⟩
 rcases Nat.lt_or_ge i ys.length with hlt | hge
 case inr=>exact ifY (decide_eq_true (congrArg V.int (by show (i:Int)=((ys.map V.str).length:Int); rw [List.length_map]; omega))) ⟨_,rfl,raise_one hx fun a H' e ex=>kx (fun z q=>by rw [List.getElem?_eq_none hge] at q; cases q) a H' e ex⟩
 refine ifN (decide_eq_false (fun e=>by have:=V.int.inj e; rw [List.length_map] at this; omega)) ?_
 have hat:ys[i]? = some ys[i]:=List.getElem?_eq_getElem hlt
 have hzl:=hy ys[i] (List.getElem_mem hlt)
 generalize ys[i]=z at hat hzl
 replace kq:=fun ns=>kq z ns hat
 replace kx:=fun (c:numsO name z=none)=>kx fun y q=>by rw [hat] at q; cases q; exact c
 refine ⟨_,rfl,_,rfl,rp,_,_,_,rfl,rfl,SqL.of hrp,atI_nat (v:=V.str z) (by rw [List.getElem?_map,hat]; rfl),rfl,z,⟨#[32]⟩,rfl,rfl,rfl,by omega,fun q hq=>?_⟩
 have hwl:∀ y∈Txt.split z ⟨#[32]⟩,y.length≤1000:=fun y hy=>Nat.le_trans (split_mem hy) hzl
 have hsl:=split_le z ⟨#[32]⟩
 have hne:Txt.split z ⟨#[32]⟩≠[]:=wds_ne z
 unfold numsO wds at kq kx
 have e1:=same_new hq (.lst ((Txt.split z ⟨#[32]⟩).map V.str))
 have h1:=upd_same (H:=H) (a:=q) (o:=.lst ((Txt.split z ⟨#[32]⟩).map V.str))
 generalize upd H q (.lst ((Txt.split z ⟨#[32]⟩).map V.str))=H1 at e1 h1
 generalize Txt.split z ⟨#[32]⟩=ws at h1 kq kx hwl hsl hne
 cases ws with
 | nil=>exact absurd rfl hne
 | cons a ws=>
 have hwn:ws.length≤1001:=by rw [List.length_cons] at hsl; omega
 rw [List.map_cons] at h1
 refine ⟨_,rfl,q,_,0,_,rfl,rfl,SqL.of h1,atI_nat (j:=0) rfl,_,rfl,rfl,_,rfl,?_⟩
 by_cases c2:a=name
 case neg=>exact ifY (by show (!decide (V.str a=V.str name))=true; rw [decide_eq_false (fun e=>c2 (V.str.inj e))]; rfl) (iteT ⟨_,rfl,raise_one hx fun b H' e ex=>kx (if_neg c2) b H' (e1.trans e) ex⟩)
 replace kq:=fun ns (c:allN ws=some ns)=>kq ns ((if_pos c2).trans c)
 replace kx:=fun (c:allN ws=none)=>kx ((if_pos c2).trans c)
 refine ifN (by show (!decide (V.str a=V.str name))=false; rw [decide_eq_true (congrArg V.str c2)]; rfl) ⟨_,rfl,_,rfl,q,_,rfl,SqL.of h1,fun c hc=>?_⟩
 rw [cut_1]
 have e2:=e1.trans (same_new hc (.lst (ws.map V.str)))
 have h2:upd H1 c (.lst (ws.map V.str)) c=some (.lst (ws.map V.str)):=upd_same
 have h2q:=same_new hc (.lst (ws.map V.str)) _ _ h1
 generalize upd H1 c (.lst (ws.map V.str))=H2 at e2 h2 h2q
 refine ⟨c,rfl,⟨_,SqL.of h2⟩,?_⟩
 have hsm:(ws.map V.str).length < sizeLine:=by rw [List.length_map,sizeLine_eq]; omega
 refine comp_list (K:=K) (a:=c) (xs:=ws.map V.str) (fun i acc H3=>acc=((ws.take i).map fun z=>numOk z.cps.toList).map V.bl∧Same H2 H3) hsm ⟨rfl,Same.refl _⟩ (fun i acc H3 p=>by rw [p.1,List.length_map,List.length_map,List.length_take]; exact Nat.min_le_left _ _)
  (fun i acc H3 p=>SqL.of (p.2 _ _ h2)) (fun i acc H3 x hx' p=>?_) (fun acc H3 p y hy=>?_)
 ·obtain ⟨rfl,e3⟩:=p
  rw [List.getElem?_map] at hx'
  cases hi:ws[i]? with
  | none=>rw [hi] at hx'; cases hx'
  | some n=>
   rw [hi] at hx'
   cases hx'
   exact cyes ⟨_,rfl,n,rfl,hwl n (List.mem_cons_of_mem _ (List.mem_of_getElem? hi)),fun H4 e4=>⟨by rw [map_take hi,List.map_append]; rfl,e3.trans e4⟩⟩
 obtain ⟨rfl,e3⟩:=p
 rw [List.length_map,List.take_length]
 refine ⟨y,_,rfl,SqL.of upd_same,_,rfl,?_⟩
 rw [← allN_iff]
 have e4:=e3.trans (same_new hy (.lst ((ws.map fun z=>numOk z.cps.toList).map V.bl)))
 generalize upd H3 y _=H4 at e4
 cases ha:allN ws with
 | none=>exact iteT ⟨_,rfl,raise_one hx fun b H' e ex=>kx ha b H' ((e2.trans e4).trans e) ex⟩
 | some ns=>
 have h4q:=e4 _ _ h2q
 refine iteF ⟨_,rfl,_,rfl,q,_,rfl,SqL.of h4q,fun c2 hc2=>?_⟩
 rw [cut_1]
 have e5:=(e2.trans e4).trans (same_new hc2 (.lst (ws.map V.str)))
 have h5:upd H4 c2 (.lst (ws.map V.str)) c2=some (.lst (ws.map V.str)):=upd_same
 generalize upd H4 c2 (.lst (ws.map V.str))=H5 at e5 h5
 obtain ⟨hws,hns⟩:=allN_some ha
 refine ⟨c2,rfl,⟨_,SqL.of h5⟩,?_⟩
 refine comp_list (K:=K) (a:=c2) (xs:=ws.map V.str) (fun i acc H6=>acc=(ns.take i).map nI∧Same H5 H6) hsm ⟨rfl,Same.refl _⟩ (fun i acc H6 p=>by rw [p.1,List.length_map,List.length_take]; exact Nat.min_le_left _ _)
  (fun i acc H6 p=>SqL.of (p.2 _ _ h5)) (fun i acc H6 x hx' p=>?_) (fun acc H6 p y2 hy2=>?_)
 ·obtain ⟨rfl,e6⟩:=p
  rw [hws,List.getElem?_map,List.getElem?_map] at hx'
  cases hi:ns[i]? with
  | none=>rw [hi] at hx'; cases hx'
  | some n=>
   rw [hi] at hx'
   cases hx'
   have:=hns n (List.mem_of_getElem? hi)
   refine cyes ⟨_,rfl,(n:Int),rfl,by omega,by omega,?_,e6⟩
   rw [map_take hi]
   rfl
 obtain ⟨rfl,e6⟩:=p
 rw [List.length_map,show ws.length=ns.length by rw [hws,List.length_map],List.take_length]
 have e7:=(e5.trans e6).trans (same_new hy2 (.lst (ns.map nI)))
 refine ⟨y2,_,rfl,.inl ⟨SqL.of upd_same,fun z hz=>?_⟩⟩
 exact kq ns ha z _ (none_of e7 hz) (e7.trans (same_new hz _)) upd_same
inductive spReadSXI (cT:Addr) (vs:List V) (H:Hp) (Q:VK) (E:XK):Prop
 | mk (rp:Addr) (ys:List Str) (i:Nat) (name:Str) (c:Nat) (h1:vs=[.ref rp,nI i,.str name,nI c]) (h2:H rp=some (.lst (ys.map V.str))) (h3:i≤ys.length) (h4:(∀ y∈ys,y.length≤1000)) (h5:(∀ z ns,ys[i]? = some z→numsO name z=some ns→ns.length=c→∀ q H',H q=none→Same H H'→H' q=some (.tup (ns.map nI))→Q (.ref q) H')) (h6:((∀ z ns,ys[i]? = some z→numsO name z=some ns→ns.length≠c)→∀ a H',Same H H'→ExnR H' a cT (oneF (i:Nat))→E (.ref a) none H')):spReadSXI cT vs H Q E
def spReadSX (cT:Addr):Sp:=fun vs H Q E=>spReadSXI cT vs H Q E
theorem ok_read_so_many {f:Addr} {fd:FuncData} {g cT:Addr} (F:Fun K "read_so_many" "read_so_many" s_read_so_many f fd) (Z:Blt mg) (hx:excK K cT (some (.ref g))=true) (C_NoText:CalX P w K mg base "NoText" 1 ["self","at"] (spOneD cT "at") cT)
  (C_read_numbers:CalR P w K mg base "read_numbers" 3 ["rows","at","name"] (spReadNX cT)):FnOk P w K mg base (CXE P w) 4 f fd ["rows","at","name","count"] (spReadSX cT):=by
 refine F.okX sc_read_so_many (fun vs H Q E h=>?_) (fun A outer s H vs Q E hr h=>?_)
 ·obtain ⟨rp,ys,i,name,c,rfl,_⟩:=h
  rfl
 obtain ⟨rp,ys,i,name,c,rfl,hrp,hi,hy,kq,kx⟩:=h
 refine ⟨_,(pss_cons (ps_set (i:=4) sc_read_so_many.nd (by rfl) (Or.inl (by rfl)) (pe_r C_read_numbers (hr.mono (by decide)) rx_def (pa_cons (pv 0) (pa_cons (pv 1) (pa_cons (pv 2) pa_nil))))) 
   (pss_cons (ps_if (pt_cmpR op_ne (pe_callB (call_lenK (K:=K)) (by rfl) Z.len bt_len (pa_cons (pv 4) pa_nil)) (pv 3) (nomark _)) 
    (pss_one (ps_raise (K:=K) (pe_x C_NoText (hr.mono (by decide)) (pa_cons (pv 1) pa_nil)) rx_def)) pss_nil) 
   (pss_one (ps_ret (pv 4))))),?_⟩
 refine (let zz0:TS:=_; let zz1:TS:=tSeq _ zz0; (?_:tSeq _ zz1 _ _ _))
 refine ⟨_,rfl,_,rfl,_,rfl,rp,ys,i,name,rfl,hrp,hi,hy,fun z ns hz hn q H1 hq e1 h1=>?_,fun c a H' e ex=>kx (fun z ns q1 q2=>by rw [c z q1] at q2; cases q2) a H' e ex⟩
 refine ⟨_,rfl,q,_,rfl,.inr (SqT.of h1),_,rfl,rfl,_,rfl,?_⟩
 by_cases cc:ns.length=c
 ·exact ifN (by show (!decide (V.int (((ns.map nI).length:Nat):Int)=V.int (c:Int)))=false; rw [List.length_map,cc,decide_eq_true rfl]; rfl) ⟨_,rfl,kq z ns hz hn cc q H1 hq e1 h1⟩
 ·refine ifY (by show (!decide (V.int (((ns.map nI).length:Nat):Int)=V.int (c:Int)))=true; rw [List.length_map,decide_eq_false (fun e=>cc (by have:=V.int.inj e; omega))]; rfl) ⟨_,rfl,raise_one hx fun a H' e ex=>kx (fun z' ns' q1 q2=>?_) a H' (e1.trans e) ex⟩
  rw [hz] at q1
  cases q1
  rw [hn] at q2
  cases q2
  exact cc
theorem goR_bad {l:Str} {F:List (List Nat)} {i:Nat} {r:List Str} (hi:i < 4∨r≠[]) (h:∀ z,r[0]? = some z→rowO l i z=none):goR l F i r=.inl i:=by
 cases r with
 | nil=>exact if_pos (hi.resolve_right fun h=>h rfl)
 | cons z r=>
  unfold goR
  rw [h z rfl]
theorem goR_good {l:Str} {F:List (List Nat)} {i:Nat} {z:Str} {r:List Str} {ns:List Nat} (h:rowO l i z=some ns):goR l F i (z :: r)=goR l (F ++ [ns]) (i+1) r:=by
 show (match rowO l i z with | none=>Sum.inl i | some ns=>goR l (F ++ [ns]) (i+1) r)=_
 rw [h]
theorem rowO_of {l:Str} {i:Nat} {z:Str} {ns:List Nat} (h:numsO (nameAt i) z=some ns) (h1:i=1→ns.length=1) (h3:3≤i→ns.length=l.length):rowO l i z=some ns:=by
 unfold rowO
 rw [h]
 exact if_pos ⟨h1,h3⟩
theorem rowO_no {l:Str} {i:Nat} {z:Str} (h:∀ ns,numsO (nameAt i) z=some ns→¬ ((i=1→ns.length=1)∧(3≤i→ns.length=l.length))):rowO l i z=none:=by
 unfold rowO
 cases e:numsO (nameAt i) z with
 | none=>rfl
 | some ns=>exact if_neg (h ns e)
theorem name_room {i:Nat} (h:3≤i):nameAt i=Str.ofString "room":=by
 unfold nameAt
 rw [if_neg (by omega),if_neg (by omega)]
inductive spReadMXI (cT:Addr) (vs:List V) (H:Hp) (Q:VK) (E:XK):Prop
 | mk (t:Str) (h1:vs=[.str t]) (h2:t.length≤1000000) (h3:(∀ y∈rws t,y.length≤1000)) (h4:(∀ l F,rdT (rws t)=.inr (l,F)→∀ m H',Same H H'→MT H' m l (bOf F) (F.getD 1 []) (F.drop 2)→Q (.ref m) H')) (h5:∀ n,rdT (rws t)=.inl n→∀ a H',Same H H'→ExnR H' a cT (oneF (n:Nat))→E (.ref a) none H'):spReadMXI cT vs H Q E
def spReadMX (cT:Addr):Sp:=fun vs H Q E=>spReadMXI cT vs H Q E
theorem ok_read_machine {f:Addr} {fd:FuncData} {g cT:Addr} {u_ROWS_AHEAD:Value} (F:Fun K "read_machine" "read_machine" s_read_machine f fd) (Z:Blt mg) (c_ROWS_AHEAD:mg "ROWS_AHEAD" = some u_ROWS_AHEAD) (r_ROWS_AHEAD:RelV (V.int 3) u_ROWS_AHEAD) (hx:excK K cT (some (.ref g))=true)
  (C_read_letters:CalR P w K mg base "read_letters" 3 ["row"] (spReadLX cT)) (C_read_so_many:CalR P w K mg base "read_so_many" 4 ["rows","at","name","count"] (spReadSX cT)) (C_read_numbers:CalR P w K mg base "read_numbers" 3 ["rows","at","name"] (spReadNX cT)):FnOk P w K mg base (CXE P w) 5 f fd ["text"] (spReadMX cT):=by
 refine F.okX sc_read_machine (fun vs H Q E h=>?_) (fun A outer s H vs Q E hr h=>?_)
 ·obtain ⟨t,rfl,_⟩:=h
  rfl
 obtain ⟨t,rfl,ht,hyl,kq,kx⟩:=h
 refine ⟨_,(pss_cons (ps_set (i:=1) sc_read_machine.nd (by rfl) (Or.inr (by rfl)) (pe_bmK (K:=K) PySem.F.plainAttrs_str PySem.F.slot_str_split PySem.F.type_str_split mt_split (pv 0) (pa_cons pe_str pa_nil))) 
   (pss_cons (ps_set (i:=2) sc_read_machine.nd (by rfl) (Or.inr (by rfl)) (pe_r C_read_letters (hr.mono (by decide)) rx_def (pa_cons (pe_ix (ix_listK (K:=K)) (pv 1) pe_int (fun _ _=>rfl)) pa_nil))) 
   (pss_cons (ps_set (i:=3) sc_read_machine.nd (by rfl) (Or.inl (by rfl)) (pe_ix (ix_tupK (K:=K)) (pe_r C_read_so_many (hr.mono (by decide)) rx_def (pa_cons (pv 1) (pa_cons pe_int (pa_cons pe_str (pa_cons pe_int pa_nil))))) pe_int (fun _ _=>rfl))) 
   (pss_cons (ps_set (i:=4) sc_read_machine.nd (by rfl) (Or.inl (by rfl)) (pe_r C_read_numbers (hr.mono (by decide)) rx_def (pa_cons (pv 1) (pa_cons pe_int (pa_cons pe_str pa_nil))))) 
   (pss_cons (ps_set (i:=5) sc_read_machine.nd (by rfl) (Or.inl (by rfl)) (pe_callB (call_max2 (by rfl)) (by rfl) Z.max bt_max (pa_cons (pe_callB (call_lenK (K:=K)) (by rfl) Z.len bt_len (pa_cons (pv 1) pa_nil)) (pa_cons (pe_op op_add (pe_glob (by rfl) c_ROWS_AHEAD r_ROWS_AHEAD) pe_int) pa_nil)))) 
   (pss_cons (ps_setcX (i:=6) sc_read_machine.nd (by rfl) (by rfl) (sc:=defScope s_read_machine) (Nm:=["text","rows","letters","begin","ends","last","steps"]) (own:=["at"]) (fr:=[1,2]) ⟨rfl,by decide +kernel,by decide +kernel,by decide +kernel,by decide +kernel⟩ (by rfl) (gfr_name (by decide)) (pi_range2 (by rfl) Z.range (pa_cons (pe_glob (by rfl) c_ROWS_AHEAD r_ROWS_AHEAD) (pa_cons (pv 5) pa_nil))) rxc_def (fun d xe=>(pg_name (i:=0) nd_read_machine_0 (by rfl) (Or.inl (by rfl)))) (fun d xe=>pts_nil) (fun d xe rx=>(pe_r C_read_so_many (hr.mono (by decide)) rx (pa_cons (pv 1) (pa_cons (pv 0) (pa_cons pe_str (pa_cons (pe_callB call_len_str (by rfl) Z.len bt_len (pa_cons (pv 2) pa_nil)) pa_nil))))))) 
   (pss_one (ps_ret (pe_tup (pa_cons (pv 2) (pa_cons (pv 3) (pa_cons (pv 4) (pa_cons (pe_callTy (call_tupK (K:=K)) (by rfl) Z.tuple bt_tuple (pa_cons (pv 6) pa_nil)) pa_nil))))))))))))),?_⟩
 refine (let zz0:TS:=_; let zz1:TS:=tSeq _ zz0; let zz2:TS:=tSeq _ zz1; let zz3:TS:=tSeq _ zz2; let zz4:TS:=tSeq _ zz3; let zz5:TS:=tSeq _ zz4; (?_:tSeq _ zz5 _ _ _))
 refine ⟨_,rfl,rfl,t,⟨#[10]⟩,rfl,rfl,rfl,ht,fun rp hrp=>?_⟩
 have hsl:=split_le t ⟨#[10]⟩
 have hne:Txt.split t ⟨#[10]⟩≠[]:=rws_ne t
 unfold rws at hyl kq kx
 have e1:=same_new hrp (.lst ((Txt.split t ⟨#[10]⟩).map V.str))
 have h1:=upd_same (H:=H) (a:=rp) (o:=.lst ((Txt.split t ⟨#[10]⟩).map V.str))
 generalize upd H rp (.lst ((Txt.split t ⟨#[10]⟩).map V.str))=H1 at e1 h1
 generalize Txt.split t ⟨#[10]⟩=ys at h1 kq kx hyl hsl hne
 cases ys with
 | nil=>exact absurd rfl hne
 | cons z0 r0=>
 refine ⟨_,rfl,rp,_,0,_,rfl,rfl,SqL.of h1,atI_nat (j:=0) rfl,z0,rfl,hyl z0 (by simp),fun l hl H2 e2=>?_,fun hl a H' e ex=>kx 0 (by show (match letO z0 with | none=>Sum.inl 0 | some l=>goR l [] 1 r0)=_; rw [hl]) a H' (e1.trans e) ex⟩
 have hrd:rdT (z0 :: r0)=goR l [] 1 r0:=by
  show (match letO z0 with | none=>Sum.inl 0 | some l=>goR l [] 1 r0)=_
  rw [hl]
 rw [hrd] at kq kx
 refine ⟨_,rfl,rp,z0 :: r0,1,_,1,rfl,e2 _ _ h1,by simp,hyl,fun z1 ns hz1 hn hc q3 H3 hq3 e3 h3=>?_,fun c a H' e ex=>kx 1 (goR_bad (.inl (by decide)) fun z hz=>rowO_no fun ns hns hh=>c z ns (by simpa using hz) hns (hh.1 rfl)) a H' ((e1.trans e2).trans e) ex⟩
 cases r0 with
 | nil=>simp at hz1
 | cons y1 r1=>
 obtain rfl:y1=z1:=by simpa using hz1
 obtain ⟨b,rfl⟩:∃ b,ns=[b]:=by
  match ns,hc with
  | [b],_=>exact ⟨b,rfl⟩
 rw [goR_good (rowO_of (i:=1) hn (fun _=>rfl) (fun z=>by omega)),List.nil_append] at kq kx
 refine ⟨q3,_,0,_,rfl,rfl,SqT.of h3,atI_nat (j:=0) rfl,?_⟩
 have e13:=e2.trans e3
 refine ⟨_,rfl,rp,z0 :: y1 :: r1,2,_,rfl,e13 _ _ h1,by simp,hyl,fun z2 es hz2 hn2 q4 H4 hq4 e4 h4=>?_,fun c a H' e ex=>kx 2 (goR_bad (.inl (by decide)) fun z hz=>rowO_no fun ns hns hh=>nomatch (hns.symm.trans (c z (by simpa using hz)):some ns=none)) a H' ((e1.trans e13).trans e) ex⟩
 cases r1 with
 | nil=>simp at hz2
 | cons y2 r2=>
 obtain rfl:y2=z2:=by simpa using hz2
 rw [goR_good (rowO_of (i:=2) hn2 (fun z=>by omega) (fun z=>by omega))] at kq kx
 have e14:=e13.trans e4
 refine ⟨_,rfl,rp,_,rfl,.inl (SqL.of (e14 _ _ h1)),_,_,rfl,rfl,_,_,rfl,?_⟩
 have hmax:(if (3:Int)+1 > ((((z0 :: y1 :: y2 :: r2).map V.str).length:Nat):Int) then (3:Int)+1 else ((((z0 :: y1 :: y2 :: r2).map V.str).length:Nat):Int))=((3+max r2.length 1:Nat):Int):=by
  rw [List.length_map]
  simp only [List.length_cons]
  split <;> omega
 rw [hmax]
 have hrl:r2.length≤1000000:=by simp only [List.length_cons] at hsl; omega
 refine ⟨_,rfl,_,_,rfl,⟨by decide,by decide,by omega,by omega⟩,?_⟩
 refine comp_range (lo:=3) (k:=(((3+max r2.length 1:Nat):Int) - 3).toNat) (fun i acc H5=>∃ G,TR tns H5 acc G∧G.length=i∧i≤r2.length∧goR l ([[b]] ++ [es]) 3 r2=goR l ([[b]] ++ [es] ++ G) (3+i) (r2.drop i)∧Same H4 H5) (by rw [sizeLine_eq]; omega) ⟨[],.nil,rfl,Nat.zero_le _,by rw [List.append_nil]; rfl,Same.refl _⟩ (fun i acc H5 p=>by obtain ⟨G,R,hG,_⟩:=p; rw [R.len,hG]; exact Nat.le_refl _)
  (fun i acc H5 hi p=>?_) (fun acc H5 p y hy=>?_)
 ·obtain ⟨G,R5,hG,hir,hgo,e5⟩:=p
  rw [hgo] at kx
  have hat:∀ z,(z0 :: y1 :: y2 :: r2)[3+i]? = some z↔(r2.drop i)[0]? = some z:=fun z=>by
   rw [List.getElem?_drop,Nat.add_comm 3 i]
   simp
  refine cyes ⟨_,rfl,_,rfl,_,rfl,l,rfl,?_,rp,z0 :: y1 :: y2 :: r2,3+i,Str.ofString "room",l.length,?_,(e14.trans e5) _ _ h1,by simp only [List.length_cons]; omega,hyl,fun z ns hz hn3 hc q6 H6 hq6 e6 h6=>⟨G ++ [ns],(R5.keep (Tk.same e6)).snoc h6,by rw [List.length_append,hG]; rfl,?_,?_,e5.trans e6⟩,fun c a H' e ex=>kx (3+i) ?_ a H' (((e1.trans e14).trans e5).trans e) ex⟩
  ·have h0:=hyl z0 (by simp)
   obtain ⟨he,_⟩:=letO_some hl
   have:l.length≤z0.length:=by
    rw [he]
    have:=sum_of (c:=32) (ys:=[Str.ofString "letters",l]) (by simp)
    simp only [List.map_cons,List.map_nil,List.sum_cons,List.sum_nil] at this
    unfold letS
    omega
   exact line_le (by omega)
  ·show [V.ref rp,V.int (3+(i:Int)),_,V.int (l.length:Int)]=[V.ref rp,V.int ((3+i:Nat):Int),_,V.int (l.length:Int)]
   rw [show ((3+i:Nat):Int)=3+(i:Int) by omega]
  ·have hz':=(hat z).mp hz
   rw [List.getElem?_drop] at hz'
   exact (List.getElem?_eq_some_iff.mp hz').1
  ·have hz':=(hat z).mp hz
   rw [List.getElem?_drop,Nat.add_zero] at hz'
   obtain ⟨hlt,hez⟩:=List.getElem?_eq_some_iff.mp hz'
   rw [hgo,List.drop_eq_getElem_cons hlt,hez,goR_good (rowO_of (i:=3+i) (by rw [name_room (by omega)]; exact hn3) (fun z=>by omega) (fun _=>hc)),List.append_assoc]
   rfl
  ·refine goR_bad ?_ fun z hz=>rowO_no fun ns hns hh=>c z ns ((hat z).mpr hz) (by rw [name_room (by omega)] at hns; exact hns) (hh.2 (by omega))
   by_cases q:r2.length≤i
   ·left
    omega
   ·right
    intro z
    have:=congrArg List.length z
    rw [List.length_drop,List.length_nil] at this
    omega
 obtain ⟨G,R5,hG,hir,hgo,e5⟩:=p
 have hk:(((3+max r2.length 1:Nat):Int) - 3).toNat=r2.length:=by omega
 rw [hk] at hG hgo
 rw [List.drop_length] at hgo
 have hin:goR l ([[b]] ++ [es] ++ G) (3+r2.length) []=.inr (l,[b] :: es :: G):=if_neg (by omega)
 have s6:=same_new hy (.lst acc)
 refine ⟨_,rfl,_,rfl,_,rfl,_,rfl,y,_,rfl,.inl ⟨SqL.of upd_same,fun z hz=>⟨(by show 4≤sizeLine; decide),fun m hm=>?_⟩⟩⟩
 have s7:=same_new hz (.tup acc)
 have s8:=same_new hm (.tup [.str l,nI b,.ref q4,.ref z])
 have e48:=((e5.trans s6).trans s7).trans s8
 exact kq l ([b] :: es :: G) (hgo.trans hin) m _ ((e1.trans e14).trans e48) ⟨q4,z,acc,upd_same,e48 _ _ h4,s8 _ _ upd_same,((R5.keep (Tk.same s6)).keep (Tk.same s7)).keep (Tk.same s8)⟩
theorem nat_of {r:Int} (h:0≤r):∃ j:Nat,r=(j:Int):=⟨r.toNat,by omega⟩
inductive spNumberI (vs:List V) (H:Hp) (Q:VK):Prop
 | mk (p sc:Addr) (h1:vs=[.ref p]) (h2:FlowAt H p sc) (h3:∀ n H',n < 1000→Drew H H' p→FlowAt H' p sc→Q (nI n) H'):spNumberI vs H Q
def spNumber:Sp:=fun vs H Q u3_=>spNumberI vs H Q
theorem ok_law_number {f:Addr} {fd:FuncData} (F:Fun K "_law_number" "_law_number" s_law_number f fd) (Z:Blt mg) (C_law_pick:Cal P w K mg base "_law_pick" 1 ["_law_flow_here","_law_many"] spPick):FnOk P w K mg base CX0 2 f fd ["_law_flow_here"] spNumber:=by
 refine F.ok sc_law_number (fun vs H Q E h=>?_) (fun cdv A outer s H vs Q E hr h=>?_)
 ·obtain ⟨p,sc,rfl,_⟩:=h
  rfl
 obtain ⟨p,sc,rfl,FA,k⟩:=h
 refine ⟨_,(pss_cons (ps_set (i:=1) sc_law_number.nd (by rfl) (Or.inl (by rfl)) (pe_ix (ix_listK (K:=K)) (pe_lst (pa_cons pe_int (pa_cons pe_int (pa_cons pe_int (pa_cons pe_int pa_nil))))) (pe_c C_law_pick (hr.mono (by decide)) (pa_cons (pv 0) (pa_cons pe_int pa_nil))) (fun _ _=>rfl))) 
   (pss_one (ps_ret (pe_c C_law_pick (hr.mono (by decide)) (pa_cons (pv 0) (pa_cons (pv 1) pa_nil)))))),?_⟩
 refine (let zz0:TS:=_; (?_:tSeq _ zz0 _ _ _))
 refine ⟨(by show 4≤sizeLine; decide),fun x hx=>⟨_,rfl,p,sc,4,rfl,by decide,by decide,FA.same (same_new hx _),fun r xs hr0 hr1 hx1=>?_⟩⟩
 have s1:=same_new hx (.lst [.int 7,.int 7,.int 100,.int 1000])
 have FA1:=FA.same s1
 have nxp:x≠p:=by
  obtain ⟨ys,h1,_⟩:=FA.here
  exact (ne_of_none h1 hx).symm
 have d1:Drew H (upd (upd H x (.lst [.int 7,.int 7,.int 100,.int 1000])) p (.lst xs)) p:=(Drew.same s1).trans (Drew.upd _)
 have hxi:upd (upd H x (.lst [.int 7,.int 7,.int 100,.int 1000])) p (.lst xs) x=some (.lst [.int 7,.int 7,.int 100,.int 1000]):=(upd_ne nxp).trans upd_same
 obtain ⟨y,hy,hy0,hy1⟩:∃ y:Int,atI [V.int 7,V.int 7,V.int 100,V.int 1000] r=some (.int y)∧0 < y∧y≤1000:=by
  have:r=0∨r=1∨r=2∨r=3:=by omega
  rcases this with z | z | z | z
  ·subst z; exact ⟨7,atI_nat (j:=0) rfl,by decide,by decide⟩
  ·subst z; exact ⟨7,atI_nat (j:=1) rfl,by decide,by decide⟩
  ·subst z; exact ⟨100,atI_nat (j:=2) rfl,by decide,by decide⟩
  ·subst z; exact ⟨1000,atI_nat (j:=3) rfl,by decide,by decide⟩
 have FA2:=FA1.go hx1
 refine ⟨x,_,_,_,rfl,rfl,SqL.of hxi,hy,_,rfl,_,rfl,p,sc,y,rfl,hy0,by omega,FA2,fun r2 xs2 hr20 hr21 hx2=>?_⟩
 obtain ⟨j,rfl⟩:=nat_of hr20
 exact k j _ (by omega) (drew_go d1 _) (FA2.go hx2)
inductive spAnyI (vs:List V) (H:Hp) (Q:VK):Prop
 | mk (p sc:Addr) (h1:vs=[.ref p]) (h2:FlowAt H p sc) (h3:∀ m l b es st H',MT H' m l b es st→OkM l b es st→es.length≤30→st.length≤50→Drew H H' p→FlowAt H' p sc→Q (.ref m) H'):spAnyI vs H Q
def spAny:Sp:=fun vs H Q u3_=>spAnyI vs H Q
theorem min_2 {w:Int} (h:0≤w):(if (2:Int) < w then (2:Int) else w)=0∨(if (2:Int) < w then (2:Int) else w)=1∨(if (2:Int) < w then (2:Int) else w)=2:=by
 by_cases z:(2:Int) < w
 ·rw [if_pos z]; exact .inr (.inr rfl)
 ·rw [if_neg z]; omega
theorem ok_law_any_machine {f:Addr} {fd:FuncData} (F:Fun K "_law_any_machine" "_law_any_machine" s_law_any_machine f fd) (Z:Blt mg) (C_law_pick:Cal P w K mg base "_law_pick" 1 ["_law_flow_here","_law_many"] spPick) (C_law_letters:Cal P w K mg base "_law_letters" 2 ["_law_flow_here","_law_many"] spLetters)
  (C_law_number:Cal P w K mg base "_law_number" 2 ["_law_flow_here"] spNumber):FnOk P w K mg base CX0 3 f fd ["_law_flow_here"] spAny:=by
 refine F.ok sc_law_any_machine (fun vs H Q E h=>?_) (fun cdv A outer s H vs Q E hr h=>?_)
 ·obtain ⟨p,sc,rfl,_⟩:=h
  rfl
 obtain ⟨p,sc,rfl,FA,k⟩:=h
 refine ⟨_,(pss_cons (ps_set (i:=1) sc_law_any_machine.nd (by rfl) (Or.inl (by rfl)) (pe_c C_law_pick (hr.mono (by decide)) (pa_cons (pv 0) (pa_cons pe_int pa_nil)))) 
   (pss_cons (ps_set (i:=2) sc_law_any_machine.nd (by rfl) (Or.inl (by rfl)) (pe_ix (ix_listK (K:=K)) (pe_lst (pa_cons (pe_op op_add pe_int (pe_c C_law_pick (hr.mono (by decide)) (pa_cons (pv 0) (pa_cons pe_int pa_nil)))) (pa_cons pe_int (pa_cons (pe_op op_add pe_int (pe_c C_law_pick (hr.mono (by decide)) (pa_cons (pv 0) (pa_cons pe_int pa_nil)))) pa_nil)))) (pe_callB (call_min2 (by rfl)) (by rfl) Z.min bt_min (pa_cons (pv 1) (pa_cons pe_int pa_nil))) (fun _ _=>rfl))) 
   (pss_cons (ps_set (i:=3) sc_law_any_machine.nd (by rfl) (Or.inl (by rfl)) (pe_op op_add pe_int (pe_c C_law_pick (hr.mono (by decide)) (pa_cons (pv 0) (pa_cons (pe_ix (ix_listK (K:=K)) (pe_lst (pa_cons pe_int (pa_cons pe_int (pa_cons pe_int pa_nil)))) (pe_callB (call_min2 (by rfl)) (by rfl) Z.min bt_min (pa_cons (pv 1) (pa_cons pe_int pa_nil))) (fun _ _=>rfl)) pa_nil))))) 
   (pss_cons (ps_set (i:=4) sc_law_any_machine.nd (by rfl) (Or.inr (by rfl)) (pe_c C_law_letters (hr.mono (by decide)) (pa_cons (pv 0) (pa_cons (pv 2) pa_nil)))) 
   (pss_cons (ps_set (i:=5) sc_law_any_machine.nd (by rfl) (Or.inl (by rfl)) (pe_callTy (call_tupK (K:=K)) (by rfl) Z.tuple bt_tuple (pa_cons (pe_comp (sc:=defScope s_law_any_machine) (Nm:=["_law_flow_here","_law_way","_law_many","_law_rooms","_law_letters_here","_law_ends","_law_begin"]) (own:=["_law_k"]) (fr:=[0]) ⟨rfl,by decide +kernel,by decide +kernel,by decide +kernel,by decide +kernel⟩ (by rfl) (gfr_name (by decide)) (pi_range1 (by rfl) Z.range (pa_cons (pe_c C_law_pick (hr.mono (by decide)) (pa_cons (pv 0) (pa_cons pe_int pa_nil))) pa_nil)) (fun d=>(pg_name (i:=0) nd_law_any_machine_0 (by rfl) (Or.inl (by rfl)))) (fun d=>pts_nil) (fun d=>(pe_c C_law_number (hr.mono (by decide)) (pa_cons (pv 1) pa_nil)))) pa_nil))) 
   (pss_cons (ps_set (i:=6) sc_law_any_machine.nd (by rfl) (Or.inl (by rfl)) (pe_c C_law_number (hr.mono (by decide)) (pa_cons (pv 0) pa_nil))) 
   (pss_one (ps_ret (pe_tup (pa_cons (pv 4) (pa_cons (pv 6) (pa_cons (pv 5) (pa_cons (pe_callTy (call_tupK (K:=K)) (by rfl) Z.tuple bt_tuple (pa_cons (pe_comp (sc:=defScope s_law_any_machine) (Nm:=["_law_flow_here","_law_way","_law_many","_law_rooms","_law_letters_here","_law_ends","_law_begin"]) (own:=["_law_room"]) (fr:=[0,4]) ⟨rfl,by decide +kernel,by decide +kernel,by decide +kernel,by decide +kernel⟩ (by rfl) (gfr_name (by decide)) (pi_range1 (by rfl) Z.range (pa_cons (pv 3) pa_nil)) (fun d=>(pg_name (i:=0) nd_law_any_machine_1 (by rfl) (Or.inl (by rfl)))) (fun d=>pts_nil) (fun d=>(pe_callTy (call_tupK (K:=K)) (by rfl) Z.tuple bt_tuple (pa_cons (pe_comp (sc:={ kind:=PySem.ScopeKind.function,names:=[ (PySem.Str.ofString ".0",PySem.NameKind.local),(PySem.Str.ofString "_law_room",PySem.NameKind.local),(PySem.Str.ofString "tuple",PySem.NameKind.globalImplicit),(PySem.Str.ofString "_law_flow_here",PySem.NameKind.cell),(PySem.Str.ofString "_law_letters_here",PySem.NameKind.cell)],isGenerator:=false,isCoroutine:=false,more:=[]:PySem.Scope }) (Nm:=["_law_room","_law_flow_here","_law_letters_here"]) (own:=["_law_k"]) (fr:=[1]) ⟨rfl,by decide +kernel,by decide +kernel,by decide +kernel,by decide +kernel⟩ (by rfl) (gfr_name (by decide)) (pi_str (pv 2)) (fun d=>(pg_name (i:=0) nd_law_any_machine_2 (by rfl) (Or.inl (by rfl)))) (fun d=>pts_nil) (fun d=>(pe_c C_law_number (hr.mono (by decide)) (pa_cons (pv 1) pa_nil)))) pa_nil)))) pa_nil)) pa_nil))))))))))))),?_⟩
 refine (let zz0:TS:=_; let zz1:TS:=tSeq _ zz0; let zz2:TS:=tSeq _ zz1; let zz3:TS:=tSeq _ zz2; let zz4:TS:=tSeq _ zz3; let zz5:TS:=tSeq _ zz4; (?_:tSeq _ zz5 _ _ _))
 refine ⟨_,rfl,p,sc,8,rfl,by decide,by decide,FA,fun wy xs0 hw0 hw1 hx0=>?_⟩
 have FA0:=FA.go hx0
 have d0:Drew H (upd H p (.lst xs0)) p:=Drew.upd _
 generalize upd H p (.lst xs0)=H0 at FA0 d0
 refine ⟨_,rfl,p,sc,21,rfl,by decide,by decide,FA0,fun r1 xs1 hr10 hr11 hx1=>⟨_,_,rfl,rfl,?_⟩⟩
 have FA1:=FA0.go hx1
 have d1:=drew_go d0 (.lst xs1)
 generalize upd H0 p (.lst xs1)=H1 at FA1 d1
 refine ⟨_,rfl,p,sc,5,rfl,by decide,by decide,FA1,fun r2 xs2 hr20 hr21 hx2=>⟨_,_,rfl,rfl,(by show 3≤sizeLine; decide),fun x hx=>?_⟩⟩
 have FA2:=FA1.go hx2
 have d2:=drew_go d1 (.lst xs2)
 generalize upd H1 p (.lst xs2)=H2 at FA2 d2 hx
 have s3:=same_new hx (.lst [.int (6+r1),.int 1,.int (1+r2)])
 have FA3:=FA2.same s3
 have d3:=d2.trans (Drew.same (p:=p) s3)
 have h3:upd H2 x (.lst [.int (6+r1),.int 1,.int (1+r2)]) x=some (.lst [.int (6+r1),.int 1,.int (1+r2)]):=upd_same
 generalize hH3:upd H2 x _=H3
 have FA3:FlowAt H3 p sc:=by rw [← hH3]; exact FA2.same (same_new hx _)
 have d3:Drew H H3 p:=by rw [← hH3]; exact d2.trans (Drew.same (same_new hx _))
 have h3:H3 x=some (.lst [.int (6+r1),.int 1,.int (1+r2)]):=by rw [← hH3]; exact upd_same
 clear hH3
 obtain ⟨mn,hmn,hm0,hm1⟩:∃ y:Int,atI [V.int (6+r1),V.int 1,V.int (1+r2)] (if (2:Int) < wy then 2 else wy)=some (.int y)∧1≤y∧y≤26:=by
  rcases min_2 hw0 with z | z | z
  ·rw [z]; exact ⟨6+r1,atI_nat (j:=0) rfl,by omega,by omega⟩
  ·rw [z]; exact ⟨1,atI_nat (j:=1) rfl,by decide,by decide⟩
  ·rw [z]; exact ⟨1+r2,atI_nat (j:=2) rfl,by omega,by omega⟩
 refine ⟨_,rfl,_,_,rfl,x,_,_,_,rfl,rfl,SqL.of h3,hmn,?_⟩
 refine ⟨_,rfl,(by show 3≤sizeLine; decide),fun x2 hx2'=>⟨_,rfl,_,_,rfl,?_⟩⟩
 have s4:=same_new hx2' (.lst [.int 4,.int 50,.int 8])
 have FA4:=FA3.same s4
 have d4:=d3.trans (Drew.same (p:=p) s4)
 have h4:upd H3 x2 (.lst [.int 4,.int 50,.int 8]) x2=some (.lst [.int 4,.int 50,.int 8]):=upd_same
 generalize upd H3 x2 (.lst [.int 4,.int 50,.int 8])=H4 at s4 FA4 d4 h4
 obtain ⟨rn,hrn,hn0,hn1⟩:∃ y:Int,atI [V.int 4,V.int 50,V.int 8] (if (2:Int) < wy then 2 else wy)=some (.int y)∧1≤y∧y≤50:=by
  rcases min_2 hw0 with z | z | z
  ·rw [z]; exact ⟨4,atI_nat (j:=0) rfl,by decide,by decide⟩
  ·rw [z]; exact ⟨50,atI_nat (j:=1) rfl,by decide,by decide⟩
  ·rw [z]; exact ⟨8,atI_nat (j:=2) rfl,by decide,by decide⟩
 refine ⟨x2,_,_,_,rfl,rfl,SqL.of h4,hrn,p,sc,rn,rfl,by omega,by omega,FA4,fun r5 xs5 hr50 hr51 hx5=>⟨_,_,rfl,rfl,?_⟩⟩
 have FA5:=FA4.go hx5
 have d5:=drew_go d4 (.lst xs5)
 generalize upd H4 p (.lst xs5)=H5 at FA5 d5
 refine ⟨_,rfl,_,rfl,p,sc,mn,rfl,by omega,by omega,FA5,fun l H6 hl dr6 FA6=>?_⟩
 have d6:=d5.trans dr6
 have hll:=len_list l
 have hlen:l.length=mn.toNat:=by rw [← hll]; exact hl.1
 refine ⟨_,rfl,p,sc,5,rfl,by decide,by decide,FA6,fun r7 xs7 hr70 hr71 hx7=>⟨_,rfl,by omega,by omega,?_⟩⟩
 have FA7:=FA6.go hx7
 have d7:=drew_go d6 (.lst xs7)
 generalize upd H6 p (.lst xs7)=H7 at FA7 d7
 refine comp_range (lo:=0) (k:=r7.toNat) (fun i acc H8=>∃ ns:List Nat,acc=ns.map nI∧ns.length=i∧(∀ y∈ns,y < 1000)∧FlowAt H8 p sc∧Drew H7 H8 p) (Nat.lt_of_le_of_lt (show r7.toNat≤5 by omega) (by decide)) ⟨[],rfl,rfl,fun y hy=>absurd hy (by simp),FA7,Drew.refl _ _⟩
  (fun i acc H8 ⟨ns,e,hl',_⟩=>by rw [e,List.length_map,hl']; exact Nat.le_refl _) (fun i acc H8 hi hp=>cyes ?_) (fun acc H8 hp y hy=>?_)
 ·obtain ⟨ns,rfl,hnl,hns,FA8,dr8⟩:=hp
  refine ⟨_,rfl,p,sc,rfl,FA8,fun n H9 hn dr9 FA9=>⟨ns ++ [n],map_snoc nI _ _,by rw [List.length_append,hnl]; rfl,fun z hz=>?_,FA9,dr8.trans dr9⟩⟩
  rcases List.mem_append.mp hz with q | q
  ·exact hns z q
  ·rw [List.mem_singleton.mp q]; exact hn
 obtain ⟨es,rfl,hel,hes,FA8,dr8⟩:=hp
 have d8:=d7.trans dr8
 refine ⟨y,_,rfl,.inl ⟨SqL.of upd_same,fun e he=>?_⟩⟩
 have s9:=(same_new hy (.lst (es.map nI))).trans (same_new he (.tup (es.map nI)))
 have FA9:=FA8.same s9
 have d9:=d8.trans (Drew.same (p:=p) s9)
 have h9:upd (upd H8 y (.lst (es.map nI))) e (.tup (es.map nI)) e=some (.tup (es.map nI)):=upd_same
 generalize upd (upd H8 y (.lst (es.map nI))) e (.tup (es.map nI))=H9 at s9 FA9 d9 h9
 refine ⟨_,rfl,p,sc,rfl,FA9,fun b H10 hb dr10 FA10=>?_⟩
 have d10:=d9.trans dr10
 have h10:=(Tk.drew FA9 dr10) _ _ h9
 refine ⟨_,rfl,_,rfl,_,rfl,_,rfl,_,rfl,by omega,by omega,?_⟩
 refine comp_range (lo:=0) (k:=(1+r5).toNat) (fun i acc H11=>∃ st:List (List Nat),TR tns H11 acc st∧st.length=i∧(∀ r∈st,r.length=l.length∧∀ x∈r,x < 1000)∧FlowAt H11 p sc∧Drew H10 H11 p) (Nat.lt_of_le_of_lt (show (1+r5).toNat≤50 by omega) (by decide)) ⟨[],.nil,rfl,fun y hy=>absurd hy (by simp),FA10,Drew.refl _ _⟩
  (fun i acc H11 ⟨st,R,hl',_⟩=>by rw [R.len,hl']; exact Nat.le_refl _) (fun i acc H11 hi hp=>cyes ?_) (fun acc H11 hp y2 hy2=>?_)
 ·obtain ⟨st,R,hsl,hst,FA11,dr11⟩:=hp
  refine ⟨_,rfl,l,rfl,?_⟩
  refine comp_str (cs:=l.cps.toList) (fun j acc H12=>∃ ns:List Nat,acc=ns.map nI∧ns.length=j∧(∀ y∈ns,y < 1000)∧FlowAt H12 p sc∧Drew H11 H12 p) (small1000 (by omega)) ⟨[],rfl,rfl,fun y hy=>absurd hy (by simp),FA11,Drew.refl _ _⟩
   (fun j acc H12 ⟨ns,e,hl',_⟩=>by rw [e,List.length_map,hl']; exact Nat.le_refl _) (fun j acc H12 c hc hp=>cyes ?_) (fun acc H12 hp y3 hy3=>?_)
  ·obtain ⟨ns,rfl,hnl,hns,FA12,dr12⟩:=hp
   refine ⟨_,rfl,p,sc,rfl,FA12,fun n H13 hn dr13 FA13=>⟨ns ++ [n],map_snoc nI _ _,by rw [List.length_append,hnl]; rfl,fun z hz=>?_,FA13,dr12.trans dr13⟩⟩
   rcases List.mem_append.mp hz with q | q
   ·exact hns z q
   ·rw [List.mem_singleton.mp q]; exact hn
  ·obtain ⟨ns,rfl,hnl,hns,FA12,dr12⟩:=hp
   refine ⟨y3,_,rfl,.inl ⟨SqL.of upd_same,fun a ha=>?_⟩⟩
   have s13:=(same_new hy3 (.lst (ns.map nI))).trans (same_new ha (.tup (ns.map nI)))
   refine ⟨st ++ [ns],((R.keep (Tk.drew FA11 dr12)).keep (Tk.same s13)).snoc upd_same,by rw [List.length_append,hsl]; rfl,fun r hr'=>?_,FA12.same s13,(dr11.trans dr12).trans (Drew.same s13)⟩
   rcases List.mem_append.mp hr' with q | q
   ·exact hst r q
   ·rw [List.mem_singleton.mp q]
    exact ⟨by omega,hns⟩
 obtain ⟨st,R,hsl,hst,FA11,dr11⟩:=hp
 refine ⟨y2,_,rfl,.inl ⟨SqL.of upd_same,fun z hz=>⟨(by show 4≤sizeLine; decide),fun m hm=>?_⟩⟩⟩
 have t1:=same_new hy2 (.lst acc)
 have t2:=same_new hz (.tup acc)
 have t3:=same_new hm (.tup [.str l,nI b,.ref e,.ref z])
 have t:=(t1.trans t2).trans t3
 refine k m l b es st _ ⟨e,z,acc,upd_same,t _ _ ((Tk.drew FA10 dr11) _ _ h10),t3 _ _ upd_same,R.keep (Tk.same t)⟩ ⟨⟨_,hl,by omega,by omega⟩,hb,⟨by omega,hes⟩,⟨by omega,by omega⟩,hst⟩ (by omega) (by omega) ((d10.trans dr11).trans (Drew.same t)) (FA11.same t)
theorem row_bound {name:Str} {ns:List Nat} (hn:name.length≤10) (hnl:ns.length≤900) (hns:∀ x∈ns,x < 1000):((rowL name ns).map (·.length)).sum+(rowL name ns).length * (Str.ofString " ").length≤16777216:=by
 have h2:=sum_le (row_parts hn hns)
 have h3:(rowL name ns).length=ns.length+1:=by
  unfold rowL
  rw [List.length_cons,List.length_map]
 rw [s_blank]
 show _+_ * 1≤_
 rw [h3] at h2 ⊢
 omega
theorem row_reads {K:PySem.W.Frag} {H1:Hp} {q l1:Addr} {name:Str} {ns:List Nat} {σ:L2.St} {Q:VK} (hnl:ns.length≤900) (hns:∀ x∈ns,x < 1000) (h1:H1 l1=some (.lst [.str name])) (hq:H1 q=some (.tup (ns.map nI)))
  (k:∀ l3 H',Same H1 H'→H' l3=some (.lst ((rowL name ns).map V.str))→Q (.ref l3) H') :
  CompW (Itt K q) 1 [] (gName 0) tYes (tCB (fun xs H Q=>∃ n:Int,xs=[.int n]∧n.natAbs < 1000000∧Q (.str (numS n)) H) (tCons (tVar 0) tNil)) σ H1 (fun v H3=>rCat (.ref l1) v H3 Q):=by
 refine comp_tup (K:=K) (a:=q) (xs:=ns.map nI) (fun i acc H2=>acc=(ns.take i).map (fun n=>V.str (nS n))∧Same H1 H2) (by rw [List.length_map]; exact small1000 (by omega)) ⟨rfl,Same.refl _⟩ (fun i acc H2 p=>by rw [p.1,List.length_map,List.length_take]; exact Nat.min_le_left _ _)
  (fun i acc H2 p=>SqT.of (p.2 _ _ hq)) (fun i acc H2 x hx p=>?_) (fun acc H2 p l2 hl2=>?_)
 ·rw [List.getElem?_map] at hx
  cases hi:ns[i]? with
  | none=>rw [hi] at hx; cases hx
  | some n=>
   rw [hi] at hx
   cases hx
   have hn1:=hns n (List.mem_of_getElem? hi)
   refine cyes ⟨_,rfl,_,rfl,by show ((n:Nat):Int).natAbs < 1000000; omega,?_,p.2⟩
   rw [p.1,map_take hi]
   rfl
 ·obtain ⟨rfl,e2⟩:=p
  rw [List.length_map,List.take_length]
  have s3:=same_new hl2 (.lst (ns.map fun n=>V.str (nS n)))
  refine ⟨l1,l2,[.str name],_,rfl,rfl,s3 _ _ (e2 _ _ h1),upd_same,(by rw [List.length_map]; exact line_le (by show 1+ns.length≤1000; omega)),fun l3 hl3=>?_⟩
  refine k l3 _ ((e2.trans s3).trans (same_new hl3 _)) (upd_same.trans ?_)
  unfold rowL
  rw [List.map_cons,List.map_map]
  rfl
theorem ok_law_machine_text {f:Addr} {fd:FuncData} (F:Fun K "_law_machine_text" "_law_machine_text" s_law_machine_text f fd) (Z:Blt mg):FnOk P w K mg base CX0 1 f fd ["_law_machine"] spShowM:=by
 refine F.ok sc_law_machine_text (fun vs H Q E h=>?_) (fun cdv A outer s H vs Q E hr h=>?_)
 ·obtain ⟨m,l,b,es,st,rfl,_⟩:=h
  rfl
 obtain ⟨m,l,b,es,st,rfl,hM,ok,k⟩:=h
 refine ⟨_,(pss_cons (ps_asg (pv 0) (pg_tupK (K:=K) (n:=4) (by rfl) (pgs_cons (pg_name (i:=1) sc_law_machine_text.nd (by rfl) (Or.inl (by rfl))) (pgs_cons (pg_name (i:=2) sc_law_machine_text.nd (by rfl) (Or.inl (by rfl))) (pgs_cons (pg_name (i:=3) sc_law_machine_text.nd (by rfl) (Or.inl (by rfl))) (pgs_cons (pg_name (i:=4) sc_law_machine_text.nd (by rfl) (Or.inl (by rfl))) pgs_nil)))))) 
   (pss_cons (ps_set (i:=5) sc_law_machine_text.nd (by rfl) (Or.inl (by rfl)) (pe_lst (pa_cons (pe_op op_add_str pe_str (pv 1)) (pa_cons (pe_op op_add_str pe_str (pe_callTy call_str_num (by rfl) Z.str bt_str (pa_cons (pv 2) pa_nil))) (pa_cons (pe_bmK (K:=K) PySem.F.plainAttrs_str PySem.F.slot_str_join PySem.F.type_str_join (mt_joinK (K:=K)) pe_str (pa_cons (pe_op op_cat (pe_lst (pa_cons pe_str pa_nil)) (pe_comp (sc:=defScope s_law_machine_text) (Nm:=["_law_machine","_law_letters_here","_law_begin","_law_ends","_law_steps","_law_rows"]) (own:=["_law_room"]) (fr:=[]) ⟨rfl,by decide +kernel,by decide +kernel,by decide +kernel,by decide +kernel⟩ (by rfl) (gfr_name (by decide)) (pi_tupK (K:=K) (pv 3)) (fun d=>(pg_name (i:=0) nd_law_machine_text_0 (by rfl) (Or.inl (by rfl)))) (fun d=>pts_nil) (fun d=>(pe_callTy call_str_num (by rfl) Z.str bt_str (pa_cons (pv 0) pa_nil))))) pa_nil)) pa_nil))))) 
   (pss_one (ps_ret (pe_bmK (K:=K) PySem.F.plainAttrs_str PySem.F.slot_str_join PySem.F.type_str_join (mt_joinK (K:=K)) pe_str (pa_cons (pe_op op_cat (pv 5) (pe_comp (sc:=defScope s_law_machine_text) (Nm:=["_law_machine","_law_letters_here","_law_begin","_law_ends","_law_steps","_law_rows"]) (own:=["_law_row"]) (fr:=[]) ⟨rfl,by decide +kernel,by decide +kernel,by decide +kernel,by decide +kernel⟩ (by rfl) (gfr_name (by decide)) (pi_tupK (K:=K) (pv 4)) (fun d=>(pg_name (i:=0) nd_law_machine_text_1 (by rfl) (Or.inl (by rfl)))) (fun d=>pts_nil) (fun d=>(pe_bmK (K:=K) PySem.F.plainAttrs_str PySem.F.slot_str_join PySem.F.type_str_join (mt_joinK (K:=K)) pe_str (pa_cons (pe_op op_cat (pe_lst (pa_cons pe_str pa_nil)) (pe_comp (sc:={ kind:=PySem.ScopeKind.function,names:=[(PySem.Str.ofString ".0",PySem.NameKind.local),(PySem.Str.ofString "_law_row",PySem.NameKind.local)],isGenerator:=false,isCoroutine:=false,more:=[]:PySem.Scope }) (Nm:=["_law_row"]) (own:=["_law_to"]) (fr:=[]) ⟨rfl,by decide +kernel,by decide +kernel,by decide +kernel,by decide +kernel⟩ (by rfl) (gfr_name (by decide)) (pi_tupK (K:=K) (pv 0)) (fun d=>(pg_name (i:=0) nd_law_machine_text_2 (by rfl) (Or.inl (by rfl)))) (fun d=>pts_nil) (fun d=>(pe_callTy call_str_num (by rfl) Z.str bt_str (pa_cons (pv 0) pa_nil))))) pa_nil))))) pa_nil)))))),?_⟩
 refine (let zz0:TS:=_; let zz1:TS:=tSeq _ zz0; (?_:tSeq _ zz1 _ _ _))
 obtain ⟨e,s',xs,h1,h2,h3,R⟩:=hM
 have hl:=ok.len
 have hxl:=R.len
 have hro:=ok.room
 have n8:(Str.ofString "letters ").length=8:=by decide +kernel
 have n6:(Str.ofString "begin ").length=6:=by decide +kernel
 have hb3:=(nS_all ok.beg).2.2.1
 refine ⟨_,rfl,m,_,rfl,SqT.of h1,rfl,_,_,rfl,_,_,rfl,_,_,rfl,_,_,rfl,rfl,?_⟩
 refine ⟨_,rfl,_,_,rfl,rfl,line_le (by rw [n8]; omega),?_⟩
 rw [let_add]
 refine ⟨_,rfl,_,rfl,by show ((b:Nat):Int).natAbs < 1000000; have:=ok.beg; omega,_,_,rfl,rfl,line_le (by rw [n6]; show 6+(nS b).length≤1000; omega),?_⟩
 refine ⟨rfl,(by show 1≤sizeLine; decide),fun l1 hl1=>⟨_,rfl,e,rfl,⟨_,SqT.of (same_new hl1 _ _ _ h2)⟩,?_⟩⟩
 refine row_reads (name:=Str.ofString "ends") (ns:=es) ok.ends.1 ok.ends.2 upd_same (same_new hl1 _ _ _ h2) fun l3 H3 e3 g3=>⟨_,l3,_,rfl,rfl,SqL.of g3,row_bound (by rw [n_ends]; decide) ok.ends.1 ok.ends.2,(by show 3≤sizeLine; decide),fun rp hrp=>?_⟩
 have e03:=(same_new hl1 (.lst [.str (Str.ofString "ends")])).trans e3
 generalize hH4:upd H3 rp _=H4
 have e34:Same H3 H4:=by rw [← hH4]; exact same_new hrp _
 have g4:H4 rp=some (.lst [.str (letS l),.str (rowS (Str.ofString "begin") [b]),.str (rowS (Str.ofString "ends") es)]):=by
  rw [← hH4,upd_same,← beg_add,s_blank]
  rfl
 clear hH4
 have e04:=e03.trans e34
 refine ⟨rfl,_,rfl,_,rfl,s',rfl,⟨_,SqT.of (e04 _ _ h3)⟩,?_⟩
 refine comp_tup (K:=K) (a:=s') (xs:=xs) (fun i acc H5=>acc=(st.take i).map (fun r=>V.str (rowS (Str.ofString "room") r))∧Same H4 H5) (by rw [hxl]; exact small1000 (by omega)) ⟨rfl,Same.refl _⟩ (fun i acc H5 p=>by rw [p.1,List.length_map,List.length_take]; exact Nat.min_le_left _ _)
  (fun i acc H5 p=>SqT.of (p.2 _ _ (e04 _ _ h3))) (fun i acc H5 x hx p=>?_) (fun acc H5 p y hy=>?_)
 ·obtain ⟨rfl,e5⟩:=p
  obtain ⟨a,r,rfl,hr',ha⟩:=(R.keep (Tk.same (e04.trans e5))).at_ hx
  have hrow:=ok.rows r (List.mem_of_getElem? hr')
  refine cyes ⟨rfl,(by show 1≤sizeLine; decide),fun l6 hl6=>⟨_,rfl,a,rfl,⟨_,SqT.of (same_new hl6 _ _ _ ha)⟩,?_⟩⟩
  refine row_reads (name:=Str.ofString "room") (ns:=r) (by omega) hrow.2 upd_same (same_new hl6 _ _ _ ha) fun l7 H7 e7 g7=>⟨_,l7,_,rfl,rfl,SqL.of g7,row_bound (by rw [n_room]; decide) (by omega) hrow.2,?_,(e5.trans (same_new hl6 _)).trans e7⟩
  rw [map_take hr',s_blank]
  rfl
 ·obtain ⟨rfl,e5⟩:=p
  rw [hxl,List.take_length]
  have s6:=same_new hy (.lst (st.map fun r=>V.str (rowS (Str.ofString "room") r)))
  have g6:=s6 _ _ (e5 _ _ g4)
  refine ⟨rp,y,_,_,rfl,rfl,g6,upd_same,(by rw [List.length_map]; exact line_le (by show 3+st.length≤1000; omega)),fun z hz=>?_⟩
  refine ⟨_,z,rowsL l b es st,rfl,rfl,SqL.of (upd_same.trans ?_),?_,?_⟩
  ·unfold rowsL
   rw [List.map_append,List.map_map]
   rfl
  ·have:=rows_sum ok
   rw [s_feed]
   show _+_ * 1≤_
   omega
  ·rw [s_feed]
   exact k _ (((e04.trans e5).trans s6).trans (same_new hz _))
def dNs (r:List Nat):Dt:=.tup (r.map fun n:Nat=>Dt.int ((n:Nat):Int))
def dMach (l:Str) (b:Nat) (es:List Nat) (st:List (List Nat)):Dt:=.tup [.str l,.int (b:Int),dNs es,.tup (st.map dNs)]
theorem dep_all {α:Type} (f:α→Dt) (n:Nat) (h:∀ x,(f x).dep≤n) (xs:List α):((xs.map f).map Dt.dep).foldr max 0≤n:=by
 induction xs with
 | nil=>exact Nat.zero_le _
 | cons x r ih=>
  rw [List.map_cons,List.map_cons,List.foldr_cons]
  have:=h x
  omega
theorem dNs_dep (r:List Nat):(dNs r).dep≤1:=by
 unfold dNs
 rw [Dt.dep]
 have:=dep_all (fun n:Nat=>Dt.int (n:Int)) 0 (fun x=>by simp [Dt.dep]) r
 omega
theorem dMach_dep (l:Str) (b:Nat) (es:List Nat) (st:List (List Nat)):(dMach l b es st).dep < 4:=by
 unfold dMach
 have h1:=dNs_dep es
 have h2:(Dt.tup (st.map dNs)).dep≤2:=by
  rw [Dt.dep]
  have:=dep_all dNs 1 dNs_dep st
  omega
 rw [Dt.dep]
 simp only [List.map_cons,List.map_nil,List.foldr_cons,List.foldr_nil]
 simp only [Dt.dep] at *
 omega
theorem ns_den {H:Hp} {a:Addr} {r:List Nat} (h:H a=some (.tup (r.map nI))) (hr:r.length≤1000):Den H (.ref a) (dNs r):=by
 refine Den.tup h (by rw [List.length_map]; omega) (by rw [List.length_map,List.length_map]) fun i x d q1 q2=>?_
 rw [List.getElem?_map] at q1 q2
 cases y:r[i]? with
 | none=>rw [y] at q1; cases q1
 | some k=>
  rw [y] at q1 q2
  cases q1
  cases q2
  exact .int _
theorem mach_den {H:Hp} {m:Addr} {l:Str} {b:Nat} {es:List Nat} {st:List (List Nat)} (h:MT H m l b es st) (ok:OkM l b es st):Den H (.ref m) (dMach l b es st):=by
 obtain ⟨e,s,xs,h1,h2,h3,R⟩:=h
 have hl:=ok.len
 refine Den.tup h1 (by show 4≤1000000; decide) rfl fun i x d q1 q2=>?_
 match i,q1,q2 with
 | 0,q1,q2=>cases q1; cases q2; exact .str _
 | 1,q1,q2=>cases q1; cases q2; exact .int _
 | 2,q1,q2=>cases q1; cases q2; exact ns_den h2 (by have:=ok.ends.1; omega)
 | 3,q1,q2=>
  cases q1
  cases q2
  refine Den.tup h3 (by rw [R.len]; have:=ok.room.2; omega) (by rw [R.len,List.length_map]) fun j x d q1 q2=>?_
  obtain ⟨a,r,rfl,g1,g2⟩:=R.at_ q1
  rw [List.getElem?_map,g1] at q2
  cases q2
  exact ns_den g2 (by have:=(ok.rows r (List.mem_of_getElem? g1)).1; omega)
 | i+4,q1,q2=>cases q1
def kitB (K:PySem.W.Frag) (cS c0 c1 c2 c3 c4:Addr):Bool:=
 let cs:=[(c0,0),(c1,1),(c2,2),(c3,3),(c4,4)]
 (cs.all fun p=>cs.all fun q=>PySem.W.kitOne K (.ref p.1) (.ref q.1)==some (decide (p.2=q.2))) && (cs.all fun p=>PySem.W.kitOne K (.ref p.1) (.ref cS)==some true && PySem.W.kitOne K (.ref p.1) (.type "ValueError")==some true) &&
  (cs.all fun q=>PySem.W.kitOne K (.ref cS) (.ref q.1)==some false) && PySem.W.kitOne K (.ref cS) (.type "ValueError")==some true
def exmB (K:PySem.W.Frag) (cS c0 c1 c2 c3 c4:Addr):Bool:=[c0,c1,c2,c3,c4].all fun c=>PySem.W.exmOne K (.ref c) (.ref cS)==some true
structure Kls (K:PySem.W.Frag) (mg:Str→Option Value) (cSpreadError cNoText cNoMachine cNoFit cNoName cNoRow:Addr):Prop where
 mSpreadError:mg "SpreadError" = some (.ref cSpreadError)
 mNoText:mg "NoText" = some (.ref cNoText)
 mNoMachine:mg "NoMachine" = some (.ref cNoMachine)
 mNoFit:mg "NoFit" = some (.ref cNoFit)
 mNoName:mg "NoName" = some (.ref cNoName)
 mNoRow:mg "NoRow" = some (.ref cNoRow)
 fNoText:ExcF K cNoText
 fNoMachine:ExcF K cNoMachine
 fNoFit:ExcF K cNoFit
 fNoName:ExcF K cNoName
 fNoRow:ExcF K cNoRow
 kNoFit:PySem.W.keepIn K (.ref cNoFit)=true
 kNoRow:PySem.W.keepIn K (.ref cNoRow)=true
 eNoFit:excK K cNoFit none=true
 eNoRow:excK K cNoRow none=true
 kit:kitB K cSpreadError cNoText cNoMachine cNoFit cNoName cNoRow=true
 exm:exmB K cSpreadError cNoText cNoMachine cNoFit cNoName cNoRow=true
structure Kind (K:PySem.W.Frag) (cS c0 c1 c2 c3 c4:Addr) (C:Addr) (i:Nat):Prop where
 up:PySem.W.kitOne K (.ref C) (.ref cS)=some true
 ve:PySem.W.kitOne K (.ref C) (.type "ValueError")=some true
 k0:PySem.W.kitOne K (.ref C) (.ref c0)=some (decide (i=0))
 k1:PySem.W.kitOne K (.ref C) (.ref c1)=some (decide (i=1))
 k2:PySem.W.kitOne K (.ref C) (.ref c2)=some (decide (i=2))
 k3:PySem.W.kitOne K (.ref C) (.ref c3)=some (decide (i=3))
 k4:PySem.W.kitOne K (.ref C) (.ref c4)=some (decide (i=4))
theorem kinds_of {K:PySem.W.Frag} {cS c0 c1 c2 c3 c4:Addr} (h:kitB K cS c0 c1 c2 c3 c4=true) :
  (Kind K cS c0 c1 c2 c3 c4 c0 0∧Kind K cS c0 c1 c2 c3 c4 c1 1∧Kind K cS c0 c1 c2 c3 c4 c2 2∧Kind K cS c0 c1 c2 c3 c4 c3 3∧Kind K cS c0 c1 c2 c3 c4 c4 4)∧
  (PySem.W.kitOne K (.ref cS) (.ref c0)=some false∧PySem.W.kitOne K (.ref cS) (.ref c1)=some false∧PySem.W.kitOne K (.ref cS) (.ref c2)=some false∧PySem.W.kitOne K (.ref cS) (.ref c3)=some false∧PySem.W.kitOne K (.ref cS) (.ref c4)=some false)∧PySem.W.kitOne K (.ref cS) (.type "ValueError")=some true:=by
 unfold kitB at h
 simp only [List.all_cons,List.all_nil,Bool.and_true,Bool.and_eq_true,beq_iff_eq] at h
 obtain ⟨⟨⟨⟨a0,a1,a2,a3,a4⟩,b0,b1,b2,b3,b4⟩,s0,s1,s2,s3,s4⟩,v⟩:=h
 exact ⟨⟨⟨b0.1,b0.2,a0.1,a0.2.1,a0.2.2.1,a0.2.2.2.1,a0.2.2.2.2⟩,⟨b1.1,b1.2,a1.1,a1.2.1,a1.2.2.1,a1.2.2.2.1,a1.2.2.2.2⟩,⟨b2.1,b2.2,a2.1,a2.2.1,a2.2.2.1,a2.2.2.2.1,a2.2.2.2.2⟩,⟨b3.1,b3.2,a3.1,a3.2.1,a3.2.2.1,a3.2.2.2.1,a3.2.2.2.2⟩,⟨b4.1,b4.2,a4.1,a4.2.1,a4.2.2.1,a4.2.2.2.1,a4.2.2.2.2⟩⟩,⟨s0,s1,s2,s3,s4⟩,v⟩
theorem exm_of {K:PySem.W.Frag} {cS c0 c1 c2 c3 c4 c:Addr} (h:exmB K cS c0 c1 c2 c3 c4=true) (hc:c∈[c0,c1,c2,c3,c4]):PySem.W.exmOne K (.ref c) (.ref cS)=some true:=by
 unfold exmB at h
 exact beq_iff_eq.mp (List.all_eq_true.mp h c hc)
inductive spCaughtI (K:PySem.W.Frag) (cS:Addr) (c0:Addr) (c1:Addr) (c2:Addr) (c3:Addr) (c4:Addr) (vs:List V) (H:Hp) (Q:VK):Prop
 | mk (a C:Addr) (fs:List (Str × V)) (i:Nat) (h1:vs=[.ref a]) (h2:ExnR H a C fs) (h3:ExcF K C) (h4:Kind K cS c0 c1 c2 c3 c4 C i) (h5:i < 5) (h6:∀ H',Same H H'→Q (.int (i:Nat)) H'):spCaughtI K cS c0 c1 c2 c3 c4 vs H Q
def spCaught (K:PySem.W.Frag) (cS c0 c1 c2 c3 c4:Addr):Sp:=fun vs H Q u3_=>spCaughtI K cS c0 c1 c2 c3 c4 vs H Q
theorem sorts_count:∀ i,i < 5→[decide (i=0),decide (i=1),decide (i=2),decide (i=3),decide (i=4)].countP id=1
 | 0,_=>by decide
 | 1,_=>by decide
 | 2,_=>by decide
 | 3,_=>by decide
 | 4,_=>by decide
theorem sorts_at:∀ i,i < 5→[decide (i=0),decide (i=1),decide (i=2),decide (i=3),decide (i=4)][i]? = some true∧∀ m,m < i→[decide (i=0),decide (i=1),decide (i=2),decide (i=3),decide (i=4)][m]? = some false
 | 0,_=>⟨by decide,by decide⟩
 | 1,_=>⟨by decide,by decide⟩
 | 2,_=>⟨by decide,by decide⟩
 | 3,_=>⟨by decide,by decide⟩
 | 4,_=>⟨by decide,by decide⟩
theorem ok_law_caught {f:Addr} {fd:FuncData} {cSpreadError cNoText cNoMachine cNoFit cNoName cNoRow:Addr} (F:Fun K "_law_caught" "_law_caught" s_law_caught f fd) (Z:Blt mg) (kl:Kls K mg cSpreadError cNoText cNoMachine cNoFit cNoName cNoRow) :
  FnOk P w K mg base CX0 1 f fd ["_law_e"] (spCaught K cSpreadError cNoText cNoMachine cNoFit cNoName cNoRow):=by
 refine F.ok sc_law_caught (fun vs H Q E h=>?_) (fun cdv A outer s H vs Q E hr h=>?_)
 ·obtain ⟨a,C,fs,i,rfl,_⟩:=h
  rfl
 obtain ⟨a,C,fs,i,rfl,ex,cf,kd,hi,k⟩:=h
 refine ⟨_,(pss_cons (ps_set (i:=1) sc_law_caught.nd (by rfl) (Or.inl (by rfl)) (pe_lst (pa_cons (pe_callB (call_isR (K:=K)) (by rfl) Z.isinstance bt_isinstance (pa_cons (pv 0) (pa_cons (pe_glob (v:=.ref cNoText) (by rfl) kl.mNoText rfl) pa_nil))) (pa_cons (pe_callB (call_isR (K:=K)) (by rfl) Z.isinstance bt_isinstance (pa_cons (pv 0) (pa_cons (pe_glob (v:=.ref cNoMachine) (by rfl) kl.mNoMachine rfl) pa_nil))) (pa_cons (pe_callB (call_isR (K:=K)) (by rfl) Z.isinstance bt_isinstance (pa_cons (pv 0) (pa_cons (pe_glob (v:=.ref cNoFit) (by rfl) kl.mNoFit rfl) pa_nil))) pa_nil))))) 
   (pss_cons (ps_set (i:=1) sc_law_caught.nd (by rfl) (Or.inl (by rfl)) (pe_op op_cat (pv 1) (pe_lst (pa_cons (pe_callB (call_isR (K:=K)) (by rfl) Z.isinstance bt_isinstance (pa_cons (pv 0) (pa_cons (pe_glob (v:=.ref cNoName) (by rfl) kl.mNoName rfl) pa_nil))) (pa_cons (pe_callB (call_isR (K:=K)) (by rfl) Z.isinstance bt_isinstance (pa_cons (pv 0) (pa_cons (pe_glob (v:=.ref cNoRow) (by rfl) kl.mNoRow rfl) pa_nil))) pa_nil))))) 
   (pss_cons (ps_if (PW.pt (pw_or (pt_cmpR op_ne (pe_bmK (K:=K) PySem.F.plainAttrs_list PySem.F.slot_list_count PySem.F.type_list_count mt_countB (pv 1) (pa_cons pe_bl pa_nil)) pe_int (nomark _)) (pw_or1 (pt_not (pt_truthK (K:=K) (pe_callB (call_isR (K:=K)) (by rfl) Z.isinstance bt_isinstance (pa_cons (pv 0) (pa_cons (pe_bltn (v:=V.ty "ValueError") (by rfl) Z.ValueError bt_ValueError rfl) pa_nil))) (fun _=>rfl)))))) 
    (pss_one (ps_ret (pe_un un_neg pe_int))) pss_nil) 
   (pss_one (ps_ret (pe_bmK (K:=K) PySem.F.plainAttrs_list PySem.F.slot_list_index PySem.F.type_list_index mt_indexB (pv 1) (pa_cons pe_bl pa_nil))))))),?_⟩
 refine (let zz0:TS:=_; let zz1:TS:=tSeq _ zz0; let zz2:TS:=tSeq _ zz1; (?_:tSeq _ zz2 _ _ _))
 refine ⟨_,rfl,a,C,fs,_,_,_,rfl,ex,cf,rfl,.inr ⟨_,rfl⟩,kd.k0,_,rfl,a,C,fs,_,_,_,rfl,ex,cf,rfl,.inr ⟨_,rfl⟩,kd.k1,_,rfl,a,C,fs,_,_,_,rfl,ex,cf,rfl,.inr ⟨_,rfl⟩,kd.k2,(by show 3≤sizeLine; decide),fun p hp=>?_⟩
 have s1:=same_new hp (.lst [.bl (decide (i=0)),.bl (decide (i=1)),.bl (decide (i=2))])
 refine ⟨_,rfl,_,rfl,a,C,fs,_,_,_,rfl,ex.same s1,cf,rfl,.inr ⟨_,rfl⟩,kd.k3,_,rfl,a,C,fs,_,_,_,rfl,ex.same s1,cf,rfl,.inr ⟨_,rfl⟩,kd.k4,(by show 2≤sizeLine; decide),fun q hq=>?_⟩
 have s2:=same_new hq (.lst [.bl (decide (i=3)),.bl (decide (i=4))])
 refine ⟨p,q,_,_,rfl,rfl,s2 _ _ upd_same,upd_same,(by show 5≤sizeLine; decide),fun l hl=>?_⟩
 have s3:=(s1.trans s2).trans (same_new hl (.lst ([decide (i=0),decide (i=1),decide (i=2),decide (i=3),decide (i=4)].map V.bl)))
 have hL:upd (upd (upd H p (.lst [.bl (decide (i=0)),.bl (decide (i=1)),.bl (decide (i=2))])) q (.lst [.bl (decide (i=3)),.bl (decide (i=4))])) l (.lst ([decide (i=0),decide (i=1),decide (i=2),decide (i=3),decide (i=4)].map V.bl)) l=some (.lst ([decide (i=0),decide (i=1),decide (i=2),decide (i=3),decide (i=4)].map V.bl)):=upd_same
 have e5:[V.bl (decide (i=0)),V.bl (decide (i=1)),V.bl (decide (i=2))] ++ [V.bl (decide (i=3)),V.bl (decide (i=4))]=[decide (i=0),decide (i=1),decide (i=2),decide (i=3),decide (i=4)].map V.bl:=rfl
 rw [e5]
 generalize upd (upd (upd H p (.lst [.bl (decide (i=0)),.bl (decide (i=1)),.bl (decide (i=2))])) q (.lst [.bl (decide (i=3)),.bl (decide (i=4))])) l (.lst ([decide (i=0),decide (i=1),decide (i=2),decide (i=3),decide (i=4)].map V.bl))=H3 at s3 hL
 refine ⟨_,rfl,.inl ⟨rfl,_,SqL.of hL⟩,l,[decide (i=0),decide (i=1),decide (i=2),decide (i=3),decide (i=4)],rfl,rfl,hL,?_⟩
 rw [sorts_count i hi]
 obtain ⟨at1,at2⟩:=sorts_at i hi
 refine ⟨rfl,_,rfl,iteF ?_⟩
 refine ⟨_,rfl,a,C,fs,_,_,_,rfl,ex.same s3,cf,rfl,.inl ⟨_,rfl⟩,kd.ve,_,rfl,iteF ?_⟩
 exact ⟨_,rfl,.inl ⟨rfl,_,SqL.of hL⟩,l,[decide (i=0),decide (i=1),decide (i=2),decide (i=3),decide (i=4)],i,rfl,rfl,hL,at1,at2,k _ s3⟩
def nV:Option Nat→V
 | none=>.non
 | some n=>nI n
theorem dig_is:(Str.ofString "0123456789").cps.toList=(List.range 10).map (· + 48):=by decide +kernel
theorem dB_dig (c:Nat):decide (c∈(List.range 10).map (· + 48))=dB c:=by
 unfold dB
 rw [Bool.eq_iff_iff,Bool.and_eq_true,decide_eq_true_eq,decide_eq_true_eq,decide_eq_true_eq,List.mem_map]
 refine ⟨fun ⟨i,hi,e⟩=>?_,fun h=>⟨c - 48,List.mem_range.mpr (by omega),by omega⟩⟩
 have:=List.mem_range.mp hi
 omega
inductive spNumInI (vs:List V) (H:Hp) (Q:VK):Prop
 | mk (z:Str) (h1:vs=[.str z]) (h2:z.length≤1000000) (h3:∀ H',Same H H'→Q (nV (numO z)) H'):spNumInI vs H Q
def spNumIn:Sp:=fun vs H Q u3_=>spNumInI vs H Q
theorem ok_law_number_in {f:Addr} {fd:FuncData} (F:Fun K "_law_number_in" "_law_number_in" s_law_number_in f fd) (Z:Blt mg):FnOk P w K mg base CX0 1 f fd ["_law_word"] spNumIn:=by
 refine F.ok sc_law_number_in (fun vs H Q E h=>?_) (fun cdv A outer s H vs Q E hr h=>?_)
 ·obtain ⟨z,rfl,_⟩:=h
  rfl
 obtain ⟨z,rfl,hz,k⟩:=h
 refine ⟨_,(pss_cons (ps_if (PW.pt (pw_or (pt_not (pt_chain op_lt op_lt pe_int (pe_callB call_len_str (by rfl) Z.len bt_len (pa_cons (pv 0) pa_nil)) pe_int)) (pw_or1 (pt_cmpR (op_neE (K:=K) (hu_lt hr)) (pe_comp (sc:=defScope s_law_number_in) (Nm:=["_law_word"]) (own:=["_law_sign_here"]) (fr:=[]) ⟨rfl,by decide +kernel,by decide +kernel,by decide +kernel,by decide +kernel⟩ (by rfl) (gfr_name (by decide)) (pi_str (pv 0)) (fun d=>(pg_name (i:=0) nd_law_number_in_0 (by rfl) (Or.inl (by rfl)))) (fun d=>(pts_one (pt_cmpR op_notIn_str (pv 0) pe_str (by with_unfolding_all rfl)))) (fun d=>(pv 0))) (pe_lst pa_nil) (nomark _))))) 
    (pss_one (ps_ret pe_non)) pss_nil) 
   (pss_cons (ps_if (PW.pt (pw_and (pt_cmpR op_gt (pe_callB call_len_str (by rfl) Z.len bt_len (pa_cons (pv 0) pa_nil)) pe_int (nomark _)) (pw_and1 (pt_cmpR op_eq (pe_ix ix_str (pv 0) pe_int (fun _ _=>rfl)) pe_str (nomark _))))) 
    (pss_one (ps_ret pe_non)) pss_nil) 
   (pss_one (ps_ret (pe_callTy call_int_num (by rfl) Z.int bt_int (pa_cons (pv 0) pa_nil)))))),?_⟩
 refine (let zz0:TS:=_; let zz1:TS:=tSeq _ zz0; (?_:tSeq _ zz1 _ _ _))
 have hll:=len_list z
 have kN:∀ {H'},Same H H'→numOk z.cps.toList=false→Q .non H':=fun e h=>by
  have:=k _ e
  rw [← numO_iff] at h
  cases q:numO z with
  | none=>rw [q] at this; exact this
  | some n=>rw [q] at h; cases h
 have hno:∀ {a:Prop} [Decidable a],¬ a→(numOk z.cps.toList=true→a)→numOk z.cps.toList=false:=fun ha h=>by
  cases q:numOk z.cps.toList with
  | false=>rfl
  | true=>exact absurd (h q) ha
 have hok:numOk z.cps.toList=true↔(∀ c∈z.cps.toList,dB c=true)∧(1≤z.length∧z.length≤3)∧(z.cps.toList=[48]∨z.cps.toList.getD 0 0≠48):=by
  unfold numOk
  rw [Bool.and_eq_true,Bool.and_eq_true,Bool.and_eq_true,Bool.or_eq_true,List.all_eq_true,decide_eq_true_eq,decide_eq_true_eq,decide_eq_true_eq,decide_eq_true_eq,hll,and_assoc]
  rfl
 refine ⟨_,rfl,z,rfl,(by rw [sizeLine_eq]; omega),_,_,rfl,rfl,_,rfl,?_⟩
 by_cases hA:0 < z.length
 case neg=>exact ifN (decide_eq_false (by omega)) ⟨_,rfl,iteT (iteT (kN (Same.refl _) (hno hA fun q=>(hok.mp q).2.1.1)))⟩
 refine ifY (decide_eq_true (by omega)) ⟨_,_,rfl,rfl,_,rfl,?_⟩
 by_cases hB:z.length < 4
 case neg=>exact ifY (by rw [decide_eq_false (by omega)]; rfl) (iteT (kN (Same.refl _) (hno hB fun q=>by have:=(hok.mp q).2.1.2; omega)))
 refine ifN (by rw [decide_eq_true (by omega)]; rfl) ⟨_,rfl,z,rfl,?_⟩
 refine comp_str (cs:=z.cps.toList) (fun j acc H3=>Same H H3∧acc=((z.cps.toList.take j).filter fun c=>!dB c).map oneS) (by rw [hll]; exact small1000 (by omega)) ⟨Same.refl _,rfl⟩
  (fun j acc H3 q=>by rw [q.2,List.length_map]; exact Nat.le_trans (List.length_filter_le _ _) (by rw [List.length_take]; exact Nat.min_le_left _ _)) (fun j acc H3 c hc q=>?_) (fun acc H3 q lp hlp=>?_)
 ·obtain ⟨e3,rfl⟩:=q
  refine ⟨_,rfl,_,_,rfl,rfl,_,rfl,?_⟩
  have hf:(!(Builtin.Str.occurrences (Str.ofString "0123456789") ⟨#[c]⟩ 0 (Str.ofString "0123456789").length 1).isEmpty)=dB c:=(StrLaws.found_one _ c).trans (by rw [dig_is,dB_dig])
  show if (!(!(Builtin.Str.occurrences (Str.ofString "0123456789") ⟨#[c]⟩ 0 (Str.ofString "0123456789").length 1).isEmpty))=true then _ else _
  rw [hf,List.take_add_one,hc]
  refine ite2 (fun c1=>⟨_,rfl,e3,?_⟩) (fun c1=>⟨e3,?_⟩)
  ·rw [List.filter_append,List.map_append]
   simp only [Option.toList_some,List.filter_cons,c1,if_true,List.filter_nil]
   rfl
  ·rw [List.filter_append,List.map_append]
   simp only [Option.toList_some,List.filter_cons,c1,List.filter_nil]
   simp
 obtain ⟨e3,rfl⟩:=q
 rw [List.take_length]
 generalize hsm:(z.cps.toList.filter fun c=>!dB c)=sm
 have s4:=same_new hlp (.lst (sm.map oneS))
 have h4p:upd H3 lp (.lst (sm.map oneS)) lp=some (.lst (sm.map oneS)):=upd_same
 have e04:=e3.trans s4
 generalize upd H3 lp (.lst (sm.map oneS))=H4 at s4 h4p e04
 refine ⟨(by show 0≤sizeLine; decide),fun ep hep=>⟨lp,ep,_,rfl,rfl,SqL.of (same_new hep _ _ _ h4p),SqL.of upd_same,_,rfl,?_⟩⟩
 have e05:=e04.trans (same_new hep (.lst []))
 generalize upd H4 ep (.lst [])=H5 at e05
 cases hsn:sm with
 | cons y r=>
  refine iteT (kN e05 (hno (a:=∀ c∈z.cps.toList,dB c=true) (fun hh=>?_) fun q=>(hok.mp q).1))
  have hy:y∈z.cps.toList.filter fun c=>!dB c:=by rw [hsm,hsn]; exact List.mem_cons_self
  have:=List.mem_filter.mp hy
  rw [hh y this.1] at this
  exact absurd this.2 (by decide)
 | nil=>
 have hall:∀ c∈z.cps.toList,dB c=true:=fun c hc=>by
  cases q:dB c with
  | true=>rfl
  | false=>
   have:c∈z.cps.toList.filter fun c=>!dB c:=List.mem_filter.mpr ⟨hc,by rw [q]; rfl⟩
   rw [hsm,hsn] at this
   cases this
 refine iteF ⟨_,rfl,z,rfl,line_le (by omega),_,_,rfl,rfl,_,rfl,?_⟩
 have fin:(z.cps.toList=[48]∨z.cps.toList.getD 0 0≠48)→∃ n:Nat,n < 1000∧z=nS n∧Q (nI n) H5:=fun h=>by
  obtain ⟨n,hn,e⟩:=num_is (hok.mpr ⟨hall,⟨hA,by omega⟩,h⟩)
  have:=k _ e05
  rw [e,numO_nS hn] at this
  exact ⟨n,hn,e,this⟩
 have ret:(z.cps.toList=[48]∨z.cps.toList.getD 0 0≠48)→∃ n:Int,[V.str z]=[.str (numS n)]∧0≤n∧n < 10 ^ 10∧Q (.int n) H5:=fun h=>by
  obtain ⟨n,hn,e,q⟩:=fin h
  exact ⟨(n:Int),by rw [e]; rfl,by omega,by omega,q⟩
 by_cases hC:1 < z.length
 case neg=>
  refine ifN (decide_eq_false (by omega)) (iteF ⟨_,rfl,ret ?_⟩)
  match hcs:z.cps.toList,hll with
  | [c],_=>
   by_cases q:c=48
   ·exact .inl (by rw [q])
   ·exact .inr q
  | [],hll=>simp at hll; omega
  | _ :: _ :: _,hll=>simp only [List.length_cons] at hll; omega
 refine ifY (decide_eq_true (by omega)) ⟨_,rfl,z,0,_,rfl,rfl,line_le (by omega),atI_code0 (by omega),rfl,_,rfl,?_⟩
 have e0:decide (V.str ⟨#[z.cps.toList.getD 0 0]⟩=V.str (Str.ofString "0"))=decide (z.cps.toList.getD 0 0=48):=by
  rw [Bool.eq_iff_iff,decide_eq_true_eq,decide_eq_true_eq]
  refine ⟨fun e=>?_,fun e=>by rw [e]; decide +kernel⟩
  have e:=congrArg (fun s:Str=>s.cps.toList) (V.str.inj e)
  simp only [l_0] at e
  exact (List.cons.inj e).1
 by_cases hD:z.cps.toList.getD 0 0=48
 ·refine ifY (e0.trans (decide_eq_true hD)) (kN e05 (hno (a:=z.cps.toList=[48]∨z.cps.toList.getD 0 0≠48) (fun hh=>?_) fun q=>(hok.mp q).2.2))
  rcases hh with q | q
  ·have:=congrArg List.length q
   rw [hll] at this
   simp at this
   omega
  ·exact q hD
 ·exact ifN (e0.trans (decide_eq_false hD)) ⟨_,rfl,ret (.inr hD)⟩
theorem let_iff19 {L cs:List Nat} (hp:cs.Pairwise (· < ·)) (hm:∀ c,c∈cs↔c∈L.filter fun c=>decide (c∈abc)):(wordB L && risB L)=true↔cs=L:=by
 have hw:wordB L=true↔∀ c∈L,c∈abc:=by
  unfold wordB
  rw [List.all_map,List.all_eq_true]
  refine ⟨fun h c hc=>?_,fun h c hc=>?_⟩
  ·have e:wB c=true:=h c hc
   rw [wB_abc] at e
   exact of_decide_eq_true e
  ·show wB c=true
   rw [wB_abc]
   exact decide_eq_true (h c hc)
 have hf:(∀ c∈L,c∈abc)→(L.filter fun c=>decide (c∈abc))=L:=fun h=>List.filter_eq_self.mpr fun c hc=>decide_eq_true (h c hc)
 rw [Bool.and_eq_true,hw,risB_iff]
 constructor
 ·rintro ⟨h2,h3⟩
  rw [hf h2] at hm
  exact rise_eq cs L hp h3 hm
 ·rintro rfl
  exact ⟨fun c hc=>of_decide_eq_true (List.mem_filter.mp ((hm c).mp hc)).2,hp⟩
inductive spAreLI (vs:List V) (H:Hp) (Q:VK):Prop
 | mk (z:Str) (h1:vs=[.str z]) (h2:z.length≤4000) (h3:∀ H',Same H H'→Q (.bl (letB19 z)) H'):spAreLI vs H Q
def spAreL:Sp:=fun vs H Q u3_=>spAreLI vs H Q
theorem ok_law_are_letters {f:Addr} {fd:FuncData} (F:Fun K "_law_are_letters" "_law_are_letters" s_law_are_letters f fd) (Z:Blt mg):FnOk P w K mg base CX0 1 f fd ["_law_word"] spAreL:=by
 refine F.ok sc_law_are_letters (fun vs H Q E h=>?_) (fun cdv A outer s H vs Q E hr h=>?_)
 ·obtain ⟨z,rfl,_⟩:=h
  rfl
 obtain ⟨z,rfl,hz,k⟩:=h
 refine ⟨_,(pss_cons (ps_setc (i:=1) sc_law_are_letters.nd (by rfl) (by rfl) (sc:=defScope s_law_are_letters) (Nm:=["_law_word","_law_small"]) (own:=["_law_sign_here"]) (fr:=[]) ⟨rfl,by decide +kernel,by decide +kernel,by decide +kernel,by decide +kernel⟩ (by rfl) (gfr_name (by decide)) (pi_str (pv 0)) (fun d=>(pg_name (i:=0) nd_law_are_letters_0 (by rfl) (Or.inl (by rfl)))) (fun d=>(pts_one (pt_cmpR op_in_str (pv 0) pe_str (by with_unfolding_all rfl)))) (fun d=>(pv 0))) 
   (pss_one (ps_ret (pe_and (pe_cmpR op_ne (pv 0) pe_str (nomark _)) (pe_one (pe_cmpR op_eq (pe_bmK (K:=K) PySem.F.plainAttrs_str PySem.F.slot_str_join PySem.F.type_str_join (mt_joinK (K:=K)) pe_str (pa_cons (pe_callB (call_sortsetM (by rfl)) (by rfl) Z.sorted bt_sorted (pa_cons (pe_callTy (call_set_l (K:=K) (by rfl)) (by rfl) Z.set bt_set (pa_cons (pv 1) pa_nil)) pa_nil)) pa_nil)) (pv 0) (nomark _))))))),?_⟩
 refine (let zz0:TS:=_; (?_:tSeq _ zz0 _ _ _))
 have hll:=len_list z
 refine ⟨_,rfl,z,rfl,?_⟩
 refine comp_str (cs:=z.cps.toList) (fun j acc H3=>Same H H3∧acc=((z.cps.toList.take j).filter fun c=>decide (c∈abc)).map oneS) (by rw [hll,sizeLine_eq]; omega) ⟨Same.refl _,rfl⟩
  (fun j acc H3 q=>by rw [q.2,List.length_map]; exact Nat.le_trans (List.length_filter_le _ _) (by rw [List.length_take]; exact Nat.min_le_left _ _)) (fun j acc H3 c hc q=>?_) (fun acc H3 q lp hlp=>?_)
 ·obtain ⟨e3,rfl⟩:=q
  refine ⟨_,rfl,_,_,rfl,rfl,_,rfl,?_⟩
  have hf:(!(Builtin.Str.occurrences (Str.ofString "abcdefghijklmnopqrstuvwxyz") ⟨#[c]⟩ 0 (Str.ofString "abcdefghijklmnopqrstuvwxyz").length 1).isEmpty)=decide (c∈abc):=(StrLaws.found_one _ c).trans (by rw [abc_is])
  show if (!(Builtin.Str.occurrences (Str.ofString "abcdefghijklmnopqrstuvwxyz") ⟨#[c]⟩ 0 (Str.ofString "abcdefghijklmnopqrstuvwxyz").length 1).isEmpty)=true then _ else _
  rw [hf,List.take_add_one,hc]
  refine ite2 (fun c1=>⟨_,rfl,e3,?_⟩) (fun c1=>⟨e3,?_⟩)
  ·rw [List.filter_append,List.map_append]
   simp only [Option.toList_some,List.filter_cons,c1,if_true,List.filter_nil]
   rfl
  ·rw [List.filter_append,List.map_append]
   simp only [Option.toList_some,List.filter_cons,c1,List.filter_nil]
   simp
 obtain ⟨e3,rfl⟩:=q
 rw [List.take_length]
 have hlet:=fun cs=>let_iff19 (L:=z.cps.toList) (cs:=cs)
 have hsl:(z.cps.toList.filter fun c=>decide (c∈abc)).length≤4000:=Nat.le_trans (List.length_filter_le _ _) (by omega)
 have hsa:∀ c∈z.cps.toList.filter fun c=>decide (c∈abc),97≤c∧c≤122:=fun c hc=>abc_mem (of_decide_eq_true (List.mem_filter.mp hc).2)
 generalize (z.cps.toList.filter fun c=>decide (c∈abc))=sm at hlet hsl hsa
 have h4p:upd H3 lp (.lst (sm.map oneS)) lp=some (.lst (sm.map oneS)):=upd_same
 have e04:=e3.trans (same_new hlp (.lst (sm.map oneS)))
 generalize upd H3 lp (.lst (sm.map oneS))=H4 at h4p e04
 refine ⟨_,rfl,rfl,_,rfl,?_⟩
 by_cases c4:z=Str.ofString ""
 ·refine ifN (by show (!decide (V.str z=V.str ""))=false; rw [c4,decide_eq_true rfl]; rfl) ?_
  have:=k _ e04
  rw [show letB19 z=false by rw [c4]; decide +kernel] at this
  exact this
 have hl0:z.length≠0:=fun e=>c4 (str_ext (by rw [List.eq_nil_of_length_eq_zero (show z.cps.toList.length=0 by rw [len_list]; exact e)]; decide +kernel))
 refine ifY (by show (!decide (V.str z=V.str ""))=true; rw [decide_eq_false (fun e=>c4 (V.str.inj e))]; rfl) ?_
 have hsm1:(sm.map one).length=sm.length:=List.length_map ..
 refine ⟨rfl,_,rfl,lp,sm.map one,rfl,SqL.of (by rw [h4p,oneS_map]),by omega,fun sl hsl'=>?_⟩
 refine ⟨sl,_,_,rfl,upd_same,fun ys nd hy=>?_,fun ys l2 nd mem so hl2=>?_⟩
 ·refine Nat.le_trans (ones_few nd fun y h=>?_) (by decide)
  obtain ⟨c,hc,e⟩:=List.mem_map.mp (hy y h)
  exact ⟨c,hsa c hc,e.symm⟩
 obtain ⟨cs,rfl,hcp,hcm⟩:=sorted_cs nd mem so
 generalize hG:upd (upd H4 _ _) _ _=H5
 have s5:Same H4 H5:=by rw [← hG]; exact (same_new hsl' _).trans (same_new hl2 _)
 have h5:H5 l2=some (.lst ((cs.map one).map V.str)):=by rw [← hG]; exact upd_same
 clear hG
 have hcl:cs.length≤26:=by
  have:=pw_len cs 97 122 hcp fun c hc=>hsa c ((hcm c).mp hc)
  omega
 refine ⟨_,l2,cs.map one,rfl,rfl,SqL.of h5,join_ones_len cs (by omega),_,rfl,rfl,?_⟩
 have:=k _ (e04.trans s5)
 have hb:letB19 z=decide (V.str (Txt.join (Str.ofString "") (cs.map one))=V.str z):=by
  unfold letB19
  rw [decide_eq_true hl0,Bool.true_and,Bool.eq_iff_iff,hlet cs hcp hcm,decide_eq_true_eq]
  have hj:=join_ones cs
  constructor
  ·intro e
   exact congrArg V.str (str_ext (by rw [hj,e]))
  ·intro e
   rw [← V.str.inj e,hj]
 rw [hb] at this
 exact this
def ResAt (H:Hp) (v:V):Rd→Prop
 | .inl n=>∃ a,v=.ref a∧H a=some (.tup [.str "refused",nI n])
 | .inr (l,F)=>∃ a m,v=.ref a∧H a=some (.tup [.str "told",.ref m])∧MT H m l (bOf F) (F.getD 1 []) (F.drop 2)
inductive spAskedI (vs:List V) (H:Hp) (Q:VK):Prop
 | mk (t:Str) (h1:vs=[.str t]) (h2:t.length≤1000000) (h3:(∀ y∈rws t,y.length≤1000)) (h4:∀ v H',Same H H'→ResAt H' v (rdT (rws t))→Q v H'):spAskedI vs H Q
def spAsked:Sp:=fun vs H Q u3_=>spAskedI vs H Q
theorem ok_law_asked {f:Addr} {fd:FuncData} {cSpreadError cNoText cNoMachine cNoFit cNoName cNoRow:Addr} (F:Fun K "_law_asked" "_law_asked" s_law_asked f fd) (Z:Blt mg) (kl:Kls K mg cSpreadError cNoText cNoMachine cNoFit cNoName cNoRow) (n0:NoAttr K cNoText "at")
  (C_read_machine:CalR P w K mg base "read_machine" 5 ["text"] (spReadMX cNoText)) (C_law_caught:Cal P w K mg base "_law_caught" 1 ["_law_e"] (spCaught K cSpreadError cNoText cNoMachine cNoFit cNoName cNoRow)):FnOk P w K mg base CX0 6 f fd ["_law_text"] spAsked:=by
 refine F.ok sc_law_asked (fun vs H Q E h=>?_) (fun cdv A outer s H vs Q E hr h=>?_)
 ·obtain ⟨t,rfl,_⟩:=h
  rfl
 obtain ⟨t,rfl,ht,hy,k⟩:=h
 obtain ⟨⟨K0,_,_,_,_⟩,_,_⟩:=kinds_of kl.kit
 refine ⟨_,(pss_cons (ps_set (i:=1) sc_law_asked.nd (by rfl) (Or.inl (by rfl)) pe_non) 
   (pss_cons (ps_try (K:=K) (i:=2) (j:=1) sc_law_asked.nd (by rfl) (by rfl) (by rfl) (by rfl) kl.mSpreadError (by rfl) (by rfl) (fun pn xe E rx=>
    (pss_one (ps_ret (pe_tup (pa_cons pe_str (pa_cons (pe_r C_read_machine (hr.mono (by decide)) rx (pa_cons (pv 0) pa_nil)) pa_nil))))))) 
   (pss_cons (ps_if (pt_cmpR op_ne (pe_c C_law_caught (hr.mono (by decide)) (pa_cons (pv 1) pa_nil)) pe_int (nomark _)) 
    (pss_one (ps_ret pe_str)) pss_nil) 
   (pss_one (ps_ret (pe_tup (pa_cons pe_str (pa_cons (pe_xfldR (K:=K) (pv 1)) pa_nil)))))))),?_⟩
 refine (let zz0:TS:=_; let zz1:TS:=tSeq _ zz0; let zz2:TS:=tSeq _ zz1; (?_:tSeq _ zz2 _ _ _))
 refine ⟨_,rfl,t,rfl,ht,hy,fun l G hg m H1 e1 M=>⟨(by show 2≤sizeLine; decide),fun q hq=>k _ _ (e1.trans (same_new hq _)) ?_⟩,fun n hn a H1 e1 ex=>?_⟩
 ·rw [hg]
  exact ⟨q,m,rfl,upd_same,M.keep (Tk.same (same_new hq _))⟩
 rcases id ex with ⟨_,z⟩ | ⟨dx,g1,g2⟩
 ·cases z
 refine ⟨a,cNoText,some dx,rfl,g1,exm_of kl.exm (by simp),?_⟩
 refine ⟨_,rfl,a,cNoText,_,0,rfl,ex,kl.fNoText,K0,by decide,fun H2 e2=>⟨rfl,_,rfl,iteF ?_⟩⟩
 refine ⟨_,rfl,a,cNoText,_,_,rfl,ex.same e2,kl.fNoText,n0,rfl,(by show 2≤sizeLine; decide),fun q hq=>k _ _ ((e1.trans e2).trans (same_new hq _)) ?_⟩
 rw [hn]
 exact ⟨q,rfl,upd_same⟩
def numV (ws:List Str):List V:=ws.map fun z=>nV (numO z)
theorem numV_flat:∀ ws:List Str,(numV ws).all flatV=true
 | []=>rfl
 | z :: r=>by
  unfold numV
  rw [List.map_cons,List.all_cons]
  have:=numV_flat r
  unfold numV at this
  rw [this,Bool.and_true]
  cases numO z <;> rfl
theorem numV_in:∀ ws:List Str,inV .non (numV ws)=(allN ws).isNone
 | []=>rfl
 | z :: r=>by
  have ih:=numV_in r
  unfold numV inV at ih ⊢
  rw [List.map_cons,List.any_cons,ih,show allN (z :: r)=match numO z,allN r with | some n,some ns=>some (n :: ns) | _,_=>none from rfl]
  cases numO z with
  | none=>rfl
  | some n=>cases allN r <;> rfl
theorem numV_all:∀ {ws:List Str} {ns:List Nat},allN ws=some ns→numV ws=ns.map nI
 | [],ns,h=>by cases h; rfl
 | z :: r,ns,h=>by
  unfold allN at h
  cases e1:numO z with
  | none=>rw [e1] at h; cases h
  | some n=>
   cases e2:allN r with
   | none=>rw [e1,e2] at h; cases h
   | some m=>
    rw [e1,e2] at h
    cases h
    have:=numV_all e2
    unfold numV at this ⊢
    rw [List.map_cons,this,e1]
    rfl
def nmAt (i:Nat):Str:=if i=0 then Str.ofString "letters" else nameAt i
theorem nm_get (i:Nat):atI [V.str (Str.ofString "letters"),V.str (Str.ofString "begin"),V.str (Str.ofString "ends"),V.str (Str.ofString "room")] (if (3:Int) < (i:Int) then 3 else (i:Int))=some (.str (nmAt i)):=by
 match i with
 | 0=>exact atI_nat (j:=0) rfl
 | 1=>exact atI_nat (j:=1) rfl
 | 2=>exact atI_nat (j:=2) rfl
 | i+3=>
  have e:(if (3:Int) < ((i+3:Nat):Int) then (3:Int) else ((i+3:Nat):Int))=3:=by split <;> omega
  rw [e]
  have:nmAt (i+3)=Str.ofString "room":=by
   unfold nmAt nameAt
   rw [if_neg (by omega),if_neg (by omega),if_neg (by omega)]
  rw [this]
  exact atI_nat (j:=3) rfl
def LrC (ys:List Str) (lv:Str) (H1:Hp) (xs:List V) (i:Nat):Prop:=(i=0∧xs=[])∨∃ (x0:V) (xs':List V) (FF:List (List Nat)),xs=x0 :: xs'∧TR tns H1 xs' FF∧FF.length+1=i∧(∀ f,FF[0]? = some f→f.length=1)∧rdT ys=goR lv FF i (ys.drop i)
theorem LrC.keep {ys:List Str} {lv:Str} {H1 H2:Hp} {xs:List V} {i:Nat} (h:LrC ys lv H1 xs i) (k:Tk H1 H2):LrC ys lv H2 xs i:=by
 rcases h with h | ⟨x0,xs',FF,a,b,r⟩
 ·exact .inl h
 ·exact .inr ⟨x0,xs',FF,a,b.keep k,r⟩
theorem LrC.len {ys:List Str} {lv:Str} {H1:Hp} {xs:List V} {i:Nat} (h:LrC ys lv H1 xs i):xs.length=i:=by
 rcases h with ⟨a,rfl⟩ | ⟨x0,xs',FF,rfl,R,b,_⟩
 ·exact a.symm
 ·rw [List.length_cons,R.len,b]
theorem LrC.bad {ys:List Str} {lv z:Str} {H1:Hp} {xs:List V} {i:Nat} (h:LrC ys lv H1 xs i) (hz:ys[i]? = some z) (h0:i=0→letO z=none) (h1:i≠0→rowO lv i z=none):rdT ys=.inl i:=by
 rcases h with ⟨rfl,_⟩ | ⟨x0,xs',FF,_,_,b,_,e⟩
 ·cases ys with
  | nil=>cases hz
  | cons y r=>
   cases hz
   show (match letO z with | none=>Sum.inl 0 | some l=>goR l [] 1 r)=_
   rw [h0 rfl]
 ·rw [e]
  have hlt:=(List.getElem?_eq_some_iff.mp hz).1
  refine goR_bad (.inr fun q=>?_) fun y hy=>?_
  ·have:=congrArg List.length q
   rw [List.length_drop,List.length_nil] at this
   omega
  ·rw [List.getElem?_drop,Nat.add_zero,hz] at hy
   cases hy
   exact h1 (by omega)
theorem LrC.first {ys:List Str} {lv z l:Str} {H1 H2:Hp} {xs:List V} {v:V} (h:LrC ys lv H1 xs 0) (hz:ys[0]? = some z) (hl:letO z=some l):LrC ys l H2 (xs ++ [v]) 1:=by
 rcases h with ⟨_,rfl⟩ | ⟨x0,xs',FF,_,_,b,_⟩
 ·refine .inr ⟨v,[],[],rfl,.nil,rfl,fun f q=>by simp at q,?_⟩
  cases ys with
  | nil=>cases hz
  | cons y r=>
   cases hz
   show (match letO z with | none=>Sum.inl 0 | some l=>goR l [] 1 r)=_
   rw [hl]
   rfl
 ·omega
theorem LrC.next {ys:List Str} {lv z:Str} {H1:Hp} {xs:List V} {i:Nat} {a:Addr} {ns:List Nat} (h:LrC ys lv H1 xs i) (hi:i≠0) (hz:ys[i]? = some z) (hr:rowO lv i z=some ns) (ha:H1 a=some (.tup (ns.map nI))):LrC ys lv H1 (xs ++ [.ref a]) (i+1):=by
 rcases h with ⟨h0,_⟩ | ⟨x0,xs',FF,rfl,R,b,f1,e⟩
 ·exact absurd h0 hi
 ·obtain ⟨hlt,hez⟩:=List.getElem?_eq_some_iff.mp hz
  refine .inr ⟨x0,xs' ++ [.ref a],FF ++ [ns],rfl,R.snoc (show H1 a=some (.tup (tns ns)) from ha),by rw [List.length_append]; show FF.length+1+1=_; omega,fun f q=>?_,?_⟩
  ·cases FF with
   | nil=>
    have:ns=f:=by simpa using q
    rw [← this]
    exact (rowO_some hr).2.2.1 (by rw [List.length_nil] at b; omega)
   | cons g r=>exact f1 f (by simpa using q)
  ·rw [e,List.drop_eq_getElem_cons hlt,hez,goR_good hr]
theorem LrC.end_ {ys:List Str} {lv:Str} {H1:Hp} {xs:List V} (h:LrC ys lv H1 xs ys.length) (hne:ys≠[]):(ys.length < 4∧rdT ys=.inl ys.length)∨∃ x0 a1 a2 vs b es st,xs=x0 :: .ref a1 :: .ref a2 :: vs∧4≤ys.length∧H1 a1=some (.tup [nI b])∧H1 a2=some (.tup (es.map nI))∧TR tns H1 vs st∧rdT ys=.inr (lv,[b] :: es :: st):=by
 rcases h with ⟨h0,_⟩ | ⟨x0,xs',FF,rfl,R,b,f1,e⟩
 ·exact absurd (List.eq_nil_of_length_eq_zero h0) hne
 ·rw [List.drop_length] at e
  by_cases c:ys.length < 4
  ·exact .inl ⟨c,e.trans (if_pos c)⟩
  ·have e':=e.trans (show goR lv FF ys.length []=.inr (lv,FF) from if_neg c)
   right
   cases R with
   | nil=>rw [List.length_nil] at b; omega
   | @cons a1 r1 _ _ h1 R=>
    cases R with
    | nil=>simp only [List.length_cons,List.length_nil] at b; omega
    | @cons a2 r2 vs st h2 R=>
     have:=f1 r1 rfl
     match r1,this with
     | [b0],_=>exact ⟨x0,a1,a2,vs,b0,r2,st,rfl,by omega,h1,h2,R,e'⟩
inductive spLReadI (vs:List V) (H:Hp) (Q:VK):Prop
 | mk (t:Str) (h1:vs=[.str t]) (h2:t.length≤1000000) (h3:(∀ y∈rws t,y.length≤4000)) (h4:∀ v H',Same H H'→ResAt H' v (rdT (rws t))→Q v H'):spLReadI vs H Q
def spLRead:Sp:=fun vs H Q u3_=>spLReadI vs H Q
def lrV (t:Str) (rp fp:Addr) (ys:List Str) (H:Hp) (i:Nat) (σ:L2.St) (H1:Hp):Prop:=∃ (lv:Str) (xs:List V) (v4 v5 v6 v7:Option V),σ=[some (.str t),some (.ref rp),some (.str lv),some (.ref fp),v4,v5,v6,v7]∧Same H H1∧H1 rp=some (.lst (ys.map V.str))∧H1 fp=some (.lst xs)∧lv.length≤4000∧LrC ys lv H1 xs i
theorem Tk.lst {H:Hp} {p:Addr} {xs:List V} (h:H p=some (.lst xs)) (o:HO):Tk H (upd H p o):=fun b ys q=>(upd_ne (ne_of q h fun z=>nomatch z)).trans q
theorem cut_3 (x y z:V) (xs:List V):cutV (x :: y :: z :: xs) (some 3) none=xs:=by
 unfold cutV
 rw [HT.sIx_none,show (3:Int)=((3:Nat):Int) from rfl,HT.sIx_nat,List.length_cons,List.length_cons,List.length_cons,Nat.min_eq_left (by omega)]
 simp
theorem with_lf {B G:Prop} (h:B→G) (b:B):G:=h b
theorem join_one (l:Str):Txt.join (Str.ofString "") [l]=l:=by
 have h:Txt.join (Str.ofString "") [l]=Str.join (Str.ofString "") [l]:=StrLaws.glued_eq_join _ _
 rw [h]
 rfl
theorem ok_law_read {f:Addr} {fd:FuncData} (F:Fun K "_law_read" "_law_read" s_law_read f fd) (Z:Blt mg) (C_law_number_in:Cal P w K mg base "_law_number_in" 1 ["_law_word"] spNumIn) (C_law_are_letters:Cal P w K mg base "_law_are_letters" 1 ["_law_word"] spAreL):FnOk P w K mg base CX0 2 f fd ["_law_text"] spLRead:=by
 refine F.ok sc_law_read (fun vs H Q E h=>?_) (fun cdv A outer s H vs Q E hr h=>?_)
 ·obtain ⟨t,rfl,_⟩:=h
  rfl
 obtain ⟨t,rfl,ht,hyl,k⟩:=h
 refine ⟨_,(pss_cons (ps_set (i:=1) sc_law_read.nd (by rfl) (Or.inl (by rfl)) (pe_bmK (K:=K) PySem.F.plainAttrs_str PySem.F.slot_str_split PySem.F.type_str_split mt_split (pv 0) (pa_cons pe_str pa_nil))) 
   (pss_cons (ps_set (i:=2) sc_law_read.nd (by rfl) (Or.inl (by rfl)) pe_str) 
   (pss_cons (ps_set (i:=3) sc_law_read.nd (by rfl) (Or.inl (by rfl)) (pe_lst pa_nil)) 
   (pss_cons (ps_for PassesOwn.never (by rfl) (pi_enum (K:=K) (by rfl) Z.enumerate (pv 1)) (pg_tupK (K:=K) (n:=2) (by rfl) (pgs_cons (pg_name (i:=4) sc_law_read.nd (by rfl) (Or.inl (by rfl))) (pgs_cons (pg_name (i:=5) sc_law_read.nd (by rfl) (Or.inl (by rfl))) pgs_nil))) 
    (pss_cons (ps_set (i:=6) sc_law_read.nd (by rfl) (Or.inl (by rfl)) (pe_bmK (K:=K) PySem.F.plainAttrs_str PySem.F.slot_str_split PySem.F.type_str_split mt_split (pv 5) (pa_cons pe_str pa_nil))) 
    (pss_cons (ps_setc (i:=7) sc_law_read.nd (by rfl) (by rfl) (sc:=defScope s_law_read) (Nm:=["_law_text","_law_rows","_law_letters_here","_law_found","_law_at","_law_row","_law_words","_law_numbers"]) (own:=["_law_word"]) (fr:=[]) ⟨rfl,by decide +kernel,by decide +kernel,by decide +kernel,by decide +kernel⟩ (by rfl) (gfr_name (by decide)) (pi_listK (K:=K) (pe_slice (sl_listK (K:=K)) (pv 6) (po_some pe_int) po_none)) (fun d=>(pg_name (i:=0) nd_law_read_0 (by rfl) (Or.inl (by rfl)))) (fun d=>pts_nil) (fun d=>(pe_c C_law_number_in (hr.mono (by decide)) (pa_cons (pv 0) pa_nil)))) 
    (pss_cons (ps_if (pt_cmpR op_ne (pe_ix (ix_listK (K:=K)) (pv 6) pe_int (fun _ _=>rfl)) (pe_ix (ix_listK (K:=K)) (pe_lst (pa_cons pe_str (pa_cons pe_str (pa_cons pe_str (pa_cons pe_str pa_nil))))) (pe_callB (call_min2 (by rfl)) (by rfl) Z.min bt_min (pa_cons (pv 4) (pa_cons pe_int pa_nil))) (fun _ _=>rfl)) (nomark _)) 
     (pss_one (ps_ret (pe_tup (pa_cons pe_str (pa_cons (pv 4) pa_nil))))) pss_nil) 
    (pss_cut (ps_if (pt_cmpR op_eq (pv 4) pe_int (nomark _)) 
     (pss_cons (ps_set (i:=2) sc_law_read.nd (by rfl) (Or.inl (by rfl)) (pe_bmK (K:=K) PySem.F.plainAttrs_str PySem.F.slot_str_join PySem.F.type_str_join (mt_joinK (K:=K)) pe_str (pa_cons (pe_slice (sl_listK (K:=K)) (pv 6) (po_some pe_int) po_none) pa_nil))) 
     (pss_one (ps_if (PW.pt (pw_or (pt_cmpR op_ne (pe_callB (call_lenK (K:=K)) (by rfl) Z.len bt_len (pa_cons (pv 6) pa_nil)) pe_int (nomark _)) (pw_or1 (pt_not (pt_truthK (K:=K) (pe_c C_law_are_letters (hr.mono (by decide)) (pa_cons (pv 2) pa_nil)) (fun _=>rfl)))))) 
      (pss_one (ps_ret (pe_tup (pa_cons pe_str (pa_cons pe_int pa_nil))))) pss_nil))) 
     (pss_one (ps_if (PW.pt (pw_or (pt_cmpR (op_inK (K:=K)) pe_non (pv 7) (by with_unfolding_all rfl)) (pw_or (PW.pt (pw_and (pt_cmpR op_eq (pv 4) pe_int (nomark _)) (pw_and1 (pt_cmpR op_ne (pe_callB (call_lenK (K:=K)) (by rfl) Z.len bt_len (pa_cons (pv 7) pa_nil)) pe_int (nomark _))))) (pw_or1 (PW.pt (pw_and (pt_cmpR op_gt (pv 4) pe_int (nomark _)) (pw_and1 (pt_cmpR op_ne (pe_callB (call_lenK (K:=K)) (by rfl) Z.len bt_len (pa_cons (pv 7) pa_nil)) (pe_callB call_len_str (by rfl) Z.len bt_len (pa_cons (pv 2) pa_nil)) (nomark _))))))))) 
      (pss_one (ps_ret (pe_tup (pa_cons pe_str (pa_cons (pv 4) pa_nil))))) pss_nil))) 
    (pss_one (ps_expr (pe_bmK (K:=K) PySem.F.plainAttrs_list PySem.F.slot_list_append PySem.F.type_list_append mt_append (pv 3) (pa_cons (pe_callTy (call_tupK (K:=K)) (by rfl) Z.tuple bt_tuple (pa_cons (pv 7) pa_nil)) pa_nil))))))))) 
   (pss_cons (ps_if (pt_cmpR op_lt (pe_callB (call_lenK (K:=K)) (by rfl) Z.len bt_len (pa_cons (pv 1) pa_nil)) pe_int (nomark _)) 
    (pss_one (ps_ret (pe_tup (pa_cons pe_str (pa_cons (pe_callB (call_lenK (K:=K)) (by rfl) Z.len bt_len (pa_cons (pv 1) pa_nil)) pa_nil))))) pss_nil) 
   (pss_one (ps_ret (pe_tup (pa_cons pe_str (pa_cons (pe_tup (pa_cons (pv 2) (pa_cons (pe_ix (ix_tupK (K:=K)) (pe_ix (ix_listK (K:=K)) (pv 3) pe_int (fun _ _=>rfl)) pe_int (fun _ _=>rfl)) (pa_cons (pe_ix (ix_listK (K:=K)) (pv 3) pe_int (fun _ _=>rfl)) (pa_cons (pe_callTy (call_tupK (K:=K)) (by rfl) Z.tuple bt_tuple (pa_cons (pe_slice (sl_listK (K:=K)) (pv 3) (po_some pe_int) po_none) pa_nil)) pa_nil))))) pa_nil)))))))))),?_⟩
 refine (let zz0:TS:=_; let zz1:TS:=tSeq _ zz0; let zz2:TS:=_; let zz3:TS:=_; let zz4:TS:=tSeq _ zz3; let zz5:TS:=tCut (tIfS _ zz4 _) zz2; let zz6:TS:=tSeq _ zz5; let zz7:TS:=tSeq _ zz6; let zz8:TS:=tSeq _ zz7; let zz9:TS:=tSeq (tFor _ _ zz8) zz1; let zz10:TS:=tSeq _ zz9; let zz11:TS:=tSeq _ zz10; (?_:tSeq _ zz11 _ _ _))
 refine ⟨_,rfl,rfl,t,⟨#[10]⟩,rfl,rfl,rfl,ht,fun rp hrp=>?_⟩
 have hsl:=split_le t ⟨#[10]⟩
 have hne:Txt.split t ⟨#[10]⟩≠[]:=rws_ne t
 unfold rws at hyl k
 have e1:=same_new hrp (.lst ((Txt.split t ⟨#[10]⟩).map V.str))
 have h1:=upd_same (H:=H) (a:=rp) (o:=.lst ((Txt.split t ⟨#[10]⟩).map V.str))
 generalize upd H rp (.lst ((Txt.split t ⟨#[10]⟩).map V.str))=H1 at e1 h1
 generalize Txt.split t ⟨#[10]⟩=ys at h1 k hyl hsl hne
 refine ⟨(by show 0≤sizeLine; decide),fun fp hfp=>?_⟩
 have s2:=same_new hfp (.lst [])
 have h2f:=upd_same (H:=H1) (a:=fp) (o:=.lst [])
 have hfp0:=none_of e1 hfp
 have nrf:rp≠fp:=ne_of_none h1 hfp
 have h2r:=s2 _ _ h1
 generalize upd H1 fp (.lst [])=H2 at s2 h2f h2r
 have bad:∀ {H3:Hp} {i:Nat},Same H H3→rdT ys=.inl i→∀ g,H3 g=none→Q (.ref g) (upd H3 g (.tup [V.str "refused",V.int ((i:Nat):Int)])):=fun {H3 i} e hs g hg=>k _ _ (e.trans (same_new hg _)) (by rw [hs]; exact ⟨g,rfl,upd_same⟩)
 refine ⟨_,rfl,rp,ys.map V.str,rfl,.inl ⟨SqL.of h2r,?_⟩⟩
 refine for_enum (Sq:=fun H xs=>SqL K H rp xs) (xs:=ys.map V.str) (lrV t rp fp ys H) ⟨"",[],none,none,none,none,rfl,e1.trans s2,h2r,h2f,Nat.zero_le _,.inl ⟨rfl,rfl⟩⟩ (fun i σ H3 _ h=>?_) ?_ ?_
 ·obtain ⟨_,_,_,_,_,_,_,_,h3,_⟩:=h
  exact SqL.of h3
 ·rintro i x σ H3 p hx ⟨lv,xs,v4,v5,v6,v7,rfl,e3,h3r,h3f,hlv,L3⟩ hp
  rw [List.getElem?_map] at hx
  cases hyi:ys[i]? with
  | none=>rw [hyi] at hx; cases hx
  | some z=>
  rw [hyi] at hx
  cases hx
  have hzl:=hyl z (List.mem_of_getElem? hyi)
  have hil:=(List.getElem?_eq_some_iff.mp hyi).1
  have s4:=same_new hp (.tup [V.int (i:Int),V.str z])
  refine ⟨p,_,rfl,SqT.of upd_same,rfl,_,_,rfl,_,_,rfl,rfl,?_⟩
  have h4r:=s4 _ _ h3r
  have h4f:=s4 _ _ h3f
  have e4:=e3.trans s4
  have L4:=L3.keep (Tk.same s4)
  generalize upd H3 p (.tup [V.int (i:Int),V.str z])=H4 at s4 h4r h4f e4 L4
  refine ⟨_,rfl,rfl,z,⟨#[32]⟩,rfl,rfl,rfl,by omega,fun q hq=>?_⟩
  have hwl:∀ y∈Txt.split z ⟨#[32]⟩,y.length≤4000:=fun y hy=>Nat.le_trans (split_mem hy) hzl
  have hws:=split_le z ⟨#[32]⟩
  have hwn:Txt.split z ⟨#[32]⟩≠[]:=wds_ne z
  have hjw:Txt.join ⟨#[32]⟩ (Txt.split z ⟨#[32]⟩)=z:=join_wds z
  have hlO:letO z=if (Txt.split z ⟨#[32]⟩).length=2∧(Txt.split z ⟨#[32]⟩).headD "" = Str.ofString "letters"∧letB19 ((Txt.split z ⟨#[32]⟩).getD 1 "")=true then some ((Txt.split z ⟨#[32]⟩).getD 1 "") else none:=rfl
  have hnO:∀ name,numsO name z=if (Txt.split z ⟨#[32]⟩).headD "" = name then allN (Txt.split z ⟨#[32]⟩).tail else none:=fun _=>rfl
  have s5:=same_new hq (.lst ((Txt.split z ⟨#[32]⟩).map V.str))
  have h5q:=upd_same (H:=H4) (a:=q) (o:=.lst ((Txt.split z ⟨#[32]⟩).map V.str))
  generalize upd H4 q (.lst ((Txt.split z ⟨#[32]⟩).map V.str))=H5 at s5 h5q
  generalize Txt.split z ⟨#[32]⟩=ww at h5q hwl hws hwn hjw hlO hnO
  cases ww with
  | nil=>exact absurd rfl hwn
  | cons a ws=>
  rw [List.map_cons] at h5q
  have hwsl:ws.length≤4001:=by rw [List.length_cons] at hws; omega
  have hwsum:(ws.map (·.length)).sum≤4000:=by
   have h1:=sum_of (c:=32) (ys:=a :: ws) (by simp)
   have h2:∀ l:List Str,(l.map (·.length)).sum≤(l.map fun y=>y.length+1).sum:=fun l=>by
    induction l with
    | nil=>exact Nat.le_refl _
    | cons y r ih=>rw [List.map_cons,List.map_cons,List.sum_cons,List.sum_cons]; omega
   have h3:=h2 ws
   rw [hjw,List.map_cons,List.sum_cons] at h1
   omega
  refine ⟨_,rfl,_,rfl,q,_,rfl,SqL.of h5q,fun c hc=>?_⟩
  rw [cut_1]
  have s6:=same_new hc (.lst (ws.map V.str))
  have h6c:=upd_same (H:=H5) (a:=c) (o:=.lst (ws.map V.str))
  generalize upd H5 c (.lst (ws.map V.str))=H6 at s6 h6c
  refine ⟨c,rfl,⟨_,SqL.of h6c⟩,?_⟩
  have e46:=s5.trans s6
  refine comp_list (K:=K) (a:=c) (xs:=ws.map V.str) (fun j acc H7=>acc=numV (ws.take j)∧Same H6 H7) (by rw [List.length_map,sizeLine_eq]; omega) ⟨rfl,Same.refl _⟩ (fun j acc H7 p=>by rw [p.1]; unfold numV; rw [List.length_map,List.length_take]; exact Nat.min_le_left _ _)
   (fun j acc H7 p=>SqL.of (p.2 _ _ h6c)) (fun j acc H7 x hx p=>?_) (fun acc H7 p np hnp=>?_)
  ·obtain ⟨rfl,e7⟩:=p
   rw [List.getElem?_map] at hx
   cases hwi:ws[j]? with
   | none=>rw [hwi] at hx; cases hx
   | some y=>
    rw [hwi] at hx
    cases hx
    have:=hwl y (List.mem_cons_of_mem _ (List.mem_of_getElem? hwi))
    exact cyes ⟨_,rfl,y,rfl,by omega,fun H8 e8=>⟨by unfold numV; rw [map_take hwi],e7.trans e8⟩⟩
  obtain ⟨rfl,e7⟩:=p
  rw [List.length_map,List.take_length]
  have s8:=same_new hnp (.lst (numV ws))
  have h8n:=upd_same (H:=H7) (a:=np) (o:=.lst (numV ws))
  have e48:=(e46.trans e7).trans s8
  have h8q:=((s6.trans e7).trans s8) _ _ h5q
  generalize upd H7 np (.lst (numV ws))=H8 at s8 h8n e48 h8q
  refine ⟨_,rfl,q,_,0,_,rfl,rfl,SqL.of h8q,atI_nat (j:=0) rfl,(by show 4≤sizeLine; decide),fun x4 hx4=>?_⟩
  have s9:=same_new hx4 (.lst [V.str (Str.ofString "letters"),V.str (Str.ofString "begin"),V.str (Str.ofString "ends"),V.str (Str.ofString "room")])
  have h9x:=upd_same (H:=H8) (a:=x4) (o:=.lst [V.str (Str.ofString "letters"),V.str (Str.ofString "begin"),V.str (Str.ofString "ends"),V.str (Str.ofString "room")])
  generalize upd H8 x4 (.lst [V.str (Str.ofString "letters"),V.str (Str.ofString "begin"),V.str (Str.ofString "ends"),V.str (Str.ofString "room")])=H9 at s9 h9x
  have e49:=e48.trans s9
  have h9q:=s9 _ _ h8q
  have h9n:=s9 _ _ h8n
  have e09:=e4.trans e49
  have L9:=L4.keep (Tk.same e49)
  have h9f:=e49 _ _ h4f
  have h9r:=e49 _ _ h4r
  clear L4 h4f h4r L3 h3f h3r e3 s4 s5 s6 e46 s8 h8n e48 h8q s9 e49 e4
  refine ⟨_,rfl,_,_,rfl,x4,_,_,_,rfl,rfl,SqL.of h9x,nm_get i,rfl,_,rfl,?_⟩
  have hnm:i≠0→nmAt i=nameAt i:=fun h=>if_neg h
  by_cases c1:a=nmAt i
  case neg=>
   refine ifY (by show (!decide (V.str a=V.str (nmAt i)))=true; rw [decide_eq_false (fun e=>c1 (V.str.inj e))]; rfl) ⟨_,rfl,(by show 2≤sizeLine; decide),fun g hg=>bad e09 (L9.bad hyi (fun h0=>?_) (fun h0=>?_)) g hg⟩
   ·rw [hlO]
    refine if_neg fun c=>c1 ?_
    rw [show nmAt i=Str.ofString "letters" by rw [h0]; rfl]
    exact c.2.1
   ·refine rowO_no fun ns hns=>?_
    rw [hnO,if_neg (fun e=>c1 (by rw [hnm h0]; exact e))] at hns
    cases hns
  refine ifN (by show (!decide (V.str a=V.str (nmAt i)))=false; rw [decide_eq_true (congrArg V.str c1)]; rfl) ?_
  refine ⟨fun σ' H'=>∃ lv',σ'=[some (.str t),some (.ref rp),some (.str lv'),some (.ref fp),some (.int (i:Int)),some (.str z),some (.ref q),some (.ref np)]∧Same H9 H'∧lv'.length≤4000∧((i=0∧letO z=some lv')∨(i≠0∧lv'=lv∧∃ ns,rowO lv i z=some ns∧numV ws=ns.map nI)),?_,?_⟩
  ·refine ⟨_,rfl,rfl,_,rfl,?_⟩
   by_cases i0:i=0
   ·refine ifY (decide_eq_true (by rw [i0]; rfl)) ?_
    have hb0:∀ {H':Hp},Same H9 H'→letO z=none→∀ g,H' g=none→Q (.ref g) (upd H' g (.tup [V.str "refused",V.int 0])):=fun e h g hg=>by
     have q:=L9.bad hyi (fun _=>h) (fun h=>absurd i0 h)
     rw [i0] at q
     exact bad (e09.trans e) q g hg
    refine ⟨rfl,_,rfl,_,rfl,q,_,rfl,SqL.of h9q,fun c2 hc2=>?_⟩
    rw [cut_1]
    have s10:=same_new hc2 (.lst (ws.map V.str))
    have h10:=upd_same (H:=H9) (a:=c2) (o:=.lst (ws.map V.str))
    generalize upd H9 c2 (.lst (ws.map V.str))=H10 at s10 h10
    refine ⟨_,c2,ws,rfl,rfl,SqL.of h10,(by rw [show (Str.ofString "").length=0 by decide +kernel,Nat.mul_zero]; omega),?_⟩
    refine ⟨_,rfl,q,_,rfl,.inl (SqL.of (s10 _ _ h9q)),rfl,_,rfl,?_⟩
    by_cases c3:ws.length=1
    case neg=>exact ifY (by show (!decide (V.int (((V.str a :: ws.map V.str).length:Nat):Int)=V.int 2))=true; rw [decide_eq_false (fun e=>c3 (by have:=V.int.inj e; rw [List.length_cons,List.length_map] at this; omega))]; rfl) (iteT ⟨(by show 2≤sizeLine; decide),hb0 s10 (by rw [hlO]; exact if_neg fun c=>c3 (by have:=c.1; rw [List.length_cons] at this; omega))⟩)
    obtain ⟨l,rfl⟩:∃ l,ws=[l]:=by
     match ws,c3 with
     | [l],_=>exact ⟨l,rfl⟩
    rw [join_one]
    have hll:=hwl l (by simp)
    have hlet:letO z=if letB19 l=true then some l else none:=by
     rw [hlO]
     by_cases q:letB19 l=true
     ·rw [if_pos q]
      exact if_pos ⟨rfl,by rw [show [a,l].headD "" = a from rfl,c1,i0]; rfl,q⟩
     ·rw [if_neg q]
      exact if_neg fun c=>q c.2.2
    refine ifN rfl ⟨_,rfl,l,rfl,hll,fun H11 e11=>⟨_,rfl,?_⟩⟩
    cases hb:letB19 l with
    | false=>exact iteT ⟨(by show 2≤sizeLine; decide),hb0 (s10.trans e11) (by rw [hlet,hb]; rfl)⟩
    | true=>exact iteF ⟨l,rfl,s10.trans e11,hll,.inl ⟨i0,by rw [hlet,hb]; rfl⟩⟩
   ·refine ifN (decide_eq_false (fun e=>i0 (by have:=V.int.inj e; omega))) ?_
    have hbi:(∀ ns,allN ws=some ns→¬ ((i=1→ns.length=1)∧(3≤i→ns.length=lv.length)))→∀ g,H9 g=none→Q (.ref g) (upd H9 g (.tup [V.str "refused",V.int (i:Int)])):=fun h g hg=>bad e09 (L9.bad hyi (fun h0=>absurd h0 i0) fun _=>rowO_no fun ns hns=>h ns (by rw [hnO,if_pos (show (a :: ws).headD "" = nameAt i from c1.trans (hnm i0))] at hns; exact hns)) g hg
    refine ⟨_,rfl,np,_,rfl,.inl (SqL.of h9n),rfl,numV_flat ws,_,rfl,?_⟩
    cases ha:allN ws with
    | none=>exact ifY (by show inV .non (numV ws)=true; rw [numV_in,ha]; rfl) (iteT ⟨_,rfl,(by show 2≤sizeLine; decide),hbi (fun ns q=>by rw [ha] at q; cases q)⟩)
    | some ns=>
    refine ifN (by show inV .non (numV ws)=false; rw [numV_in,ha]; rfl) ?_
    have hnl:(((numV ws).length:Nat):Int)=(ns.length:Int):=by rw [numV_all ha,List.length_map]
    have hbn:¬ ((i=1→ns.length=1)∧(3≤i→ns.length=lv.length))→∀ g,H9 g=none→Q (.ref g) (upd H9 g (.tup [V.str "refused",V.int (i:Int)])):=fun h=>hbi fun ns' q=>by rw [ha] at q; cases q; exact h
    refine ⟨_,rfl,rfl,_,rfl,?_⟩
    by_cases c5:i=1→ns.length=1
    case neg=>
     have i1:i=1:=Classical.byContradiction fun h=>c5 fun z=>absurd z h
     refine ifY (decide_eq_true (by rw [i1]; rfl)) ⟨_,rfl,np,_,rfl,.inl (SqL.of h9n),rfl,_,rfl,ifY ?_ (iteT ⟨_,rfl,(by show 2≤sizeLine; decide),hbn fun h=>c5 h.1⟩)⟩
     rw [decide_eq_false (fun e=>c5 fun _=>by have:=V.int.inj e; rw [hnl] at this; omega)]
     rfl
    refine with_lf (fun rest=>ite2 (fun c=>⟨_,rfl,np,_,rfl,.inl (SqL.of h9n),rfl,_,rfl,ifN (by rw [decide_eq_true (show V.int (((numV ws).length:Nat):Int)=V.int 1 by rw [hnl,c5 (by have:=V.int.inj (of_decide_eq_true c); omega)]; rfl)]; rfl) rest⟩) (fun c=>iteF rest)) ?_
    refine ⟨_,rfl,_,_,rfl,rfl,_,rfl,?_⟩
    by_cases c6:3≤i→ns.length=lv.length
    case neg=>
     have i3:3≤i:=Classical.byContradiction fun h=>c6 fun z=>absurd z h
     refine ifY (decide_eq_true (by omega)) ⟨_,rfl,np,_,rfl,.inl (SqL.of h9n),_,rfl,lv,rfl,(by rw [sizeLine_eq]; omega),rfl,_,rfl,ifY ?_ ⟨_,rfl,(by show 2≤sizeLine; decide),hbn fun h=>c6 h.2⟩⟩
     rw [decide_eq_false (fun e=>c6 fun _=>by have:=V.int.inj e; rw [hnl] at this; omega)]
     rfl
    have fin:∃ lv',[some (V.str t),some (V.ref rp),some (V.str lv),some (V.ref fp),some (V.int (i:Int)),some (V.str z),some (V.ref q),some (V.ref np)]=[some (.str t),some (.ref rp),some (.str lv'),some (.ref fp),some (.int (i:Int)),some (.str z),some (.ref q),some (.ref np)]∧Same H9 H9∧lv'.length≤4000∧((i=0∧letO z=some lv')∨(i≠0∧lv'=lv∧∃ ns,rowO lv i z=some ns∧numV ws=ns.map nI)):=
     ⟨lv,rfl,Same.refl _,hlv,.inr ⟨i0,rfl,ns,rowO_of (by rw [hnO,if_pos (show (a :: ws).headD "" = nameAt i from c1.trans (hnm i0))]; exact ha) c5 c6,numV_all ha⟩⟩
    exact ite2 (fun c=>⟨_,rfl,np,_,rfl,.inl (SqL.of h9n),_,rfl,lv,rfl,(by rw [sizeLine_eq]; omega),rfl,_,rfl,ifN (by rw [decide_eq_true (show V.int (((numV ws).length:Nat):Int)=V.int (lv.length:Int) by rw [hnl,c6 (by have:=of_decide_eq_true c; omega)])]; rfl) fin⟩) (fun c=>iteF fin)
  ·rintro σ' H' ⟨lv',rfl,e10,hl',alt⟩
   have h10f:=e10 _ _ h9f
   refine ⟨_,rfl,.inl ⟨rfl,_,SqL.of h10f⟩,_,rfl,np,_,rfl,.inl ⟨SqL.of (e10 _ _ h9n),fun g hg=>?_⟩⟩
   have s11:=same_new hg (.tup (numV ws))
   have h11g:=upd_same (H:=H') (a:=g) (o:=.tup (numV ws))
   generalize upd H' g (.tup (numV ws))=H11 at s11 h11g
   have e911:=e10.trans s11
   have h11f:=e911 _ _ h9f
   have L11:=L9.keep (Tk.same e911)
   have tk:=Tk.lst h11f (.lst (xs ++ [V.ref g]))
   refine ⟨fp,_,_,rfl,rfl,h11f,(by rw [L9.len,sizeLine_eq]; omega),?_⟩
   refine ⟨lv',xs ++ [.ref g],_,_,_,_,rfl,same_put (e09.trans e911) hfp0 _,(upd_ne nrf).trans (e911 _ _ h9r),upd_same,hl',?_⟩
   rcases alt with ⟨rfl,hl⟩ | ⟨i0,rfl,ns,hr,hn⟩
   ·exact L11.first hyi hl
   ·exact (L11.keep tk).next i0 hyi hr (tk _ _ (by rw [h11g,hn]))
 ·rintro σ H3 ⟨lv,xs,v4,v5,v6,v7,rfl,e3,h3r,h3f,hlv,L3⟩
  rw [List.length_map] at L3
  have hyn:(((ys.map V.str).length:Nat):Int)=(ys.length:Int):=by rw [List.length_map]
  refine ⟨_,rfl,rp,_,rfl,.inl (SqL.of h3r),_,_,rfl,rfl,_,rfl,?_⟩
  rcases L3.end_ hne with ⟨c,hr⟩ | ⟨x0,a1,a2,vs,b,es,st,rfl,c,g1,g2,R,hr⟩
  ·refine ifY (decide_eq_true (by rw [hyn]; omega)) ⟨_,rfl,rp,_,rfl,.inl (SqL.of h3r),(by show 2≤sizeLine; decide),fun g hg=>?_⟩
   rw [hyn]
   exact bad e3 hr g hg
  ·refine ifN (decide_eq_false (by rw [hyn]; omega)) ?_
   refine ⟨_,rfl,_,rfl,fp,_,1,_,rfl,rfl,SqL.of h3f,atI_nat (j:=1) rfl,a1,_,0,_,rfl,rfl,SqT.of g1,atI_nat (j:=0) rfl,_,rfl,fp,_,2,_,rfl,rfl,SqL.of h3f,atI_nat (j:=2) rfl,_,rfl,_,rfl,fp,_,rfl,SqL.of h3f,fun cc hcc=>?_⟩
   rw [cut_3]
   have s4:=same_new hcc (.lst vs)
   have h4:=upd_same (H:=H3) (a:=cc) (o:=.lst vs)
   generalize upd H3 cc (.lst vs)=H4 at s4 h4
   refine ⟨cc,_,rfl,.inl ⟨SqL.of h4,fun sp hsp=>⟨(by show 4≤sizeLine; decide),fun m hm=>⟨(by show 2≤sizeLine; decide),fun g hg=>?_⟩⟩⟩⟩
   have s5:=same_new hsp (.tup vs)
   have s6:=same_new hm (.tup [.str lv,nI b,.ref a2,.ref sp])
   have s7:=same_new hg (.tup [.str "told",.ref m])
   have s47:=(s4.trans s5).trans (s6.trans s7)
   refine k _ _ (e3.trans s47) ?_
   rw [hr]
   exact ⟨g,m,rfl,upd_same,a2,sp,vs,s7 _ _ upd_same,s47 _ _ g2,s7 _ _ (s6 _ _ upd_same),R.keep (Tk.same s47)⟩
def sS (l:List Str):Nat:=(l.map fun y=>y.length+1).sum
theorem sS_app (a b:List Str):sS (a ++ b)=sS a+sS b:=by unfold sS; rw [List.map_append,List.sum_append]
theorem sS_td (l:List Str) (i:Nat):sS (l.take i)≤sS l∧sS (l.drop i)≤sS l:=by
 have h:=sS_app (l.take i) (l.drop i)
 rw [List.take_append_drop] at h
 omega
theorem sS_eq:∀ l:List Str,(l.map (·.length)).sum+l.length=sS l
 | []=>rfl
 | y :: r=>by
  have:=sS_eq r
  unfold sS at this ⊢
  rw [List.map_cons,List.map_cons,List.sum_cons,List.sum_cons,List.length_cons]
  omega
theorem sS_set (x:Str):∀ (l:List Str) (i:Nat),sS (l.set i x)≤sS l+(x.length+1)
 | [],i=>by simp [sS]
 | y :: r,0=>by
  show sS (x :: r)≤_
  unfold sS
  rw [List.map_cons,List.map_cons,List.sum_cons,List.sum_cons]
  omega
 | y :: r,i+1=>by
  have:=sS_set x r i
  show sS (y :: r.set i x)≤_
  unfold sS at this ⊢
  rw [List.map_cons,List.map_cons,List.sum_cons,List.sum_cons]
  omega
theorem sS_mem {x:Str} {l:List Str} (h:x∈l):x.length+1≤sS l:=mem_sum (f:=fun y=>y.length+1) h
theorem sS_split (c:Nat) (t:Str):sS (Txt.split t ⟨#[c]⟩)=t.length+1:=by
 have e:Txt.join ⟨#[c]⟩ (Txt.split t ⟨#[c]⟩)=t:=(StrLaws.glued_eq_join _ _).trans (StrLaws.join_split t ⟨#[c]⟩)
 have h1:=sum_of (c:=c) (ys:=Txt.split t ⟨#[c]⟩) fun z=>by
  have:=split_pos t ⟨#[c]⟩
  rw [z] at this
  exact absurd this (by decide)
 rw [e] at h1
 exact h1.symm
theorem join_sS (c:Nat) (l:List Str):(Txt.join ⟨#[c]⟩ l).length≤sS l:=by
 have h1:=join_le c l
 rw [sS_eq] at h1
 exact h1
theorem jl_app (c:Nat):∀ (a b:List (List Nat)),a≠[]→b≠[]→jl c (a ++ b)=jl c a ++ c :: jl c b
 | [],_,h,_=>absurd rfl h
 | [x],b,_,hb=>by
  cases b with
  | nil=>exact absurd rfl hb
  | cons y r=>exact jl_cons ..
 | x :: y :: r,b,_,hb=>by
  have ih:=jl_app c (y :: r) b (by simp) hb
  show jl c (x :: y :: (r ++ b))=_
  rw [jl_cons,jl_cons]
  show x ++ c :: jl c ((y :: r) ++ b)=_
  rw [ih,List.append_assoc]
  rfl
theorem jl_flat (c:Nat):∀ Ls:List (List (List Nat)),(∀ L∈Ls,L≠[])→jl c Ls.flatten=jl c (Ls.map (jl c))
 | [],_=>rfl
 | [L],_=>by
  rw [List.flatten_cons,List.flatten_nil,List.append_nil]
  rfl
 | L :: M :: r,h=>by
  have ih:=jl_flat c (M :: r) fun x hx=>h x (List.mem_cons_of_mem _ hx)
  rw [List.flatten_cons,jl_app c L _ (h L List.mem_cons_self) (fun e=>?_),ih,List.map_cons]
  ·exact (jl_cons ..).symm
  ·rw [List.flatten_cons] at e
   exact h M (by simp) (List.append_eq_nil_iff.mp e).1
theorem rows_flat {rs:List Str} (hne:rs≠[]):rws (Txt.join ⟨#[10]⟩ rs)=rs.flatMap rws:=by
 have hn:rs.flatMap rws≠[]:=fun e=>by
  cases rs with
  | nil=>exact hne rfl
  | cons r l=>
   rw [List.flatMap_cons] at e
   exact rws_ne r (List.append_eq_nil_iff.mp e).1
 have hj:Txt.join ⟨#[10]⟩ rs=Txt.join ⟨#[10]⟩ (rs.flatMap rws):=by
  have e1:Txt.join ⟨#[10]⟩ rs=Str.join ⟨#[10]⟩ rs:=StrLaws.glued_eq_join _ _
  have e2:Txt.join ⟨#[10]⟩ (rs.flatMap rws)=Str.join ⟨#[10]⟩ (rs.flatMap rws):=StrLaws.glued_eq_join _ _
  refine str_ext ?_
  rw [e1,e2,join_jl,join_jl]
  have hf:=jl_flat 10 (rs.map fun r=>(rws r).map fun y=>y.cps.toList) fun L hL=>by
   obtain ⟨r,_,rfl⟩:=List.mem_map.mp hL
   simpa using rws_ne r
  have e3:(rs.map fun r=>(rws r).map fun y=>y.cps.toList).flatten=(rs.flatMap rws).map fun y=>y.cps.toList:=by
   rw [List.map_flatMap]
   rfl
  rw [e3,List.map_map] at hf
  rw [hf]
  refine congrArg (jl 10) (List.map_congr_left fun r _=>?_)
  show r.cps.toList=jl 10 ((rws r).map fun y=>y.cps.toList)
  have e4:Txt.join ⟨#[10]⟩ (rws r)=Str.join ⟨#[10]⟩ (rws r):=StrLaws.glued_eq_join _ _
  rw [← join_jl,← e4,join_rws]
 rw [hj]
 exact split_join hn fun y hy=>by
  obtain ⟨r,_,h⟩:=List.mem_flatMap.mp hy
  exact StrLaws.split_free r 10 y h
theorem rows_of {rs:List Str} {M:Nat} (h:∀ r∈rs,r.length≤M):∀ y∈rws (Txt.join ⟨#[10]⟩ rs),y.length≤M:=fun y hy=>by
 by_cases hne:rs=[]
 ·have h1:=split_mem (c:=10) hy
  have h2:=join_sS 10 rs
  rw [hne] at h1 h2
  have h3:sS []=0:=rfl
  omega
 ·rw [rows_flat hne] at hy
  obtain ⟨r,hr,h2⟩:=List.mem_flatMap.mp hy
  exact Nat.le_trans (split_mem (c:=10) h2) (h r hr)
def TxOk (t:Str) (T R:Nat):Prop:=t.length≤T∧∀ y∈rws t,y.length≤R
theorem cut_strs (ws:List Str) (k:Nat) (h:k≤ws.length):cutV (ws.map V.str) none (some ((k:Nat):Int))=(ws.take k).map V.str∧cutV (ws.map V.str) (some ((k:Nat):Int)) none=(ws.drop k).map V.str:=by
 have hm:(ws.map V.str).length=ws.length:=List.length_map ..
 constructor
 ·unfold cutV
  rw [HT.sIx_nat,HT.sIx_none,hm,Nat.min_eq_left h,List.drop_zero,Nat.sub_zero,List.map_take]
 ·unfold cutV
  rw [HT.sIx_nat,HT.sIx_none,hm,Nat.min_eq_left h,List.take_of_length_le (by rw [List.length_drop,hm]; exact Nat.le_refl _),List.map_drop]
theorem add_len (a b:Str):(a ++ b).length=a.length+b.length:=by
 show (a.cps ++ b.cps).size=a.cps.size+b.cps.size
 exact Array.size_append
theorem lst_p {H:Hp} {p sc q:Addr} (FA:FlowAt H p sc) (h:H q=none):q≠p:=by
 obtain ⟨ys,h1,_⟩:=FA.here
 exact (ne_of_none h1 h).symm
theorem all_z {L:List Str} {n:Nat} (h:L.all (fun z=>decide (z.length≤n))=true):∀ z∈L,z.length≤n:=fun z hz=>of_decide_eq_true (List.all_eq_true.mp h z hz)
theorem pick_str {Z3:List Str} {r:Int} (h0:0≤r) (h1:r < ((Z3.map V.str).length:Int)):∃ z∈Z3,atI (Z3.map V.str) r=some (.str z):=by
 rw [List.length_map] at h1
 have hrn:r.toNat < Z3.length:=by omega
 refine ⟨Z3[r.toNat],List.getElem_mem hrn,?_⟩
 have q:atI (Z3.map V.str) ((r.toNat:Nat):Int)=some (.str Z3[r.toNat]):=atI_nat (by rw [List.getElem?_map,List.getElem?_eq_getElem hrn]; rfl)
 rwa [show ((r.toNat:Nat):Int)=r by omega] at q
inductive spSignI (vs:List V) (H:Hp) (Q:VK):Prop
 | mk (p sc:Addr) (h1:vs=[.ref p]) (h2:FlowAt H p sc) (h3:∀ (z:Str) H',z.length≤1→Drew H H' p→FlowAt H' p sc→Q (.str z) H'):spSignI vs H Q
def spSign:Sp:=fun vs H Q u3_=>spSignI vs H Q
theorem ok_law_sign {f:Addr} {fd:FuncData} (F:Fun K "_law_sign" "_law_sign" s_law_sign f fd) (Z:Blt mg) (C_law_pick:Cal P w K mg base "_law_pick" 1 ["_law_flow_here","_law_many"] spPick):FnOk P w K mg base CX0 2 f fd ["_law_flow_here"] spSign:=by
 refine F.ok sc_law_sign (fun vs H Q E h=>?_) (fun cdv A outer s H vs Q E hr h=>?_)
 ·obtain ⟨p,sc,rfl,_⟩:=h
  rfl
 obtain ⟨p,sc,rfl,FA,k⟩:=h
 refine ⟨_,(pss_cons (ps_set (i:=1) sc_law_sign.nd (by rfl) (Or.inl (by rfl)) (pe_cmpR op_eq (pe_c C_law_pick (hr.mono (by decide)) (pa_cons (pv 0) (pa_cons pe_int pa_nil))) pe_int (nomark _))) 
   (pss_cons (ps_set (i:=2) sc_law_sign.nd (by rfl) (Or.inl (by rfl)) pe_str) 
   (pss_cons (ps_set (i:=3) sc_law_sign.nd (by rfl) (Or.inl (by rfl)) pe_str) 
   (pss_cons (ps_set (i:=4) sc_law_sign.nd (by rfl) (Or.inl (by rfl)) (pe_ix (ix_listK (K:=K)) (pe_lst (pa_cons (pe_op op_add_str (pv 3) pe_str) (pa_cons (pv 2) pa_nil))) (pe_callTy call_int1 (by rfl) Z.int bt_int (pa_cons (pv 1) pa_nil)) (fun _ _=>rfl))) 
   (pss_one (ps_ret (pe_ix ix_str (pv 4) (pe_c C_law_pick (hr.mono (by decide)) (pa_cons (pv 0) (pa_cons (pe_callB call_len_str (by rfl) Z.len bt_len (pa_cons (pv 4) pa_nil)) pa_nil))) (fun _ _=>rfl)))))))),?_⟩
 refine (let zz0:TS:=_; let zz1:TS:=tSeq _ zz0; let zz2:TS:=tSeq _ zz1; let zz3:TS:=tSeq _ zz2; (?_:tSeq _ zz3 _ _ _))
 refine ⟨_,rfl,p,sc,2,rfl,by decide,by decide,FA,fun r xs hr0 hr1 hx=>⟨rfl,?_⟩⟩
 have FA1:=FA.go hx
 have d1:Drew H (upd H p (.lst xs)) p:=Drew.upd _
 generalize upd H p (.lst xs)=H1 at FA1 d1
 generalize decide (V.int r=V.int 0)=nb
 have hf:(Str.ofString " !\"#$&'()*+,-./0123456789:;<=>?@ABCDEFGHIJKLMNOPQRSTUVWXYZ[\\]^_`{|}~\n").length=69:=by decide +kernel
 have hs:(Str.ofString " \n0123456789abcdeglmnorst").length=25:=by decide +kernel
 have ha:(Str.ofString "abcdefghijklmnopqrstuvwxyz").length=26:=by decide +kernel
 refine ⟨_,rfl,_,_,rfl,rfl,(by rw [hf,ha,sizeLine_eq]; decide),_,rfl,(by show 2≤sizeLine; decide),fun x hx'=>?_⟩
 have hfa:=add_len (Str.ofString " !\"#$&'()*+,-./0123456789:;<=>?@ABCDEFGHIJKLMNOPQRSTUVWXYZ[\\]^_`{|}~\n") (Str.ofString "abcdefghijklmnopqrstuvwxyz")
 generalize Str.ofString " !\"#$&'()*+,-./0123456789:;<=>?@ABCDEFGHIJKLMNOPQRSTUVWXYZ[\\]^_`{|}~\n" ++ Str.ofString "abcdefghijklmnopqrstuvwxyz" = S1 at hfa hx'
 generalize Str.ofString " \n0123456789abcdeglmnorst" = S2 at hs hx'
 have s2:=same_new hx' (.lst [V.str S1,V.str S2])
 have h2:=upd_same (H:=H1) (a:=x) (o:=.lst [V.str S1,V.str S2])
 have FA2:=FA1.same s2
 have d2:=d1.trans (Drew.same (p:=p) s2)
 generalize upd H1 x (.lst [V.str S1,V.str S2])=H2 at s2 h2 FA2 d2
 obtain ⟨sg,hsg,hl0,hl1⟩:∃ sg:Str,atI [V.str S1,V.str S2] (if nb then 1 else 0)=some (.str sg)∧1≤sg.length∧sg.length≤100:=by
  cases nb with
  | true=>exact ⟨S2,atI_nat (j:=1) rfl,by omega,by omega⟩
  | false=>exact ⟨S1,atI_nat (j:=0) rfl,by omega,by omega⟩
 refine ⟨_,rfl,.inr ⟨_,rfl,x,_,_,_,rfl,rfl,SqL.of h2,hsg,?_⟩⟩
 refine ⟨_,rfl,_,rfl,_,rfl,sg,rfl,line_le (by omega),p,sc,_,rfl,by omega,by omega,FA2,fun r2 xs2 h20 h21 hx2=>?_⟩
 obtain ⟨c,_,hc⟩:=atI_sign (l:=sg) h20 h21
 exact ⟨sg,r2,c,rfl,rfl,line_le (by omega),hc,k _ _ (Nat.le_refl 1) (drew_go d2 _) (FA2.go hx2)⟩
inductive spRowOI (vs:List V) (H:Hp) (Q:VK):Prop
 | mk (p sc:Addr) (z:Str) (h1:vs=[.ref p,.str z]) (h2:z.length≤100000) (h3:FlowAt H p sc) (h4:∀ (y:Str) H',y.length≤2 * z.length+10→Drew H H' p→FlowAt H' p sc→Q (.str y) H'):spRowOI vs H Q
def spRowO:Sp:=fun vs H Q u3_=>spRowOI vs H Q
theorem ro_core {f:Addr} (Z:Blt mg) (C_law_pick:Cal P w K mg base "_law_pick" 1 ["_law_flow_here","_law_many"] spPick) (C_law_sign:Cal P w K mg base "_law_sign" 2 ["_law_flow_here"] spSign) {cdv:Value} {A:Around} {outer:List Env} {s:Shared} {H:Hp} {Q:VK} {E:XK} (hr:Room 2 (A.deeper (envOfC "_law_row_otherwise" (defScope s_law_row_otherwise) s.heap.objs.size f cdv)))
  {p sc:Addr} {z:Str} (hz:z.length≤100000) (FA:FlowAt H p sc) (k:∀ (y:Str) H',y.length≤2 * z.length+10→Drew H H' p→FlowAt H' p sc→Q (.str y) H')
  {es1 es2:List Expr} {Z1 Z2:List Str} (a1:AllS es1 Z1) (a2:AllS es2 Z2) (hz1:Z1.length=15) (hz2:Z2.length=7) (hb1:∀ z∈Z1,z.length≤7) (hb2:∀ z∈Z2,z.length≤7) {p1 p2 p3 p4 p5 p6 p7 p8:Pos} :
  ∃ t,PSs (cxOf CX0 P w K mg base ["_law_flow_here","_law_row","_law_way","_law_words","_law_at","_law_spot","_law_some"] "_law_row_otherwise" (defScope s_law_row_otherwise) f cdv A outer s H E).nox ((defBody s_law_row_otherwise).take 4 ++ .Assign [.Name "_law_some" p1] (.List es1 p2) p3 :: .Assign [.Name "_law_some" p4] (.BinOp (.Name "_law_some" p5) .Add (.List es2 p6) p7) p8 :: (defBody s_law_row_otherwise).drop 6) t∧t { nx:=fun _ H'=>Q .non H',rt:=Q } (L2.start ["_law_flow_here","_law_row","_law_way","_law_words","_law_at","_law_spot","_law_some"] [.ref p,.str z]) H:=by
 refine ⟨_,(pss_cons (ps_set (i:=2) sc_law_row_otherwise.nd (by rfl) (Or.inl (by rfl)) (pe_c C_law_pick (hr.mono (by decide)) (pa_cons (pv 0) (pa_cons pe_int pa_nil)))) 
   (pss_cons (ps_set (i:=3) sc_law_row_otherwise.nd (by rfl) (Or.inl (by rfl)) (pe_bmK (K:=K) PySem.F.plainAttrs_str PySem.F.slot_str_split PySem.F.type_str_split mt_split (pv 1) (pa_cons pe_str pa_nil))) 
   (pss_cons (ps_set (i:=4) sc_law_row_otherwise.nd (by rfl) (Or.inl (by rfl)) (pe_c C_law_pick (hr.mono (by decide)) (pa_cons (pv 0) (pa_cons (pe_callB (call_lenK (K:=K)) (by rfl) Z.len bt_len (pa_cons (pv 3) pa_nil)) pa_nil)))) 
   (pss_cons (ps_set (i:=5) sc_law_row_otherwise.nd (by rfl) (Or.inl (by rfl)) (pe_c C_law_pick (hr.mono (by decide)) (pa_cons (pv 0) (pa_cons (pe_op op_add (pe_callB call_len_str (by rfl) Z.len bt_len (pa_cons (pv 1) pa_nil)) pe_int) pa_nil)))) 
   (pss_cons (ps_set (i:=6) sc_law_row_otherwise.nd (by rfl) (Or.inl (by rfl)) (pe_lst (pa_consts a1))) 
   (pss_cons (ps_set (i:=6) sc_law_row_otherwise.nd (by rfl) (Or.inl (by rfl)) (pe_op op_cat (pv 6) (pe_lst (pa_consts a2)))) 
   (pss_cons (ps_if (pt_cmpR op_eq (pv 2) pe_int (nomark _)) 
    (pss_one (ps_ret (pe_bmK (K:=K) PySem.F.plainAttrs_str PySem.F.slot_str_join PySem.F.type_str_join (mt_joinK (K:=K)) pe_str (pa_cons (pe_op op_cat (pe_slice (sl_listK (K:=K)) (pv 3) po_none (po_some (pv 4))) (pe_slice (sl_listK (K:=K)) (pv 3) (po_some (pe_op op_add (pv 4) pe_int)) po_none)) pa_nil)))) pss_nil) 
   (pss_cons (ps_if (pt_cmpR op_eq (pv 2) pe_int (nomark _)) 
    (pss_one (ps_ret (pe_bmK (K:=K) PySem.F.plainAttrs_str PySem.F.slot_str_join PySem.F.type_str_join (mt_joinK (K:=K)) pe_str (pa_cons (pe_op op_cat (pe_slice (sl_listK (K:=K)) (pv 3) po_none (po_some (pe_op op_add (pv 4) pe_int))) (pe_slice (sl_listK (K:=K)) (pv 3) (po_some (pv 4)) po_none)) pa_nil)))) pss_nil) 
   (pss_cons (ps_if (pt_cmpR op_eq (pv 2) pe_int (nomark _)) 
    (pss_one (ps_ret (pe_bmK (K:=K) PySem.F.plainAttrs_str PySem.F.slot_str_join PySem.F.type_str_join (mt_joinK (K:=K)) pe_str (pa_cons (pe_op op_cat (pe_op op_cat (pe_slice (sl_listK (K:=K)) (pv 3) po_none (po_some (pv 4))) (pe_lst (pa_cons (pe_ix (ix_listK (K:=K)) (pv 6) (pe_c C_law_pick (hr.mono (by decide)) (pa_cons (pv 0) (pa_cons (pe_callB (call_lenK (K:=K)) (by rfl) Z.len bt_len (pa_cons (pv 6) pa_nil)) pa_nil))) (fun _ _=>rfl)) pa_nil))) (pe_slice (sl_listK (K:=K)) (pv 3) (po_some (pe_op op_add (pv 4) pe_int)) po_none)) pa_nil)))) pss_nil) 
   (pss_cons (ps_if (pt_cmpR op_eq (pv 2) pe_int (nomark _)) 
    (pss_one (ps_ret (pe_bmK (K:=K) PySem.F.plainAttrs_str PySem.F.slot_str_join PySem.F.type_str_join (mt_joinK (K:=K)) pe_str (pa_cons (pe_op op_cat (pe_op op_cat (pe_slice (sl_listK (K:=K)) (pv 3) po_none (po_some (pv 4))) (pe_lst (pa_cons (pe_ix (ix_listK (K:=K)) (pv 6) (pe_c C_law_pick (hr.mono (by decide)) (pa_cons (pv 0) (pa_cons (pe_callB (call_lenK (K:=K)) (by rfl) Z.len bt_len (pa_cons (pv 6) pa_nil)) pa_nil))) (fun _ _=>rfl)) pa_nil))) (pe_slice (sl_listK (K:=K)) (pv 3) (po_some (pv 4)) po_none)) pa_nil)))) pss_nil) 
   (pss_cons (ps_if (pt_cmpR op_eq (pv 2) pe_int (nomark _)) 
    (pss_one (ps_ret (pe_op op_add_str (pe_slice sl_str (pv 1) po_none (po_some (pv 5))) (pe_slice sl_str (pv 1) (po_some (pe_op op_add (pv 5) pe_int)) po_none)))) pss_nil) 
   (pss_one (ps_ret (pe_op op_add_str (pe_op op_add_str (pe_slice sl_str (pv 1) po_none (po_some (pv 5))) (pe_c C_law_sign (hr.mono (by decide)) (pa_cons (pv 0) pa_nil))) (pe_slice sl_str (pv 1) (po_some (pe_op op_add (pv 5) (pe_c C_law_pick (hr.mono (by decide)) (pa_cons (pv 0) (pa_cons pe_int pa_nil))))) po_none))))))))))))))),?_⟩
 refine (let zz0:TS:=_; let zz1:TS:=tSeq _ zz0; let zz2:TS:=tSeq _ zz1; let zz3:TS:=tSeq _ zz2; let zz4:TS:=tSeq _ zz3; let zz5:TS:=tSeq _ zz4; let zz6:TS:=tSeq _ zz5; let zz7:TS:=tSeq _ zz6; let zz8:TS:=tSeq _ zz7; let zz9:TS:=tSeq _ zz8; let zz10:TS:=tSeq _ zz9; (?_:tSeq _ zz10 _ _ _))
 refine ⟨_,rfl,p,sc,6,rfl,by decide,by decide,FA,fun w0 xs0 hw0 hw1 hx0=>?_⟩
 have FA0:=FA.go hx0
 have d0:Drew H (upd H p (.lst xs0)) p:=Drew.upd _
 generalize upd H p (.lst xs0)=H0 at FA0 d0
 refine ⟨_,rfl,rfl,z,⟨#[32]⟩,rfl,rfl,rfl,by omega,fun q hq=>?_⟩
 have hsl:=split_le z ⟨#[32]⟩
 have hS:=sS_split 32 z
 have hpos:=split_pos z ⟨#[32]⟩
 have s1:=same_new hq (.lst ((Txt.split z ⟨#[32]⟩).map V.str))
 have h1:=upd_same (H:=H0) (a:=q) (o:=.lst ((Txt.split z ⟨#[32]⟩).map V.str))
 have nqp:=lst_p FA0 hq
 have FA1:=FA0.same s1
 have d1:=d0.trans (Drew.same (p:=p) s1)
 generalize upd H0 q (.lst ((Txt.split z ⟨#[32]⟩).map V.str))=H1 at s1 h1 FA1 d1
 generalize Txt.split z ⟨#[32]⟩=ws at h1 hsl hS hpos
 have hml:(ws.map V.str).length=ws.length:=List.length_map ..
 refine ⟨_,rfl,_,rfl,q,_,rfl,.inl (SqL.of h1),p,sc,_,rfl,by omega,by omega,FA1,fun a ys ha0 ha1 hy=>?_⟩
 have FA2:=FA1.go hy
 have d2:=d1.trans (Drew.upd (H:=H1) (p:=p) (.lst ys))
 have h2:=Drew.upd (H:=H1) (p:=p) (.lst ys) _ _ h1 nqp
 generalize upd H1 p (.lst ys)=H2 at FA2 d2 h2
 obtain ⟨j,rfl⟩:∃ j:Nat,a=(j:Int):=⟨a.toNat,by omega⟩
 have hj:j < ws.length:=by omega
 refine ⟨_,rfl,_,rfl,z,rfl,(by rw [sizeLine_eq]; omega),_,_,rfl,rfl,p,sc,_,rfl,by omega,by omega,FA2,fun b xs3 hv0 hv1 hx3=>?_⟩
 have FA3:=FA2.go hx3
 have d3:=d2.trans (Drew.upd (H:=H2) (p:=p) (.lst xs3))
 have h3:=Drew.upd (H:=H2) (p:=p) (.lst xs3) _ _ h2 nqp
 generalize upd H2 p (.lst xs3)=H3 at FA3 d3 h3
 obtain ⟨i,rfl⟩:∃ i:Nat,b=(i:Int):=⟨b.toNat,by omega⟩
 refine ⟨(by rw [List.length_map,hz1]; decide),fun q1 hq1=>?_⟩
 have t1:=same_new hq1 (.lst (Z1.map V.str))
 have g1:=upd_same (H:=H3) (a:=q1) (o:=.lst (Z1.map V.str))
 generalize upd H3 q1 (.lst (Z1.map V.str))=H4 at t1 g1
 refine ⟨_,rfl,(by rw [List.length_map,hz2]; decide),fun q2 hq2=>?_⟩
 have t2:=same_new hq2 (.lst (Z2.map V.str))
 have g2:=upd_same (H:=H4) (a:=q2) (o:=.lst (Z2.map V.str))
 generalize upd H4 q2 (.lst (Z2.map V.str))=H5 at t2 g2
 refine ⟨q1,q2,_,_,rfl,rfl,t2 _ _ g1,g2,(by rw [List.length_map,List.length_map,hz1,hz2]; decide),fun q3 hq3=>?_⟩
 rw [← List.map_append]
 have hlen:(Z1 ++ Z2).length=22:=by rw [List.length_append,hz1,hz2]
 have hb:∀ z∈Z1 ++ Z2,z.length≤7:=fun z hz=>(List.mem_append.mp hz).elim (hb1 z) (hb2 z)
 generalize Z1 ++ Z2=Z3 at hlen hb
 have t3:=same_new hq3 (.lst (Z3.map V.str))
 have g3:=upd_same (H:=H5) (a:=q3) (o:=.lst (Z3.map V.str))
 have t03:=(t1.trans t2).trans t3
 have n3p:=lst_p (FA3.same (t1.trans t2)) hq3
 have FA6:=FA3.same t03
 have d6:=d3.trans (Drew.same (p:=p) t03)
 have h6:=t03 _ _ h3
 generalize upd H5 q3 (.lst (Z3.map V.str))=H6 at t3 g3 t03 FA6 d6 h6
 clear t3 t03 t2 t1 g1 g2 FA3 d3 h3 h2 d2 FA2 h1 d1 FA1 s1
 have hz3:(Z3.map V.str).length=22:=by rw [List.length_map,hlen]
 have fin:∀ {H':Hp} (us:List Str) (g:Addr),H' g=some (.lst (us.map V.str))→sS us≤2 * z.length+10→Drew H H' p→FlowAt H' p sc→rJoin K (V.str (Str.ofString " ")) [.ref g] H' Q:=fun {H'} us g hg hb d F'=>by
  refine ⟨_,g,us,rfl,rfl,SqL.of hg,?_,?_⟩
  ·have:=sS_eq us
   rw [s_blank]
   show _+_ * 1≤_
   omega
  ·rw [s_blank]
   exact k _ _ (Nat.le_trans (join_sS 32 us) hb) d F'
 have bd:∀ (m n:Nat),sS (ws.take m)+sS (ws.drop n)≤2 * z.length+2:=fun m n=>by
  have h1:=(sS_td ws m).1
  have h2:=(sS_td ws n).2
  omega
 have two:∀ {H':Hp} {g1 g2:Addr} (us vs:List Str),H' g1=some (.lst (us.map V.str))→H' g2=some (.lst (vs.map V.str))→us.length+vs.length≤400000→sS us+sS vs≤2 * z.length+10→Drew H H' p→FlowAt H' p sc→rCat (.ref g1) (.ref g2) H' fun v H3=>rJoin K (V.str (Str.ofString " ")) [v] H3 Q:=fun {H' g1 g2} us vs e1 e2 hl hb d F'=>by
  refine ⟨g1,g2,_,_,rfl,rfl,e1,e2,(by rw [List.length_map,List.length_map,sizeLine_eq]; omega),fun g hg=>?_⟩
  have s:=same_new hg (.lst (us.map V.str ++ vs.map V.str))
  exact fin (us ++ vs) g (by rw [upd_same,List.map_append]) (by rw [sS_app]; exact hb) (d.trans (Drew.same s)) (F'.same s)
 refine ⟨_,rfl,rfl,_,rfl,ite2 (fun _=>?_) (fun _=>?_)⟩
 ·refine ⟨rfl,_,rfl,_,rfl,_,rfl,q,_,rfl,SqL.of h6,fun g1 hg1=>?_⟩
  rw [(cut_strs ws j (by omega)).1]
  have s7:=same_new hg1 (.lst ((ws.take j).map V.str))
  have h7:=upd_same (H:=H6) (a:=g1) (o:=.lst ((ws.take j).map V.str))
  generalize upd H6 g1 (.lst ((ws.take j).map V.str))=H7 at s7 h7
  refine ⟨_,rfl,_,rfl,_,_,rfl,rfl,_,rfl,q,_,rfl,SqL.of (s7 _ _ h6),fun g4 hg4=>?_⟩
  rw [show ((j:Nat):Int)+1=((j+1:Nat):Int) by omega,(cut_strs ws (j+1) (by omega)).2]
  have s8:=same_new hg4 (.lst ((ws.drop (j+1)).map V.str))
  exact two (ws.take j) (ws.drop (j+1)) (s8 _ _ h7) upd_same (by rw [List.length_take,List.length_drop]; omega) (Nat.le_trans (bd _ _) (by omega)) ((d6.trans (Drew.same s7)).trans (Drew.same s8)) ((FA6.same s7).same s8)
 refine ⟨_,rfl,rfl,_,rfl,ite2 (fun _=>?_) (fun _=>?_)⟩
 ·refine ⟨rfl,_,rfl,_,rfl,_,_,rfl,rfl,_,rfl,q,_,rfl,SqL.of h6,fun g1 hg1=>?_⟩
  rw [show ((j:Nat):Int)+1=((j+1:Nat):Int) by omega,(cut_strs ws (j+1) (by omega)).1]
  have s7:=same_new hg1 (.lst ((ws.take (j+1)).map V.str))
  have h7:=upd_same (H:=H6) (a:=g1) (o:=.lst ((ws.take (j+1)).map V.str))
  generalize upd H6 g1 (.lst ((ws.take (j+1)).map V.str))=H7 at s7 h7
  refine ⟨_,rfl,_,rfl,_,rfl,q,_,rfl,SqL.of (s7 _ _ h6),fun g4 hg4=>?_⟩
  rw [(cut_strs ws j (by omega)).2]
  have s8:=same_new hg4 (.lst ((ws.drop j).map V.str))
  exact two (ws.take (j+1)) (ws.drop j) (s8 _ _ h7) upd_same (by rw [List.length_take,List.length_drop]; omega) (Nat.le_trans (bd _ _) (by omega)) ((d6.trans (Drew.same s7)).trans (Drew.same s8)) ((FA6.same s7).same s8)
 refine ⟨_,rfl,rfl,_,rfl,ite2 (fun _=>?_) (fun _=>?_)⟩
 ·refine ⟨rfl,_,rfl,_,rfl,_,rfl,q,_,rfl,SqL.of h6,fun g1 hg1=>?_⟩
  rw [(cut_strs ws j (by omega)).1]
  have s7:=same_new hg1 (.lst ((ws.take j).map V.str))
  have h7:=upd_same (H:=H6) (a:=g1) (o:=.lst ((ws.take j).map V.str))
  have n1:=lst_p FA6 hg1
  generalize upd H6 g1 (.lst ((ws.take j).map V.str))=H7 at s7 h7
  refine ⟨_,rfl,_,rfl,_,rfl,q3,_,rfl,.inl (SqL.of (s7 _ _ g3)),p,sc,_,rfl,by omega,by omega,FA6.same s7,fun r xr hr0 hr1 hxr=>?_⟩
  have FA8:=(FA6.same s7).go hxr
  have up:=Drew.upd (H:=H7) (p:=p) (.lst xr)
  have d8:=(d6.trans (Drew.same (p:=p) s7)).trans up
  have h8:=up _ _ h7 n1
  have h8q:=up _ _ (s7 _ _ h6) nqp
  have g8:=up _ _ (s7 _ _ g3) n3p
  generalize upd H7 p (.lst xr)=H8 at FA8 d8 h8 h8q g8
  obtain ⟨x,hxm,hat⟩:=pick_str (Z3:=Z3) hr0 hr1
  have hxl:=hb x hxm
  refine ⟨q3,_,_,_,rfl,rfl,SqL.of g8,hat,(by show 1≤sizeLine; decide),fun g2 hg2=>?_⟩
  have s9:=same_new hg2 (.lst [V.str x])
  refine ⟨g1,g2,_,_,rfl,rfl,s9 _ _ h8,upd_same,(by rw [List.length_map,List.length_take,sizeLine_eq]; show _+1≤_; omega),fun g hg=>?_⟩
  have s10:=same_new hg (.lst ((ws.take j).map V.str ++ [V.str x]))
  refine ⟨_,rfl,_,rfl,_,_,rfl,rfl,_,rfl,q,_,rfl,SqL.of (s10 _ _ (s9 _ _ h8q)),fun g4 hg4=>?_⟩
  rw [show ((j:Nat):Int)+1=((j+1:Nat):Int) by omega,(cut_strs ws (j+1) (by omega)).2]
  have s11:=same_new hg4 (.lst ((ws.drop (j+1)).map V.str))
  refine two (ws.take j ++ [x]) (ws.drop (j+1)) (s11 _ _ (by rw [upd_same,List.map_append]; rfl)) upd_same (by rw [List.length_append,List.length_take,List.length_drop]; show _+1+_≤_; omega) ?_ (d8.trans (Drew.same ((s9.trans s10).trans s11))) (FA8.same ((s9.trans s10).trans s11))
  rw [sS_app]
  have e1:sS [x]=x.length+1:=rfl
  have:=bd j (j+1)
  omega
 refine ⟨_,rfl,rfl,_,rfl,ite2 (fun _=>?_) (fun _=>?_)⟩
 ·refine ⟨rfl,_,rfl,_,rfl,_,rfl,q,_,rfl,SqL.of h6,fun g1 hg1=>?_⟩
  rw [(cut_strs ws j (by omega)).1]
  have s7:=same_new hg1 (.lst ((ws.take j).map V.str))
  have h7:=upd_same (H:=H6) (a:=g1) (o:=.lst ((ws.take j).map V.str))
  have n1:=lst_p FA6 hg1
  generalize upd H6 g1 (.lst ((ws.take j).map V.str))=H7 at s7 h7
  refine ⟨_,rfl,_,rfl,_,rfl,q3,_,rfl,.inl (SqL.of (s7 _ _ g3)),p,sc,_,rfl,by omega,by omega,FA6.same s7,fun r xr hr0 hr1 hxr=>?_⟩
  have FA8:=(FA6.same s7).go hxr
  have up:=Drew.upd (H:=H7) (p:=p) (.lst xr)
  have d8:=(d6.trans (Drew.same (p:=p) s7)).trans up
  have h8:=up _ _ h7 n1
  have h8q:=up _ _ (s7 _ _ h6) nqp
  have g8:=up _ _ (s7 _ _ g3) n3p
  generalize upd H7 p (.lst xr)=H8 at FA8 d8 h8 h8q g8
  obtain ⟨x,hxm,hat⟩:=pick_str (Z3:=Z3) hr0 hr1
  have hxl:=hb x hxm
  refine ⟨q3,_,_,_,rfl,rfl,SqL.of g8,hat,(by show 1≤sizeLine; decide),fun g2 hg2=>?_⟩
  have s9:=same_new hg2 (.lst [V.str x])
  refine ⟨g1,g2,_,_,rfl,rfl,s9 _ _ h8,upd_same,(by rw [List.length_map,List.length_take,sizeLine_eq]; show _+1≤_; omega),fun g hg=>?_⟩
  have s10:=same_new hg (.lst ((ws.take j).map V.str ++ [V.str x]))
  refine ⟨_,rfl,_,rfl,_,rfl,q,_,rfl,SqL.of (s10 _ _ (s9 _ _ h8q)),fun g4 hg4=>?_⟩
  rw [(cut_strs ws j (by omega)).2]
  have s11:=same_new hg4 (.lst ((ws.drop j).map V.str))
  refine two (ws.take j ++ [x]) (ws.drop j) (s11 _ _ (by rw [upd_same,List.map_append]; rfl)) upd_same (by rw [List.length_append,List.length_take,List.length_drop]; show _+1+_≤_; omega) ?_ (d8.trans (Drew.same ((s9.trans s10).trans s11))) (FA8.same ((s9.trans s10).trans s11))
  rw [sS_app]
  have e1:sS [x]=x.length+1:=rfl
  have:=bd j j
  omega
 have ln:∀ (a b:Option Int),(Txt.slice z a b).length≤z.length:=fun a b=>Txt.slice_le z a b
 have l1:=ln none (some ((i:Nat):Int))
 refine ⟨_,rfl,rfl,_,rfl,ite2 (fun _=>?_) (fun _=>?_)⟩
 ·have l2:=ln (some (((i:Nat):Int)+1)) none
  refine ⟨_,rfl,_,rfl,_,rfl,z,rfl,(by rw [sizeLine_eq]; omega),_,rfl,_,rfl,_,_,rfl,rfl,_,rfl,z,rfl,(by rw [sizeLine_eq]; omega),_,_,rfl,rfl,(by rw [sizeLine_eq]; omega),k _ _ ?_ d6 FA6⟩
  rw [add_len]
  omega
 ·refine ⟨_,rfl,_,rfl,_,rfl,z,rfl,(by rw [sizeLine_eq]; omega),_,rfl,p,sc,rfl,FA6,fun y H7 hy d7 FA7=>⟨_,_,rfl,rfl,(by rw [sizeLine_eq]; omega),_,rfl,_,rfl,_,rfl,p,sc,2,rfl,by decide,by decide,FA7,fun r xr hr0 hr1 hxr=>?_⟩⟩
  have l2:=ln (some (((i:Nat):Int)+r)) none
  have l3:=add_len (Txt.slice z none (some ((i:Nat):Int))) y
  refine ⟨_,_,rfl,rfl,_,rfl,z,rfl,(by rw [sizeLine_eq]; omega),_,_,rfl,rfl,(by rw [sizeLine_eq]; omega),k _ _ ?_ ((d6.trans d7).trans (Drew.upd _)) (FA7.go hxr)⟩
  rw [add_len]
  omega
theorem ok_law_row_otherwise {f:Addr} {fd:FuncData} (F:Fun K "_law_row_otherwise" "_law_row_otherwise" s_law_row_otherwise f fd) (Z:Blt mg) (C_law_pick:Cal P w K mg base "_law_pick" 1 ["_law_flow_here","_law_many"] spPick) (C_law_sign:Cal P w K mg base "_law_sign" 2 ["_law_flow_here"] spSign):FnOk P w K mg base CX0 3 f fd ["_law_flow_here","_law_row"] spRowO:=by
 refine F.ok sc_law_row_otherwise (fun vs H Q E h=>?_) (fun cdv A outer s H vs Q E hr h=>?_)
 ·obtain ⟨p,sc,z,rfl,_⟩:=h
  rfl
 obtain ⟨p,sc,z,rfl,hz,FA,k⟩:=h
 exact ro_core Z C_law_pick C_law_sign hr hz FA k (.cons (.cons (.cons (.cons (.cons (.cons (.cons (.cons (.cons (.cons (.cons (.cons (.cons (.cons (.cons .nil))))))))))))))) (.cons (.cons (.cons (.cons (.cons (.cons (.cons .nil))))))) rfl rfl (all_z (by decide +kernel)) (all_z (by decide +kernel))
theorem ixN_at {n j:Nat} (h:j < n):ixN n ((j:Nat):Int)=some j:=by
 unfold ixN
 rw [if_pos (by omega),if_pos (by omega)]
 rfl
theorem drew_put {H H':Hp} {p q:Addr} (d:Drew H H' p) (h:H q=none) (o:HO):Drew H (upd H' q o) p:=fun b u e n=>(upd_ne (ne_of_none e h)).trans (d b u e n)
inductive spOtherI (vs:List V) (H:Hp) (Q:VK):Prop
 | mk (p sc:Addr) (z:Str) (T R:Nat) (h1:vs=[.ref p,.str z]) (h2:TxOk z T R) (h3:T≤200000) (h4:R≤4000) (h5:10≤R) (h6:FlowAt H p sc) (h7:∀ (y:Str) H',TxOk y (3 * T+20) (2 * R+10)→Drew H H' p→FlowAt H' p sc→Q (.str y) H'):spOtherI vs H Q
def spOther:Sp:=fun vs H Q u3_=>spOtherI vs H Q
theorem ot_core {f:Addr} (Z:Blt mg) (C_law_pick:Cal P w K mg base "_law_pick" 1 ["_law_flow_here","_law_many"] spPick) (C_law_row_otherwise:Cal P w K mg base "_law_row_otherwise" 3 ["_law_flow_here","_law_row"] spRowO) {cdv:Value} {A:Around} {outer:List Env} {s:Shared} {H:Hp} {Q:VK} {E:XK} (hr:Room 3 (A.deeper (envOfC "_law_otherwise" (defScope s_law_otherwise) s.heap.objs.size f cdv)))
  {p sc:Addr} {z:Str} {T R:Nat} (hT:TxOk z T R) (hn:T≤200000) (hR:R≤4000) (hR0:10≤R) (FA:FlowAt H p sc) (k:∀ (y:Str) H',TxOk y (3 * T+20) (2 * R+10)→Drew H H' p→FlowAt H' p sc→Q (.str y) H')
  {es1:List Expr} {Z1:List Str} (a1:AllS es1 Z1) (hz1:Z1.length=11) (hb1:∀ z∈Z1,z.length≤10) {p1 p2 p3:Pos} :
  ∃ t,PSs (cxOf CX0 P w K mg base ["_law_flow_here","_law_text","_law_way","_law_rows","_law_at","_law_other","_law_some"] "_law_otherwise" (defScope s_law_otherwise) f cdv A outer s H E).nox ((defBody s_law_otherwise).take 4 ++ .Assign [.Name "_law_some" p1] (.List es1 p2) p3 :: (defBody s_law_otherwise).drop 5) t∧t { nx:=fun _ H'=>Q .non H',rt:=Q } (L2.start ["_law_flow_here","_law_text","_law_way","_law_rows","_law_at","_law_other","_law_some"] [.ref p,.str z]) H:=by
 refine ⟨_,(pss_cons (ps_set (i:=2) sc_law_otherwise.nd (by rfl) (Or.inl (by rfl)) (pe_c C_law_pick (hr.mono (by decide)) (pa_cons (pv 0) (pa_cons pe_int pa_nil)))) 
   (pss_cons (ps_set (i:=3) sc_law_otherwise.nd (by rfl) (Or.inl (by rfl)) (pe_bmK (K:=K) PySem.F.plainAttrs_str PySem.F.slot_str_split PySem.F.type_str_split mt_split (pv 1) (pa_cons pe_str pa_nil))) 
   (pss_cons (ps_set (i:=4) sc_law_otherwise.nd (by rfl) (Or.inl (by rfl)) (pe_c C_law_pick (hr.mono (by decide)) (pa_cons (pv 0) (pa_cons (pe_callB (call_lenK (K:=K)) (by rfl) Z.len bt_len (pa_cons (pv 3) pa_nil)) pa_nil)))) 
   (pss_cons (ps_set (i:=5) sc_law_otherwise.nd (by rfl) (Or.inl (by rfl)) (pe_c C_law_pick (hr.mono (by decide)) (pa_cons (pv 0) (pa_cons (pe_callB (call_lenK (K:=K)) (by rfl) Z.len bt_len (pa_cons (pv 3) pa_nil)) pa_nil)))) 
   (pss_cons (ps_set (i:=6) sc_law_otherwise.nd (by rfl) (Or.inl (by rfl)) (pe_lst (pa_consts a1))) 
   (pss_cut (ps_if (pt_cmpR op_lt (pv 2) pe_int (nomark _)) 
    (pss_one (ps_asg (pe_c C_law_row_otherwise (hr.mono (by decide)) (pa_cons (pv 0) (pa_cons (pe_ix (ix_listK (K:=K)) (pv 3) (pv 4) (fun _ _=>rfl)) pa_nil))) (pg_sub (pv 3) (pv 4) set_list))) 
    (pss_one (ps_if (pt_cmpR op_eq (pv 2) pe_int (nomark _)) 
     (pss_one (ps_set (i:=3) sc_law_otherwise.nd (by rfl) (Or.inl (by rfl)) (pe_op op_cat (pe_slice (sl_listK (K:=K)) (pv 3) po_none (po_some (pv 4))) (pe_slice (sl_listK (K:=K)) (pv 3) (po_some (pe_op op_add (pv 4) pe_int)) po_none)))) 
     (pss_one (ps_if (pt_cmpR op_eq (pv 2) pe_int (nomark _)) 
      (pss_one (ps_set (i:=3) sc_law_otherwise.nd (by rfl) (Or.inl (by rfl)) (pe_op op_cat (pe_slice (sl_listK (K:=K)) (pv 3) po_none (po_some (pe_op op_add (pv 4) pe_int))) (pe_slice (sl_listK (K:=K)) (pv 3) (po_some (pv 4)) po_none)))) 
      (pss_one (ps_if (pt_cmpR op_eq (pv 2) pe_int (nomark _)) 
       (pss_one (ps_asg (pe_tup (pa_cons (pe_ix (ix_listK (K:=K)) (pv 3) (pv 5) (fun _ _=>rfl)) (pa_cons (pe_ix (ix_listK (K:=K)) (pv 3) (pv 4) (fun _ _=>rfl)) pa_nil))) (pg_tupK (K:=K) (n:=2) (by rfl) (pgs_cons (pg_sub (pv 3) (pv 4) set_list) (pgs_cons (pg_sub (pv 3) (pv 5) set_list) pgs_nil))))) 
       (pss_one (ps_set (i:=3) sc_law_otherwise.nd (by rfl) (Or.inl (by rfl)) (pe_op op_cat (pe_op op_cat (pe_slice (sl_listK (K:=K)) (pv 3) po_none (po_some (pv 4))) (pe_lst (pa_cons (pe_ix (ix_listK (K:=K)) (pv 6) (pe_c C_law_pick (hr.mono (by decide)) (pa_cons (pv 0) (pa_cons (pe_callB (call_lenK (K:=K)) (by rfl) Z.len bt_len (pa_cons (pv 6) pa_nil)) pa_nil))) (fun _ _=>rfl)) pa_nil))) (pe_slice (sl_listK (K:=K)) (pv 3) (po_some (pe_op op_add (pv 4) (pe_c C_law_pick (hr.mono (by decide)) (pa_cons (pv 0) (pa_cons pe_int pa_nil))))) po_none))))))))))) 
   (pss_one (ps_ret (pe_bmK (K:=K) PySem.F.plainAttrs_str PySem.F.slot_str_join PySem.F.type_str_join (mt_joinK (K:=K)) pe_str (pa_cons (pv 3) pa_nil)))))))))),?_⟩
 refine (let zz0:TS:=_; let zz1:TS:=tCut _ zz0; let zz2:TS:=tSeq _ zz1; let zz3:TS:=tSeq _ zz2; let zz4:TS:=tSeq _ zz3; let zz5:TS:=tSeq _ zz4; (?_:tSeq _ zz5 _ _ _))
 obtain ⟨hzT,hrR⟩:=hT
 refine ⟨_,rfl,p,sc,8,rfl,by decide,by decide,FA,fun w0 xs0 hw0 hw1 hx0=>?_⟩
 have FA0:=FA.go hx0
 have d0:Drew H (upd H p (.lst xs0)) p:=Drew.upd _
 generalize upd H p (.lst xs0)=H0 at FA0 d0
 refine ⟨_,rfl,rfl,z,⟨#[10]⟩,rfl,rfl,rfl,by omega,fun q hq=>?_⟩
 have hsl:=split_le z ⟨#[10]⟩
 have hS:=sS_split 10 z
 have hpos:=split_pos z ⟨#[10]⟩
 unfold rws at hrR
 have s1:=same_new hq (.lst ((Txt.split z ⟨#[10]⟩).map V.str))
 have h1:=upd_same (H:=H0) (a:=q) (o:=.lst ((Txt.split z ⟨#[10]⟩).map V.str))
 have nqp:=lst_p FA0 hq
 have FA1:=FA0.same s1
 have D1:=Drew.same (p:=p) s1
 generalize upd H0 q (.lst ((Txt.split z ⟨#[10]⟩).map V.str))=H1 at s1 h1 FA1 D1
 generalize Txt.split z ⟨#[10]⟩=ws at h1 hsl hS hpos hrR
 have hml:(ws.map V.str).length=ws.length:=List.length_map ..
 refine ⟨_,rfl,_,rfl,q,_,rfl,.inl (SqL.of h1),p,sc,_,rfl,by omega,by omega,FA1,fun a ys ha0 ha1 hy=>?_⟩
 have FA2:=FA1.go hy
 have D2:=D1.trans (Drew.upd (H:=H1) (p:=p) (.lst ys))
 have h2:=Drew.upd (H:=H1) (p:=p) (.lst ys) _ _ h1 nqp
 generalize upd H1 p (.lst ys)=H2 at FA2 D2 h2
 obtain ⟨j,rfl⟩:∃ j:Nat,a=(j:Int):=⟨a.toNat,by omega⟩
 have hj:j < ws.length:=by omega
 refine ⟨_,rfl,_,rfl,q,_,rfl,.inl (SqL.of h2),p,sc,_,rfl,by omega,by omega,FA2,fun b xs3 hv0 hv1 hx3=>?_⟩
 have FA3:=FA2.go hx3
 have D3:=D2.trans (Drew.upd (H:=H2) (p:=p) (.lst xs3))
 have h3:=Drew.upd (H:=H2) (p:=p) (.lst xs3) _ _ h2 nqp
 generalize upd H2 p (.lst xs3)=H3 at FA3 D3 h3
 obtain ⟨i,rfl⟩:∃ i:Nat,b=(i:Int):=⟨b.toNat,by omega⟩
 have hi:i < ws.length:=by omega
 refine ⟨(by rw [List.length_map,hz1]; decide),fun q1 hq1=>?_⟩
 have t1:=same_new hq1 (.lst (Z1.map V.str))
 have g4:=upd_same (H:=H3) (a:=q1) (o:=.lst (Z1.map V.str))
 have n1p:=lst_p FA3 hq1
 have FA4:=FA3.same t1
 have D4:=D3.trans (Drew.same (p:=p) t1)
 have h4:=t1 _ _ h3
 generalize upd H3 q1 (.lst (Z1.map V.str))=H4 at t1 g4 FA4 D4 h4
 clear t1 FA3 D3 h3 h2 D2 FA2 h1 D1 FA1 s1
 have hz3:(Z1.map V.str).length=11:=by rw [List.length_map,hz1]
 have bd:∀ (m n:Nat),sS (ws.take m)+sS (ws.drop n)≤2 * T+2:=fun m n=>by
  have h1:=(sS_td ws m).1
  have h2:=(sS_td ws n).2
  omega
 have put:∀ {H':Hp} (o:HO),Drew H0 H' p→FlowAt H' p sc→Drew H0 (upd H' q o) p∧FlowAt (upd H' q o) p sc:=fun {H'} o D F=>by
  have D':=drew_put D hq o
  obtain ⟨xs,e,r⟩:=F.here
  exact ⟨D',FlowAt.drew FA0 D' ⟨xs,(upd_ne nqp.symm).trans e,r⟩⟩
 refine ⟨fun σ' H'=>∃ (g:Addr) (us:List Str),σ'=[some (.ref p),some (.str z),some (.int w0),some (.ref g),some (.int (j:Int)),some (.int (i:Int)),some (.ref q1)]∧H' g=some (.lst (us.map V.str))∧sS us≤3 * T+20∧(∀ r∈us,r.length≤2 * R+10)∧Drew H0 H' p∧FlowAt H' p sc,?_,?_⟩
 ·refine ⟨_,rfl,_,_,rfl,rfl,_,rfl,ite2 (fun _=>?_) (fun _=>?_)⟩
  ·have hat:ws[j]? = some ws[j]:=List.getElem?_eq_getElem hj
   have hm:=hrR ws[j] (List.getElem_mem hj)
   have hm2:=sS_mem (List.getElem_mem hj)
   generalize ws[j]=y at hat hm hm2
   refine ⟨_,rfl,_,rfl,_,rfl,q,_,_,_,rfl,rfl,SqL.of h4,atI_nat (v:=V.str y) (by rw [List.getElem?_map,hat]; rfl),p,sc,y,rfl,by omega,FA4,fun x H5 hx d5 FA5=>?_⟩
   refine ⟨_,rfl,_,rfl,q,_,_,j,rfl,rfl,d5 _ _ h4 nqp,ixN_at (by rw [hml]; exact hj),?_⟩
   obtain ⟨D6,F6⟩:=put (.lst ((ws.map V.str).set j (V.str x))) (D4.trans d5) FA5
   refine ⟨q,ws.set j x,rfl,by rw [upd_same,List.map_set],?_,fun r hr=>?_,D6,F6⟩
   ·have:=sS_set x ws j
    omega
   ·rcases List.mem_or_eq_of_mem_set hr with e | e
    ·have:=hrR r e; omega
    ·rw [e]; omega
  refine ⟨_,rfl,rfl,_,rfl,ite2 (fun _=>?_) (fun _=>?_)⟩
  ·refine ⟨_,rfl,_,rfl,_,rfl,q,_,rfl,SqL.of h4,fun g1 hg1=>?_⟩
   rw [(cut_strs ws j (by omega)).1]
   have s7:=same_new hg1 (.lst ((ws.take j).map V.str))
   have h7:=upd_same (H:=H4) (a:=g1) (o:=.lst ((ws.take j).map V.str))
   generalize upd H4 g1 (.lst ((ws.take j).map V.str))=H7 at s7 h7
   refine ⟨_,rfl,_,rfl,_,_,rfl,rfl,_,rfl,q,_,rfl,SqL.of (s7 _ _ h4),fun g4 hg4=>?_⟩
   rw [show ((j:Nat):Int)+1=((j+1:Nat):Int) by omega,(cut_strs ws (j+1) (by omega)).2]
   have s8:=same_new hg4 (.lst ((ws.drop (j+1)).map V.str))
   refine ⟨g1,g4,_,_,rfl,rfl,s8 _ _ h7,upd_same,(by rw [List.length_map,List.length_map,List.length_take,List.length_drop,sizeLine_eq]; omega),fun g hg=>?_⟩
   have s9:=same_new hg (.lst ((ws.take j).map V.str ++ (ws.drop (j+1)).map V.str))
   have s79:=(s7.trans s8).trans s9
   refine ⟨g,ws.take j ++ ws.drop (j+1),rfl,by rw [upd_same,List.map_append],by rw [sS_app]; have:=bd j (j+1); omega,fun r hr=>?_,D4.trans (Drew.same s79),FA4.same s79⟩
   have:r∈ws:=(List.mem_append.mp hr).elim List.mem_of_mem_take List.mem_of_mem_drop
   have:=hrR r this
   omega
  refine ⟨_,rfl,rfl,_,rfl,ite2 (fun _=>?_) (fun _=>?_)⟩
  ·refine ⟨_,rfl,_,rfl,_,_,rfl,rfl,_,rfl,q,_,rfl,SqL.of h4,fun g1 hg1=>?_⟩
   rw [show ((j:Nat):Int)+1=((j+1:Nat):Int) by omega,(cut_strs ws (j+1) (by omega)).1]
   have s7:=same_new hg1 (.lst ((ws.take (j+1)).map V.str))
   have h7:=upd_same (H:=H4) (a:=g1) (o:=.lst ((ws.take (j+1)).map V.str))
   generalize upd H4 g1 (.lst ((ws.take (j+1)).map V.str))=H7 at s7 h7
   refine ⟨_,rfl,_,rfl,_,rfl,q,_,rfl,SqL.of (s7 _ _ h4),fun g4 hg4=>?_⟩
   rw [(cut_strs ws j (by omega)).2]
   have s8:=same_new hg4 (.lst ((ws.drop j).map V.str))
   refine ⟨g1,g4,_,_,rfl,rfl,s8 _ _ h7,upd_same,(by rw [List.length_map,List.length_map,List.length_take,List.length_drop,sizeLine_eq]; omega),fun g hg=>?_⟩
   have s9:=same_new hg (.lst ((ws.take (j+1)).map V.str ++ (ws.drop j).map V.str))
   have s79:=(s7.trans s8).trans s9
   refine ⟨g,ws.take (j+1) ++ ws.drop j,rfl,by rw [upd_same,List.map_append],by rw [sS_app]; have:=bd (j+1) j; omega,fun r hr=>?_,D4.trans (Drew.same s79),FA4.same s79⟩
   have:r∈ws:=(List.mem_append.mp hr).elim List.mem_of_mem_take List.mem_of_mem_drop
   have:=hrR r this
   omega
  refine ⟨_,rfl,rfl,_,rfl,ite2 (fun _=>?_) (fun _=>?_)⟩
  ·have a1:atI (ws.map V.str) ((i:Nat):Int)=some (.str ws[i]):=atI_nat (by rw [List.getElem?_map,List.getElem?_eq_getElem hi]; rfl)
   have a2:atI (ws.map V.str) ((j:Nat):Int)=some (.str ws[j]):=atI_nat (by rw [List.getElem?_map,List.getElem?_eq_getElem hj]; rfl)
   have m1:=List.getElem_mem hi
   have m2:=List.getElem_mem hj
   generalize ws[i]=zi at a1 m1
   generalize ws[j]=zj at a2 m2
   refine ⟨_,rfl,_,rfl,q,_,_,_,rfl,rfl,SqL.of h4,a1,_,rfl,_,rfl,q,_,_,_,rfl,rfl,SqL.of h4,a2,(by show 2≤sizeLine; decide),fun tp htp=>?_⟩
   have s5:=same_new htp (.tup [V.str zi,V.str zj])
   have h5t:=upd_same (H:=H4) (a:=tp) (o:=.tup [V.str zi,V.str zj])
   have h5g:=s5 _ _ h4
   have D5:=D4.trans (Drew.same (p:=p) s5)
   have F5:=FA4.same s5
   generalize upd H4 tp (.tup [V.str zi,V.str zj])=H5 at s5 h5t h5g D5 F5
   refine ⟨tp,_,rfl,SqT.of h5t,rfl,_,_,rfl,?_⟩
   refine ⟨_,rfl,_,rfl,q,_,_,j,rfl,rfl,h5g,ixN_at (by rw [hml]; exact hj),?_⟩
   have e5:=upd_same (H:=H5) (a:=q) (o:=.lst ((ws.map V.str).set j (V.str zi)))
   have hl5:((ws.map V.str).set j (V.str zi)).length=ws.length:=by rw [List.length_set,hml]
   obtain ⟨D6,F6⟩:=put (.lst ((ws.map V.str).set j (V.str zi))) D5 F5
   refine ⟨_,_,rfl,_,rfl,_,rfl,q,_,_,i,rfl,rfl,e5,ixN_at (by rw [hl5]; exact hi),rfl,?_⟩
   have hsets:((ws.map V.str).set j (V.str zi)).set i (V.str zj)=((ws.set j zi).set i zj).map V.str:=by rw [List.map_set,List.map_set]
   obtain ⟨D7,F7⟩:=put (.lst (((ws.map V.str).set j (V.str zi)).set i (V.str zj))) D6 F6
   refine ⟨q,(ws.set j zi).set i zj,rfl,by rw [upd_same,hsets],?_,fun r hr=>?_,D7,F7⟩
   ·have:=sS_set zj (ws.set j zi) i
    have:=sS_set zi ws j
    have:=sS_mem m1
    have:=sS_mem m2
    omega
   ·rcases List.mem_or_eq_of_mem_set hr with y1 | y1
    ·rcases List.mem_or_eq_of_mem_set y1 with y2 | y2
     ·have:=hrR r y2; omega
     ·rw [y2]; have:=hrR _ m1; omega
    ·rw [y1]; have:=hrR _ m2; omega
  ·refine ⟨_,rfl,_,rfl,_,rfl,q,_,rfl,SqL.of h4,fun g1 hg1=>?_⟩
   rw [(cut_strs ws j (by omega)).1]
   have s7:=same_new hg1 (.lst ((ws.take j).map V.str))
   have h7:=upd_same (H:=H4) (a:=g1) (o:=.lst ((ws.take j).map V.str))
   have n1:=lst_p FA4 hg1
   generalize upd H4 g1 (.lst ((ws.take j).map V.str))=H7 at s7 h7
   refine ⟨_,rfl,_,rfl,_,rfl,q1,_,rfl,.inl (SqL.of (s7 _ _ g4)),p,sc,_,rfl,by omega,by omega,FA4.same s7,fun r xr hr0 hr1 hxr=>?_⟩
   have FA8:=(FA4.same s7).go hxr
   have up:=Drew.upd (H:=H7) (p:=p) (.lst xr)
   have d8:=(D4.trans (Drew.same (p:=p) s7)).trans up
   have h8:=up _ _ h7 n1
   have h8q:=up _ _ (s7 _ _ h4) nqp
   have g8:=up _ _ (s7 _ _ g4) n1p
   generalize upd H7 p (.lst xr)=H8 at FA8 d8 h8 h8q g8
   obtain ⟨x,hxm,hat⟩:=pick_str (Z3:=Z1) hr0 hr1
   have hxl:=hb1 x hxm
   refine ⟨q1,_,_,_,rfl,rfl,SqL.of g8,hat,(by show 1≤sizeLine; decide),fun g2 hg2=>?_⟩
   have s9:=same_new hg2 (.lst [V.str x])
   refine ⟨g1,g2,_,_,rfl,rfl,s9 _ _ h8,upd_same,(by rw [List.length_map,List.length_take,sizeLine_eq]; show _+1≤_; omega),fun g hg=>?_⟩
   have s10:=same_new hg (.lst ((ws.take j).map V.str ++ [V.str x]))
   have h10:upd (upd H8 g2 (.lst [V.str x])) g (.lst ((ws.take j).map V.str ++ [V.str x])) g=some (.lst ((ws.take j ++ [x]).map V.str)):=by rw [upd_same,List.map_append]; rfl
   have s810:=s9.trans s10
   have ngp:=lst_p (FA8.same s9) hg
   generalize upd (upd H8 g2 (.lst [V.str x])) g (.lst ((ws.take j).map V.str ++ [V.str x]))=H10 at s810 h10
   refine ⟨_,rfl,_,rfl,_,rfl,p,sc,2,rfl,by decide,by decide,FA8.same s810,fun r2 xr2 h20 h21 hxr2=>?_⟩
   have FA11:=(FA8.same s810).go hxr2
   have up2:=Drew.upd (H:=H10) (p:=p) (.lst xr2)
   have d11:=(d8.trans (Drew.same (p:=p) s810)).trans up2
   have h11q:=up2 _ _ (s810 _ _ h8q) nqp
   have h11g:=up2 _ _ h10 ngp
   generalize upd H10 p (.lst xr2)=H11 at FA11 d11 h11q h11g
   refine ⟨_,_,rfl,rfl,_,rfl,q,_,rfl,SqL.of h11q,fun g5 hg5=>?_⟩
   obtain ⟨m,hm⟩:∃ m:Nat,((j:Nat):Int)+r2=(m:Int):=⟨(((j:Nat):Int)+r2).toNat,by omega⟩
   rw [hm,(cut_strs ws m (by omega)).2]
   have s12:=same_new hg5 (.lst ((ws.drop m).map V.str))
   refine ⟨g,g5,_,_,rfl,rfl,s12 _ _ h11g,upd_same,(by rw [List.length_map,List.length_map,List.length_append,List.length_take,List.length_drop,sizeLine_eq]; show _+1+_≤_; omega),fun g6 hg6=>?_⟩
   have s13:=same_new hg6 (.lst ((ws.take j ++ [x]).map V.str ++ (ws.drop m).map V.str))
   refine ⟨g6,(ws.take j ++ [x]) ++ ws.drop m,rfl,by rw [upd_same,← List.map_append],?_,fun r hr=>?_,d11.trans (Drew.same (s12.trans s13)),FA11.same (s12.trans s13)⟩
   ·rw [sS_app,sS_app]
    have e1:sS [x]=x.length+1:=rfl
    have:=bd j m
    omega
   ·rcases List.mem_append.mp hr with y1 | y1
    ·rcases List.mem_append.mp y1 with y2 | y2
     ·have:=hrR r (List.mem_of_mem_take y2); omega
     ·rw [List.mem_singleton.mp y2]; omega
    ·have:=hrR r (List.mem_of_mem_drop y1); omega
 ·rintro σ' H' ⟨g,us,rfl,hg,hs,hr',D',F'⟩
  refine ⟨rfl,_,rfl,_,g,us,rfl,rfl,SqL.of hg,?_,?_⟩
  ·have:=sS_eq us
   rw [s_feed]
   show _+_ * 1≤_
   omega
  ·rw [s_feed]
   exact k _ _ ⟨Nat.le_trans (join_sS 10 us) hs,rows_of hr'⟩ (d0.trans D') F'
theorem ok_law_otherwise {f:Addr} {fd:FuncData} (F:Fun K "_law_otherwise" "_law_otherwise" s_law_otherwise f fd) (Z:Blt mg) (C_law_pick:Cal P w K mg base "_law_pick" 1 ["_law_flow_here","_law_many"] spPick) (C_law_row_otherwise:Cal P w K mg base "_law_row_otherwise" 3 ["_law_flow_here","_law_row"] spRowO):FnOk P w K mg base CX0 4 f fd ["_law_flow_here","_law_text"] spOther:=by
 refine F.ok sc_law_otherwise (fun vs H Q E h=>?_) (fun cdv A outer s H vs Q E hr h=>?_)
 ·obtain ⟨p,sc,z,T,R,rfl,_⟩:=h
  rfl
 obtain ⟨p,sc,z,T,R,rfl,hT,hn,hR,hR0,FA,k⟩:=h
 exact ot_core Z C_law_pick C_law_row_otherwise hr hT hn hR hR0 FA k (.cons (.cons (.cons (.cons (.cons (.cons (.cons (.cons (.cons (.cons (.cons .nil))))))))))) rfl (all_z (by decide +kernel))
def dR:Rd→Dt
 | .inl n=>.tup [.str "refused",.int (n:Int)]
 | .inr (l,F)=>.tup [.str "told",dMach l (bOf F) (F.getD 1 []) (F.drop 2)]
theorem dR_dep (r:Rd):(dR r).dep < 5:=by
 match r with
 | .inl n=>
  show (Dt.tup [.str "refused",.int (n:Int)]).dep < 5
  simp [Dt.dep]
 | .inr (l,F)=>
  have:=dMach_dep l (bOf F) (F.getD 1 []) (F.drop 2)
  show (Dt.tup [.str "told",dMach l (bOf F) (F.getD 1 []) (F.drop 2)]).dep < 5
  generalize dMach l (bOf F) (F.getD 1 []) (F.drop 2)=d at this
  rw [Dt.dep]
  simp only [List.map_cons,List.map_nil,List.foldr_cons,List.foldr_nil]
  have e:(Dt.str (Str.ofString "told")).dep=0:=by simp [Dt.dep]
  rw [e]
  omega
theorem two_den {H:Hp} {q:Addr} {x y:V} {a b:Dt} (h:H q=some (.tup [x,y])) (hx:Den H x a) (hy:Den H y b):Den H (.ref q) (.tup [a,b]):=.tup h (by show 2≤1000000; decide) rfl fun i u d hu hd=>by
 match i,hu,hd with
 | 0,hu,hd=>cases hu; cases hd; exact hx
 | 1,hu,hd=>cases hu; cases hd; exact hy
 | i+2,hu,_=>simp at hu
def RdOk:Rd→Prop
 | .inl _=>True
 | .inr (l,F)=>OkM l (bOf F) (F.getD 1 []) (F.drop 2)
theorem res_den {H:Hp} {v:V}:∀ {r:Rd},ResAt H v r→RdOk r→Den H v (dR r)
 | .inl n,h,_=>by
  obtain ⟨a,rfl,h⟩:=h
  exact two_den h (.str _) (.int _)
 | .inr (l,F),h,ok=>by
  obtain ⟨a,m,rfl,h,M⟩:=h
  exact two_den h (.str _) (mach_den M ok)
theorem rd_ok {t:Str} (ht:t.length≤800):RdOk (rdT (rws t)):=by
 cases h:rdT (rws t) with
 | inl n=>trivial
 | inr x=>
  obtain ⟨l,F⟩:=x
  obtain ⟨es,st,e,ok,_⟩:=rdT_told ht h
  show OkM l (bOf F) (F.getD 1 []) (F.drop 2)
  rw [show F.getD 1 []=es by rw [e]; rfl,show F.drop 2=st by rw [e]; rfl]
  exact ok
theorem rows400 {l:Str} {b:Nat} {es:List Nat} {st:List (List Nat)} (h:OkM l b es st) (he:es.length≤30):∀ y∈rowsL l b es st,y.length≤400:=fun y hy=>by
 have hl:=h.len
 unfold rowsL at hy
 rcases List.mem_append.mp hy with z | z
 ·simp only [List.mem_cons,List.not_mem_nil,or_false] at z
  rcases z with z | z | z
  ·rw [z]
   have:=join_le 32 [Str.ofString "letters",l]
   simp only [List.map_cons,List.map_nil,List.sum_cons,List.sum_nil,List.length_cons,List.length_nil,n_letters] at this
   show (Txt.join ⟨#[32]⟩ [Str.ofString "letters",l]).length≤400
   omega
  ·rw [z]
   have:=row_len (name:=Str.ofString "begin") (ns:=[b]) (by rw [n_begin]; decide) (fun x hx=>by rw [List.mem_singleton.mp hx]; exact h.beg)
   simp only [List.length_cons,List.length_nil] at this
   omega
  ·rw [z]
   have:=row_len (name:=Str.ofString "ends") (ns:=es) (by rw [n_ends]; decide) h.ends.2
   omega
 ·obtain ⟨r,hr,rfl⟩:=List.mem_map.mp z
  have:=row_len (name:=Str.ofString "room") (ns:=r) (by rw [n_room]; decide) (h.rows r hr).2
  have:=(h.rows r hr).1
  omega
theorem good_tx {l:Str} {b:Nat} {es:List Nat} {st:List (List Nat)} (h:OkM l b es st) (he:es.length≤30) (hs:st.length≤50):TxOk (machS l b es st) 22000 400:=by
 have h4:=rows400 h he
 have hr:rws (machS l b es st)=rowsL l b es st:=split_mach h
 refine ⟨?_,by rw [hr]; exact h4⟩
 have h1:=join_le 10 (rowsL l b es st)
 have h2:=sum_le h4
 have h3:=rows_len l b es st
 rw [h3] at h1 h2
 show (Txt.join ⟨#[10]⟩ (rowsL l b es st)).length≤22000
 omega
def fT:Nat→Nat
 | 0=>22000
 | i+1=>3 * fT i+20
def fR:Nat→Nat
 | 0=>400
 | i+1=>2 * fR i+10
theorem TxOk.mono {t:Str} {T R T' R':Nat} (h:TxOk t T R) (h1:T≤T') (h2:R≤R'):TxOk t T' R':=⟨Nat.le_trans h.1 h1,fun y hy=>Nat.le_trans (h.2 y hy) h2⟩
theorem turns:∀ i,i≤3→fT i≤594260∧fR i≤3270:=by decide
theorem turns2:∀ i,i < 3→fT i≤200000∧fR i≤4000∧10≤fR i:=by decide
theorem empty_tx:TxOk (Str.ofString "") 594260 3270:=by
 have e:(Str.ofString "").length=0:=by decide +kernel
 refine ⟨by omega,fun y hy=>?_⟩
 have:=split_mem (c:=10) hy
 omega
theorem ResAt.keep {H H':Hp} {v:V}:∀ {r:Rd},ResAt H v r→Same H H'→ResAt H' v r
 | .inl _,⟨a,e,h⟩,s=>⟨a,e,s _ _ h⟩
 | .inr (_,_),⟨a,m,e,h,M⟩,s=>⟨a,m,e,s _ _ h,M.keep (Tk.same s)⟩
theorem with_h {H:Hp} {B:Hp→Prop} {G:Prop} (h:(∀ H',Same H H'→B H')→G) (b:∀ H',Same H H'→B H'):G:=h b
theorem ok_law {f:Addr} {fd:FuncData} (F:Fun K "law" "law" s_law f fd) (Z:Blt mg) (C_law_flow:Cal P w K mg base "_law_flow" 1 ["_law_script"] (spFlow K)) (C_law_pick:Cal P w K mg base "_law_pick" 1 ["_law_flow_here","_law_many"] spPick) (C_law_any_machine:Cal P w K mg base "_law_any_machine" 3 ["_law_flow_here"] spAny) (C_law_machine_text:Cal P w K mg base "_law_machine_text" 1 ["_law_machine"] spShowM)
  (C_law_otherwise:Cal P w K mg base "_law_otherwise" 4 ["_law_flow_here","_law_text"] spOther) (C_law_read:Cal P w K mg base "_law_read" 2 ["_law_text"] spLRead) (C_law_asked:Cal P w K mg base "_law_asked" 6 ["_law_text"] spAsked) (C_show_machine:Cal P w K mg base "show_machine" 2 ["machine"] spShowM) (C_law_alike:Cal P w K mg base "_law_alike" 5 ["_law_found","_law_due"] (spAlike 5)):FnOk P w K mg base CX0 7 f fd ["_law_script"] (spLaw K):=by
 refine F.ok sc_law (fun vs H Q E h=>?_) (fun cdv A outer s H vs Q E hr h=>?_)
 ·obtain ⟨a,ns,rfl,_⟩:=h
  rfl
 obtain ⟨a,ns,rfl,hS,h63,k⟩:=h
 refine ⟨_,(pss_cons (ps_set (i:=1) sc_law.nd (by rfl) (Or.inl (by rfl)) (pe_c C_law_flow (hr.mono (by decide)) (pa_cons (pv 0) pa_nil))) 
   (pss_cons (ps_set (i:=2) sc_law.nd (by rfl) (Or.inl (by rfl)) (pe_c C_law_any_machine (hr.mono (by decide)) (pa_cons (pv 1) pa_nil))) 
   (pss_cons (ps_set (i:=3) sc_law.nd (by rfl) (Or.inl (by rfl)) (pe_c C_law_machine_text (hr.mono (by decide)) (pa_cons (pv 2) pa_nil))) 
   (pss_cons (ps_set (i:=4) sc_law.nd (by rfl) (Or.inl (by rfl)) (pe_lst (pa_cons pe_str pa_nil))) 
   (pss_cons (ps_for PassesOwn.never (by rfl) (pi_range1 (by rfl) Z.range (pa_cons pe_int pa_nil)) (pg_name (i:=5) sc_law.nd (by rfl) (Or.inl (by rfl))) 
    (pss_cons (ps_set (i:=6) sc_law.nd (by rfl) (Or.inl (by rfl)) (pv 3)) 
    (pss_cons (ps_for PassesOwn.never (by rfl) (pi_range1 (by rfl) Z.range (pa_cons (pe_op op_add pe_int (pe_c C_law_pick (hr.mono (by decide)) (pa_cons (pv 1) (pa_cons pe_int pa_nil)))) pa_nil)) (pg_name (i:=7) sc_law.nd (by rfl) (Or.inl (by rfl))) 
     (pss_one (ps_set (i:=6) sc_law.nd (by rfl) (Or.inl (by rfl)) (pe_c C_law_otherwise (hr.mono (by decide)) (pa_cons (pv 1) (pa_cons (pv 6) pa_nil)))))) 
    (pss_one (ps_expr (pe_bmK (K:=K) PySem.F.plainAttrs_list PySem.F.slot_list_append PySem.F.type_list_append mt_append (pv 4) (pa_cons (pv 6) pa_nil))))))) 
   (pss_cons (ps_for PassesOwn.never (by rfl) (pi_listK (K:=K) (pv 4)) (pg_name (i:=6) sc_law.nd (by rfl) (Or.inl (by rfl))) 
    (pss_cons (ps_set (i:=8) sc_law.nd (by rfl) (Or.inl (by rfl)) (pe_c C_law_read (hr.mono (by decide)) (pa_cons (pv 6) pa_nil))) 
    (pss_cons (ps_if (PW.pt (pw_and (pt_cmpR op_lt (pe_callB call_len_str (by rfl) Z.len bt_len (pa_cons (pv 6) pa_nil)) pe_int (nomark _)) (pw_and1 (pt_not (pt_truthK (K:=K) (pe_c C_law_alike (hr.mono (by decide)) (pa_cons (pe_c C_law_asked (hr.mono (by decide)) (pa_cons (pv 6) pa_nil)) (pa_cons (pv 8) pa_nil))) (fun _=>rfl)))))) 
     (pss_one (ps_ret pe_bl)) pss_nil) 
    (pss_cons (ps_if (PW.pt (pw_and (pt_cmpR op_lt (pe_callB call_len_str (by rfl) Z.len bt_len (pa_cons (pv 6) pa_nil)) pe_int (nomark _)) (pw_and (pt_cmpR op_eq (pe_ix (ix_tupK (K:=K)) (pv 8) pe_int (fun _ _=>rfl)) pe_str (nomark _)) (pw_and1 (pt_cmpR op_ne (pe_c C_show_machine (hr.mono (by decide)) (pa_cons (pe_ix (ix_tupK (K:=K)) (pv 8) pe_int (fun _ _=>rfl)) pa_nil)) (pv 6) (nomark _)))))) 
     (pss_one (ps_ret pe_bl)) pss_nil) 
    (pss_one (ps_if (pt_not (pt_truthK (K:=K) (pe_c C_law_alike (hr.mono (by decide)) (pa_cons (pe_c C_law_asked (hr.mono (by decide)) (pa_cons (pv 3) pa_nil)) (pa_cons (pe_tup (pa_cons pe_str (pa_cons (pv 2) pa_nil))) pa_nil))) (fun _=>rfl))) 
     (pss_one (ps_ret pe_bl)) pss_nil)))))) 
   (pss_one (ps_ret pe_bl)))))))),?_⟩
 refine (let zz0:TS:=_; let zz1:TS:=_; let zz2:TS:=tSeq _ zz1; let zz3:TS:=tSeq _ zz2; let zz4:TS:=tSeq _ zz3; let zz5:TS:=tSeq (tFor _ _ zz4) zz0; let zz6:TS:=_; let zz7:TS:=tSeq _ zz6; let zz8:TS:=tSeq _ zz7; let zz9:TS:=tSeq (tFor _ _ zz8) zz5; let zz10:TS:=tSeq _ zz9; let zz11:TS:=tSeq _ zz10; let zz12:TS:=tSeq _ zz11; (?_:tSeq _ zz12 _ _ _))
 refine ⟨_,rfl,a,ns,rfl,hS,fun p sc H1 hp e1 FA1=>?_⟩
 refine ⟨_,rfl,p,sc,rfl,FA1,fun m l b es st H2 M2 ok he hst d2 FA2=>?_⟩
 refine ⟨_,rfl,m,l,b,es,st,rfl,M2,ok,fun H3 e3=>?_⟩
 have FA3:=FA2.same e3
 have M3:=M2.keep (Tk.same e3)
 have hgt:=good_tx ok he hst
 have hgr:rdT (rws (machS l b es st))=.inr (l,[b] :: es :: st):=by
  rw [show rws (machS l b es st)=rowsL l b es st from split_mach ok]
  exact rdT_good ok
 generalize machS l b es st=gt at hgt hgr
 refine ⟨(by show 1≤sizeLine; decide),fun tp htp=>?_⟩
 have s4:=same_new htp (.lst [V.str (Str.ofString "")])
 have h4:=upd_same (H:=H3) (a:=tp) (o:=.lst [V.str (Str.ofString "")])
 have ntp:=lst_p FA3 htp
 have FA4:=FA3.same s4
 have M4:=M3.keep (Tk.same s4)
 generalize upd H3 tp (.lst [V.str (Str.ofString "")])=H4 at s4 h4 FA4 M4
 refine ⟨_,rfl,by decide,by decide,?_⟩
 refine for_range (lo:=0) (n:=8) (fun i σ H5=>∃ (us:List Str) (v5 v6 v7 v8:Option V),σ=[some (.ref a),some (.ref p),some (.ref m),some (.str gt),some (.ref tp),v5,v6,v7,v8]∧H5 tp=some (.lst (us.map V.str))∧us.length=i+1∧(∀ t∈us,TxOk t 594260 3270)∧FlowAt H5 p sc∧MT H5 m l b es st∧Drew H3 H5 p) ⟨[Str.ofString ""],none,none,none,none,rfl,h4,rfl,fun t ht=>by rw [List.mem_singleton.mp ht]; exact empty_tx,FA4,M4,Drew.same s4⟩ ?_ ?_
 ·rintro i σ H5 hi ⟨us,v5,v6,v7,v8,rfl,h5,hul,hus,FA5,M5,D5⟩
  refine ⟨_,rfl,?_⟩
  refine ⟨_,rfl,p,sc,3,rfl,by decide,by decide,FA5,fun r xr hr0 hr1 hxr=>⟨_,_,rfl,rfl,_,rfl,by omega,by omega,?_⟩⟩
  have FA6:=FA5.go hxr
  have up:=Drew.upd (H:=H5) (p:=p) (.lst xr)
  have h6:=up _ _ h5 ntp
  have M6:=M5.keep (Tk.drew FA5 up)
  have D6:=D5.trans up
  generalize upd H5 p (.lst xr)=H6 at FA6 h6 M6 D6
  refine for_range (lo:=0) (n:=(1+r).toNat) (fun j σ H7=>∃ (t:Str) (v7:Option V),σ=[some (.ref a),some (.ref p),some (.ref m),some (.str gt),some (.ref tp),some (.int (0+(i:Int))),some (.str t),v7,v8]∧H7 tp=some (.lst (us.map V.str))∧TxOk t (fT j) (fR j)∧FlowAt H7 p sc∧MT H7 m l b es st∧Drew H3 H7 p) ⟨gt,v7,rfl,h6,hgt,FA6,M6,D6⟩ ?_ ?_
  ·rintro j σ H7 hj ⟨t,v7,rfl,h7,ht,FA7,M7,D7⟩
   obtain ⟨q1,q2,q3⟩:=turns2 j (by omega)
   refine ⟨_,rfl,_,rfl,p,sc,t,fT j,fR j,rfl,ht,q1,q2,q3,FA7,fun y H8 hy d8 FA8=>?_⟩
   exact ⟨y,_,rfl,d8 _ _ h7 ntp,hy,FA8,M7.keep (Tk.drew FA7 d8),D7.trans d8⟩
  ·rintro σ H7 ⟨t,v7,rfl,h7,ht,FA7,M7,D7⟩
   obtain ⟨q1,q2⟩:=turns (1+r).toNat (by omega)
   refine ⟨_,rfl,.inl ⟨rfl,_,SqL.of h7⟩,_,rfl,tp,_,_,rfl,rfl,h7,(by rw [List.length_map,hul,sizeLine_eq]; omega),?_⟩
   have D8:=drew_put D7 htp (.lst (us.map V.str ++ [V.str t]))
   obtain ⟨xs,e,r8⟩:=FA7.here
   refine ⟨us ++ [t],_,_,_,_,rfl,by rw [upd_same,List.map_append]; rfl,by rw [List.length_append,hul]; rfl,fun y hy=>?_,FlowAt.drew FA3 D8 ⟨xs,(upd_ne ntp.symm).trans e,r8⟩,M7.keep (Tk.lst h7 _),D8⟩
   rcases List.mem_append.mp hy with z | z
   ·exact hus y z
   ·rw [List.mem_singleton.mp z]; exact ht.mono q1 q2
 ·rintro σ H5 ⟨us,v5,v6,v7,v8,rfl,h5,hul,hus,FA5,M5,D5⟩
  refine ⟨_,rfl,tp,rfl,⟨_,SqL.of h5⟩,?_⟩
  refine for_list (K:=K) (a:=tp) (xs:=us.map V.str) (fun i σ H6=>∃ (v6 v8:Option V),σ=[some (.ref a),some (.ref p),some (.ref m),some (.str gt),some (.ref tp),v5,v6,v7,v8]∧Same H5 H6) ⟨v6,v8,rfl,Same.refl _⟩ (fun i σ H6 _ h=>?_) ?_ ?_
  ·obtain ⟨_,_,_,e6⟩:=h
   exact SqL.of (e6 _ _ h5)
  ·rintro i x σ H6 hx ⟨v6,v8,rfl,e6⟩
   rw [List.getElem?_map] at hx
   cases hui:us[i]? with
   | none=>rw [hui] at hx; cases hx
   | some t=>
   rw [hui] at hx
   cases hx
   obtain ⟨ht1,ht2⟩:=hus t (List.mem_of_getElem? hui)
   refine ⟨_,rfl,t,rfl,by omega,fun y hy=>Nat.le_trans (ht2 y hy) (by decide),fun v H7 e7 RA=>?_⟩
   have htl:t.length≤sizeLine:=by rw [sizeLine_eq]; omega
   have hok:decide ((t.length:Int) < 801)=true→t.length≤800:=fun c=>by have:=of_decide_eq_true c; omega
   have hrw:t.length≤800→∀ y∈rws t,y.length≤1000:=fun c y hy=>Nat.le_trans (split_mem (c:=10) hy) (by omega)
   refine ⟨_,rfl,t,rfl,htl,_,_,rfl,rfl,_,rfl,?_⟩
   refine with_h (H:=H7) (fun rest=>ite2 (fun c=>⟨_,rfl,t,rfl,by omega,hrw (hok c),fun v2 H8 e8 RA2=>⟨_,rfl,_,_,dR (rdT (rws t)),rfl,dR_dep _,res_den RA2 (rd_ok (hok c)),res_den (RA.keep e8) (rd_ok (hok c)),fun H9 e9=>⟨_,rfl,iteF (rest H9 (e8.trans e9))⟩⟩⟩) (fun c=>iteF (rest H7 (Same.refl _)))) (fun H9 e9=>?_)
   refine ⟨_,rfl,t,rfl,htl,_,_,rfl,rfl,_,rfl,?_⟩
   have RA9:=RA.keep e9
   refine with_h (H:=H9) (fun rest=>ite2 (fun c=>by
    have hle:=hok c
    cases hrr:rdT (rws t) with
    | inl n=>
     rw [hrr] at RA9
     obtain ⟨a1,rfl,h9⟩:=RA9
     exact ⟨_,rfl,a1,_,0,_,rfl,rfl,SqT.of h9,atI_nat (j:=0) rfl,rfl,_,rfl,ifN rfl (iteF (rest H9 (Same.refl _)))⟩
    | inr x=>
     obtain ⟨l',G⟩:=x
     obtain ⟨es',st',e,ok',ht'⟩:=rdT_told hle hrr
     rw [hrr] at RA9
     obtain ⟨a1,m1,rfl,h9,M9⟩:=RA9
     rw [show G.getD 1 []=es' by rw [e]; rfl,show G.drop 2=st' by rw [e]; rfl] at M9
     refine ⟨_,rfl,a1,_,0,_,rfl,rfl,SqT.of h9,atI_nat (j:=0) rfl,rfl,_,rfl,ifY rfl ?_⟩
     refine ⟨_,rfl,a1,_,1,_,rfl,rfl,SqT.of h9,atI_nat (j:=1) rfl,m1,l',bOf G,es',st',rfl,M9,ok',fun H10 e10=>⟨_,rfl,rfl,_,rfl,ifN ?_ (rest H10 e10)⟩⟩
     rw [← ht',decide_eq_true rfl]
     rfl) (fun c=>iteF (rest H9 (Same.refl _)))) (fun H10 e10=>?_)
   have e510:=((e6.trans e7).trans e9).trans e10
   refine ⟨_,rfl,gt,rfl,by have:=hgt.1; omega,fun y hy=>Nat.le_trans (hgt.2 y hy) (by decide),fun v3 H11 e11 RA3=>⟨_,rfl,(by show 2≤sizeLine; decide),fun g hg=>?_⟩⟩
   have s12:=same_new hg (.tup [.str "told",.ref m])
   refine ⟨_,_,dR (rdT (rws gt)),rfl,dR_dep _,res_den (RA3.keep s12) (by rw [hgr]; exact ok),?_,fun H12 e12=>⟨_,rfl,iteF ⟨_,_,rfl,((e510.trans e11).trans s12).trans e12⟩⟩⟩
   rw [hgr]
   exact two_den upd_same (.str _) (mach_den (M5.keep (Tk.same ((e510.trans e11).trans s12))) ok)
  ·rintro σ H6 ⟨v6,v8,rfl,e6⟩
   exact k _
end
theorem all_mk {l:PySem.W.OpenLaw} {w:World} {K:PySem.W.Frag} {h:Heap} {mg:Str→Option Value} {fa:Addr} (X:K.In h) (G:h.Ns mainGlobals mg) (hfa:mg "law" = some (.ref fa))
  {f1:Addr} {od1 an1:Option Addr} {sl1:Array (Option Value)} {oc1 kV1 dc1 pm1 cd1 ct1:Value}
  (a1:PySem.W.nsIn K mainGlobals "rising" = some (some (.ref f1))) (l1:K.lookup f1=some ⟨oc1,od1,.func (PySem.W.fnOf "rising" "rising" (defArgs s_rising) (defBody s_rising) (defScope s_rising) .none kV1 dc1 pm1 an1 cd1 ct1),sl1⟩) (c1:PySem.W.codeIn K cd1 "rising" = true) (k1:PySem.W.keepIn K (.ref f1)=true)
  {f2:Addr} {od2 an2:Option Addr} {sl2:Array (Option Value)} {oc2 kV2 dc2 pm2 cd2 ct2:Value}
  (a2:PySem.W.nsIn K mainGlobals "is_word" = some (some (.ref f2))) (l2:K.lookup f2=some ⟨oc2,od2,.func (PySem.W.fnOf "is_word" "is_word" (defArgs s_is_word) (defBody s_is_word) (defScope s_is_word) .none kV2 dc2 pm2 an2 cd2 ct2),sl2⟩) (c2:PySem.W.codeIn K cd2 "is_word" = true) (k2:PySem.W.keepIn K (.ref f2)=true)
  {f3:Addr} {od3 an3:Option Addr} {sl3:Array (Option Value)} {oc3 kV3 dc3 pm3 cd3 ct3:Value}
  (a3:PySem.W.nsIn K mainGlobals "show_row" = some (some (.ref f3))) (l3:K.lookup f3=some ⟨oc3,od3,.func (PySem.W.fnOf "show_row" "show_row" (defArgs s_show_row) (defBody s_show_row) (defScope s_show_row) .none kV3 dc3 pm3 an3 cd3 ct3),sl3⟩) (c3:PySem.W.codeIn K cd3 "show_row" = true) (k3:PySem.W.keepIn K (.ref f3)=true)
  {f4:Addr} {od4 an4:Option Addr} {sl4:Array (Option Value)} {oc4 kV4 dc4 pm4 cd4 ct4:Value}
  (a4:PySem.W.nsIn K mainGlobals "show_machine" = some (some (.ref f4))) (l4:K.lookup f4=some ⟨oc4,od4,.func (PySem.W.fnOf "show_machine" "show_machine" (defArgs s_show_machine) (defBody s_show_machine) (defScope s_show_machine) .none kV4 dc4 pm4 an4 cd4 ct4),sl4⟩) (c4:PySem.W.codeIn K cd4 "show_machine" = true) (k4:PySem.W.keepIn K (.ref f4)=true)
  {f5:Addr} {od5 an5:Option Addr} {sl5:Array (Option Value)} {oc5 kV5 dc5 pm5 cd5 ct5:Value}
  (a5:PySem.W.nsIn K mainGlobals "is_number" = some (some (.ref f5))) (l5:K.lookup f5=some ⟨oc5,od5,.func (PySem.W.fnOf "is_number" "is_number" (defArgs s_is_number) (defBody s_is_number) (defScope s_is_number) .none kV5 dc5 pm5 an5 cd5 ct5),sl5⟩) (c5:PySem.W.codeIn K cd5 "is_number" = true) (k5:PySem.W.keepIn K (.ref f5)=true)
  {f6:Addr} {od6 an6:Option Addr} {sl6:Array (Option Value)} {oc6 kV6 dc6 pm6 cd6 ct6:Value}
  (a6:PySem.W.nsIn K mainGlobals "read_letters" = some (some (.ref f6))) (l6:K.lookup f6=some ⟨oc6,od6,.func (PySem.W.fnOf "read_letters" "read_letters" (defArgs s_read_letters) (defBody s_read_letters) (defScope s_read_letters) .none kV6 dc6 pm6 an6 cd6 ct6),sl6⟩) (c6:PySem.W.codeIn K cd6 "read_letters" = true) (k6:PySem.W.keepIn K (.ref f6)=true)
  {f7:Addr} {od7 an7:Option Addr} {sl7:Array (Option Value)} {oc7 kV7 dc7 pm7 cd7 ct7:Value}
  (a7:PySem.W.nsIn K mainGlobals "read_numbers" = some (some (.ref f7))) (l7:K.lookup f7=some ⟨oc7,od7,.func (PySem.W.fnOf "read_numbers" "read_numbers" (defArgs s_read_numbers) (defBody s_read_numbers) (defScope s_read_numbers) .none kV7 dc7 pm7 an7 cd7 ct7),sl7⟩) (c7:PySem.W.codeIn K cd7 "read_numbers" = true) (k7:PySem.W.keepIn K (.ref f7)=true)
  {f8:Addr} {od8 an8:Option Addr} {sl8:Array (Option Value)} {oc8 kV8 dc8 pm8 cd8 ct8:Value}
  (a8:PySem.W.nsIn K mainGlobals "read_so_many" = some (some (.ref f8))) (l8:K.lookup f8=some ⟨oc8,od8,.func (PySem.W.fnOf "read_so_many" "read_so_many" (defArgs s_read_so_many) (defBody s_read_so_many) (defScope s_read_so_many) .none kV8 dc8 pm8 an8 cd8 ct8),sl8⟩) (c8:PySem.W.codeIn K cd8 "read_so_many" = true) (k8:PySem.W.keepIn K (.ref f8)=true)
  {f9:Addr} {od9 an9:Option Addr} {sl9:Array (Option Value)} {oc9 kV9 dc9 pm9 cd9 ct9:Value}
  (a9:PySem.W.nsIn K mainGlobals "read_machine" = some (some (.ref f9))) (l9:K.lookup f9=some ⟨oc9,od9,.func (PySem.W.fnOf "read_machine" "read_machine" (defArgs s_read_machine) (defBody s_read_machine) (defScope s_read_machine) .none kV9 dc9 pm9 an9 cd9 ct9),sl9⟩) (c9:PySem.W.codeIn K cd9 "read_machine" = true) (k9:PySem.W.keepIn K (.ref f9)=true)
  {f10:Addr} {od10 an10:Option Addr} {sl10:Array (Option Value)} {oc10 kV10 dc10 pm10 cd10 ct10:Value}
  (a10:PySem.W.nsIn K mainGlobals "_law_flow" = some (some (.ref f10))) (l10:K.lookup f10=some ⟨oc10,od10,.func (PySem.W.fnOf "_law_flow" "_law_flow" (defArgs s_law_flow) (defBody s_law_flow) (defScope s_law_flow) .none kV10 dc10 pm10 an10 cd10 ct10),sl10⟩) (c10:PySem.W.codeIn K cd10 "_law_flow" = true) (k10:PySem.W.keepIn K (.ref f10)=true)
  {f11:Addr} {od11 an11:Option Addr} {sl11:Array (Option Value)} {oc11 kV11 dc11 pm11 cd11 ct11:Value}
  (a11:PySem.W.nsIn K mainGlobals "_law_pick" = some (some (.ref f11))) (l11:K.lookup f11=some ⟨oc11,od11,.func (PySem.W.fnOf "_law_pick" "_law_pick" (defArgs s_law_pick) (defBody s_law_pick) (defScope s_law_pick) .none kV11 dc11 pm11 an11 cd11 ct11),sl11⟩) (c11:PySem.W.codeIn K cd11 "_law_pick" = true) (k11:PySem.W.keepIn K (.ref f11)=true)
  {f12:Addr} {od12 an12:Option Addr} {sl12:Array (Option Value)} {oc12 kV12 dc12 pm12 cd12 ct12:Value}
  (a12:PySem.W.nsIn K mainGlobals "_law_alike" = some (some (.ref f12))) (l12:K.lookup f12=some ⟨oc12,od12,.func (PySem.W.fnOf "_law_alike" "_law_alike" (defArgs s_law_alike) (defBody s_law_alike) (defScope s_law_alike) .none kV12 dc12 pm12 an12 cd12 ct12),sl12⟩) (c12:PySem.W.codeIn K cd12 "_law_alike" = true) (k12:PySem.W.keepIn K (.ref f12)=true)
  {f13:Addr} {od13 an13:Option Addr} {sl13:Array (Option Value)} {oc13 kV13 dc13 pm13 cd13 ct13:Value}
  (a13:PySem.W.nsIn K mainGlobals "_law_letters" = some (some (.ref f13))) (l13:K.lookup f13=some ⟨oc13,od13,.func (PySem.W.fnOf "_law_letters" "_law_letters" (defArgs s_law_letters) (defBody s_law_letters) (defScope s_law_letters) .none kV13 dc13 pm13 an13 cd13 ct13),sl13⟩) (c13:PySem.W.codeIn K cd13 "_law_letters" = true) (k13:PySem.W.keepIn K (.ref f13)=true)
  {f14:Addr} {od14 an14:Option Addr} {sl14:Array (Option Value)} {oc14 kV14 dc14 pm14 cd14 ct14:Value}
  (a14:PySem.W.nsIn K mainGlobals "_law_caught" = some (some (.ref f14))) (l14:K.lookup f14=some ⟨oc14,od14,.func (PySem.W.fnOf "_law_caught" "_law_caught" (defArgs s_law_caught) (defBody s_law_caught) (defScope s_law_caught) .none kV14 dc14 pm14 an14 cd14 ct14),sl14⟩) (c14:PySem.W.codeIn K cd14 "_law_caught" = true) (k14:PySem.W.keepIn K (.ref f14)=true)
  {f15:Addr} {od15 an15:Option Addr} {sl15:Array (Option Value)} {oc15 kV15 dc15 pm15 cd15 ct15:Value}
  (a15:PySem.W.nsIn K mainGlobals "_law_any_machine" = some (some (.ref f15))) (l15:K.lookup f15=some ⟨oc15,od15,.func (PySem.W.fnOf "_law_any_machine" "_law_any_machine" (defArgs s_law_any_machine) (defBody s_law_any_machine) (defScope s_law_any_machine) .none kV15 dc15 pm15 an15 cd15 ct15),sl15⟩) (c15:PySem.W.codeIn K cd15 "_law_any_machine" = true) (k15:PySem.W.keepIn K (.ref f15)=true)
  {f16:Addr} {od16 an16:Option Addr} {sl16:Array (Option Value)} {oc16 kV16 dc16 pm16 cd16 ct16:Value}
  (a16:PySem.W.nsIn K mainGlobals "_law_number" = some (some (.ref f16))) (l16:K.lookup f16=some ⟨oc16,od16,.func (PySem.W.fnOf "_law_number" "_law_number" (defArgs s_law_number) (defBody s_law_number) (defScope s_law_number) .none kV16 dc16 pm16 an16 cd16 ct16),sl16⟩) (c16:PySem.W.codeIn K cd16 "_law_number" = true) (k16:PySem.W.keepIn K (.ref f16)=true)
  {f17:Addr} {od17 an17:Option Addr} {sl17:Array (Option Value)} {oc17 kV17 dc17 pm17 cd17 ct17:Value}
  (a17:PySem.W.nsIn K mainGlobals "_law_machine_text" = some (some (.ref f17))) (l17:K.lookup f17=some ⟨oc17,od17,.func (PySem.W.fnOf "_law_machine_text" "_law_machine_text" (defArgs s_law_machine_text) (defBody s_law_machine_text) (defScope s_law_machine_text) .none kV17 dc17 pm17 an17 cd17 ct17),sl17⟩) (c17:PySem.W.codeIn K cd17 "_law_machine_text" = true) (k17:PySem.W.keepIn K (.ref f17)=true)
  {f18:Addr} {od18 an18:Option Addr} {sl18:Array (Option Value)} {oc18 kV18 dc18 pm18 cd18 ct18:Value}
  (a18:PySem.W.nsIn K mainGlobals "_law_sign" = some (some (.ref f18))) (l18:K.lookup f18=some ⟨oc18,od18,.func (PySem.W.fnOf "_law_sign" "_law_sign" (defArgs s_law_sign) (defBody s_law_sign) (defScope s_law_sign) .none kV18 dc18 pm18 an18 cd18 ct18),sl18⟩) (c18:PySem.W.codeIn K cd18 "_law_sign" = true) (k18:PySem.W.keepIn K (.ref f18)=true)
  {f19:Addr} {od19 an19:Option Addr} {sl19:Array (Option Value)} {oc19 kV19 dc19 pm19 cd19 ct19:Value}
  (a19:PySem.W.nsIn K mainGlobals "_law_row_otherwise" = some (some (.ref f19))) (l19:K.lookup f19=some ⟨oc19,od19,.func (PySem.W.fnOf "_law_row_otherwise" "_law_row_otherwise" (defArgs s_law_row_otherwise) (defBody s_law_row_otherwise) (defScope s_law_row_otherwise) .none kV19 dc19 pm19 an19 cd19 ct19),sl19⟩) (c19:PySem.W.codeIn K cd19 "_law_row_otherwise" = true) (k19:PySem.W.keepIn K (.ref f19)=true)
  {f20:Addr} {od20 an20:Option Addr} {sl20:Array (Option Value)} {oc20 kV20 dc20 pm20 cd20 ct20:Value}
  (a20:PySem.W.nsIn K mainGlobals "_law_otherwise" = some (some (.ref f20))) (l20:K.lookup f20=some ⟨oc20,od20,.func (PySem.W.fnOf "_law_otherwise" "_law_otherwise" (defArgs s_law_otherwise) (defBody s_law_otherwise) (defScope s_law_otherwise) .none kV20 dc20 pm20 an20 cd20 ct20),sl20⟩) (c20:PySem.W.codeIn K cd20 "_law_otherwise" = true) (k20:PySem.W.keepIn K (.ref f20)=true)
  {f21:Addr} {od21 an21:Option Addr} {sl21:Array (Option Value)} {oc21 kV21 dc21 pm21 cd21 ct21:Value}
  (a21:PySem.W.nsIn K mainGlobals "_law_number_in" = some (some (.ref f21))) (l21:K.lookup f21=some ⟨oc21,od21,.func (PySem.W.fnOf "_law_number_in" "_law_number_in" (defArgs s_law_number_in) (defBody s_law_number_in) (defScope s_law_number_in) .none kV21 dc21 pm21 an21 cd21 ct21),sl21⟩) (c21:PySem.W.codeIn K cd21 "_law_number_in" = true) (k21:PySem.W.keepIn K (.ref f21)=true)
  {f22:Addr} {od22 an22:Option Addr} {sl22:Array (Option Value)} {oc22 kV22 dc22 pm22 cd22 ct22:Value}
  (a22:PySem.W.nsIn K mainGlobals "_law_are_letters" = some (some (.ref f22))) (l22:K.lookup f22=some ⟨oc22,od22,.func (PySem.W.fnOf "_law_are_letters" "_law_are_letters" (defArgs s_law_are_letters) (defBody s_law_are_letters) (defScope s_law_are_letters) .none kV22 dc22 pm22 an22 cd22 ct22),sl22⟩) (c22:PySem.W.codeIn K cd22 "_law_are_letters" = true) (k22:PySem.W.keepIn K (.ref f22)=true)
  {f23:Addr} {od23 an23:Option Addr} {sl23:Array (Option Value)} {oc23 kV23 dc23 pm23 cd23 ct23:Value}
  (a23:PySem.W.nsIn K mainGlobals "_law_read" = some (some (.ref f23))) (l23:K.lookup f23=some ⟨oc23,od23,.func (PySem.W.fnOf "_law_read" "_law_read" (defArgs s_law_read) (defBody s_law_read) (defScope s_law_read) .none kV23 dc23 pm23 an23 cd23 ct23),sl23⟩) (c23:PySem.W.codeIn K cd23 "_law_read" = true) (k23:PySem.W.keepIn K (.ref f23)=true)
  {f24:Addr} {od24 an24:Option Addr} {sl24:Array (Option Value)} {oc24 kV24 dc24 pm24 cd24 ct24:Value}
  (a24:PySem.W.nsIn K mainGlobals "_law_asked" = some (some (.ref f24))) (l24:K.lookup f24=some ⟨oc24,od24,.func (PySem.W.fnOf "_law_asked" "_law_asked" (defArgs s_law_asked) (defBody s_law_asked) (defScope s_law_asked) .none kV24 dc24 pm24 an24 cd24 ct24),sl24⟩) (c24:PySem.W.codeIn K cd24 "_law_asked" = true) (k24:PySem.W.keepIn K (.ref f24)=true)
  {f25:Addr} {od25 an25:Option Addr} {sl25:Array (Option Value)} {oc25 kV25 dc25 pm25 cd25 ct25:Value}
  (a25:PySem.W.nsIn K mainGlobals "law" = some (some (.ref f25))) (l25:K.lookup f25=some ⟨oc25,od25,.func (PySem.W.fnOf "law" "law" (defArgs s_law) (defBody s_law) (defScope s_law) .none kV25 dc25 pm25 an25 cd25 ct25),sl25⟩) (c25:PySem.W.codeIn K cd25 "law" = true) (k25:PySem.W.keepIn K (.ref f25)=true)
  (z_ValueError:PySem.W.nsIn K mainGlobals "ValueError" = some none)
  (z_all:PySem.W.nsIn K mainGlobals "all" = some none)
  (z_bool:PySem.W.nsIn K mainGlobals "bool" = some none)
  (z_enumerate:PySem.W.nsIn K mainGlobals "enumerate" = some none)
  (z_int:PySem.W.nsIn K mainGlobals "int" = some none)
  (z_isinstance:PySem.W.nsIn K mainGlobals "isinstance" = some none)
  (z_len:PySem.W.nsIn K mainGlobals "len" = some none)
  (z_list:PySem.W.nsIn K mainGlobals "list" = some none)
  (z_max:PySem.W.nsIn K mainGlobals "max" = some none)
  (z_min:PySem.W.nsIn K mainGlobals "min" = some none)
  (z_range:PySem.W.nsIn K mainGlobals "range" = some none)
  (z_set:PySem.W.nsIn K mainGlobals "set" = some none)
  (z_sorted:PySem.W.nsIn K mainGlobals "sorted" = some none)
  (z_str:PySem.W.nsIn K mainGlobals "str" = some none)
  (z_tuple:PySem.W.nsIn K mainGlobals "tuple" = some none)
  {u_MOST_FIGURES:Value} (q_MOST_FIGURES:PySem.W.nsIn K mainGlobals "MOST_FIGURES" = some (some u_MOST_FIGURES)) (r_MOST_FIGURES:RelV (V.int 3) u_MOST_FIGURES)
  {u_ROWS_AHEAD:Value} (q_ROWS_AHEAD:PySem.W.nsIn K mainGlobals "ROWS_AHEAD" = some (some u_ROWS_AHEAD)) (r_ROWS_AHEAD:RelV (V.int 3) u_ROWS_AHEAD)
  {cSpreadError:Addr} (a_SpreadError:PySem.W.nsIn K mainGlobals "SpreadError" = some (some (.ref cSpreadError)))
  {cNoText:Addr} (a_NoText:PySem.W.nsIn K mainGlobals "NoText" = some (some (.ref cNoText))) (f_NoText:excF K cNoText=true) (k_NoText:PySem.W.keepIn K (.ref cNoText)=true)
  {cNoMachine:Addr} (a_NoMachine:PySem.W.nsIn K mainGlobals "NoMachine" = some (some (.ref cNoMachine))) (f_NoMachine:excF K cNoMachine=true) (k_NoMachine:PySem.W.keepIn K (.ref cNoMachine)=true)
  {cNoFit:Addr} (a_NoFit:PySem.W.nsIn K mainGlobals "NoFit" = some (some (.ref cNoFit))) (f_NoFit:excF K cNoFit=true) (k_NoFit:PySem.W.keepIn K (.ref cNoFit)=true)
  {cNoName:Addr} (a_NoName:PySem.W.nsIn K mainGlobals "NoName" = some (some (.ref cNoName))) (f_NoName:excF K cNoName=true) (k_NoName:PySem.W.keepIn K (.ref cNoName)=true)
  {cNoRow:Addr} (a_NoRow:PySem.W.nsIn K mainGlobals "NoRow" = some (some (.ref cNoRow))) (f_NoRow:excF K cNoRow=true) (k_NoRow:PySem.W.keepIn K (.ref cNoRow)=true)
  (e_NoFit:excK K cNoFit none=true)
  (e_NoRow:excK K cNoRow none=true)
  {gNoText:Addr} {odXNoText anXNoText:Option Addr} {slXNoText:Array (Option Value)} {kVXNoText dcXNoText pmXNoText cdXNoText ctXNoText:Value} (i_NoText:PySem.W.findIn K (.ref cNoText) "__init__" = some (some (.ref gNoText))) (l_NoText:K.lookup gNoText=some ⟨.type "function",odXNoText,.func (PySem.W.fnOf "__init__" "NoText.__init__" (defArgs s_NoText_init) (defBody s_NoText_init) (defScope s_NoText_init) .none kVXNoText dcXNoText pmXNoText anXNoText cdXNoText ctXNoText),slXNoText⟩) (d_NoText:PySem.W.codeIn K cdXNoText "NoText.__init__" = true) (q_NoText:PySem.W.keepIn K (.ref gNoText)=true) (e_NoText:excK K cNoText (some (.ref gNoText))=true)
  (n_NoText0:PySem.W.findIn K (.ref cNoText) "at" = some none)
  (kit:kitB K cSpreadError cNoText cNoMachine cNoFit cNoName cNoRow=true)
  (f_exm:exmB K cSpreadError cNoText cNoMachine cNoFit cNoName cNoRow=true)
  : ∃ fd:FuncData,(∀ (s:Shared) (v:Value),BindsTo s fd ⟨[v],[]⟩ [("_law_script",v)])∧∀ base:Heap,K.In base→base.Ns mainGlobals mg→FnOk l.prog w K mg base CX0 7 fa fd ["_law_script"] (spLaw K):=by
 have e:=hfa.symm.trans (PySem.W.mg_of X G a25)
 cases e
 have F_rising:=fun_mk (st:=s_rising) l1 c1 k1
 have b_rising:=F_rising.binds (ps:=["row"]) fun _ _ _ _ _ _ us hl=>match us,hl with | [_],_=>rfl
 have m_rising:=PySem.W.mg_of X G a1
 have F_is_word:=fun_mk (st:=s_is_word) l2 c2 k2
 have b_is_word:=F_is_word.binds (ps:=["text"]) fun _ _ _ _ _ _ us hl=>match us,hl with | [_],_=>rfl
 have m_is_word:=PySem.W.mg_of X G a2
 have F_show_row:=fun_mk (st:=s_show_row) l3 c3 k3
 have b_show_row:=F_show_row.binds (ps:=["name","numbers"]) fun _ _ _ _ _ _ us hl=>match us,hl with | [_,_],_=>rfl
 have m_show_row:=PySem.W.mg_of X G a3
 have F_show_machine:=fun_mk (st:=s_show_machine) l4 c4 k4
 have b_show_machine:=F_show_machine.binds (ps:=["machine"]) fun _ _ _ _ _ _ us hl=>match us,hl with | [_],_=>rfl
 have m_show_machine:=PySem.W.mg_of X G a4
 have F_is_number:=fun_mk (st:=s_is_number) l5 c5 k5
 have b_is_number:=F_is_number.binds (ps:=["word"]) fun _ _ _ _ _ _ us hl=>match us,hl with | [_],_=>rfl
 have m_is_number:=PySem.W.mg_of X G a5
 have F_read_letters:=fun_mk (st:=s_read_letters) l6 c6 k6
 have b_read_letters:=F_read_letters.binds (ps:=["row"]) fun _ _ _ _ _ _ us hl=>match us,hl with | [_],_=>rfl
 have m_read_letters:=PySem.W.mg_of X G a6
 have F_read_numbers:=fun_mk (st:=s_read_numbers) l7 c7 k7
 have b_read_numbers:=F_read_numbers.binds (ps:=["rows","at","name"]) fun _ _ _ _ _ _ us hl=>match us,hl with | [_,_,_],_=>rfl
 have m_read_numbers:=PySem.W.mg_of X G a7
 have F_read_so_many:=fun_mk (st:=s_read_so_many) l8 c8 k8
 have b_read_so_many:=F_read_so_many.binds (ps:=["rows","at","name","count"]) fun _ _ _ _ _ _ us hl=>match us,hl with | [_,_,_,_],_=>rfl
 have m_read_so_many:=PySem.W.mg_of X G a8
 have F_read_machine:=fun_mk (st:=s_read_machine) l9 c9 k9
 have b_read_machine:=F_read_machine.binds (ps:=["text"]) fun _ _ _ _ _ _ us hl=>match us,hl with | [_],_=>rfl
 have m_read_machine:=PySem.W.mg_of X G a9
 have F_law_flow:=fun_mk (st:=s_law_flow) l10 c10 k10
 have b_law_flow:=F_law_flow.binds (ps:=["_law_script"]) fun _ _ _ _ _ _ us hl=>match us,hl with | [_],_=>rfl
 have m_law_flow:=PySem.W.mg_of X G a10
 have F_law_pick:=fun_mk (st:=s_law_pick) l11 c11 k11
 have b_law_pick:=F_law_pick.binds (ps:=["_law_flow_here","_law_many"]) fun _ _ _ _ _ _ us hl=>match us,hl with | [_,_],_=>rfl
 have m_law_pick:=PySem.W.mg_of X G a11
 have F_law_alike:=fun_mk (st:=s_law_alike) l12 c12 k12
 have b_law_alike:=F_law_alike.binds (ps:=["_law_found","_law_due"]) fun _ _ _ _ _ _ us hl=>match us,hl with | [_,_],_=>rfl
 have m_law_alike:=PySem.W.mg_of X G a12
 have F_law_letters:=fun_mk (st:=s_law_letters) l13 c13 k13
 have b_law_letters:=F_law_letters.binds (ps:=["_law_flow_here","_law_many"]) fun _ _ _ _ _ _ us hl=>match us,hl with | [_,_],_=>rfl
 have m_law_letters:=PySem.W.mg_of X G a13
 have F_law_caught:=fun_mk (st:=s_law_caught) l14 c14 k14
 have b_law_caught:=F_law_caught.binds (ps:=["_law_e"]) fun _ _ _ _ _ _ us hl=>match us,hl with | [_],_=>rfl
 have m_law_caught:=PySem.W.mg_of X G a14
 have F_law_any_machine:=fun_mk (st:=s_law_any_machine) l15 c15 k15
 have b_law_any_machine:=F_law_any_machine.binds (ps:=["_law_flow_here"]) fun _ _ _ _ _ _ us hl=>match us,hl with | [_],_=>rfl
 have m_law_any_machine:=PySem.W.mg_of X G a15
 have F_law_number:=fun_mk (st:=s_law_number) l16 c16 k16
 have b_law_number:=F_law_number.binds (ps:=["_law_flow_here"]) fun _ _ _ _ _ _ us hl=>match us,hl with | [_],_=>rfl
 have m_law_number:=PySem.W.mg_of X G a16
 have F_law_machine_text:=fun_mk (st:=s_law_machine_text) l17 c17 k17
 have b_law_machine_text:=F_law_machine_text.binds (ps:=["_law_machine"]) fun _ _ _ _ _ _ us hl=>match us,hl with | [_],_=>rfl
 have m_law_machine_text:=PySem.W.mg_of X G a17
 have F_law_sign:=fun_mk (st:=s_law_sign) l18 c18 k18
 have b_law_sign:=F_law_sign.binds (ps:=["_law_flow_here"]) fun _ _ _ _ _ _ us hl=>match us,hl with | [_],_=>rfl
 have m_law_sign:=PySem.W.mg_of X G a18
 have F_law_row_otherwise:=fun_mk (st:=s_law_row_otherwise) l19 c19 k19
 have b_law_row_otherwise:=F_law_row_otherwise.binds (ps:=["_law_flow_here","_law_row"]) fun _ _ _ _ _ _ us hl=>match us,hl with | [_,_],_=>rfl
 have m_law_row_otherwise:=PySem.W.mg_of X G a19
 have F_law_otherwise:=fun_mk (st:=s_law_otherwise) l20 c20 k20
 have b_law_otherwise:=F_law_otherwise.binds (ps:=["_law_flow_here","_law_text"]) fun _ _ _ _ _ _ us hl=>match us,hl with | [_,_],_=>rfl
 have m_law_otherwise:=PySem.W.mg_of X G a20
 have F_law_number_in:=fun_mk (st:=s_law_number_in) l21 c21 k21
 have b_law_number_in:=F_law_number_in.binds (ps:=["_law_word"]) fun _ _ _ _ _ _ us hl=>match us,hl with | [_],_=>rfl
 have m_law_number_in:=PySem.W.mg_of X G a21
 have F_law_are_letters:=fun_mk (st:=s_law_are_letters) l22 c22 k22
 have b_law_are_letters:=F_law_are_letters.binds (ps:=["_law_word"]) fun _ _ _ _ _ _ us hl=>match us,hl with | [_],_=>rfl
 have m_law_are_letters:=PySem.W.mg_of X G a22
 have F_law_read:=fun_mk (st:=s_law_read) l23 c23 k23
 have b_law_read:=F_law_read.binds (ps:=["_law_text"]) fun _ _ _ _ _ _ us hl=>match us,hl with | [_],_=>rfl
 have m_law_read:=PySem.W.mg_of X G a23
 have F_law_asked:=fun_mk (st:=s_law_asked) l24 c24 k24
 have b_law_asked:=F_law_asked.binds (ps:=["_law_text"]) fun _ _ _ _ _ _ us hl=>match us,hl with | [_],_=>rfl
 have m_law_asked:=PySem.W.mg_of X G a24
 have F_law:=fun_mk (st:=s_law) l25 c25 k25
 have b_law:=F_law.binds (ps:=["_law_script"]) fun _ _ _ _ _ _ us hl=>match us,hl with | [_],_=>rfl
 have m_law:=PySem.W.mg_of X G a25
 have c_MOST_FIGURES:=PySem.W.mg_of X G q_MOST_FIGURES
 have c_ROWS_AHEAD:=PySem.W.mg_of X G q_ROWS_AHEAD
 have Z:Blt mg:=⟨PySem.W.mg_none_of X G z_ValueError,PySem.W.mg_none_of X G z_all,PySem.W.mg_none_of X G z_bool,PySem.W.mg_none_of X G z_enumerate,PySem.W.mg_none_of X G z_int,PySem.W.mg_none_of X G z_isinstance,PySem.W.mg_none_of X G z_len,PySem.W.mg_none_of X G z_list,PySem.W.mg_none_of X G z_max,PySem.W.mg_none_of X G z_min,PySem.W.mg_none_of X G z_range,PySem.W.mg_none_of X G z_set,PySem.W.mg_none_of X G z_sorted,PySem.W.mg_none_of X G z_str,PySem.W.mg_none_of X G z_tuple⟩
 refine ⟨PySem.W.fnOf "law" "law" (defArgs s_law) (defBody s_law) (defScope s_law) .none kV25 dc25 pm25 an25 cd25 ct25,fun s v=>.of_eq rfl,fun base _ _=>?_⟩
 have kl:Kls K mg cSpreadError cNoText cNoMachine cNoFit cNoName cNoRow:=⟨PySem.W.mg_of X G a_SpreadError,PySem.W.mg_of X G a_NoText,PySem.W.mg_of X G a_NoMachine,PySem.W.mg_of X G a_NoFit,PySem.W.mg_of X G a_NoName,PySem.W.mg_of X G a_NoRow,excF_of f_NoText,excF_of f_NoMachine,excF_of f_NoFit,excF_of f_NoName,excF_of f_NoRow,k_NoFit,k_NoRow,e_NoFit,e_NoRow,kit,f_exm⟩
 have G_NoText:=fun_mk (st:=s_NoText_init) l_NoText d_NoText q_NoText
 have C_NoText:CalX l.prog w K mg base "NoText" 1 _ (spOneD cNoText "at") cNoText:=⟨_,_,_,e_NoText,k_NoText,kl.mNoText,l_NoText,rfl,ok_NoText_init G_NoText kl.fNoText n_NoText0,G_NoText.binds (ps:=["self","at"]) fun _ _ _ _ _ _ us hl=>match us,hl with | [_,_],_=>rfl⟩
 have C_law_pick:Cal l.prog w K mg base "_law_pick" 1 _ spPick:=⟨_,_,ok_law_pick F_law_pick Z,m_law_pick,F_law_pick.kp,b_law_pick⟩
 have C_law_flow:Cal l.prog w K mg base "_law_flow" 1 _ (spFlow K):=⟨_,_,ok_law_flow F_law_flow Z,m_law_flow,F_law_flow.kp,b_law_flow⟩
 have C_law_alike:Cal l.prog w K mg base "_law_alike" 5 _ (spAlike 5):=⟨_,_,ok_law_alike F_law_alike b_law_alike m_law_alike Z 5,m_law_alike,F_law_alike.kp,b_law_alike⟩
 have C_law_letters:Cal l.prog w K mg base "_law_letters" 2 _ spLetters:=⟨_,_,ok_law_letters F_law_letters Z C_law_pick,m_law_letters,F_law_letters.kp,b_law_letters⟩
 have C_rising:Cal l.prog w K mg base "rising" 1 _ spRising:=⟨_,_,ok_rising F_rising Z,m_rising,F_rising.kp,b_rising⟩
 have C_is_word:Cal l.prog w K mg base "is_word" 1 _ spIsWord:=⟨_,_,ok_is_word F_is_word Z,m_is_word,F_is_word.kp,b_is_word⟩
 have C_show_row:Cal l.prog w K mg base "show_row" 1 _ spShowRow:=⟨_,_,ok_show_row F_show_row Z,m_show_row,F_show_row.kp,b_show_row⟩
 have C_show_machine:Cal l.prog w K mg base "show_machine" 2 _ spShowM:=⟨_,_,ok_show_machine F_show_machine Z C_show_row,m_show_machine,F_show_machine.kp,b_show_machine⟩
 have C_is_number:Cal l.prog w K mg base "is_number" 1 _ spIsNum:=⟨_,_,ok_is_number F_is_number Z c_MOST_FIGURES r_MOST_FIGURES,m_is_number,F_is_number.kp,b_is_number⟩
 have C_read_letters:CalR l.prog w K mg base "read_letters" 3 _ (spReadLX cNoText):=⟨_,_,ok_read_letters F_read_letters Z e_NoText C_NoText C_is_word C_rising,m_read_letters,F_read_letters.kp,b_read_letters⟩
 have C_read_numbers:CalR l.prog w K mg base "read_numbers" 3 _ (spReadNX cNoText):=⟨_,_,ok_read_numbers F_read_numbers Z e_NoText C_NoText C_is_number,m_read_numbers,F_read_numbers.kp,b_read_numbers⟩
 have C_read_so_many:CalR l.prog w K mg base "read_so_many" 4 _ (spReadSX cNoText):=⟨_,_,ok_read_so_many F_read_so_many Z e_NoText C_NoText C_read_numbers,m_read_so_many,F_read_so_many.kp,b_read_so_many⟩
 have C_read_machine:CalR l.prog w K mg base "read_machine" 5 _ (spReadMX cNoText):=⟨_,_,ok_read_machine F_read_machine Z c_ROWS_AHEAD r_ROWS_AHEAD e_NoText C_read_letters C_read_so_many C_read_numbers,m_read_machine,F_read_machine.kp,b_read_machine⟩
 have C_law_number:Cal l.prog w K mg base "_law_number" 2 _ spNumber:=⟨_,_,ok_law_number F_law_number Z C_law_pick,m_law_number,F_law_number.kp,b_law_number⟩
 have C_law_any_machine:Cal l.prog w K mg base "_law_any_machine" 3 _ spAny:=⟨_,_,ok_law_any_machine F_law_any_machine Z C_law_pick C_law_letters C_law_number,m_law_any_machine,F_law_any_machine.kp,b_law_any_machine⟩
 have C_law_machine_text:Cal l.prog w K mg base "_law_machine_text" 1 _ spShowM:=⟨_,_,ok_law_machine_text F_law_machine_text Z,m_law_machine_text,F_law_machine_text.kp,b_law_machine_text⟩
 have C_law_caught:Cal l.prog w K mg base "_law_caught" 1 _ (spCaught K cSpreadError cNoText cNoMachine cNoFit cNoName cNoRow):=⟨_,_,ok_law_caught F_law_caught Z kl,m_law_caught,F_law_caught.kp,b_law_caught⟩
 have C_law_number_in:Cal l.prog w K mg base "_law_number_in" 1 _ spNumIn:=⟨_,_,ok_law_number_in F_law_number_in Z,m_law_number_in,F_law_number_in.kp,b_law_number_in⟩
 have C_law_are_letters:Cal l.prog w K mg base "_law_are_letters" 1 _ spAreL:=⟨_,_,ok_law_are_letters F_law_are_letters Z,m_law_are_letters,F_law_are_letters.kp,b_law_are_letters⟩
 have C_law_asked:Cal l.prog w K mg base "_law_asked" 6 _ spAsked:=⟨_,_,ok_law_asked F_law_asked Z kl n_NoText0 C_read_machine C_law_caught,m_law_asked,F_law_asked.kp,b_law_asked⟩
 have C_law_read:Cal l.prog w K mg base "_law_read" 2 _ spLRead:=⟨_,_,ok_law_read F_law_read Z C_law_number_in C_law_are_letters,m_law_read,F_law_read.kp,b_law_read⟩
 have C_law_sign:Cal l.prog w K mg base "_law_sign" 2 _ spSign:=⟨_,_,ok_law_sign F_law_sign Z C_law_pick,m_law_sign,F_law_sign.kp,b_law_sign⟩
 have C_law_row_otherwise:Cal l.prog w K mg base "_law_row_otherwise" 3 _ spRowO:=⟨_,_,ok_law_row_otherwise F_law_row_otherwise Z C_law_pick C_law_sign,m_law_row_otherwise,F_law_row_otherwise.kp,b_law_row_otherwise⟩
 have C_law_otherwise:Cal l.prog w K mg base "_law_otherwise" 4 _ spOther:=⟨_,_,ok_law_otherwise F_law_otherwise Z C_law_pick C_law_row_otherwise,m_law_otherwise,F_law_otherwise.kp,b_law_otherwise⟩
 exact ok_law F_law Z C_law_flow C_law_pick C_law_any_machine C_law_machine_text C_law_otherwise C_law_read C_law_asked C_show_machine C_law_alike
theorem walk {l:PySem.W.OpenLaw} {q:Program} {loose:List Str} {XP:(Str→Option Value)→Heap→Prop} {YP:World→Heap→Prop} {d:DefRec} {K:Params→PySem.W.Frag} (hn:l.most=some 63) (hdf:d.params.defaults=[])
  (hY:∀ (w:World) (h:Heap),YP w h→(K w.params).In h)
  (F:∀ (w:World) (mg:Str→Option Value) (fa:Addr) (h:Heap),(K w.params).In h→h.Ns mainGlobals mg→mg d.name=some (.ref fa)→
   ∃ fd:FuncData,(∀ (s:Shared) (u:Value),BindsTo s fd ⟨[u],[]⟩ [("_law_script",u)])∧∀ base:Heap,(K w.params).In base→base.Ns mainGlobals mg→FnOk l.prog w (K w.params) mg base CX0 7 fa fd ["_law_script"] (spLaw (K w.params))) :
  PySem.W.WalkO q loose XP YP l.row.toRowW d [] (fun f vs=>PySem.call f vs):=
 L2.walk_of (n:=63) (k:=7) (x:="_law_script") (CX:=fun _=>CX0) (sp:=fun w=>spLaw (K w.params)) hn (by decide) hdf ⟨rfl,by decide,by decide⟩ hY F (fun _ _ a ns hl _ hS=>⟨a,ns,rfl,hS,hl,fun _=>rfl⟩) fun _ _ _ _ _ z=>z
end My
open PySem PySem.W PyProof.Rows
def PySem.W.Fast.tw11019998200856227441:Nat:=0
def PySem.W.Fast.tw11147508169484743764:Nat:=0
def PySem.W.Fast.tw16587410138544925709:Nat:=0
def PySem.W.Fast.tw2405766217578977169:Nat:=0
def PySem.W.Fast.tw15714582201180017694:Nat:=0
def PySem.W.Fast.tw2356762128067292626:Nat:=0
def PySem.W.Fast.tw13541446487879075139:Nat:=0
def PySem.W.Fast.tw3045822722635993100:Nat:=0
def PySem.W.Fast.tw9098854900585109489:Nat:=0
def PySem.W.Fast.tw17200846316542865533:Nat:=0
def PySem.W.Fast.tw79952637171621341:Nat:=0
def PySem.W.Fast.tw244899883552867523:Nat:=0
def PySem.W.Fast.tw4643639912894991505:Nat:=0
def PySem.W.Fast.tw383173000779132931:Nat:=0
def PySem.W.Fast.tw17669204257843428724:Nat:=0
def PySem.W.Fast.tw16719912703750301788:Nat:=0
def PySem.W.Fast.tw9455095950658330327:Nat:=0
def PySem.W.Fast.tw3269897671025430381:Nat:=0
def PySem.W.Fast.tw10102748609872631678:Nat:=0
def PySem.W.Fast.tw8381060294178000277:Nat:=0
def PySem.W.Fast.tw13276835281734025048:Nat:=0
def PySem.W.Fast.tw9094746195021306549:Nat:=0
def PySem.W.Fast.tw5844728366003378281:Nat:=0
def PySem.W.Fast.tw8948422414627378964:Nat:=0
def PySem.W.Fast.tw15357970529962490667:Nat:=0
def PySem.W.Fast.tw15142839380575744163:Nat:=0
def PySem.W.Fast.tw15970040730943676066:Nat:=0
def PySem.W.Fast.tw2045556835980720888:Nat:=0
def PySem.W.Fast.tw472285108574722869:Nat:=0
def PySem.W.Fast.tw10970110357324545075:Nat:=0
def PySem.W.Fast.tw11414177663828482159:Nat:=0
def PySem.W.Fast.tw9494587112431328171:Nat:=0
def PySem.W.Fast.tw535513484853248132:Nat:=0
def PySem.W.Fast.tw9414257621006700855:Nat:=0
def PySem.W.Fast.tw10752538864192163048:Nat:=0
def PySem.W.Fast.tw12753274116329893019:Nat:=0
def PySem.W.Fast.tw6374328541476119677:Nat:=0
def PySem.W.Fast.tw9408993920764771512:Nat:=0
def PySem.W.Fast.tw8139784726545182863:Nat:=0
set_option maxRecDepth 100000 in
set_option maxHeartbeats 0 in
theorem PySem.Challenge.cw_spreadwords_k19_texts_of_no_machine_holds : PySem.Challenge.rw_spreadwords_k19_texts_of_no_machine.Holds := by
 w_on; o_law; k_head; (case hw=>w_witness2)
 k_fill
 refine My.walk (l:=PySem.Challenge.rw_spreadwords_k19_texts_of_no_machine) rfl rfl (fun w h Y=>PySem.W.kIn_of Y) ?F
 case F=>
  intro w mg fa h KX G hmg
  refine' My.all_mk KX G hmg ?a1 ?l1 ?c1 ?k1 ?a2 ?l2 ?c2 ?k2 ?a3 ?l3 ?c3 ?k3 ?a4 ?l4 ?c4 ?k4 ?a5 ?l5 ?c5 ?k5 ?a6 ?l6 ?c6 ?k6 ?a7 ?l7 ?c7 ?k7 ?a8 ?l8 ?c8 ?k8 ?a9 ?l9 ?c9 ?k9 ?a10 ?l10 ?c10 ?k10 ?a11 ?l11 ?c11 ?k11 ?a12 ?l12 ?c12 ?k12 ?a13 ?l13 ?c13 ?k13 ?a14 ?l14 ?c14 ?k14 ?a15 ?l15 ?c15 ?k15 ?a16 ?l16 ?c16 ?k16 ?a17 ?l17 ?c17 ?k17 ?a18 ?l18 ?c18 ?k18 ?a19 ?l19 ?c19 ?k19 ?a20 ?l20 ?c20 ?k20 ?a21 ?l21 ?c21 ?k21 ?a22 ?l22 ?c22 ?k22 ?a23 ?l23 ?c23 ?k23 ?a24 ?l24 ?c24 ?k24 ?a25 ?l25 ?c25 ?k25 ?z_ValueError ?z_all ?z_bool ?z_enumerate ?z_int ?z_isinstance ?z_len ?z_list ?z_max ?z_min ?z_range ?z_set ?z_sorted ?z_str ?z_tuple ?q_MOST_FIGURES ?r_MOST_FIGURES ?q_ROWS_AHEAD ?r_ROWS_AHEAD ?a_SpreadError ?a_NoText ?f_NoText ?k_NoText ?a_NoMachine ?f_NoMachine ?k_NoMachine ?a_NoFit ?f_NoFit ?k_NoFit ?a_NoName ?f_NoName ?k_NoName ?a_NoRow ?f_NoRow ?k_NoRow ?e_NoFit ?e_NoRow ?i_NoText ?l_NoText ?d_NoText ?q_NoText ?e_NoText ?n_NoText0 ?kit ?f_exm
  (case a1=>k_is)
  (case l1=>k_is)
  (case c1=>k_is)
  (case k1=>k_is)
  (case a2=>k_is)
  (case l2=>k_is)
  (case c2=>k_is)
  (case k2=>k_is)
  (case a3=>k_is)
  (case l3=>k_is)
  (case c3=>k_is)
  (case k3=>k_is)
  (case a4=>k_is)
  (case l4=>k_is)
  (case c4=>k_is)
  (case k4=>k_is)
  (case a5=>k_is)
  (case l5=>k_is)
  (case c5=>k_is)
  (case k5=>k_is)
  (case a6=>k_is)
  (case l6=>k_is)
  (case c6=>k_is)
  (case k6=>k_is)
  (case a7=>k_is)
  (case l7=>k_is)
  (case c7=>k_is)
  (case k7=>k_is)
  (case a8=>k_is)
  (case l8=>k_is)
  (case c8=>k_is)
  (case k8=>k_is)
  (case a9=>k_is)
  (case l9=>k_is)
  (case c9=>k_is)
  (case k9=>k_is)
  (case a10=>k_is)
  (case l10=>k_is)
  (case c10=>k_is)
  (case k10=>k_is)
  (case a11=>k_is)
  (case l11=>k_is)
  (case c11=>k_is)
  (case k11=>k_is)
  (case a12=>k_is)
  (case l12=>k_is)
  (case c12=>k_is)
  (case k12=>k_is)
  (case a13=>k_is)
  (case l13=>k_is)
  (case c13=>k_is)
  (case k13=>k_is)
  (case a14=>k_is)
  (case l14=>k_is)
  (case c14=>k_is)
  (case k14=>k_is)
  (case a15=>k_is)
  (case l15=>k_is)
  (case c15=>k_is)
  (case k15=>k_is)
  (case a16=>k_is)
  (case l16=>k_is)
  (case c16=>k_is)
  (case k16=>k_is)
  (case a17=>k_is)
  (case l17=>k_is)
  (case c17=>k_is)
  (case k17=>k_is)
  (case a18=>k_is)
  (case l18=>k_is)
  (case c18=>k_is)
  (case k18=>k_is)
  (case a19=>k_is)
  (case l19=>k_is)
  (case c19=>k_is)
  (case k19=>k_is)
  (case a20=>k_is)
  (case l20=>k_is)
  (case c20=>k_is)
  (case k20=>k_is)
  (case a21=>k_is)
  (case l21=>k_is)
  (case c21=>k_is)
  (case k21=>k_is)
  (case a22=>k_is)
  (case l22=>k_is)
  (case c22=>k_is)
  (case k22=>k_is)
  (case a23=>k_is)
  (case l23=>k_is)
  (case c23=>k_is)
  (case k23=>k_is)
  (case a24=>k_is)
  (case l24=>k_is)
  (case c24=>k_is)
  (case k24=>k_is)
  (case a25=>k_is)
  (case l25=>k_is)
  (case c25=>k_is)
  (case k25=>k_is)
  (case z_ValueError=>k_is)
  (case z_all=>k_is)
  (case z_bool=>k_is)
  (case z_enumerate=>k_is)
  (case z_int=>k_is)
  (case z_isinstance=>k_is)
  (case z_len=>k_is)
  (case z_list=>k_is)
  (case z_max=>k_is)
  (case z_min=>k_is)
  (case z_range=>k_is)
  (case z_set=>k_is)
  (case z_sorted=>k_is)
  (case z_str=>k_is)
  (case z_tuple=>k_is)
  (case q_MOST_FIGURES=>k_is)
  (case r_MOST_FIGURES=>exact ⟨_,rfl⟩)
  (case q_ROWS_AHEAD=>k_is)
  (case r_ROWS_AHEAD=>exact ⟨_,rfl⟩)
  (case a_SpreadError=>k_is)
  (case a_NoText=>k_is)
  (case f_NoText=>with_unfolding_all rfl)
  (case k_NoText=>k_is)
  (case a_NoMachine=>k_is)
  (case f_NoMachine=>with_unfolding_all rfl)
  (case k_NoMachine=>k_is)
  (case a_NoFit=>k_is)
  (case f_NoFit=>with_unfolding_all rfl)
  (case k_NoFit=>k_is)
  (case a_NoName=>k_is)
  (case f_NoName=>with_unfolding_all rfl)
  (case k_NoName=>k_is)
  (case a_NoRow=>k_is)
  (case f_NoRow=>with_unfolding_all rfl)
  (case k_NoRow=>k_is)
  (case e_NoFit=>with_unfolding_all rfl)
  (case e_NoRow=>with_unfolding_all rfl)
  (case i_NoText=>k_is)
  (case l_NoText=>k_is)
  (case d_NoText=>k_is)
  (case q_NoText=>k_is)
  (case e_NoText=>with_unfolding_all rfl)
  (case n_NoText0=>k_is)
  (case kit=>with_unfolding_all rfl)
  (case f_exm=>with_unfolding_all rfl)
