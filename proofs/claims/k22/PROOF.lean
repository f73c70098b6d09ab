import PyProof.Rows.All
import Wide.All
import OpenK.AllK
import Wide.FinOn
import PyProof.ZipIter
import KE.KTryMore
import PyProof.NsDelKeeps
import PyProof.ListRange
import PyProof.Draws
import PyProof.EnumMake
import KE.KUnpack
import KE.KLam
import KE.KRevIter
import KE.KDictOf
import PyProof.AttrMissSeq
import KE.KDictList
import KE.LcSums
import KE.KSortTup
import KE.KIntText
import PyProof.StrLawsTight
import PyProof.StrLawsChain
import PyProof.Rows.StrItems
import PyProof.NeKinds
import PyProof.Rows.SetFrom
import PyProof.DictFindH
import Lean
import PyProof.EqAt
import PyProof.EqKinds
import PyProof.TupleCall
import PyProof.ListStr
import KE.KRevSl
import PyProof.Rows.Range3
import PySem.Challenge.RW_spreadwords_k22_whole_same_machines
set_option Elab.async false
set_option linter.all false
set_option maxRecDepth 100000
set_option maxHeartbeats 4000000
namespace L2
open PySem PySem.Spec PyProof.Rows
abbrev Key:=Sum Int Str
def Hk:Key→Value→Bool
 | .inl k,v=>Value.isInt k v
 | .inr x,v=>Value.isStrOf x v
def keyH (w:World):Key→Int
 | .inl k=>hashInt k
 | .inr x=>hashStr w x
theorem Xg:∀ {k:Key} {v:Value},Hk k v=true→(∃ i t,k=Sum.inl i∧v=Value.int i t)∨(∃ x t,k=Sum.inr x∧v=Value.str x t)
 | .inl i,v,h=>by
  obtain ⟨t,e⟩:=Value.isInt_shape (k:=i) (v:=v) h
  exact .inl ⟨i,t,rfl,e⟩
 | .inr x,v,h=>by
  obtain ⟨t,e⟩:=Value.isStrOf_shape (x:=x) (v:=v) h
  exact .inr ⟨x,t,rfl,e⟩
theorem Zfq (i:Int) (t:Tok):Hk (.inl i) (.int i t)=true:=by simp [Hk,Value.isInt]
theorem Zfp (x:Str) (t:Tok):Hk (.inr x) (.str x t)=true:=by simp [Hk,Value.isStrOf]
theorem Zo1 (a b:Int):decide ((Sum.inl a:Key)=Sum.inl b)=(a==b):=by
 by_cases e:a=b
 ·subst e; simp
 ·have h:¬ (Sum.inl a:Key)=Sum.inl b:=λq=>e (Sum.inl.inj q)
  rw [decide_eq_false h]
  exact (beq_eq_false_iff_ne.mpr e).symm
theorem Zoy (a b:Str):decide ((Sum.inr a:Key)=Sum.inr b)=decide (a=b):=by
 by_cases e:a=b
 ·subst e; simp
 ·have h:¬ (Sum.inr a:Key)=Sum.inr b:=λq=>e (Sum.inr.inj q)
  rw [decide_eq_false h,decide_eq_false e]
theorem Zo0 (a:Int) (b:Str):decide ((Sum.inl a:Key)=Sum.inr b)=false:=decide_eq_false (λq=>nomatch q)
theorem Zoz (a:Str) (b:Int):decide ((Sum.inr a:Key)=Sum.inl b)=false:=decide_eq_false (λq=>nomatch q)
def Ys (prog:Program) (w:World):PySem.KeyKind prog w Key where
 is:=Hk
 hash:=keyH w
 inj:=λv a b ha hb=>by
  rcases Xg ha with ⟨i,t,rfl,rfl⟩ | ⟨x,t,rfl,rfl⟩
  ·rcases Xg hb with ⟨j,u,rfl,e⟩ | ⟨y,u,rfl,e⟩
   ·injection e with e1 _; rw [e1]
   ·exact nomatch e
  ·rcases Xg hb with ⟨j,u,rfl,e⟩ | ⟨y,u,rfl,e⟩
   ·exact nomatch e
   ·injection e with e1 _; rw [e1]
 byValue:=λk v h=>by
  rcases Xg h with ⟨i,t,rfl,rfl⟩ | ⟨x,t,rfl,rfl⟩ <;> rfl
 pyHash:=λhv h=>by
  rcases Xg hv with ⟨i,t,rfl,rfl⟩ | ⟨x,t,rfl,rfl⟩
  ·exact wpAny_pyHash_int h
  ·exact wpAny_pyHash_str h
 eqBool:=λhu hv h=>by
  rcases Xg hu with ⟨i,t,rfl,rfl⟩ | ⟨x,t,rfl,rfl⟩
  ·rcases Xg hv with ⟨j,u,rfl,rfl⟩ | ⟨y,u,rfl,rfl⟩
   ·rw [Zo1] at h; exact wpAny_eqBool_int h
   ·rw [Zo0] at h; exact SeqAt.EqAt.int_str i t y u _ _ _ _ h
  ·rcases Xg hv with ⟨j,u,rfl,rfl⟩ | ⟨y,u,rfl,rfl⟩
   ·rw [Zoz] at h; exact SeqAt.EqAt.str_int x t j u _ _ _ _ h
   ·rw [Zoy] at h; exact wpAny_eqBool_str h
 «strs»:=λk x t v h=>by
  rcases Xg h with ⟨i,u,rfl,e⟩ | ⟨y,u,rfl,e⟩
  ·exact nomatch e
  ·injection e with e1 _
   subst e1
   cases v <;> rfl
theorem As (prog:Program) (w:World) (i:Int) (t:Tok):(Ys prog w).is (.inl i) (.int i t)=true:=Zfq i t
theorem Ar (prog:Program) (w:World) (x:Str) (t:Tok):(Ys prog w).is (.inr x) (.str x t)=true:=Zfp x t
end L2
namespace L2
open PySem PySem.Spec PyProof.Rows
inductive V where
 | non | bl (b:Bool) | int (i:Int) | str (x:Str) | byt (b:Array UInt8) | flt (b:UInt64) | ref (a:Addr) | ty (n:String)
 deriving DecidableEq
def RelV:V→Value→Prop
 | .non,u=>u=Value.none
 | .bl b,u=>u=Value.bool b
 | .int i,u=>∃ t,u=Value.int i t
 | .str x,u=>∃ t,u=Value.str x t
 | .byt b,u=>∃ t,u=Value.bytes b t
 | .flt b,u=>∃ t,u=Value.float b t
 | .ref a,u=>u=Value.ref a
 | .ty n,u=>u=Value.type n
abbrev Vals:List V→List Value→Prop:=Paired RelV
theorem Vals.length {xs:List V} {us:List Value} (r:Vals xs us):xs.length=us.length:=Paired.length r
theorem Vals.get:∀ {xs:List V} {us:List Value} {i:Nat} {x:V},Vals xs us→xs[i]? = some x→∃ u,us[i]? = some u∧RelV x u
 | _,_,_,_,.nil,e=>by simp at e
 | _,_,0,_,.cons r _,e=>by simp at e; subst e; exact ⟨_,rfl,r⟩
 | _,_,i+1,x,.cons _ t,e=>by
  obtain ⟨u,h1,h2⟩:=Vals.get (i:=i) (x:=x) t (by simpa using e)
  exact ⟨u,by simpa using h1,h2⟩
theorem Vals.set {x:V} {u:Value} (r:RelV x u):∀ {xs:List V} {us:List Value} (i:Nat),Vals xs us→Vals (xs.set i x) (us.set i u)
 | _,_,_,.nil=>.nil
 | _,_,0,.cons _ t=>.cons r t
 | _,_,i+1,.cons q t=>.cons q (Vals.set r i t)
theorem Vals.append:∀ {xs ys:List V} {us ws:List Value},Vals xs us→Vals ys ws→Vals (xs ++ ys) (us ++ ws)
 | _,_,_,_,.nil,s=>s
 | _,_,_,_,.cons r t,s=>.cons r (Vals.append t s)
theorem Vals.take:∀ {xs:List V} {us:List Value} (n:Nat),Vals xs us→Vals (xs.take n) (us.take n)
 | _,_,0,_=>.nil
 | _,_,_+1,.nil=>.nil
 | _,_,n+1,.cons r t=>.cons r (Vals.take n t)
theorem Vals.drop:∀ {xs:List V} {us:List Value} (n:Nat),Vals xs us→Vals (xs.drop n) (us.drop n)
 | _,_,0,r=>r
 | _,_,_+1,.nil=>.nil
 | _,_,n+1,.cons _ t=>Vals.drop n t
theorem Vals.none_of:∀ {xs:List V} {us:List Value} {i:Nat},Vals xs us→xs[i]? = none→us[i]? = none:=λ{xs us i} r e=>by
 have h1:=r.length
 have h2:xs.length≤i:=List.getElem?_eq_none_iff.mp e
 exact List.getElem?_eq_none_iff.mpr (by omega)
def L3:Option V→Option Value→Prop
 | some v,some u=>RelV v u
 | none,none=>True
 | _,_=>False
def KV {κ:Type}:List (κ × V)→List (κ × Value)→Prop:=Paired λ(p:κ × V) (q:κ × Value)=>p.1=q.1∧RelV p.2 q.2
def kV:Key→V
 | .inl i=>.int i
 | .inr x=>.str x
inductive HO where
  | lst (xs:List V)
  | tup (xs:List V)
  | dK (kvs:List (Key × V)) | dT (kvs:List (List Key × V))
  | set (S:Int→Bool) (n:Nat)
  | ins (C dx:Addr) (fs:List (Str × V))
  | own (x:Addr)
  | xd (fs:List (Str × V))
  | met (f x:Addr)
  | rng (lo hi:Int)
  | frz (o:Obj) (u:HO)
  | tbl (ps:Array Value)
  | ext (φ:Heap→Prop)
abbrev Hp:=Addr→Option HO
def upd (H:Hp) (a:Addr) (o:HO):Hp:=λb=>if b=a then some o else H b
theorem Zb {H:Hp} {a:Addr} {o:HO}:upd H a o a=some o:=by unfold upd; rw [if_pos rfl]
theorem Zj {H:Hp} {a b:Addr} {o:HO} (h:b≠a):upd H a o b=H b:=by unfold upd; rw [if_neg h]
theorem Ny {H:Hp} {a:Addr} {o u:HO}:upd (upd H a o) a u=upd H a u:=by
 funext b; unfold upd; split <;> rfl
theorem Wb {H:Hp} {a b:Addr} {o u:HO} (h:H a=some o) (h':H b=some u) (d:o≠u):a≠b:=by
 intro e; subst e; rw [h] at h'; exact d (Option.some.inj h')
theorem Zg {H:Hp} {a b:Addr} {o:HO} (h:H a=some o) (h':H b=none):a≠b:=by
 intro e; subst e; rw [h] at h'; cases h'
section
variable (P:Program) (w:World)
def Yx (H:Hp) (h:Heap) (a:Addr):HO→Prop
 | .lst xs=>xs.length≤sizeLine∧∃ (its:List Value) (n:Nat),Vals xs its∧h.get? a=some { cls:=.type "list",data:=.seq its.toArray n }
 | .tup xs=>xs.length≤sizeLine∧∃ its:List Value,Vals xs its∧IsTup h a its.toArray
 | .dK kvs=>kvs.length≤sizeLine∧(a==sysModules)=false∧∃ vs,KV kvs vs∧h.DictOf (Ys P w) a vs
 | .dT kvs=>kvs.length≤sizeLine∧(a==sysModules)=false∧∃ xs:List (List Key × Addr × Value),
   Paired (λ(p:List Key × V) (q:List Key × Addr × Value)=>p.1=q.1∧H q.2.1=some (.tup (p.1.map kV))∧RelV p.2 q.2.2) kvs xs∧
   ∃ o es ep,h.get? a=some o∧o.ExactDict∧o.data=.dict es ep∧es.toList=xs.map (entryOfKey (tupleKind (Ys P w)))∧(xs.map (·.1)).Nodup
 | .set S n=>h.SetOf (intKind P w) a S n
 | .ins C dx fs=>H dx=some (.own a)∧fs.length≤1000∧dx≠a∧h.get? a=some (W.instObj C dx)∧
   ∃ mA,h.Ns1 dx mA∧(∀ f,L3 (fs.lookup f) (mA f))∧PySem.Within mA (fs.map (·.1))
 | .own _=>∃ o,h.get? a=some o
 | .xd fs=>∃ mA,h.Ns1 a mA∧∀ f,L3 (fs.lookup f) (mA f)
 | .rng lo hi=>∃ t u v,h.get? a=some { cls:=.type "range",data:=.fields #[.int lo t,.int hi u,.int 1 v] }
 | .frz o u=>h.get? a=some o∧Yx H h a u
 | .tbl ps=>h.get? a=some { cls:=.none,data:=.fields ps }
 | .met f x=>h.get? a=some (W.methodObj (.ref f) (.ref x))
 | .ext φ=>φ h∧(∃ o,h.get? a=some o)∧∀ h1 h2:Heap,φ h1→(∀ o,h1.get? a=some o→h2.get? a=some o)→φ h2
def HOk (H:Hp) (h:Heap):Prop:=∀ a o,H a=some o→Yx P w H h a o
end
section
variable {P:Program} {w:World} {H H':Hp} {h h':Heap} {a:Addr} {o:HO}
theorem Yx.lt (x:Yx P w H h a o):a < h.objs.size:=by
 cases o with
 | lst xs=>obtain ⟨_,_,_,_,e⟩:=x; exact Heap.lt_size e
 | tup xs=>obtain ⟨_,_,_,p⟩:=x; exact p.lt
 | dK kvs=>obtain ⟨_,_,_,_,o,_,_,e,_⟩:=x; exact Heap.lt_size e
 | dT kvs=>obtain ⟨_,_,_,_,o,_,_,e,_⟩:=x; exact Heap.lt_size e
 | set S n=>obtain ⟨o,_,_,_,e,_⟩:=x; exact Heap.lt_size e
 | ins C dx fs=>obtain ⟨_,_,_,e,_⟩:=x; exact Heap.lt_size e
 | own y=>obtain ⟨_,e⟩:=x; exact Heap.lt_size e
 | xd fs=>obtain ⟨_,⟨_,_,_,e,_⟩,_⟩:=x; exact Heap.lt_size e
 | rng lo hi=>obtain ⟨_,_,_,e⟩:=x; exact Heap.lt_size e
 | frz ob u=>obtain ⟨e,_⟩:=x; exact Heap.lt_size e
 | tbl ps=>exact Heap.lt_size (show h.get? a=some _ from x)
 | met f y=>exact Heap.lt_size (show h.get? a=some _ from x)
 | ext φ=>obtain ⟨_,⟨_,e⟩,_⟩:=x; exact Heap.lt_size e
theorem Paired.Zop {α β:Type} {F G:α→β→Prop}:∀ {l₁:List α} {l₂:List β},Paired F l₁ l₂→(∀ a b,F a b→G a b)→Paired G l₁ l₂
 | _,_,.nil,_=>.nil
 | _,_,.cons r t,f=>.cons (f _ _ r) (Paired.Zop t f)
theorem Yx.Jq (x:Yx P w H h a o) (k:∀ b u,(b=a∨H b=some (.own a))→h.get? b=some u→h'.get? b=some u)
  (ho:∀ b,H b=some (.own a)→H' b=some (.own a)) (ht:∀ b xs,H b=some (.tup xs)→H' b=some (.tup xs)):Yx P w H' h' a o:=by
 induction o with
 | lst xs=>obtain ⟨z,its,n,r,e⟩:=x; exact ⟨z,its,n,r,k _ _ (.inl rfl) e⟩
 | tup xs=>obtain ⟨z,its,r,ob,e,c⟩:=x; exact ⟨z,its,r,ob,k _ _ (.inl rfl) e,c⟩
 | dK kvs=>obtain ⟨z,y,vs,r,ob,es,ep,e,c⟩:=x; exact ⟨z,y,vs,r,ob,es,ep,k _ _ (.inl rfl) e,c⟩
 | dT kvs=>
  obtain ⟨z,y,xs,r,ob,es,ep,e,c⟩:=x
  exact ⟨z,y,xs,Paired.Zop r λp q z=>⟨z.1,ht _ _ z.2.1,z.2.2⟩,ob,es,ep,k _ _ (.inl rfl) e,c⟩
 | set S n=>obtain ⟨ob,es,ep,t,e,c⟩:=x; exact ⟨ob,es,ep,t,k _ _ (.inl rfl) e,c⟩
 | ins C dx fs=>
  obtain ⟨d,z,ne,e,mA,⟨od,es,ep,e2,c⟩,r⟩:=x
  exact ⟨ho _ d,z,ne,k _ _ (.inl rfl) e,mA,⟨od,es,ep,k _ _ (.inr d) e2,c⟩,r⟩
 | own y=>obtain ⟨ob,e⟩:=x; exact ⟨ob,k _ _ (.inl rfl) e⟩
 | xd fs=>obtain ⟨mA,⟨od,es,ep,e,c⟩,r⟩:=x; exact ⟨mA,⟨od,es,ep,k _ _ (.inl rfl) e,c⟩,r⟩
 | rng lo hi=>obtain ⟨t,u,v,e⟩:=x; exact ⟨t,u,v,k _ _ (.inl rfl) e⟩
 | frz ob u ih=>obtain ⟨e,q⟩:=x; exact ⟨k _ _ (.inl rfl) e,ih q⟩
 | tbl ps=>
  have e:h.get? a=some { cls:=.none,data:=.fields ps }:=x
  show h'.get? a=some { cls:=.none,data:=.fields ps }
  exact k a _ (.inl rfl) e
 | met f y=>
  have e:h.get? a=some (W.methodObj (.ref f) (.ref y)):=x
  show h'.get? a=some (W.methodObj (.ref f) (.ref y))
  exact k a _ (.inl rfl) e
 | ext φ=>obtain ⟨p,⟨o,e⟩,st⟩:=x; exact ⟨st _ _ p λo q=>k _ _ (.inl rfl) q,⟨o,k _ _ (.inl rfl) e⟩,st⟩
theorem HOk.lt (x:HOk P w H h) (e:H a=some o):a < h.objs.size:=(x a o e).lt
theorem HOk.fresh (x:HOk P w H h) (e:h.objs.size≤a):H a=none:=by
 cases q:H a with
 | none=>rfl
 | some u=>exact absurd (Nat.lt_of_lt_of_le (x.lt q) e) (Nat.lt_irrefl _)
theorem HOk.kept (x:HOk P w H h) (k:∀ b u,h.get? b=some u→h'.get? b=some u):HOk P w H h':=λa o e=>
 (x a o e).Jq (λb u _ q=>k b u q) (λ_ q=>q) λ_ _ q=>q
theorem HOk.laid (x:HOk P w H h) (k:∀ b u,h.get? b=some u→h'.get? b=some u) (hp:h.objs.size≤a) (new:Yx P w (upd H a o) h' a o):HOk P w (upd H a o) h':=λb u e=>by
 have hn:=x.fresh hp
 by_cases hb:b=a
 ·subst hb; rw [Zb] at e; cases e; exact new
 ·rw [Zj hb] at e
  exact (x b u e).Jq (λc v _ q=>k c v q) (λc q=>by rw [Zj (Zg q hn)]; exact q) λc xs q=>by rw [Zj (Zg q hn)]; exact q
end
def Rd (H:Hp) (a:Addr) (u:HO):Prop:=H a=some u∨∃ o,H a=some (.frz o u)
theorem Rd.ok {P:Program} {w:World} {H:Hp} {h:Heap} {a:Addr} {u:HO} (r:Rd H a u) (x:HOk P w H h):Yx P w H h a u:=by
 rcases r with r | ⟨o,r⟩
 ·exact x a u r
 ·obtain ⟨_,q⟩:=x a _ r
  exact q
def Mut:Option HO→Prop
 | some (.lst _)=>True
 | some (.dK _)=>True
 | some (.dT _)=>True
 | some (.set _ _)=>True
 | some (.ins _ _ _)=>True
 | some (.ext _)=>True
 | _=>False
section
variable {P:Program} {w:World} {H:Hp} {h h':Heap} {x e:Addr} {o':HO}
theorem HOk.write (ok:HOk P w H h) (mu:Mut (H x)) (he:e=x∨H e=some (.own x)) (k:∀ b u,b≠e→h.get? b=some u→h'.get? b=some u) (heo:∃ u,h'.get? e=some u)
  (new:Yx P w (upd H x o') h' x o'):HOk P w (upd H x o') h':=λb u q=>by
 have Zrc:∀ c y,H c=some (.own y)→c≠x:=λc y r z=>by subst z; rw [r] at mu; exact mu
 have ntup:∀ c xs,H c=some (.tup xs)→c≠x:=λc xs r z=>by subst z; rw [r] at mu; exact mu
 by_cases hb:b=x
 ·subst hb; rw [Zb] at q; cases q; exact new
 ·rw [Zj hb] at q
  by_cases hbe:b=e
  ·have q':H b=some (.own x):=by
    rcases he with z | z
    ·exact absurd (hbe.trans z) hb
    ·rw [hbe]; exact z
   rw [q] at q'; cases q'
   obtain ⟨v,hv⟩:=heo
   exact ⟨v,by rw [hbe]; exact hv⟩
  ·refine (ok b u q).Jq (λc v hc r=>k c v ?_ r) (λc r=>by rw [Zj (Zrc c b r)]; exact r) λc xs r=>by rw [Zj (ntup c xs r)]; exact r
   rcases hc with rfl | hc
   ·exact hbe
   ·rintro rfl
    rcases he with z | z
    ·exact Zrc c b hc z
    ·rw [hc] at z; cases z; exact hb rfl
end
structure Un (fs ex:List Addr) (H H':Hp) (h h':Heap):Prop where
 keep:∀ b o,h.get? b=some o→H b=none→b∉fs→b∉ex→h'.get? b=some o
 slot:∀ b o,h.get? b=some o→H b=none→b∈fs→b∉ex→∃ sl,h'.get? b=some { o with slots:=sl }
 free:∀ b o,h.get? b=some o→H b=none→b∉ex→H' b=none
 there:∀ b o,h.get? b=some o→b∉ex→∃ o',h'.get? b=some o'
 Ey:∀ b xs,H b=some (.tup xs)→H' b=some (.tup xs)
 Hr:∀ b o u,H b=some (.frz o u)→H' b=some (.frz o u)
 Gp:∀ b ps,H b=some (.tbl ps)→∃ more,H' b=some (.tbl (ps ++ more))
section
variable {fs fs' ex ex':List Addr} {H H1 H2:Hp} {h h1 h2 h':Heap} {a x e:Addr} {o:HO}
theorem Un.any (u:Un fs ex H H1 h h1) {b:Addr} {ob:Obj} (q:h.get? b=some ob) (n:H b=none) (hx:b∉ex):∃ sl,h1.get? b=some { ob with slots:=sl }:=by
 by_cases hb:b∈fs
 ·exact u.slot b ob q n hb hx
 ·exact ⟨ob.slots,u.keep b ob q n hb hx⟩
theorem Un.kept (k:∀ b u,h.get? b=some u→h'.get? b=some u):Un fs ex H H h h':=
 ⟨λb ob q _ _ _=>k b ob q,λb ob q _ _ _=>⟨ob.slots,k b ob q⟩,λ_ _ _ n _=>n,λb ob q _=>⟨ob,k b ob q⟩,λ_ _ q=>q,λ_ _ _ q=>q,λ_ ps q=>⟨#[],by rw [q]; simp⟩⟩
theorem Un.refl:Un fs ex H H h h:=Un.kept λ_ _ q=>q
theorem Un.laid (k:∀ b u,h.get? b=some u→h'.get? b=some u) (hp:h.objs.size≤a) (hn:H a=none):Un fs ex H (upd H a o) h h' where
 keep:=λb u q _ _ _=>k b u q
 slot:=λb u q _ _ _=>⟨u.slots,k b u q⟩
 free:=λb u q n _=>by rw [Zj (Nat.ne_of_lt (Nat.lt_of_lt_of_le (Heap.lt_size q) hp))]; exact n
 there:=λb u q _=>⟨u,k b u q⟩
 Ey:=λb xs q=>by rw [Zj (Zg q hn)]; exact q
 Hr:=λb u xs q=>by rw [Zj (Zg q hn)]; exact q
 Gp:=λb ps q=>⟨#[],by rw [Zj (Zg q hn),q]; simp⟩
theorem Un.write (mu:Mut (H x)) (he:e=x∨H e=some (.own x)) (k:∀ b u,b≠e→h.get? b=some u→h'.get? b=some u) (heo:∃ u,h'.get? e=some u):Un fs ex H (upd H x o) h h':=by
 have hx:∀ b,H b=none→b≠x:=λb n z=>by subst z; rw [n] at mu; exact mu
 have hb:∀ b,H b=none→b≠e:=λb n z=>by
  subst z
  rcases he with r | r
  ·exact hx b n r
  ·rw [n] at r; cases r
 have hm:∀ b u,H b=some u→¬ Mut (some u)→b≠x:=λb u q nm z=>by subst z; rw [q] at mu; exact nm mu
 refine ⟨λb u q n _ _=>k b u (hb b n) q,λb u q n _ _=>⟨u.slots,k b u (hb b n) q⟩,λb u q n _=>by rw [Zj (hx b n)]; exact n,λb u q _=>?_,
  λb xs q=>by rw [Zj (hm b _ q λz=>z)]; exact q,λb u xs q=>by rw [Zj (hm b _ q λz=>z)]; exact q,λb ps q=>⟨#[],by rw [Zj (hm b _ q λz=>z),q]; simp⟩⟩
 by_cases hbe:b=e
 ·subst hbe; exact heo
 ·exact ⟨u,k b u hbe q⟩
end
def trk (h:Heap) (H:Hp):List Addr:=(List.range h.objs.size).filter λa=>(H a).isSome
def Nc (h:Heap) (H:Hp):Heap:=W.hideAll h (trk h H)
theorem Ef (h:Heap) (H:Hp):(Nc h H).objs.size=h.objs.size:=W.hideAll_size _ _
theorem Zac {h:Heap} {H:Hp} {b:Addr} {o:Obj} (e:h.get? b=some o) (n:H b=none):(Nc h H).get? b=some o:=
 W.hideAll_get _ e λhm=>by
  have q:(H b).isSome=true:=(List.mem_filter.mp hm).2
  rw [n] at q; simp at q
theorem Zd1 {h:Heap} {H:Hp} {b:Addr} {o:Obj} (e:(Nc h H).get? b=some o):h.get? b=some o∧H b=none:=by
 have e':h.get? b=some o:=W.of_hideAll (trk h H) e
 refine ⟨e',?_⟩
 cases q:H b with
 | none=>rfl
 | some x=>
  have hm:b∈trk h H:=List.mem_filter.mpr ⟨List.mem_range.mpr (Heap.lt_size e'),by simp [q]⟩
  have z:(Nc h H).get? b=none:=W.hideAll_none (trk h H) hm
  rw [z] at e; cases e
def Zl4 (g h:Heap) (L:Addr):List (Addr × Obj):=(List.range h.objs.size).filterMap λa=>if a=L∨(g.get? a).isSome=true then none else (h.get? a).map λo=>(a,o)
def rest (g h:Heap) (L d:Addr):List (Addr × Obj):=(Zl4 g h L).filter λp=>decide (p.1≠d)
end L2
namespace L2
open PySem PySem.Spec PyProof.Rows
structure Mod (K:W.Frag) (mg:Str→Option Value) (base:Heap):Prop where
 kin:K.In base
 glob:base.Ns mainGlobals mg
 blt:∃ mb,base.Ns builtinsNs mb∧∀ x:Str,x≠"__name__"→mb x=bootBuiltins x
 nolimit:base.NoLimit
structure Cx where
 prog:Program
 w:World
 K:W.Frag
 mg:Str→Option Value
 base:Heap
 A:Around
 N:List Str
 s₀:Shared
 H₀:Hp
 env:Env
 outer:List Env
 stack:List Env
 ex:List Addr
 fn:Str→Bool
 calm:Bool
 pn:List (Addr × Obj)
 xe:Value→Shared→Prop
def frs (l:List Env):List Addr:=l.filterMap (·.frame)
abbrev Cx.fs (X:Cx):List Addr:=frs X.outer
def Vis (sc:Scope) (x:Str):Prop:=sc.names.lookup x=some .local∨sc.names.lookup x=some .cell∨sc.names.lookup x=some .free
def Loc (sc:Scope) (x:Str):Prop:=sc.names.lookup x=some .local∨sc.names.lookup x=some .cell
def Look (env:Env) (h:Heap) (m:Str→Option Value) (x:Str) (u:Value):Prop:=
 (env.kindOf x=some .local∧m x=some u)∨((env.kindOf x=some .cell∨env.kindOf x=some .free)∧∃ c,env.cells.lookup x=some c∧h.IsCell c (some u))
structure Cx.Ok (X:Cx):Prop where
 mod:Mod X.K X.mg X.base
 kind:X.env.scope.kind=.function
 glob:X.env.globals=mainGlobals
 blt:X.env.builtins=builtinsNs
 above:X.s₀.heap.objs.size≤X.env.locals
 inj:∀ x y c,X.env.cells.lookup x=some c→X.env.cells.lookup y=some c→x=y
 has:∀ x,(X.env.kindOf x=some .cell∨X.env.kindOf x=some .free)→∃ c,X.env.cells.lookup x=some c
 cab:∀ x c,X.fn x=true→X.env.cells.lookup x=some c→X.s₀.heap.objs.size≤c
 hd:X.calm=true→X.A.handled=none
 frames:X.A.frames=some X.stack
 stk:X.stack=X.outer∨(X.stack=X.env :: X.outer∧X.env.frame=some X.env.locals)
 exf:∀ b∈X.ex,b≠X.env.locals∧∀ x c,X.env.cells.lookup x=some c→c≠b
 bs:∀ b o,X.base.get? b=some o→X.s₀.heap.get? b=some o∧X.H₀ b=none
 bsz:X.base.objs.size≤X.s₀.heap.objs.size
 Zh8:∀ b o,X.base.get? b=some o→b∉X.ex
 Zi5:∀ b∈X.ex,b∉X.fs
 Lv:X.s₀.heap.FunFrames X.base X.outer
 frf:∀ b∈X.fs,X.H₀ b=none
structure Inv (X:Cx) (pins:List (Addr × Obj)) (σ:List (Option V)) (H:Hp) (s:Shared):Prop where
 ok:X.Ok
 os:s.os=X.s₀.os
 bare:AllBare s.gens
 base:Un X.fs X.ex X.H₀ H X.s₀.heap s.heap
 loc:∃ m,s.heap.Ns X.env.locals m∧∀ (i:Nat) (x:Str) (v:V),X.N[i]? = some x→σ[i]? = some (some v)→Vis X.env.scope x→∃ u,RelV v u∧Look X.env s.heap m x u
 cell:∀ x c,X.env.cells.lookup x=some c→∃ v,s.heap.IsCell c v
 free:H X.env.locals=none
 Sz:∀ x c,X.env.cells.lookup x=some c→H c=none
 pin:∀ p∈X.pn ++ pins,s.heap.get? p.1=some p.2∧H p.1=none∧p.1≠X.env.locals∧p.1∉X.fs∧∀ v,p.2.data≠.cell v
 hok:HOk X.prog X.w H s.heap
 len:σ.length=X.N.length
section
variable {X:Cx} {pins:List (Addr × Obj)} {σ:List (Option V)} {H H':Hp} {s:Shared} {h':Heap}
theorem Cx.Ok.nofr (ok:X.Ok) {b:Addr} {o:Obj} (e:X.base.get? b=some o):b∉X.fs:=λhb=>by
 have:=(ok.Lv.mem hb).1
 rw [e] at this; cases this
theorem Inv.bs (I:Inv X pins σ H s):∀ b o,X.base.get? b=some o→s.heap.get? b=some o∧H b=none:=λb o e=>
 ⟨I.base.keep b o (I.ok.bs b o e).1 (I.ok.bs b o e).2 (I.ok.nofr e) (I.ok.Zh8 b o e),I.base.free b o (I.ok.bs b o e).1 (I.ok.bs b o e).2 (I.ok.Zh8 b o e)⟩
theorem Inv.bk (I:Inv X pins σ H s):∀ b o,X.base.get? b=some o→s.heap.get? b=some o:=λb o e=>(I.bs b o e).1
theorem Inv.mod (I:Inv X pins σ H s):Mod X.K X.mg X.base:=I.ok.mod
theorem Inv.kIn (I:Inv X pins σ H s):X.K.In s.heap:=I.ok.mod.kin.keeps I.bk
theorem Inv.lt (I:Inv X pins σ H s):X.env.locals < s.heap.objs.size:=let ⟨_,hn,_⟩:=I.loc; hn.lt
theorem Inv.sz (I:Inv X pins σ H s):X.s₀.heap.objs.size≤s.heap.objs.size:=Nat.le_trans I.ok.above (Nat.le_of_lt I.lt)
theorem Inv.Zrd (I:Inv X pins σ H s) {a:Addr} (h:s.heap.objs.size≤a):a∉X.fs:=λhb=>by
 obtain ⟨_,o,ho,_⟩:=I.ok.Lv.mem hb
 exact absurd (Nat.lt_of_lt_of_le (Heap.lt_size ho) (Nat.le_trans I.sz h)) (Nat.lt_irrefl _)
theorem Inv.cne (I:Inv X pins σ H s):∀ x c,X.env.cells.lookup x=some c→c≠X.env.locals:=λx c e z=>by
 obtain ⟨v,o,ho,hd⟩:=I.cell x c e
 obtain ⟨m,⟨o',es,ep,ho',hd',_⟩,_⟩:=I.loc
 rw [z,ho'] at ho; cases ho; rw [hd'] at hd; cases hd
theorem Inv.Lv (I:Inv X pins σ H s):s.heap.FunFrames X.base X.outer:=by
 have all:∀ (l:List Env),(∀ b∈frs l,b∈X.fs)→X.s₀.heap.FunFrames X.base l→s.heap.FunFrames X.base l:=by
  intro l
  induction l with
  | nil=>intro _ _; trivial
  | cons env r ih=>
   intro hs hl
   obtain ⟨hk,⟨L,o,hf,hn,ho,hd⟩,hr⟩:=hl
   have hL:L∈X.fs:=hs L (by unfold frs; rw [List.filterMap_cons,hf]; exact List.mem_cons_self)
   obtain ⟨sl,e⟩:=I.base.slot L o ho (I.ok.frf L hL) hL λz=>I.ok.Zi5 L z hL
   exact ⟨hk,⟨L,_,hf,hn,e,hd⟩,ih (λb hb=>hs b (by unfold frs; rw [List.filterMap_cons,hf]; exact List.mem_cons_of_mem _ hb)) hr⟩
 exact all X.outer (λ_ hb=>hb) I.ok.Lv
theorem Inv.stack (I:Inv X pins σ H s):s.heap.FunFrames X.base X.stack:=by
 rcases I.ok.stk with e | ⟨e,hf⟩
 ·rw [e]; exact I.Lv
 ·rw [e]
  obtain ⟨m,hn,_⟩:=I.loc
  refine .cons (by rw [I.ok.kind]; decide) hf hn ?_ I.Lv
  exact Heap.get?_none_of_le (Nat.le_trans I.ok.bsz I.ok.above)
theorem Inv.Jp (I:Inv X pins σ H s):∀ b∈frs X.stack,b∈X.env.locals :: X.fs:=λb hb=>by
 rcases I.ok.stk with e | ⟨e,hf⟩
 ·rw [e] at hb; exact List.mem_cons_of_mem _ hb
 ·rw [e] at hb
  unfold frs at hb
  rw [List.filterMap_cons,hf] at hb
  exact hb
theorem Inv.E1 (I:Inv X pins σ H s):∀ b∈frs X.stack,H b=none:=λb hb=>by
 rcases List.mem_cons.mp (I.Jp b hb) with e | hb
 ·rw [e]; exact I.free
 ·obtain ⟨_,o,ho,_⟩:=I.ok.Lv.mem hb
  exact I.base.free b o ho (I.ok.frf b hb) λz=>I.ok.Zi5 b z hb
theorem Inv.step {g':Array GenState} {t':Nat} {d':Drawn} {ch:List Addr} (I:Inv X pins σ H s)
  (hch:∀ b∈ch,(b∈X.ex∨X.s₀.heap.objs.size≤b)∧b≠X.env.locals∧(∀ x c,X.env.cells.lookup x=some c→c≠b)∧∀ p∈X.pn ++ pins,p.1≠b)
  (keep:∀ b o,b≠X.env.locals→b∉X.fs→b∉ch→s.heap.get? b=some o→H b=none→h'.get? b=some o)
  (slot:∀ b o,b≠X.env.locals→b∈X.fs→b∉ch→s.heap.get? b=some o→H b=none→∃ sl,h'.get? b=some { o with slots:=sl }) (free:∀ b o,b∉ch→s.heap.get? b=some o→H b=none→H' b=none)
  (there:∀ b o,b∉ch→s.heap.get? b=some o→∃ o',h'.get? b=some o')
  (Ey:∀ b xs,H b=some (.tup xs)→H' b=some (.tup xs)) (Hr:∀ b o u,H b=some (.frz o u)→H' b=some (.frz o u)) (Gp:∀ b ps,H b=some (.tbl ps)→∃ more,H' b=some (.tbl (ps ++ more)))
  (ns:∀ m,s.heap.Ns X.env.locals m→h'.Ns X.env.locals m) (hok:HOk X.prog X.w H' h') (hg:AllBare g') :
  Inv X pins σ H' { s with heap:=h',gens:=g',drawn:=d',toks:=t' }:=by
 have neL:∀ b o,X.s₀.heap.get? b=some o→b≠X.env.locals:=λb o e=>Nat.ne_of_lt (Nat.lt_of_lt_of_le (Heap.lt_size e) I.ok.above)
 have neC:∀ b o,X.s₀.heap.get? b=some o→b∉X.ex→b∉ch:=λb o e hx hb=>by
  rcases (hch b hb).1 with z | z
  ·exact hx z
  ·exact absurd (Nat.lt_of_lt_of_le (Heap.lt_size e) z) (Nat.lt_irrefl _)
 have cellK:∀ x c,X.env.cells.lookup x=some c→∀ v,s.heap.IsCell c v→h'.IsCell c v:=λx c e v ⟨o,ho,hd⟩=>by
  have nch:c∉ch:=λz=>(hch c z).2.2.1 x c e rfl
  by_cases hc:c∈X.fs
  ·obtain ⟨sl,q⟩:=slot c o (I.cne x c e) hc nch ho (I.Sz x c e)
   exact ⟨_,q,hd⟩
  ·exact ⟨o,keep c o (I.cne x c e) hc nch ho (I.Sz x c e),hd⟩
 refine ⟨I.ok,I.os,hg,⟨λb o e n hb hx=>?_,λb o e n hb hx=>?_,λb o e n hx=>?_,λb o e hx=>?_,λb xs e=>Ey b xs (I.base.Ey b xs e),λb o xs e=>Hr b o xs (I.base.Hr b o xs e),λb ps e=>?_⟩,?_,λx c e=>?_,?_,λx c e=>?_,λp hp=>?_,hok,I.len⟩
 ·exact keep b o (neL b o e) hb (neC b o e hx) (I.base.keep b o e n hb hx) (I.base.free b o e n hx)
 ·obtain ⟨sl,e1⟩:=I.base.slot b o e n hb hx
  obtain ⟨sl',e2⟩:=slot b _ (neL b o e) hb (neC b o e hx) e1 (I.base.free b o e n hx)
  exact ⟨sl',e2⟩
 ·obtain ⟨o',e1⟩:=I.base.there b o e hx
  exact free b o' (neC b o e hx) e1 (I.base.free b o e n hx)
 ·obtain ⟨o',e1⟩:=I.base.there b o e hx
  exact there b o' (neC b o e hx) e1
 ·obtain ⟨m1,e1⟩:=I.base.Gp b ps e
  obtain ⟨m2,e2⟩:=Gp b _ e1
  exact ⟨m1 ++ m2,by rw [e2,Array.append_assoc]⟩
 ·obtain ⟨m,hn,hl⟩:=I.loc
  refine ⟨m,ns m hn,λi x v e1 e2 e3=>?_⟩
  obtain ⟨u,r,l⟩:=hl i x v e1 e2 e3
  refine ⟨u,r,?_⟩
  rcases l with l | ⟨k,c,e,z⟩
  ·exact .inl l
  ·exact .inr ⟨k,c,e,cellK x c e _ z⟩
 ·obtain ⟨v,z⟩:=I.cell x c e
  exact ⟨v,cellK x c e v z⟩
 ·obtain ⟨m,⟨o,_,_,ho,_⟩,_⟩:=I.loc
  exact free _ o (λz=>(hch _ z).2.1 rfl) ho I.free
 ·obtain ⟨v,o,ho,hd⟩:=I.cell x c e
  exact free c o (λz=>(hch c z).2.2.1 x c e rfl) ho (I.Sz x c e)
 ·obtain ⟨e,n,ne,nf,d⟩:=I.pin p hp
  have nch:p.1∉ch:=λz=>(hch p.1 z).2.2.2 p hp rfl
  exact ⟨keep p.1 p.2 ne nf nch e n,free p.1 p.2 nch e n,ne,nf,d⟩
theorem Inv.un {t':Nat} (I:Inv X pins σ H s) (u:Un X.fs [] H H' s.heap h') (hok:HOk X.prog X.w H' h'):Inv X pins σ H' { s with heap:=h',toks:=t' }:=by
 obtain ⟨m,⟨o,es,ep,ho,r⟩,_⟩:=id I.loc
 obtain ⟨sl,hL⟩:=u.any ho I.free (by simp)
 exact I.step (g':=s.gens) (d':=s.drawn) (ch:=[]) (λ_ z=>nomatch z) (λb o _ hb _ e n=>u.keep b o e n hb (by simp)) (λb o _ hb _ e n=>u.slot b o e n hb (by simp)) (λb o _ e n=>u.free b o e n (by simp)) (λb o _ e=>u.there b o e (by simp)) u.Ey u.Hr u.Gp (λm' hm=>by
  obtain ⟨o',es',ep',ho',r'⟩:=hm
  rw [ho] at ho'; cases ho'
  exact ⟨_,es',ep',hL,r'⟩) hok I.bare
theorem Inv.call {g':Array GenState} {t':Nat} {d':Drawn} {ch:List Addr} (I:Inv X pins σ H s) (u:Un (frs X.stack) ch H H' s.heap h') (hok:HOk X.prog X.w H' h') (hg:AllBare g')
  (hch:∀ b∈ch,(b∈X.ex∨X.s₀.heap.objs.size≤b)∧b≠X.env.locals∧(∀ x c,X.env.cells.lookup x=some c→c≠b)∧∀ p∈X.pn ++ pins,p.1≠b) :
  Inv X pins σ H' { s with heap:=h',gens:=g',drawn:=d',toks:=t' }:=by
 obtain ⟨m,⟨o,es,ep,ho,r⟩,_⟩:=id I.loc
 obtain ⟨sl,hL⟩:=u.any ho I.free λz=>(hch _ z).2.1 rfl
 exact I.step (ch:=ch) hch (λb o hL hb hc e n=>u.keep b o e n (λz=>(List.mem_cons.mp (I.Jp b z)).elim hL hb) hc) (λb o _ _ hc e n=>u.any e n hc) (λb o hc e n=>u.free b o e n hc) (λb o hc e=>u.there b o e hc) u.Ey u.Hr u.Gp (λm' hm=>by
  obtain ⟨o',es',ep',ho',r'⟩:=hm
  rw [ho] at ho'; cases ho'
  exact ⟨_,es',ep',hL,r'⟩) hok hg
theorem Inv.turned {t':Nat} {it:Addr} (I:Inv X pins σ H s) (k:∀ b o,b≠it→s.heap.get? b=some o→h'.get? b=some o) (hn:H it=none) (hL:it≠X.env.locals)
  (h1:it∈X.ex∨X.s₀.heap.objs.size≤it) (h2:∀ x c,X.env.cells.lookup x=some c→c≠it) (h3:∀ p∈X.pn ++ pins,p.1≠it):Inv X pins σ H { s with heap:=h',toks:=t' }:=by
 have nit:∀ b u,H b=some u→b≠it:=λb u e z=>by rw [z,hn] at e; cases e
 refine I.step (g':=s.gens) (d':=s.drawn) (ch:=[it]) (λb hb=>?_) (λb o _ _ hc e _=>k b o (λz=>hc (by simp [z])) e) (λb o _ _ hc e _=>⟨o.slots,k b o (λz=>hc (by simp [z])) e⟩) (λ_ _ _ _ n=>n)
  (λb o hc e=>⟨o,k b o (λz=>hc (by simp [z])) e⟩) (λ_ _ e=>e) (λ_ _ _ e=>e) (λb ps e=>⟨#[],by rw [e]; simp⟩) (λm hm=>?_) (λb u e=>?_) I.bare
 ·have e:b=it:=by simpa using hb
  subst e
  exact ⟨h1,hL,h2,h3⟩
 ·obtain ⟨o,es,ep,ho,r⟩:=hm
  exact ⟨o,es,ep,k _ o (Ne.symm hL) ho,r⟩
 ·refine (I.hok b u e).Jq (λc v hc q=>k c v ?_ q) (λ_ q=>q) λ_ _ q=>q
  rcases hc with z | z
  ·rw [z]; exact nit b u e
  ·exact nit c _ z
theorem Inv.tok (I:Inv X pins σ H s) (t:Nat):Inv X pins σ H { s with toks:=t }:=I.un (h':=s.heap) (t':=t) Un.refl I.hok
theorem Inv.kept {t':Nat} (I:Inv X pins σ H s) (k:∀ b u,s.heap.get? b=some u→h'.get? b=some u):Inv X pins σ H { s with heap:=h',toks:=t' }:=I.un (Un.kept k) (I.hok.kept k)
theorem Inv.laid {a:Addr} {o:HO} {t':Nat} (I:Inv X pins σ H s) (k:∀ b u,s.heap.get? b=some u→h'.get? b=some u) (hp:s.heap.objs.size≤a) (new:Yx X.prog X.w (upd H a o) h' a o) :
  Inv X pins σ (upd H a o) { s with heap:=h',toks:=t' }:=I.un (Un.laid k hp (I.hok.fresh hp)) (I.hok.laid k hp new)
theorem Inv.write {x e:Addr} {o:HO} {t':Nat} (I:Inv X pins σ H s) (mu:Mut (H x)) (he:e=x∨H e=some (.own x)) (k:∀ b u,b≠e→s.heap.get? b=some u→h'.get? b=some u) (heo:∃ u,h'.get? e=some u)
  (new:Yx X.prog X.w (upd H x o) h' x o):Inv X pins σ (upd H x o) { s with heap:=h',toks:=t' }:=I.un (Un.write mu he k heo) (I.hok.write mu he k heo new)
theorem Inv.weak {σ':List (Option V)} (I:Inv X pins σ H s) (hl:σ'.length=σ.length) (w:∀ (i:Nat) v,σ'[i]? = some (some v)→σ[i]? = some (some v)):Inv X pins σ' H s:=
 ⟨I.ok,I.os,I.bare,I.base,let ⟨m,hn,hl'⟩:=I.loc; ⟨m,hn,λi x v e1 e2 e3=>hl' i x v e1 (w i v e2) e3⟩,I.cell,I.free,I.Sz,I.pin,I.hok,hl.trans I.len⟩
theorem Inv.K9 {pins':List (Addr × Obj)} (I:Inv X pins σ H s) (h:∀ p∈pins',s.heap.get? p.1=some p.2∧H p.1=none∧p.1≠X.env.locals∧p.1∉X.fs∧∀ v,p.2.data≠.cell v):Inv X pins' σ H s:=
 ⟨I.ok,I.os,I.bare,I.base,I.loc,I.cell,I.free,I.Sz,λp hp=>(List.mem_append.mp hp).elim (λz=>I.pin p (List.mem_append_left _ z)) (h p),I.hok,I.len⟩
theorem Ao {N:List Str} (hN:N.Nodup) {i j:Nat} {x:Str} (a:N[i]? = some x) (b:N[j]? = some x):i=j:=by
 obtain ⟨h1,e1⟩:=List.getElem?_eq_some_iff.mp a
 obtain ⟨h2,e2⟩:=List.getElem?_eq_some_iff.mp b
 exact (List.getElem_inj hN).mp (e1.trans e2.symm)
theorem Fq {M:Model} {A:Around} {E:Value→Shared→Prop} {i:Nat} {x:Str} {v:V} {u:Value} {Q:Unit→Shared→Prop} (I:Inv X pins σ H s) (hN:X.N.Nodup) (hi:X.N[i]? = some x) (hx:Loc X.env.scope x) (r:RelV v u)
  (h:∀ s',Inv X pins (σ.set i (some v)) H s'→(∃ a,Heap.SameBut a s.heap s'.heap∧(a=X.env.locals∨X.env.cells.lookup x=some a))→Q () s') (hf:X.fn x=true∨X.env.scope.names.lookup x=some .local:=by first | exact .inl rfl | exact .inr rfl | assumption):wpAny M A (storeName X.env x u) Q E s:=by
 obtain ⟨m,hn,hl⟩:=id I.loc
 have hcls:(X.env.scope.kind==.class || (X.env.scope.kind==.module && X.env.locals != X.env.globals))=false:=by rw [I.ok.kind]; rfl
 have hiσ:i < σ.length:=by rw [I.len]; exact (List.getElem?_eq_some_iff.mp hi).1
 have cne:=I.cne
 have tracked:∀ {a:Addr} {h':Heap},(∃ o,s.heap.get? a=some o∧H a=none)→Heap.SameBut a s.heap h'→HOk X.prog X.w H h':=λ{a h'} ha hs b ob e=>by
  obtain ⟨_,_,Ow⟩:=ha
  refine (I.hok b ob e).Jq (λc w' hc q=>(hs.2 c ?_).trans q) (λ_ q=>q) λ_ _ q=>q
  rintro rfl
  rcases hc with rfl | hc
  ·rw [Ow] at e; cases e
  ·rw [Ow] at hc; cases hc
 rcases hx with hk | hk
 ·refine wpAny_storeName_local hk hn (λh' hn' hs=>?_) hcls
  obtain ⟨oL,_,_,hoL,_⟩:=id hn
  refine h _ ⟨I.ok,I.os,I.bare,⟨λb o e n hb hx=>?_,λb o e n hb hx=>?_,I.base.free,λb o e hx=>?_,I.base.Ey,I.base.Hr,I.base.Gp⟩,⟨_,hn',λj y v' e1 e2 e3=>?_⟩,λy c e=>?_,I.free,I.Sz,λp hp=>?_,tracked ⟨oL,hoL,I.free⟩ hs,by simpa using I.len⟩ ⟨_,hs,.inl rfl⟩
  ·exact (hs.2 b (Nat.ne_of_lt (Nat.lt_of_lt_of_le (Heap.lt_size e) I.ok.above))).trans (I.base.keep b o e n hb hx)
  ·obtain ⟨sl,e1⟩:=I.base.slot b o e n hb hx
   exact ⟨sl,(hs.2 b (Nat.ne_of_lt (Nat.lt_of_lt_of_le (Heap.lt_size e) I.ok.above))).trans e1⟩
  ·obtain ⟨o',e1⟩:=I.base.there b o e hx
   exact ⟨o',(hs.2 b (Nat.ne_of_lt (Nat.lt_of_lt_of_le (Heap.lt_size e) I.ok.above))).trans e1⟩
  ·by_cases hj:j=i
   ·subst hj
    rw [hi] at e1; cases e1
    rw [List.getElem?_set_self hiσ] at e2
    cases e2
    exact ⟨u,r,.inl ⟨hk,by simp⟩⟩
   ·rw [List.getElem?_set_ne (Ne.symm hj)] at e2
    obtain ⟨u',r',q⟩:=hl j y v' e1 e2 e3
    refine ⟨u',r',?_⟩
    rcases q with ⟨k,e⟩ | ⟨k,c,e,z⟩
    ·refine .inl ⟨k,?_⟩
     have:y≠x:=λe=>hj (Ao hN e1 (e▸hi))
     simp [this,e]
    ·exact .inr ⟨k,c,e,z.sameBut hs (cne y c e)⟩
  ·obtain ⟨w',z⟩:=I.cell y c e
   exact ⟨w',z.sameBut hs (cne y c e)⟩
  ·obtain ⟨e,n,ne,nf,d⟩:=I.pin p hp
   exact ⟨(hs.2 p.1 ne).trans e,n,ne,nf,d⟩
 ·have hfn:X.fn x=true:=by
   rcases hf with z | z
   ·exact z
   ·rw [z] at hk; cases hk
  obtain ⟨c,hc⟩:=I.ok.has x (.inl hk)
  obtain ⟨w',z⟩:=I.cell x c hc
  refine wpAny_storeName_cell I.ok.kind hk hc z (λh' hc' hs=>?_)
  obtain ⟨oc,hoc,hocd⟩:=id z
  refine h { s with heap:=h' } ⟨I.ok,I.os,I.bare,⟨λb o e n hb hx=>?_,λb o e n hb hx=>?_,I.base.free,λb o e hx=>?_,I.base.Ey,I.base.Hr,I.base.Gp⟩,⟨m,hn.sameBut hs (Ne.symm (cne x c hc)),λj y v' e1 e2 e3=>?_⟩,λy c' e=>?_,I.free,I.Sz,λp hp=>?_,tracked ⟨oc,hoc,I.Sz x c hc⟩ hs,by simpa using I.len⟩ ⟨c,hs,.inr hc⟩
  ·exact (hs.2 b (Nat.ne_of_lt (Nat.lt_of_lt_of_le (Heap.lt_size e) (I.ok.cab x c hfn hc)))).trans (I.base.keep b o e n hb hx)
  ·obtain ⟨sl,e1⟩:=I.base.slot b o e n hb hx
   exact ⟨sl,(hs.2 b (Nat.ne_of_lt (Nat.lt_of_lt_of_le (Heap.lt_size e) (I.ok.cab x c hfn hc)))).trans e1⟩
  ·obtain ⟨o',e1⟩:=I.base.there b o e hx
   exact ⟨o',(hs.2 b (Nat.ne_of_lt (Nat.lt_of_lt_of_le (Heap.lt_size e) (I.ok.cab x c hfn hc)))).trans e1⟩
  ·by_cases hj:j=i
   ·subst hj
    rw [hi] at e1; cases e1
    rw [List.getElem?_set_self hiσ] at e2
    cases e2
    exact ⟨u,r,.inr ⟨.inl hk,c,hc,hc'⟩⟩
   ·rw [List.getElem?_set_ne (Ne.symm hj)] at e2
    obtain ⟨u',r',q⟩:=hl j y v' e1 e2 e3
    refine ⟨u',r',?_⟩
    rcases q with q | ⟨k,c',e,z'⟩
    ·exact .inl q
    ·refine .inr ⟨k,c',e,z'.sameBut hs ?_⟩
     rintro rfl
     exact hj (Ao hN e1 (I.ok.inj _ _ _ e hc▸hi))
  ·by_cases hcc:c'=c
   ·subst hcc; exact ⟨_,hc'⟩
   ·obtain ⟨w2,z2⟩:=I.cell y c' e
    exact ⟨w2,z2.sameBut hs hcc⟩
  ·obtain ⟨e,n,ne,nf,d⟩:=I.pin p hp
   refine ⟨(hs.2 p.1 ?_).trans e,n,ne,nf,d⟩
   intro q
   rw [q,hoc] at e
   have q':oc=p.2:=Option.some.inj e
   exact d w' (by rw [← q']; exact hocd)
theorem Jo {M:Model} {A:Around} {E:Value→Shared→Prop} {i:Nat} {x:Str} {v:V} {u:Value} {Q:Unit→Shared→Prop} (I:Inv X pins σ H s) (hN:X.N.Nodup) (hi:X.N[i]? = some x) (hx:Loc X.env.scope x) (r:RelV v u)
  (h:∀ s',Inv X pins (σ.set i (some v)) H s'→Q () s') (hf:X.fn x=true∨X.env.scope.names.lookup x=some .local:=by first | exact .inl rfl | exact .inr rfl | assumption):wpAny M A (storeName X.env x u) Q E s:=
 Fq I hN hi hx r (λs' I' _=>h s' I') hf
theorem Inv.Ztc {s':Shared} {ch:List Addr} (I:Inv X pins σ H s) (ho:s'.os=s.os) (u:Un (frs X.stack) ch H H' s.heap s'.heap) (hok:HOk X.prog X.w H' s'.heap) (hg:AllBare s'.gens)
  (hch:∀ b∈ch,(b∈X.ex∨X.s₀.heap.objs.size≤b)∧b≠X.env.locals∧(∀ x c,X.env.cells.lookup x=some c→c≠b)∧∀ p∈X.pn ++ pins,p.1≠b):Inv X pins σ H' s':=by
 obtain ⟨h',g',d',t',o'⟩:=s'
 have e:o'=s.os:=ho
 subst e
 exact I.call (g':=g') (t':=t') (d':=d') u hok hg hch
end
abbrev XK:=Value→Option Addr→Hp→Prop
abbrev St:=List (Option V)
abbrev VK:=V→Hp→Prop
abbrev TE:=St→Hp→VK→Prop
abbrev TT:=St→Hp→(Bool→Hp→Prop)→Prop
abbrev TA:=St→Hp→(List V→Hp→Prop)→Prop
structure Ends where
 nx:St→Hp→Prop
 rt:VK
 bk:St→Hp→Prop:=λ_ _=>False
 ct:St→Hp→Prop:=λ_ _=>False
abbrev TS:=Ends→St→Hp→Prop
def EP (X:Cx) (pins:List (Addr × Obj)) (σ:St) (Q:VK) (u:Value) (s':Shared):Prop:=∃ v H',Inv X pins σ H' s'∧RelV v u∧Q v H'
def TP (X:Cx) (pins:List (Addr × Obj)) (σ:St) (Q:Bool→Hp→Prop) (b:Bool) (s':Shared):Prop:=∃ H',Inv X pins σ H' s'∧Q b H'
def AP (X:Cx) (pins:List (Addr × Obj)) (σ:St) (Q:List V→Hp→Prop) (us:List Value) (s':Shared):Prop:=∃ vs H',Inv X pins σ H' s'∧Vals vs us∧Q vs H'
def SP (X:Cx) (pins:List (Addr × Obj)) (D:Ends) (f:Flow) (s':Shared):Prop:=
 match f with
 | .next=>∃ σ' H',Inv X pins σ' H' s'∧D.nx σ' H'
 | .brk=>∃ σ' H',Inv X pins σ' H' s'∧D.bk σ' H'
 | .cont=>∃ σ' H',Inv X pins σ' H' s'∧D.ct σ' H'
 | .ret u=>∃ v σ' H',Inv X pins σ' H' s'∧RelV v u∧D.rt v H'
def PE (X:Cx) (e:Expr) (t:TE):Prop:=
 ∀ (pins:List (Addr × Obj)) (s:Shared) (σ:St) (H:Hp) (Q:VK),Inv X pins σ H s→t σ H Q→wpAny (model X.prog X.w) X.A (eval e X.env) (EP X pins σ Q) X.xe s
def PT (X:Cx) (e:Expr) (t:TT):Prop:=
 ∀ (pins:List (Addr × Obj)) (s:Shared) (σ:St) (H:Hp) (Q:Bool→Hp→Prop),Inv X pins σ H s→t σ H Q→wpAny (model X.prog X.w) X.A (isTrue e X.env (eval e X.env)) (TP X pins σ Q) X.xe s
def PW (X:Cx) (e:Expr) (t:TT):Prop:=
 ∀ (whole:Sem Value) (pins:List (Addr × Obj)) (s:Shared) (σ:St) (H:Hp) (Q:Bool→Hp→Prop),Inv X pins σ H s→t σ H Q→wpAny (model X.prog X.w) X.A (isTrue e X.env whole) (TP X pins σ Q) X.xe s
theorem PW.pt {X:Cx} {e:Expr} {t:TT} (h:PW X e t):PT X e t:=h _
def PA (X:Cx) (es:List Expr) (t:TA):Prop:=
 ∀ (pos:Pos) (pins:List (Addr × Obj)) (s:Shared) (σ:St) (H:Hp) (Q:List V→Hp→Prop),Inv X pins σ H s→t σ H Q→wpAny (model X.prog X.w) X.A (spliced (backTo pos (starEach es X.env))) (AP X pins σ Q) X.xe s
def PS (X:Cx) (st:Stmt) (t:TS):Prop:=
 ∀ (pins:List (Addr × Obj)) (s:Shared) (σ:St) (H:Hp) (D:Ends),Inv X pins σ H s→t D σ H→wpAny (model X.prog X.w) X.A (exec st X.env) (SP X pins D) X.xe s
def PSs (X:Cx) (st:List Stmt) (t:TS):Prop:=
 ∀ (pins:List (Addr × Obj)) (s:Shared) (σ:St) (H:Hp) (D:Ends),Inv X pins σ H s→t D σ H→wpAny (model X.prog X.w) X.A (execs st X.env) (SP X pins D) X.xe s
theorem thn {α:Type} {t:Sem α} {Q Q':α→Shared→Prop} {M:Model} {A:Around} {E:Value→Shared→Prop} {s:Shared} (h:wpAny M A t Q E s) (hQ:∀ a s,Q a s→Q' a s):wpAny M A t Q' E s:=wpAny_mono h hQ λ_ _ x=>x
end L2
namespace L2
open PySem PySem.Spec PyProof.Rows
section
variable {X:Cx}
inductive Zmb (i:Nat) (σ:St) (H:Hp) (Q:VK):Prop
 | mk (v:_) (h1:σ[i]? = some (some v)) (h2:Q v H):Zmb i σ H Q
def M7 (i:Nat):TE:=λσ H Q=>Zmb i σ H Q
def tC (v:V):TE:=λ_ H Q=>Q v H
theorem Zhp {i:Nat} {x:Str} {pos:Pos} (hN:X.N[i]? = some x) (hv:Vis X.env.scope x) (hd:(x==("__debug__" : Str))=false:=by decide) (hcd:(x==("__classdict__" : Str))=false:=by decide):PE X (.Name x pos) (M7 i):=by
 intro pins s σ H Q I h
 obtain ⟨v,e,h⟩:=h
 obtain ⟨m,hn,hl⟩:=I.loc
 obtain ⟨u,r,l⟩:=hl i x v hN e hv
 have fin:EP X pins σ Q u s:=⟨v,H,I,r,h⟩
 rcases l with ⟨hk,hm⟩ | ⟨hk,c,hc,Zej⟩
 ·exact wpAny_Name (wpAny_loadName_local I.ok.kind hk hn hm fin) hd
 ·rcases hk with hk | hk
  ·exact wpAny_Name (wpAny_loadName_cell I.ok.kind hk hc Zej fin) hd
  ·exact wpAny_Name (wpAny_loadName_free I.ok.kind hk hc Zej fin hcd) hd
theorem Zh {i j pos}:PE X (.Constant (.int i) j pos) (tC (.int i)):=λ_ _ _ H _ I h=>wpAny_Constant_int ⟨.int i,H,I.tok _,⟨_,rfl⟩,h⟩
theorem Ic {b j pos}:PE X (.Constant (.bool b) j pos) (tC (.bl b)):=λ_ _ _ H _ I h=>Constant_bool ⟨.bl b,H,I,rfl,h⟩
theorem Zbp {j pos}:PE X (.Constant .none j pos) (tC .non):=λ_ _ _ H _ I h=>Constant_none ⟨.non,H,I,rfl,h⟩
theorem Y6 {x j pos}:PE X (.Constant (.str x) j pos) (tC (.str x)):=λ_ _ _ H _ I h=>Calls.Constant_str ⟨.str x,H,I.tok _,⟨_,rfl⟩,h⟩
def Gl (X:Cx) (x:Str):Prop:=X.env.kindOf x=some .globalImplicit
theorem Cg {E:Value→Shared→Prop} {pins:List (Addr × Obj)} {s:Shared} {σ:St} {H:Hp} {x:Str} {u:Value} {pos:Pos} {Q:Value→Shared→Prop} (I:Inv X pins σ H s) (hg:Gl X x) (hm:X.mg x=some u) (h:Q u s)
  (hd:(x==("__debug__" : Str))=false:=by decide):wpAny (model X.prog X.w) X.A (eval (.Name x pos) X.env) Q E s:=
 Calls.Name_function_global I.ok.kind hg (Calls.loadGlobal_global (by rw [I.ok.glob]; exact I.mod.glob.keeps I.bk) hm h) hd
theorem Ri {E:Value→Shared→Prop} {pins:List (Addr × Obj)} {s:Shared} {σ:St} {H:Hp} {x:Str} {u:Value} {pos:Pos} {Q:Value→Shared→Prop} (I:Inv X pins σ H s) (hg:Gl X x) (hm:X.mg x=none) (hv:bootBuiltins x=some u) (h:Q u s)
  (hn:x≠"__name__":=by decide) (hd:(x==("__debug__" : Str))=false:=by decide):wpAny (model X.prog X.w) X.A (eval (.Name x pos) X.env) Q E s:=by
 obtain ⟨mb,h1,h2⟩:=I.mod.blt
 exact Calls.Name_function_global I.ok.kind hg (Calls.loadGlobal_builtin (by rw [I.ok.glob]; exact I.mod.glob.keeps I.bk) hm (by rw [I.ok.blt]; exact h1.keeps I.bk) ((h2 x hn).trans hv) h) hd
theorem Ja {x:Str} {v:V} {u:Value} {pos:Pos} (hg:Gl X x) (hm:X.mg x=some u) (r:RelV v u) (hd:(x==("__debug__" : Str))=false:=by decide):PE X (.Name x pos) (tC v):=
 λ_ _ _ H _ I h=>Cg I hg hm ⟨v,H,I,r,h⟩ hd
theorem Zkz {x:Str} {v:V} {u:Value} {pos:Pos} (hg:Gl X x) (hm:X.mg x=none) (hv:bootBuiltins x=some u) (r:RelV v u) (hn:x≠"__name__":=by decide) (hd:(x==("__debug__" : Str))=false:=by decide):PE X (.Name x pos) (tC v):=
 λ_ _ _ H _ I h=>Ri I hg hm hv ⟨v,H,I,r,h⟩ hn hd
variable {a b:Expr} {ta tb:TE} {pos:Pos}
def PC (X:Cx) (op:CmpOp) (a b:Expr) (t:TE):Prop:=
 ∀ (pins:List (Addr × Obj)) (s:Shared) (σ:St) (H:Hp) (Q:VK),Inv X pins σ H s→t σ H Q→
  wpAny (model X.prog X.w) X.A (eval a X.env) (λv s₁=>wpAny (model X.prog X.w) X.A (eval b X.env) (λu s₂=>wpAny (model X.prog X.w) X.A (compareOp op v u) (EP X pins σ Q) X.xe s₂) X.xe s₁) X.xe s
theorem Zh9 (b:Expr) {op:CmpOp} (h:op≠.In) (h2:op≠.NotIn):behindInMarks op b=false:=by
 have e1:(op==CmpOp.In)=false:=by cases op <;> first | rfl | exact absurd rfl h
 have e2:(op==CmpOp.NotIn)=false:=by cases op <;> first | rfl | exact absurd rfl h2
 cases b <;> simp [behindInMarks,e1,e2]
inductive tBI (Q:Bool→Hp→Prop) (x:V) (H1:Hp):Prop
 | mk (c:_) (h1:x=.bl c) (h2:Q c H1):tBI Q x H1
def tB (t:TE):TT:=λσ H Q=>t σ H λx H1=>tBI Q x H1
theorem Zbm {op:CmpOp} {t:TE} (h:PC X op a b t) (h1:behindInMarks op b=false:=by first | exact Zh9 _ (by decide) (by decide) | rfl):PT X (.Compare a [op] [b] pos) (tB t):=by
 intro pins s σ H Q I hw
 refine wpAny_isTrue_Compare1 (thn (h pins s σ H _ I hw) λv s1 h1=>thn h1 λu s2 h2=>thn h2 λc s3 ⟨x,H1,I1,r1,q1⟩=>?_) h1
 obtain ⟨d,rfl,q⟩:=q1
 cases r1
 exact wpAny_truthy_bool ⟨H1,I1,q⟩
variable {tA tB':TT} {rest:List Expr}
def tAnd (t u:TT):TT:=λσ H Q=>t σ H λc H1=>if c=true then u σ H1 Q else Q false H1
def tOr (t u:TT):TT:=λσ H Q=>t σ H λc H1=>if c=true then Q true H1 else u σ H1 Q
def tNot (t:TT):TT:=λσ H Q=>t σ H λc H1=>Q (!c) H1
theorem P6 (ha:PT X a tA):PW X (.BoolOp .And [a] pos) tA:=by
 intro wh pins s σ H Q I h
 refine isTrue_and (thn (ha pins s σ H Q I h) λc s1 e=>?_)
 cases c with
 | true=>exact isTrue_and_nil e
 | false=>exact e
theorem Ld (ha:PT X a tA):PW X (.BoolOp .Or [a] pos) tA:=by
 intro wh pins s σ H Q I h
 refine isTrue_or (thn (ha pins s σ H Q I h) λc s1 e=>?_)
 cases c with
 | false=>exact isTrue_or_nil e
 | true=>exact e
theorem Le (ha:PT X a tA) (hb:PW X (.BoolOp .And (b :: rest) pos) tB'):PW X (.BoolOp .And (a :: b :: rest) pos) (tAnd tA tB'):=by
 intro wh pins s σ H Q I h
 refine isTrue_and (thn (ha pins s σ H _ I h) λc s1 ⟨H1,I1,q1⟩=>?_)
 cases c with
 | true=>exact hb wh pins s1 σ H1 Q I1 q1
 | false=>exact ⟨H1,I1,q1⟩
theorem F3 (ha:PT X a tA) (hb:PW X (.BoolOp .Or (b :: rest) pos) tB'):PW X (.BoolOp .Or (a :: b :: rest) pos) (tOr tA tB'):=by
 intro wh pins s σ H Q I h
 refine isTrue_or (thn (ha pins s σ H _ I h) λc s1 ⟨H1,I1,q1⟩=>?_)
 cases c with
 | true=>exact ⟨H1,I1,q1⟩
 | false=>exact hb wh pins s1 σ H1 Q I1 q1
theorem Uu (ha:PT X a tA):PT X (.UnaryOp .Not a pos) (tNot tA):=by
 intro pins s σ H Q I h
 exact isTrue_not (ha pins s σ H (λc H1=>Q (!c) H1) I h)
inductive Zgt (tb:TE) (σ:St) (Q:VK) (x:V) (H1:Hp):Prop
 | mk (c:_) (h1:x=.bl c) (h2:if c=true then tb σ H1 Q else Q (.bl false) H1):Zgt tb σ Q x H1
def Zql (ta tb:TE):TE:=λσ H Q=>ta σ H λx H1=>Zgt tb σ Q x H1
inductive Zmd (tb:TE) (σ:St) (Q:VK) (x:V) (H1:Hp):Prop
 | mk (c:_) (h1:x=.bl c) (h2:if c=true then Q (.bl true) H1 else tb σ H1 Q):Zmd tb σ Q x H1
def tOrV (ta tb:TE):TE:=λσ H Q=>ta σ H λx H1=>Zmd tb σ Q x H1
inductive Zgq (Q:VK) (x:V) (H1:Hp):Prop
 | mk (c:_) (h1:x=.bl c) (h2:Q (.bl (!c)) H1):Zgq Q x H1
def Zqf (ta:TE):TE:=λσ H Q=>ta σ H λx H1=>Zgq Q x H1
theorem Zbo {op} {t:TE} (h:PE X a t):PE X (.BoolOp op [a] pos) t:=λpins s σ H Q I hw=>BoolOp_one (h pins s σ H Q I hw)
theorem Ds (ha:PE X a ta) (hb:PE X (.BoolOp .And (b :: rest) pos) tb):PE X (.BoolOp .And (a :: b :: rest) pos) (Zql ta tb):=by
 intro pins s σ H Q I h
 refine BoolOp_and (thn (ha pins s σ H _ I h) λv s1 ⟨x,H1,I1,r1,q1⟩=>?_)
 obtain ⟨c,rfl,q1⟩:=q1
 cases r1
 refine wpAny_truthy_bool ?_
 cases c with
 | true=>exact hb pins s1 σ H1 Q I1 q1
 | false=>exact ⟨.bl false,H1,I1,rfl,q1⟩
theorem Zq8 (ha:PE X a ta) (hb:PE X (.BoolOp .Or (b :: rest) pos) tb):PE X (.BoolOp .Or (a :: b :: rest) pos) (tOrV ta tb):=by
 intro pins s σ H Q I h
 refine BoolOp_or (thn (ha pins s σ H _ I h) λv s1 ⟨x,H1,I1,r1,q1⟩=>?_)
 obtain ⟨c,rfl,q1⟩:=q1
 cases r1
 refine wpAny_truthy_bool ?_
 cases c with
 | false=>exact hb pins s1 σ H1 Q I1 q1
 | true=>exact ⟨.bl true,H1,I1,rfl,q1⟩
theorem Zhq (ha:PE X a ta):PE X (.UnaryOp .Not a pos) (Zqf ta):=by
 intro pins s σ H Q I h
 refine UnaryOp_ (thn (ha pins s σ H _ I h) λv s1 ⟨x,H1,I1,r1,q1⟩=>?_)
 obtain ⟨c,rfl,q1⟩:=q1
 cases r1
 exact not_of (wpAny_truthy_bool ⟨.bl (!c),H1,I1,rfl,q1⟩)
end
end L2
namespace L2
open PySem PySem.Spec PyProof.Rows
def SqL (K:W.Frag) (H:Hp) (a:Addr) (xs:List V):Prop:=
 Rd H a (.lst xs)∨
  ∃ (o:Obj) (its:Array Value) (n:Nat),K.lookup a=some o∧o.cls=.type "list"∧o.dict=none∧o.data=.seq its n∧its.size≤sizeLine∧Vals xs its.toList
def SqT (K:W.Frag) (H:Hp) (a:Addr) (xs:List V):Prop:=
 Rd H a (.tup xs)∨
  ∃ (o:Obj) (its:Array Value) (n:Nat),K.lookup a=some o∧o.cls=.type "tuple"∧o.data=.seq its n∧its.size≤sizeLine∧Vals xs its.toList
def absV:Value→Option V
 | .none=>some .non
 | .bool b=>some (.bl b)
 | .int i _=>some (.int i)
 | .str x _=>some (.str x)
 | .bytes b _=>some (.byt b)
 | .float b _=>some (.flt b)
 | .ref a=>some (.ref a)
 | .type n=>some (.ty n)
 | _=>none
theorem RelV.abs {x:V} {u:Value} (r:RelV x u):absV u=some x:=by
 cases x with
 | non=>cases r; rfl
 | bl _=>cases r; rfl
 | int _=>obtain ⟨t,rfl⟩:=r; rfl
 | str _=>obtain ⟨t,rfl⟩:=r; rfl
 | byt _=>obtain ⟨t,rfl⟩:=r; rfl
 | flt _=>obtain ⟨t,rfl⟩:=r; rfl
 | ref _=>cases r; rfl
 | ty _=>cases r; rfl
theorem RelV.inj {x y:V} {u:Value} (r:RelV x u) (q:RelV y u):x=y:=Option.some.inj (r.abs.symm.trans q.abs)
theorem Vals.inj:∀ {xs ys:List V} {us:List Value},Vals xs us→Vals ys us→xs=ys
 | _,_,_,.nil,.nil=>rfl
 | _,_,_,.cons r t,.cons r' t'=>by rw [r.inj r',Vals.inj t t']
section
variable {X:Cx} {pins:List (Addr × Obj)} {σ:St} {H:Hp} {s:Shared} {a:Addr} {xs ys:List V}
theorem SqL.of {K:W.Frag} (h:H a=some (.lst xs)):SqL K H a xs:=.inl (.inl h)
theorem SqT.of {K:W.Frag} (h:H a=some (.tup xs)):SqT K H a xs:=.inl (.inl h)
theorem Inv.list (I:Inv X pins σ H s) (h:SqL X.K H a xs):∃ its:List Value,Vals xs its∧PlainL s.heap a its.toArray∧xs.length≤sizeLine:=by
 rcases h with h | ⟨o,its,n,hk,hc,hd,hs,hz,r⟩
 ·obtain ⟨z,its,n,r,e⟩:=h.ok I.hok
  exact ⟨its,r,⟨_,n,e,rfl,rfl,rfl⟩,z⟩
 ·refine ⟨its.toList,r,⟨o,n,I.kIn a o hk,hc,hd,by simpa using hs⟩,?_⟩
  have e:=r.length
  simp only [Array.length_toList] at e
  omega
theorem Inv.tuple (I:Inv X pins σ H s) (h:SqT X.K H a xs):∃ its:List Value,Vals xs its∧IsTup s.heap a its.toArray∧xs.length≤sizeLine:=by
 rcases h with h | ⟨o,its,n,hk,hc,hs,hz,r⟩
 ·obtain ⟨z,its,r,p⟩:=h.ok I.hok
  exact ⟨its,r,p,z⟩
 ·refine ⟨its.toList,r,⟨o,I.kIn a o hk,hc,n,by simpa using hs⟩,?_⟩
  have e:=r.length
  simp only [Array.length_toList] at e
  omega
theorem Inv.A5 (I:Inv X pins σ H s) (h:SqL X.K H a xs) (h':SqL X.K H a ys):xs=ys:=by
 obtain ⟨its,r,⟨o,n,e,_,_,d⟩,_⟩:=I.list h
 obtain ⟨its',r',⟨o',n',e',_,_,d'⟩,_⟩:=I.list h'
 rw [e] at e'; cases e'
 rw [d] at d'
 injection d' with d1 _
 have:its=its':=by simpa using congrArg Array.toList d1
 subst this
 exact r.inj r'
theorem Inv.Fp (I:Inv X pins σ H s) (h:SqT X.K H a xs) (h':SqT X.K H a ys):xs=ys:=by
 obtain ⟨its,r,⟨o,e,_,n,d⟩,_⟩:=I.tuple h
 obtain ⟨its',r',⟨o',e',_,n',d'⟩,_⟩:=I.tuple h'
 rw [e] at e'; cases e'
 rw [d] at d'
 injection d' with d1 _
 have:its=its':=by simpa using congrArg Array.toList d1
 subst this
 exact r.inj r'
end
abbrev Cx.Gn (X:Cx) (E:Value→Shared→Prop):Cx:={ X with xe:=E }
abbrev Cx.nox (X:Cx):Cx:=X.Gn λ_ _=>False
theorem Cx.Ok.Gn {X:Cx} (ok:X.Ok) (E:Value→Shared→Prop):(X.Gn E).Ok:=
 ⟨ok.mod,ok.kind,ok.glob,ok.blt,ok.above,ok.inj,ok.has,ok.cab,ok.hd,ok.frames,ok.stk,ok.exf,ok.bs,ok.bsz,ok.Zh8,ok.Zi5,ok.Lv,ok.frf⟩
theorem Cx.Ok.Qd {X:Cx} {E:Value→Shared→Prop} (ok:(X.Gn E).Ok):X.Ok:=
 ⟨ok.mod,ok.kind,ok.glob,ok.blt,ok.above,ok.inj,ok.has,ok.cab,ok.hd,ok.frames,ok.stk,ok.exf,ok.bs,ok.bsz,ok.Zh8,ok.Zi5,ok.Lv,ok.frf⟩
section
variable {X:Cx} {pins:List (Addr × Obj)} {σ:St} {H:Hp} {s:Shared} {E:Value→Shared→Prop}
theorem Inv.Gn (I:Inv X pins σ H s) (E:Value→Shared→Prop):Inv (X.Gn E) pins σ H s:=⟨I.ok.Gn E,I.os,I.bare,I.base,I.loc,I.cell,I.free,I.Sz,I.pin,I.hok,I.len⟩
theorem Inv.Qd (I:Inv (X.Gn E) pins σ H s):Inv X pins σ H s:=⟨I.ok.Qd,I.os,I.bare,I.base,I.loc,I.cell,I.free,I.Sz,I.pin,I.hok,I.len⟩
theorem SP.Qd {D:Ends} {f:Flow} {s':Shared} (h:SP (X.Gn E) pins D f s'):SP X pins D f s':=by
 cases f with
 | next=>obtain ⟨σ',H',I,q⟩:=h; exact ⟨σ',H',I.Qd,q⟩
 | brk=>obtain ⟨σ',H',I,q⟩:=h; exact ⟨σ',H',I.Qd,q⟩
 | cont=>obtain ⟨σ',H',I,q⟩:=h; exact ⟨σ',H',I.Qd,q⟩
 | ret u=>obtain ⟨v,σ',H',I,r,q⟩:=h; exact ⟨v,σ',H',I.Qd,r,q⟩
theorem PSs.nox {st:List Stmt} {t:TS} (h:PSs X.nox st t):PSs X st t:=λpins s σ H D I hw=>
 wpAny_mono (h pins s σ H D (I.Gn _) hw) (λ_ _ q=>q.Qd) λ_ _ z=>False.elim z
end
section
variable {X:Cx} {st:Stmt} {rest:List Stmt} {t u:TS} {e:Expr} {te:TE} {pos:Pos}
def Zqg:TS:=λD σ H=>D.nx σ H
def Zq (t u:TS):TS:=λD σ H=>t { D with nx:=u D } σ H
theorem Yh:PSs X [] Zqg:=λ_ _ σ H _ I h=>wpAny_execs_nil ⟨σ,H,I,h⟩
theorem Zd (h1:PS X st t) (h2:PSs X rest u):PSs X (st :: rest) (Zq t u):=by
 intro pins s σ H D I h
 refine wpAny_execs_cons (thn (h1 pins s σ H { D with nx:=u D } I h) λf s1 q=>?_)
 cases f with
 | next=>
  obtain ⟨σ',H',I',q⟩:=q
  exact h2 pins s1 σ' H' D I' q
 | ret v=>exact q
 | brk=>exact q
 | cont=>exact q
theorem Zi (h1:PS X st t):PSs X [st] t:=by
 intro pins s σ H D I h
 refine wpAny_execs_cons (thn (h1 pins s σ H D I h) λf s1 q=>?_)
 cases f with
 | next=>exact wpAny_execs_nil q
 | ret v=>exact q
 | brk=>exact q
 | cont=>exact q
theorem Inv.quiet {pins:List (Addr × Obj)} {σ:St} {H:Hp} {s:Shared} (I:Inv X pins σ H s):interactive X.env=false:=by simp [interactive,I.ok.kind]
def Zqi (te:TE):TS:=λD σ H=>te σ H λ_ H1=>D.nx σ H1
theorem Xz (he:PE X e te) (hs:swapsWith e none pos.line X.env=pure false:=by rfl):PS X (.Expr e pos) (Zqi te):=by
 intro pins s σ H D I h
 exact wpAny_Expr_any (thn (he pins s σ H _ I h) λv s1 ⟨x,H1,I1,r1,q1⟩=>⟨σ,H1,I1,q1⟩) I.quiet hs
def tRet (te:TE):TS:=λD σ H=>te σ H D.rt
theorem Z1 (he:PE X e te):PS X (.Return (some e) pos) (tRet te):=by
 intro pins s σ H D I h
 exact wpAny_Return_some (thn (he pins s σ H _ I h) λv s1 ⟨x,H1,I1,r1,q1⟩=>⟨x,σ,H1,I1,r1,q1⟩)
def Za9 (c:TT) (t u:TS):TS:=λD σ H=>c σ H λb H1=>if b=true then t D σ H1 else u D σ H1
theorem Xm {c:Expr} {a b:List Stmt} {tc:TT} (hc:PT X c tc) (ha:PSs X a t) (hb:PSs X b u):PS X (.If c a b pos) (Za9 tc t u):=by
 intro pins s σ H D I h
 refine wpAny_If (thn (hc pins s σ H _ I h) λd s1 ⟨H1,I1,q1⟩=>?_)
 cases d with
 | true=>exact ha pins s1 σ H1 D I1 q1
 | false=>exact hb pins s1 σ H1 D I1 q1
end
abbrev TG:=V→St→Hp→(St→Hp→Prop)→Prop
abbrev TGs:=List V→St→Hp→(St→Hp→Prop)→Prop
def PG (X:Cx) (target:Expr) (t:TG):Prop:=
 ∀ (pins:List (Addr × Obj)) (s:Shared) (σ:St) (H:Hp) (v:V) (u:Value) (Q:St→Hp→Prop),Inv X pins σ H s→RelV v u→t v σ H Q→
  wpAny (model X.prog X.w) X.A (assign target X.env u) (λ_ s'=>∃ σ' H',Inv X pins σ' H' s'∧Q σ' H') X.xe s
def PGs (X:Cx) (ts:List Expr) (t:TGs):Prop:=
 ∀ (pins:List (Addr × Obj)) (s:Shared) (σ:St) (H:Hp) (vs:List V) (us:List Value) (Q:St→Hp→Prop),Inv X pins σ H s→Vals vs us→t vs σ H Q→
  wpAny (model X.prog X.w) X.A (assignInOrder ((assignEach ts X.env).map (·.2)) us) (λ_ s'=>∃ σ' H',Inv X pins σ' H' s'∧Q σ' H') X.xe s
abbrev Zp7:=V→V→V→Hp→(Hp→Prop)→Prop
def Ztf (X:Cx) (t:Zp7):Prop:=
 ∀ (pins:List (Addr × Obj)) (s:Shared) (σ:St) (H:Hp) (o i v:V) (ov iv u:Value) (Q:Hp→Prop),Inv X pins σ H s→RelV o ov→RelV i iv→RelV v u→t o i v H Q→
  wpAny (model X.prog X.w) X.A (setItem ov iv u) (λ_ s'=>∃ H',Inv X pins σ H' s'∧Q H') X.xe s
section
variable {X:Cx} {pos:Pos}
def Kc (i:Nat):TG:=λv σ H Q=>Q (σ.set i (some v)) H
theorem Zk {i:Nat} {x:Str} (hN:X.N.Nodup) (hi:X.N[i]? = some x) (hx:Loc X.env.scope x) (hf:X.fn x=true∨X.env.scope.names.lookup x=some .local:=by first | exact .inl rfl | exact .inr rfl | assumption):PG X (.Name x pos) (Kc i):=by
 intro pins s σ H v u Q I r h
 exact wpAny_assign_Name (Jo I hN hi hx r (λs' I'=>⟨_,H,I',h⟩) hf)
def Zpl:TGs:=λvs σ H Q=>vs=[]∧Q σ H
inductive Zi1 (t:TG) (u:TGs) (vs:List V) (σ:St) (H:Hp) (Q:St→Hp→Prop):Prop
 | mk (v r:_) (h1:vs=v :: r) (h2:t v σ H λσ' H'=>u r σ' H' Q):Zi1 t u vs σ H Q
def Zek (t:TG) (u:TGs):TGs:=λvs σ H Q=>Zi1 t u vs σ H Q
theorem V4:PGs X [] Zpl:=by
 intro pins s σ H vs us Q I r h
 obtain ⟨e,h⟩:=h
 subst e
 cases r
 exact assignInOrder_nil ⟨σ,H,I,h⟩
theorem Yd {e:Expr} {es:List Expr} {t:TG} {u:TGs} (h1:PG X e t) (h2:PGs X es u)
  (hs:(assignEach (e :: es) X.env).map (·.2)=assign e X.env :: (assignEach es X.env).map (·.2):=by rfl):PGs X (e :: es) (Zek t u):=by
 intro pins s σ H vs us Q I r h
 obtain ⟨v,vr,e1,h⟩:=h
 subst e1
 cases r with
 | cons r rr=>
  rw [hs]
  refine assignInOrder_cons (thn (h1 pins s σ H _ _ _ I r h) λ_ s1 ⟨σ1,H1,I1,q1⟩=>?_)
  exact h2 pins s1 σ1 H1 _ _ Q I1 rr q1
inductive Zm7 (K:W.Frag) (n:Nat) (t:TGs) (v:V) (σ:St) (H:Hp) (Q:St→Hp→Prop):Prop
 | mk (a xs:_) (h1:v=.ref a) (h2:SqT K H a xs) (h3:xs.length=n) (h4:t xs σ H Q):Zm7 K n t v σ H Q
def Zlq (K:W.Frag) (n:Nat) (t:TGs):TG:=λv σ H Q=>Zm7 K n t v σ H Q
theorem Zoh {es:List Expr} {k:Nat} {t:TGs} {n:Nat} (hc:X.calm=true) (h:PGs X es t)
  (hn:(assignEach es X.env).length=n:=by rfl) (hst:(assignEach es X.env).findIdx? (·.1)=none:=by rfl):PG X (.Tuple es k pos) (Zlq X.K n t):=by
 intro pins s σ H v u Q I r hw
 obtain ⟨a,xs,e1,hq,hl,hw⟩:=hw
 subst e1
 cases r
 obtain ⟨its,rv,ht,hz⟩:=I.tuple hq
 refine assign_Tuple_tuple (I.ok.hd hc) ht (by simp [hn,← hl,rv.length]) hst λh' hx=>?_
 have I1:Inv X pins σ H { s with heap:=h' }:=I.kept (t':=s.toks) λb o e=>hx b o (Nat.ne_of_lt (Heap.lt_size e)) e
 exact h pins _ σ H xs _ Q I1 (by simpa using rv) hw
def gSub (to ti:TE) (t:Zp7):TG:=λv σ H Q=>to σ H λo H1=>ti σ H1 λi H2=>t o i v H2 λH3=>Q σ H3
theorem Qp {o i:Expr} {to ti:TE} {t:Zp7} (ho:PE X o to) (hi:PE X i ti) (hs:Ztf X t)
  (ha:∀ v,assign (.Subscript o i pos) X.env v=(do
   let ov ← holding [v] (eval o X.env)
   let iv ← holding [v,ov] (eval i X.env)
   standAt pos
   holding [v,ov,iv] (setItem ov iv v)
   release [v,ov,iv] []):=by intro _; rfl):PG X (.Subscript o i pos) (gSub to ti t):=by
 intro pins s σ H v u Q I r h
 rw [ha]
 refine wpAny_bind (wpAny_holding (thn (ho pins s σ H _ I h) λov s1 ⟨x,H1,I1,r1,q1⟩=>?_))
 refine wpAny_bind (wpAny_holding (thn (hi pins s1 σ H1 _ I1 q1) λiv s2 ⟨y,H2,I2,r2,q2⟩=>?_))
 refine wpAny_bind (wpAny_standAt (wpAny_bind (wpAny_holding (thn (hs pins s2 σ H2 x y v ov iv u _ I2 r1 r2 r q2) λ_ s3 ⟨H3,I3,q3⟩=>?_))))
 exact wpAny_release ⟨σ,H3,I3,q3⟩
def Znz (te:TE) (g:TG):TS:=λD σ H=>te σ H λx H1=>g x σ H1 D.nx
theorem Uv {tg e:Expr} {te:TE} {g:TG} (he:PE X e te) (hg:PG X tg g) (hs:swapsWithSole [tg] e pos.line X.env=pure false:=by rfl) (hw:swappedStores [tg] e X.env=pure none:=by rfl)
  (h1:(assignEach [tg] X.env).map (·.2)=[assign tg X.env]:=by rfl):PS X (.Assign [tg] e pos) (Znz te g):=by
 intro pins s σ H D I h
 refine wpAny_Assign_stores (thn (he pins s σ H _ I h) λv s1 ⟨x,H1,I1,r1,q1⟩=>?_) hs hw
 rw [h1]
 exact thn (hg pins s1 σ H1 x v _ I1 r1 q1) λ_ s2 q=>q
theorem Zm {i:Nat} {x:Str} {e:Expr} {te:TE} {pos':Pos} (hN:X.N.Nodup) (hi:X.N[i]? = some x) (hx:Loc X.env.scope x) (he:PE X e te) (hs:swapsWith e (some (.Name x pos')) pos.line X.env=pure false:=by rfl) (hf:X.fn x=true∨X.env.scope.names.lookup x=some .local:=by first | exact .inl rfl | exact .inr rfl | assumption) :
  PS X (.Assign [.Name x pos'] e pos) (Znz te (Kc i)):=by
 intro pins s σ H D I h
 refine wpAny_Assign_Name (thn (he pins s σ H _ I h) λv s1 ⟨y,H1,I1,r1,q1⟩=>?_) hs
 exact Jo I1 hN hi hx r1 (λs2 I2=>⟨_,H1,I2,q1⟩) hf
end
section
variable {X:Cx} {pos:Pos}
inductive Zdf (c:TT) (tb:TS) (D:Ends) (σ:St) (H:Hp):Prop
 | mk (W:Nat→St→Hp→Prop) (h1:(∃ m,W m σ H)) (h2:∀ m σ H,W m σ H→c σ H λb H1=>if b=true then ∃ N:St→Hp→Prop,(∀ σ' H',N σ' H'→∃ m',m' < m∧W m' σ' H')∧tb { D with nx:=N,ct:=N,bk:=D.nx } σ H1 else D.nx σ H1):Zdf c tb D σ H
def M6 (c:TT) (tb:TS):TS:=λD σ H=>Zdf c tb D σ H
theorem Qo {c:Expr} {body:List Stmt} {tc:TT} {tb:TS} (hp:PassesOwn (model X.prog X.w) X.A X.env X.xe) (hc:PT X c tc) (hb:PSs X body tb):PS X (.While c body [] pos) (M6 tc tb):=by
 intro pins s σ H D I h
 obtain ⟨W,⟨m0,w0⟩,turn⟩:=h
 refine wpAny_While (codeAny_whileLoop (λn s'=>∃ σ' H',Inv X pins σ' H' s'∧W n σ' H') ?_ m0 ⟨σ,H,I,w0⟩)
 rintro n s1 ⟨σ1,H1,I1,w1⟩
 refine wpAny_passesOwn hp (thn (hc pins s1 σ1 H1 _ I1 (turn n σ1 H1 w1)) λb s2 ⟨H2,I2,q2⟩=>?_)
 cases b with
 | true=>
  obtain ⟨N,hN,q2⟩:=q2
  rw [if_pos rfl]
  refine wpAny_passesOwn hp (thn (hb pins s2 σ1 H2 _ I2 q2) λf s3 q3=>?_)
  cases f with
  | next=>
   obtain ⟨σ3,H3,I3,n3⟩:=q3
   obtain ⟨m',hm,w3⟩:=hN σ3 H3 n3
   exact ⟨m',hm,σ3,H3,I3,w3⟩
  | cont=>
   obtain ⟨σ3,H3,I3,n3⟩:=q3
   obtain ⟨m',hm,w3⟩:=hN σ3 H3 n3
   exact ⟨m',hm,σ3,H3,I3,w3⟩
  | brk=>exact q3
  | ret v=>exact q3
 | false=>
  rw [if_neg Bool.false_ne_true]
  exact wpAny_execs_nil ⟨σ1,H2,I2,q2⟩
end
structure It where
 go:Nat→Hp→Prop
 yld:Nat→Hp→V→Hp→Prop
 stop:Nat→Hp→Prop
def Fi (X:Cx) (pins:List (Addr × Obj)) (H:Hp) (b:Addr):Prop:=
 H b=none∧b≠X.env.locals∧b∉X.fs∧(b∈X.ex∨X.s₀.heap.objs.size≤b)∧(∀ x c,X.env.cells.lookup x=some c→c≠b)∧∀ p∈X.pn ++ pins,p.1≠b
theorem Inv.Fb {X:Cx} {pins:List (Addr × Obj)} {σ:St} {H H':Hp} {s:Shared} {b:Addr} (I:Inv X pins σ H s) (hb:s.heap.objs.size≤b) (hn:H' b=none):Fi X pins H' b:=by
 refine ⟨hn,Nat.ne_of_gt (Nat.lt_of_lt_of_le I.lt hb),I.Zrd hb,.inr (Nat.le_trans I.sz hb),λx c e z=>?_,λp hp z=>?_⟩
 ·obtain ⟨v,q⟩:=I.cell x c e
  exact absurd (Nat.lt_of_lt_of_le q.lt (by rw [z]; exact hb)) (Nat.lt_irrefl _)
 ·exact absurd (Nat.lt_of_lt_of_le (Heap.lt_size (I.pin p hp).1) (by rw [z]; exact hb)) (Nat.lt_irrefl _)
structure Turn (P:Program) (w:World) (K:W.Frag) (tg:Expr) (J:It) (fp:List Addr) (it:Addr) (tn:Nat→Heap→Prop):Prop where
 mem:it∈fp
 obj:∀ i h,tn i h→∀ b∈fp,∃ o,h.get? b=some o∧∀ v,o.data≠.cell v
 keep:∀ i h h',tn i h→(∀ b∈fp,∀ o,h.get? b=some o→h'.get? b=some o)→tn i h'
 item:∀ (X:Cx),X.prog=P→X.w=w→X.K=K→X.calm=true→∀ (i:Nat) (pins:List (Addr × Obj)) (s:Shared) (σ:St) (H:Hp) (E:Value→Shared→Prop),Inv X pins σ H s→(∀ b∈fp,Fi X pins H b)→tn i s.heap→J.go i H→
  wpAny (model P w) X.A (pyNext (.ref it)) (λr s1=>∃ u,r=some u∧
   wpAny (model P w) X.A (letOwnedTupleGo tg (.ref it) u) (λ_ s2=>∃ x H',Inv X pins σ H' s2∧RelV x u∧J.yld i H x H'∧tn (i+1) s2.heap∧∀ b∈fp,H' b=none) E s1) E s
 done:∀ (X:Cx),X.prog=P→X.w=w→X.K=K→X.calm=true→∀ (i:Nat) (pins:List (Addr × Obj)) (s:Shared) (σ:St) (H:Hp) (E:Value→Shared→Prop),Inv X pins σ H s→(∀ b∈fp,Fi X pins H b)→tn i s.heap→J.stop i H→
  wpAny (model P w) X.A (pyNext (.ref it)) (λr s1=>r=none∧Inv X pins σ H s1) E s
 self:∀ (A:Around) (i:Nat) (s:Shared) (Q:Value→Shared→Prop) (E:Value→Shared→Prop),tn i s.heap→Q (.ref it) s→wpAny (model P w) A (pyIter (.ref it)) Q E s
abbrev TI:=St→Hp→(It→Hp→Prop)→Prop
def PIE (X:Cx) (pins:List (Addr × Obj)) (σ:St) (tg:Expr) (R:It→Hp→Prop) (itv:Value) (s2:Shared):Prop:=
 ∃ (it:Addr) (fp:List Addr) (tn:Nat→Heap→Prop) (J:It) (H':Hp),itv=.ref it∧Inv X pins σ H' s2∧Turn X.prog X.w X.K tg J fp it tn∧tn 0 s2.heap∧(∀ b∈fp,Fi X pins H' b)∧R J H'
def PI (X:Cx) (tg iter:Expr) (wi:TI):Prop:=
 ∀ (pins:List (Addr × Obj)) (s:Shared) (σ:St) (H:Hp) (R:It→Hp→Prop),Inv X pins σ H s→wi σ H R→
  wpAny (model X.prog X.w) X.A (eval iter X.env) (λv s1=>wpAny (model X.prog X.w) X.A (pyIter v) (PIE X pins σ tg R) X.xe s1) X.xe s
theorem Eg {M:Model} {A:Around} {E:Value→Shared→Prop} {s:Shared} {tg:Expr} {it:Addr} {u:Value} {o:Obj} {n:String} {vs:Array Value} {Q:Unit→Shared→Prop} (ho:s.heap.get? it=some o) (hc:o.cls=.type n) (hd:o.data=.fields vs)
  (hn:["enumerate","zip","dict_itemiterator","dict_reverseitemiterator","odict_iterator","itertools.zip_longest","itertools.pairwise"].contains n=false) (hQ:Q () s):wpAny M A (letOwnedTupleGo tg (.ref it) u) Q E s:=by
 unfold letOwnedTupleGo
 cases tg <;> first
  | exact wpAny_pure hQ
  | (cases u <;> first
    | exact wpAny_pure hQ
    | (refine wpAny_bind (wpAny_load ho ?_)
       rw [hc,hd]
       show wpAny M A (if (["enumerate","zip","dict_itemiterator","dict_reverseitemiterator","odict_iterator","itertools.zip_longest","itertools.pairwise"].contains n && vs[0]? == some (rawInt _))=true then _ else _) Q E s
       rw [if_neg (by intro h; rw [hn,Bool.false_and] at h; cases h)]
       exact wpAny_pure hQ))
def Itl (K:W.Frag) (a:Addr):It:=
 ⟨λi H=>∃ xs x,SqL K H a xs∧xs[i]? = some x,λi H x H'=>H'=H∧∀ xs,SqL K H a xs→xs[i]? = some x,λi H=>∃ xs,SqL K H a xs∧xs.length≤i⟩
def Itt (K:W.Frag) (a:Addr):It:=
 ⟨λi H=>∃ xs x,SqT K H a xs∧xs[i]? = some x,λi H x H'=>H'=H∧∀ xs,SqT K H a xs→xs[i]? = some x,λi H=>∃ xs,SqT K H a xs∧xs.length≤i⟩
def Itr (lo:Int) (n:Nat):It:=⟨λi _=>i < n,λi H x H'=>H'=H∧x=.int (lo+i),λi _=>n≤i⟩
theorem Ze0 {P:Program} {w:World} {K:W.Frag} {tg:Expr} (a it:Addr):Turn P w K tg (Itl K a) [it] it (λi h=>h.IsListIter it a i) where
 mem:=by simp
 obj:=λi h st b hb=>by
  have e:b=it:=by simpa using hb
  subst e
  obtain ⟨o,e,c,d⟩:=st
  exact ⟨o,e,λv z=>by rw [d] at z; cases z⟩
 keep:=λi h h' st k=>st.at λo e=>k it (by simp) o e
 item:=by
  intro X hP hw hK hc i pins s σ H E I hf st hg
  subst hP hw hK
  obtain ⟨xs,x,hq,hx⟩:=hg
  obtain ⟨its,rv,p,hz⟩:=I.list hq
  obtain ⟨u,hu,ru⟩:=rv.get hx
  obtain ⟨f0,f1,f2,f3,f4,f5⟩:=hf it (by simp)
  refine wpAny_pyNext_list_item st p.isList (x:=u) (by simpa using hu) λh' st' sb=>?_
  have I1:Inv X pins σ H { s with heap:=h' }:=I.turned (t':=s.toks) (λb o hb e=>(sb.2 b hb).trans e) f0 f1 f3 f4 f5
  obtain ⟨o,e,c,d⟩:=id st'
  exact ⟨u,rfl,Eg (s:={ s with heap:=h' }) e c d (by decide) ⟨x,H,I1,ru,⟨rfl,λys hy=>by rw [I.A5 hy hq]; exact hx⟩,st',λb hb=>(hf b hb).1⟩⟩
 done:=by
  intro X hP hw hK hc i pins s σ H E I hf st hg
  subst hP hw hK
  obtain ⟨xs,hq,hx⟩:=hg
  obtain ⟨its,rv,p,hz⟩:=I.list hq
  obtain ⟨f0,f1,f2,f3,f4,f5⟩:=hf it (by simp)
  have hl:=rv.length
  exact wpAny_pyNext_list_end (I.ok.hd hc) st p.isList (by simp; omega) λh' eb=>⟨rfl,I.turned (t':=s.toks) (λb o hb e=>eb b o hb e) f0 f1 f3 f4 f5⟩
 self:=λ_ _ _ _ _ st h=>wpAny_pyIter_listiter st h
theorem Za3 {P:Program} {w:World} {K:W.Frag} {tg:Expr} (a it:Addr):Turn P w K tg (Itt K a) [it] it (λi h=>h.IsTupleIter it a i) where
 mem:=by simp
 obj:=λi h st b hb=>by
  have e:b=it:=by simpa using hb
  subst e
  obtain ⟨o,e,c,d⟩:=st
  exact ⟨o,e,λv z=>by rw [d] at z; cases z⟩
 keep:=λi h h' st k=>st.at λo e=>k it (by simp) o e
 item:=by
  intro X hP hw hK hc i pins s σ H E I hf st hg
  subst hP hw hK
  obtain ⟨xs,x,hq,hx⟩:=hg
  obtain ⟨its,rv,p,hz⟩:=I.tuple hq
  obtain ⟨u,hu,ru⟩:=rv.get hx
  obtain ⟨f0,f1,f2,f3,f4,f5⟩:=hf it (by simp)
  refine wpAny_pyNext_tuple_item st (show s.heap.IsTuple a its.toArray from p) (x:=u) (by simpa using hu) λh' st' sb=>?_
  have I1:Inv X pins σ H { s with heap:=h' }:=I.turned (t':=s.toks) (λb o hb e=>(sb.2 b hb).trans e) f0 f1 f3 f4 f5
  obtain ⟨o,e,c,d⟩:=id st'
  exact ⟨u,rfl,Eg (s:={ s with heap:=h' }) e c d (by decide) ⟨x,H,I1,ru,⟨rfl,λys hy=>by rw [I.Fp hy hq]; exact hx⟩,st',λb hb=>(hf b hb).1⟩⟩
 done:=by
  intro X hP hw hK hc i pins s σ H E I hf st hg
  subst hP hw hK
  obtain ⟨xs,hq,hx⟩:=hg
  obtain ⟨its,rv,p,hz⟩:=I.tuple hq
  obtain ⟨f0,f1,f2,f3,f4,f5⟩:=hf it (by simp)
  have hl:=rv.length
  exact wpAny_pyNext_tuple_end (I.ok.hd hc) st (show s.heap.IsTuple a its.toArray from p) (by simp; omega) λh' eb=>⟨rfl,I.turned (t':=s.toks) (λb o hb e=>eb b o hb e) f0 f1 f3 f4 f5⟩
 self:=λ_ _ _ _ _ st h=>wpAny_pyIter_tupleiter st h
theorem Za4 {P:Program} {w:World} {K:W.Frag} {tg:Expr} (it:Addr) (lo:Int) (n:Nat):Turn P w K tg (Itr lo n) [it] it (λi h=>IsRangeIter h it (lo+(i:Nat) * 1) ((n:Int) - (i:Nat)) 1) where
 mem:=by simp
 obj:=λi h st b hb=>by
  have e:b=it:=by simpa using hb
  subst e
  exact ⟨_,st,λv z=>by
   have z':Data.fields _=Data.cell v:=z
   cases z'⟩
 keep:=λi h h' st k=>k it (by simp) _ st
 item:=by
  intro X hP hw hK hc i pins s σ H E I hf st hg
  subst hP hw hK
  obtain ⟨f0,f1,f2,f3,f4,f5⟩:=hf it (by simp)
  have W:=Walks.range (prog:=X.prog) (w:=X.w) (I.ok.hd hc) it lo 1 n
  refine W.item i s _ _ hg st λv h' tk hv st' kk=>?_
  obtain ⟨t,rfl⟩:=hv
  have I1:Inv X pins σ H { s with heap:=h',toks:=tk }:=I.turned (λb o hb e=>kk b o (by simpa using hb) e) f0 f1 f3 f4 f5
  refine ⟨_,rfl,Eg (s:={ s with heap:=h',toks:=tk }) (n:="range_iterator") st' rfl rfl (by decide) ⟨.int (lo+i),H,I1,⟨t,?_⟩,⟨rfl,rfl⟩,st',λb hb=>(hf b hb).1⟩⟩
  rw [Int.mul_one]
 done:=by
  intro X hP hw hK hc i pins s σ H E I hf st hg
  subst hP hw hK
  obtain ⟨f0,f1,f2,f3,f4,f5⟩:=hf it (by simp)
  exact wpAny_pyNext_range_end (I.ok.hd hc) st (by have:n≤i:=hg; omega) λh' eb=>⟨rfl,I.turned (t':=s.toks) (λb o hb e=>eb b o hb e) f0 f1 f3 f4 f5⟩
 self:=λ_ _ _ _ _ st h=>wpAny_pyIter_rangeiter st h
end L2
namespace L2
open PySem PySem.Spec PyProof.Rows
section
variable {X:Cx} {tg:Expr}
inductive Zil (K:W.Frag) (R:It→Hp→Prop) (x:V) (H1:Hp):Prop
 | mk (a:_) (h1:x=.ref a) (h2:(∃ xs,SqL K H1 a xs)) (h3:R (Itl K a) H1):Zil K R x H1
def Zm5 (K:W.Frag) (tl:TE):TI:=λσ H R=>tl σ H λx H1=>Zil K R x H1
inductive Zm4 (K:W.Frag) (R:It→Hp→Prop) (x:V) (H1:Hp):Prop
 | mk (a:_) (h1:x=.ref a) (h2:(∃ xs,SqT K H1 a xs)) (h3:R (Itt K a) H1):Zm4 K R x H1
def Zrl (K:W.Frag) (tl:TE):TI:=λσ H R=>tl σ H λx H1=>Zm4 K R x H1
theorem Zkx {l:Expr} {tl:TE} (hl:PE X l tl):PI X tg l (Zm5 X.K tl):=by
 intro pins s σ H R I h
 refine thn (hl pins s σ H _ I h) λv s1 ⟨x,H1,I1,r1,q1⟩=>?_
 obtain ⟨a,e,⟨xs,hq⟩,q⟩:=q1
 subst e
 cases r1
 obtain ⟨its,rv,p,hz⟩:=I1.list hq
 refine wpAny_pyIter_list p.isList ?_
 refine ⟨s1.heap.objs.size,[s1.heap.objs.size],_,_,H1,rfl,I1.kept (t':=s1.toks) λb o e=>Heap.get?_push_of_some _ e,Ze0 a _,⟨_,Heap.get?_push_size _ rfl,rfl,rfl⟩,λb hb=>?_,q⟩
 have e:b=s1.heap.objs.size:=by simpa using hb
 subst e
 exact I1.Fb (Nat.le_refl _) (I1.hok.fresh (Nat.le_refl _))
theorem Zog {l:Expr} {tl:TE} (hl:PE X l tl):PI X tg l (Zrl X.K tl):=by
 intro pins s σ H R I h
 refine thn (hl pins s σ H _ I h) λv s1 ⟨x,H1,I1,r1,q1⟩=>?_
 obtain ⟨a,e,⟨xs,hq⟩,q⟩:=q1
 subst e
 cases r1
 obtain ⟨its,rv,p,hz⟩:=I1.tuple hq
 refine wpAny_pyIter_tuple (show s1.heap.IsTuple a its.toArray from p) ?_
 refine ⟨s1.heap.objs.size,[s1.heap.objs.size],_,_,H1,rfl,I1.kept (t':=s1.toks) λb o e=>Heap.get?_push_of_some _ e,Za3 a _,⟨_,Heap.get?_push_size _ rfl,rfl,rfl⟩,λb hb=>?_,q⟩
 have e:b=s1.heap.objs.size:=by simpa using hb
 subst e
 exact I1.Fb (Nat.le_refl _) (I1.hok.fresh (Nat.le_refl _))
theorem Aa {pins:List (Addr × Obj)} {σ:St} {H:Hp} {s:Shared} {R:It→Hp→Prop} {E:Value→Shared→Prop} {lo hi:Int} {t u v:Tok} {tk:Nat} (I:Inv X pins σ H s) (h1 : -(2 ^ 62)≤lo) (h2:lo < 2 ^ 62) (h3 : -(2 ^ 62)≤hi) (h4:hi < 2 ^ 62)
  (q:R (Itr lo (hi - lo).toNat) H):wpAny (model X.prog X.w) X.A (pyIter (.ref s.heap.objs.size)) (PIE X pins σ tg R) E { s with heap:=s.heap.push { cls:=.type "range",data:=.fields #[.int lo t,.int hi u,.int 1 v] },toks:=tk }:=by
 refine wpAny_pyIter_range (IsRange.new ..) (small_one h1 h2 h3 h4) ?_
 have I1:Inv X pins σ H { s with heap:=s.heap.push { cls:=.type "range",data:=.fields #[.int lo t,.int hi u,.int 1 v] },toks:=tk }:=I.kept λb o e=>Heap.get?_push_of_some _ e
 refine ⟨(s.heap.push { cls:=.type "range",data:=.fields #[.int lo t,.int hi u,.int 1 v] }).objs.size,[(s.heap.push { cls:=.type "range",data:=.fields #[.int lo t,.int hi u,.int 1 v] }).objs.size],_,_,H,rfl,
  I1.kept (t':=tk) λb o e=>Heap.get?_push_of_some _ e,Za4 _ lo (hi - lo).toNat,?_,λb hb=>?_,q⟩
 ·have e1:lo+((0:Nat):Int) * 1=lo:=by simp
  have e2:(((hi - lo).toNat:Nat):Int) - ((0:Nat):Int)=Builtin.Range.rangeSize lo hi 1:=by rw [rangeSize_one]; split <;> omega
  show IsRangeIter _ _ (lo+((0:Nat):Int) * 1) ((((hi - lo).toNat:Nat):Int) - ((0:Nat):Int)) 1
  rw [e1,e2]
  exact Heap.get?_push_size _ rfl
 ·have e:b=(s.heap.push { cls:=.type "range",data:=.fields #[.int lo t,.int hi u,.int 1 v] }).objs.size:=by simpa using hb
  subst e
  exact I1.Fb (Nat.le_refl _) (I1.hok.fresh (Nat.le_refl _))
inductive Zik (R:It→Hp→Prop) (vs:List V) (H1:Hp):Prop
 | mk (j:Int) (h1:vs=[.int j]) (h2 : -(2 ^ 62)≤j) (h3:j < 2 ^ 62) (h4:R (Itr 0 j.toNat) H1):Zik R vs H1
def Zrn (ta:TA):TI:=λσ H R=>ta σ H λvs H1=>Zik R vs H1
inductive Zij (R:It→Hp→Prop) (vs:List V) (H1:Hp):Prop
 | mk (i j:Int) (h1:vs=[.int i,.int j]) (h2:(-(2 ^ 62)≤i∧i < 2 ^ 62∧-(2 ^ 62)≤j∧j < 2 ^ 62)) (h3:R (Itr i (j - i).toNat) H1):Zij R vs H1
def Zrm (ta:TA):TI:=λσ H R=>ta σ H λvs H1=>Zij R vs H1
theorem Yz {a:Expr} {ta:TA} {p pos:Pos} (hg:Gl X "range") (hm:X.mg "range" = none) (ha:PA X [a] ta) (hs:starEach [a] X.env=[(false,eval a X.env)]:=by rfl):PI X tg (.Call (.Name "range" p) [a] [] pos) (Zrn ta):=by
 intro pins s σ H R I h
 refine Call_ (Ri I hg hm boot_range (PyProof.Rows.callWith_type1 (thn (ha pos pins s σ H _ I h) λus s1 ⟨vs,H1,I1,r1,q1⟩=>?_) hs rfl))
 obtain ⟨j,e,q1,q2,q⟩:=q1
 subst e
 cases r1 with
 | cons r rr=>
  cases rr
  obtain ⟨t,rfl⟩:=r
  exact call_range_1 (Aa I1 (by omega) (by omega) q1 q2 (by simpa using q))
theorem Zfa {a b:Expr} {ta:TA} {p pos:Pos} (hg:Gl X "range") (hm:X.mg "range" = none) (ha:PA X [a,b] ta) (hs:starEach [a,b] X.env=[(false,eval a X.env),(false,eval b X.env)]:=by rfl) (hs2:starEach [b] X.env=[(false,eval b X.env)]:=by rfl) :
  PI X tg (.Call (.Name "range" p) [a,b] [] pos) (Zrm ta):=by
 intro pins s σ H R I h
 refine Call_ (Ri I hg hm boot_range (PyProof.Rows.callWith_type1 (thn (ha pos pins s σ H _ I h) λus s1 ⟨vs,H1,I1,r1,q1⟩=>?_) (by rw [hs,hs2]) (by rw [hs2]; rfl)))
 obtain ⟨i,j,e,⟨q1,q2,q3,q4⟩,q⟩:=q1
 subst e
 cases r1 with
 | cons r rr=>
  cases rr with
  | cons r' rr=>
   cases rr
   obtain ⟨t,rfl⟩:=r
   obtain ⟨t',rfl⟩:=r'
   exact call_range_2 (Aa I1 q1 q2 q3 q4 q)
def Jn (wi:TI) (g:TG) (tb:TS):TS:=λD σ H=>wi σ H λJ H1=>∃ W:Nat→Nat→St→Hp→Prop,(∃ m,W 0 m σ H1)∧∀ i m σ H,W i m σ H→
 (J.stop i H∧D.nx σ H)∨(J.go i H∧∃ N:St→Hp→Prop,(∀ σ' H',N σ' H'→∃ m',m' < m∧W (i+1) m' σ' H')∧∀ x H',J.yld i H x H'→g x σ H' λσ2 H2=>tb { D with nx:=N,ct:=N,bk:=D.nx } σ2 H2)
def Lf (fp:List Addr) (h:Heap):List (Addr × Obj):=fp.filterMap λb=>(h.get? b).map λo=>(b,o)
theorem Rg {fp:List Addr} {h:Heap} {b:Addr} {o:Obj} (hb:b∈fp) (e:h.get? b=some o):(b,o)∈Lf fp h:=List.mem_filterMap.mpr ⟨b,hb,by rw [e]; rfl⟩
theorem Zfj {fp:List Addr} {h:Heap} {p:Addr × Obj} (hp:p∈Lf fp h):p.1∈fp∧h.get? p.1=some p.2:=by
 obtain ⟨b,hb,e⟩:=List.mem_filterMap.mp hp
 cases q:h.get? b with
 | none=>rw [q] at e; cases e
 | some o=>
  rw [q] at e
  have e':(b,o)=p:=Option.some.inj e
  subst e'
  exact ⟨hb,q⟩
theorem Inv.pinned {pins:List (Addr × Obj)} {σ:St} {H:Hp} {s:Shared} {fp:List Addr} (I:Inv X pins σ H s) (hf:∀ b∈fp,Fi X pins H b) (ho:∀ b∈fp,∃ o,s.heap.get? b=some o∧∀ v,o.data≠.cell v):Inv X (pins ++ Lf fp s.heap) σ H s:=
 I.K9 λp hp=>(List.mem_append.mp hp).elim (λz=>I.pin p (List.mem_append_right _ z)) λz=>by
  obtain ⟨hb,e⟩:=Zfj z
  obtain ⟨f0,f1,f2,_⟩:=hf p.1 hb
  obtain ⟨o,e',d⟩:=ho p.1 hb
  rw [e] at e'; cases e'
  exact ⟨e,f0,f1,f2,d⟩
theorem Inv.Jm {pins pl:List (Addr × Obj)} {σ:St} {H:Hp} {s:Shared} (I:Inv X (pins ++ pl) σ H s):Inv X pins σ H s:=I.K9 λp hp=>I.pin p (List.mem_append_right _ (List.mem_append_left _ hp))
theorem Xx {iter:Expr} {body:List Stmt} {wi:TI} {g:TG} {tb:TS} {pos:Pos} (hp:PassesOwn (model X.prog X.w) X.A X.env X.xe) (hc:X.calm=true) (hi:PI X tg iter wi) (hg:PG X tg g) (hb:PSs X body tb)
  (hs:∀ x,foldedSetIterable iter X.env x=pure x:=by intro _; rfl):PS X (.For tg iter body [] pos) (Jn wi g tb):=by
 intro pins s σ H D I h
 refine wpAny_For (thn (hi pins s σ H _ I h) λv s1 h1=>thn h1 λitv s2 h2=>?_) hs
 obtain ⟨it,fp,tn,J,H2,e,I2,T,st2,f2,W,⟨m0,w0⟩,turn⟩:=h2
 subst e
 have Zbb:∀ {H':Hp},(∀ b∈fp,H' b=none)→∀ b∈fp,Fi X pins H' b:=λhn b hb=>⟨hn b hb,(f2 b hb).2⟩
 refine codeAny_forLoop_any (λn s'=>∃ i σ' H',Inv X pins σ' H' s'∧tn i s'.heap∧(∀ b∈fp,H' b=none)∧W i n σ' H') ?_ m0 ⟨0,σ,H2,I2,st2,λb hb=>(f2 b hb).1,w0⟩
 rintro n s3 ⟨i,σ3,H3,I3,st3,fr3,w3⟩
 rcases turn i n σ3 H3 w3 with ⟨stop,qn⟩ | ⟨go,N,hN,step⟩
 ·refine wpAny_passesOwn hp (thn (T.done X rfl rfl rfl hc i pins s3 σ3 H3 X.xe I3 (Zbb fr3) st3 stop) λr s4 ⟨hr,I4⟩=>?_)
  subst hr
  exact wpAny_execs_nil ⟨σ3,H3,I4,qn⟩
 ·refine wpAny_passesOwn hp (thn (T.item X rfl rfl rfl hc i pins s3 σ3 H3 X.xe I3 (Zbb fr3) st3 go) λr s4 ⟨u,hr,h4⟩=>?_)
  subst hr
  refine wpAny_passesOwn hp (thn h4 λ_ s5 ⟨x,H5,I5,r5,y5,st5,fr5⟩=>?_)
  have I5':=I5.pinned (Zbb fr5) (T.obj _ _ st5)
  refine wpAny_passesOwn hp (thn (hg _ s5 σ3 H5 x u _ I5' r5 (step x H5 y5)) λ_ s6 ⟨σ6,H6,I6,q6⟩=>?_)
  refine wpAny_passesOwn hp (thn (hb _ s6 σ6 H6 _ I6 q6) λf s7 q7=>?_)
  have again:∀ {σ7:St} {H7:Hp},Inv X (pins ++ Lf fp s5.heap) σ7 H7 s7→N σ7 H7→∃ m,m < n∧∃ i σ' H',Inv X pins σ' H' s7∧tn i s7.heap∧(∀ b∈fp,H' b=none)∧W i m σ' H':=λ{σ7 H7} I7 n7=>by
   obtain ⟨m',hm,w7⟩:=hN σ7 H7 n7
   refine ⟨m',hm,i+1,σ7,H7,I7.Jm,T.keep _ _ _ st5 λb hb o e=>(I7.pin (b,o) (List.mem_append_right _ (List.mem_append_right _ (Rg hb e)))).1,λb hb=>?_,w7⟩
   obtain ⟨o,e,d⟩:=T.obj _ _ st5 b hb
   exact (I7.pin (b,o) (List.mem_append_right _ (List.mem_append_right _ (Rg hb e)))).2.1
  cases f with
  | next=>obtain ⟨σ7,H7,I7,n7⟩:=q7; exact again I7 n7
  | cont=>obtain ⟨σ7,H7,I7,n7⟩:=q7; exact again I7 n7
  | brk=>obtain ⟨σ7,H7,I7,q7⟩:=q7; exact ⟨σ7,H7,I7.Jm,q7⟩
  | ret v=>obtain ⟨x7,σ7,H7,I7,r7,q7⟩:=q7; exact ⟨x7,σ7,H7,I7.Jm,r7,q7⟩
end
theorem Q7 {K:W.Frag} {a:Addr} {xs:List V} {g:TG} {tb:TS} {D:Ends} {σ:St} {H:Hp} (Pv:Nat→St→Hp→Prop) (h0:Pv 0 σ H) (hl:∀ i σ H,i≤xs.length→Pv i σ H→SqL K H a xs)
  (hs:∀ i x σ H,xs[i]? = some x→Pv i σ H→g x σ H λσ2 H2=>tb { D with nx:=Pv (i+1),ct:=Pv (i+1),bk:=D.nx } σ2 H2) (hd:∀ σ H,Pv xs.length σ H→D.nx σ H) :
  ∃ W:Nat→Nat→St→Hp→Prop,(∃ m,W 0 m σ H)∧∀ i m σ H,W i m σ H→
   ((Itl K a).stop i H∧D.nx σ H)∨((Itl K a).go i H∧∃ N:St→Hp→Prop,(∀ σ' H',N σ' H'→∃ m',m' < m∧W (i+1) m' σ' H')∧∀ x H',(Itl K a).yld i H x H'→g x σ H' λσ2 H2=>tb { D with nx:=N,ct:=N,bk:=D.nx } σ2 H2):=by
 refine ⟨λi m σ H=>m=xs.length - i∧i≤xs.length∧Pv i σ H,⟨xs.length,by simp,Nat.zero_le _,h0⟩,?_⟩
 rintro i m σ H ⟨rfl,hi,p⟩
 have q:=hl i σ H hi p
 by_cases hlt:i < xs.length
 ·refine .inr ⟨⟨xs,xs[i],q,by simp [hlt]⟩,Pv (i+1),λσ' H' p'=>⟨xs.length - (i+1),by omega,rfl,hlt,p'⟩,λx H' y=>?_⟩
  obtain ⟨e,y⟩:=y
  subst e
  exact hs i x σ _ (y xs q) p
 ·have e:i=xs.length:=by omega
  subst e
  exact .inl ⟨⟨xs,q,Nat.le_refl _⟩,hd σ H p⟩
theorem Zlr {K:W.Frag} {a:Addr} {xs:List V} {g:TG} {tb:TS} {D:Ends} {σ:St} {H:Hp} (Pv:Nat→St→Hp→Prop) (h0:Pv 0 σ H) (hl:∀ i σ H,i≤xs.length→Pv i σ H→SqT K H a xs)
  (hs:∀ i x σ H,xs[i]? = some x→Pv i σ H→g x σ H λσ2 H2=>tb { D with nx:=Pv (i+1),ct:=Pv (i+1),bk:=D.nx } σ2 H2) (hd:∀ σ H,Pv xs.length σ H→D.nx σ H) :
  ∃ W:Nat→Nat→St→Hp→Prop,(∃ m,W 0 m σ H)∧∀ i m σ H,W i m σ H→
   ((Itt K a).stop i H∧D.nx σ H)∨((Itt K a).go i H∧∃ N:St→Hp→Prop,(∀ σ' H',N σ' H'→∃ m',m' < m∧W (i+1) m' σ' H')∧∀ x H',(Itt K a).yld i H x H'→g x σ H' λσ2 H2=>tb { D with nx:=N,ct:=N,bk:=D.nx } σ2 H2):=by
 refine ⟨λi m σ H=>m=xs.length - i∧i≤xs.length∧Pv i σ H,⟨xs.length,by simp,Nat.zero_le _,h0⟩,?_⟩
 rintro i m σ H ⟨rfl,hi,p⟩
 have q:=hl i σ H hi p
 by_cases hlt:i < xs.length
 ·refine .inr ⟨⟨xs,xs[i],q,by simp [hlt]⟩,Pv (i+1),λσ' H' p'=>⟨xs.length - (i+1),by omega,rfl,hlt,p'⟩,λx H' y=>?_⟩
  obtain ⟨e,y⟩:=y
  subst e
  exact hs i x σ _ (y xs q) p
 ·have e:i=xs.length:=by omega
  subst e
  exact .inl ⟨⟨xs,q,Nat.le_refl _⟩,hd σ H p⟩
theorem Ul {lo:Int} {n:Nat} {g:TG} {tb:TS} {D:Ends} {σ:St} {H:Hp} (Pv:Nat→St→Hp→Prop) (h0:Pv 0 σ H)
  (hs:∀ i σ H,i < n→Pv i σ H→g (.int (lo+i)) σ H λσ2 H2=>tb { D with nx:=Pv (i+1),ct:=Pv (i+1),bk:=D.nx } σ2 H2) (hd:∀ σ H,Pv n σ H→D.nx σ H) :
  ∃ W:Nat→Nat→St→Hp→Prop,(∃ m,W 0 m σ H)∧∀ i m σ H,W i m σ H→
   ((Itr lo n).stop i H∧D.nx σ H)∨((Itr lo n).go i H∧∃ N:St→Hp→Prop,(∀ σ' H',N σ' H'→∃ m',m' < m∧W (i+1) m' σ' H')∧∀ x H',(Itr lo n).yld i H x H'→g x σ H' λσ2 H2=>tb { D with nx:=N,ct:=N,bk:=D.nx } σ2 H2):=by
 refine ⟨λi m σ H=>m=n - i∧i≤n∧Pv i σ H,⟨n,by simp,Nat.zero_le _,h0⟩,?_⟩
 rintro i m σ H ⟨rfl,hi,p⟩
 by_cases hlt:i < n
 ·refine .inr ⟨hlt,Pv (i+1),λσ' H' p'=>⟨n - (i+1),by omega,rfl,hlt,p'⟩,λx H' y=>?_⟩
  obtain ⟨e,y⟩:=y
  subst e y
  exact hs i σ _ hlt p
 ·have e:i=n:=by omega
  subst e
  exact .inl ⟨Nat.le_refl _,hd σ H p⟩
end L2
namespace L2
open PySem PySem.Spec PyProof.Rows
abbrev R2:=V→V→Hp→VK→Prop
def OpR (X:Cx) (f:Value→Value→Sem Value) (r:R2):Prop:=
 ∀ (pins:List (Addr × Obj)) (s:Shared) (σ:St) (H:Hp) (x y:V) (v u:Value) (Q:VK),Inv X pins σ H s→RelV x v→RelV y u→r x y H Q→
  wpAny (model X.prog X.w) X.A (f v u) (EP X pins σ Q) X.xe s
def Xh (X:Cx) (f:Value) (r:List V→Hp→VK→Prop):Prop:=
 ∀ (pins:List (Addr × Obj)) (s:Shared) (σ:St) (H:Hp) (xs:List V) (us:List Value) (Q:VK),Inv X pins σ H s→Vals xs us→r xs H Q→
  wpAny (model X.prog X.w) X.A (call f us) (EP X pins σ Q) X.xe s
def TruR (X:Cx) (r:V→Hp→(Bool→Hp→Prop)→Prop):Prop:=
 ∀ (pins:List (Addr × Obj)) (s:Shared) (σ:St) (H:Hp) (x:V) (v:Value) (Q:Bool→Hp→Prop),Inv X pins σ H s→RelV x v→r x H Q→
  wpAny (model X.prog X.w) X.A (truthy v) (TP X pins σ Q) X.xe s
def tOp (r:R2) (ta tb:TE):TE:=λσ H Q=>ta σ H λx H1=>tb σ H1 λy H2=>r x y H2 Q
inductive rII (C:Int→Int→Prop) (g:Int→Int→V) (x:V) (y:V) (H:Hp) (Q:VK):Prop
 | mk (i j:_) (h1:x=.int i) (h2:y=.int j) (h3:C i j) (h4:Q (g i j) H):rII C g x y H Q
def rI (C:Int→Int→Prop) (g:Int→Int→V):R2:=λx y H Q=>rII C g x y H Q
inductive Zq0 (g:Int→Int→V) (x:V) (y:V) (H:Hp) (Q:VK):Prop
 | mk (i j:_) (h1:x=.int i) (h2:y=.int j) (h3:Q (g i j) H):Zq0 g x y H Q
def rI0 (g:Int→Int→V):R2:=λx y H Q=>Zq0 g x y H Q
section
variable {X:Cx} {a b c:Expr} {ta tb tc:TE} {pos:Pos}
theorem Zp1 (ha:PE X a ta) (hb:PE X b tb) {pins:List (Addr × Obj)} {s:Shared} {σ:St} {H:Hp} {R:V→V→Hp→Prop} (I:Inv X pins σ H s)
  (h:ta σ H λx H1=>tb σ H1 λy H2=>R x y H2) {Q:Value→Shared→Prop} {f:Value→Value→Sem Value}
  (hf:∀ v u s2 x y H2,Inv X pins σ H2 s2→RelV x v→RelV y u→R x y H2→wpAny (model X.prog X.w) X.A (f v u) Q X.xe s2) :
  wpAny (model X.prog X.w) X.A (eval a X.env) (λv s₁=>wpAny (model X.prog X.w) X.A (eval b X.env) (λu s₂=>wpAny (model X.prog X.w) X.A (f v u) Q X.xe s₂) X.xe s₁) X.xe s:=by
 refine thn (ha pins s σ H _ I h) λv s1 ⟨x,H1,I1,r1,q1⟩=>?_
 refine thn (hb pins s1 σ H1 _ I1 q1) λu s2 ⟨y,H2,I2,r2,q2⟩=>?_
 exact hf v u s2 x y H2 I2 r1 r2 q2
theorem Yj {op:Operator} {r:R2} (ho:OpR X (binaryOp op) r) (ha:PE X a ta) (hb:PE X b tb):PE X (.BinOp a op b pos) (tOp r ta tb):=by
 intro pins s σ H Q I h
 exact wpAny_BinOp (Zp1 ha hb I h λv u s2 x y H2 I2 rx ry q=>ho pins s2 σ H2 x y v u Q I2 rx ry q)
theorem opI {f:Value→Value→Sem Value} {C:Int→Int→Prop} {g:Int→Int→Int}
  (rule:∀ (i j:Int) (t u:Tok) (s:Shared) (Q:Value→Shared→Prop) (E:Value→Shared→Prop),C i j→Q (.int (g i j) s.toks) { s with toks:=s.toks+1 }→wpAny (model X.prog X.w) X.A (f (.int i t) (.int j u)) Q E s) :
  OpR X f (rI C λi j=>.int (g i j)):=by
 intro pins s σ H x y v u Q I rx ry h
 obtain ⟨i,j,rfl,rfl,hc,q⟩:=h
 obtain ⟨t,rfl⟩:=rx
 obtain ⟨t',rfl⟩:=ry
 exact rule i j t t' s _ _ hc ⟨.int (g i j),H,I.tok _,⟨_,rfl⟩,q⟩
theorem Zrb {f:Value→Value→Sem Value} {g:Int→Int→Int}
  (rule:∀ (i j:Int) (t u:Tok) (s:Shared) (Q:Value→Shared→Prop) (E:Value→Shared→Prop),Q (.int (g i j) s.toks) { s with toks:=s.toks+1 }→wpAny (model X.prog X.w) X.A (f (.int i t) (.int j u)) Q E s) :
  OpR X f (rI0 λi j=>.int (g i j)):=by
 intro pins s σ H x y v u Q I rx ry h
 obtain ⟨i,j,rfl,rfl,q⟩:=h
 obtain ⟨t,rfl⟩:=rx
 obtain ⟨t',rfl⟩:=ry
 exact rule i j t t' s _ _ ⟨.int (g i j),H,I.tok _,⟨_,rfl⟩,q⟩
theorem Zk3 {f:Value→Value→Sem Value} {g:Int→Int→Bool}
  (rule:∀ (i j:Int) (t u:Tok) (s:Shared) (Q:Value→Shared→Prop) (E:Value→Shared→Prop),Q (.bool (g i j)) s→wpAny (model X.prog X.w) X.A (f (.int i t) (.int j u)) Q E s) :
  OpR X f (rI0 λi j=>.bl (g i j)):=by
 intro pins s σ H x y v u Q I rx ry h
 obtain ⟨i,j,rfl,rfl,q⟩:=h
 obtain ⟨t,rfl⟩:=rx
 obtain ⟨t',rfl⟩:=ry
 exact rule i j t t' s _ _ ⟨.bl (g i j),H,I,rfl,q⟩
def CDiv (i j:Int):Prop:=0 < j∧j < 1073741824
def CPow (i j:Int):Prop:=0≤j∧j≤1000000∧i.natAbs < 2 ^ 64
def Zqc (i j:Int):Prop:=(-(2 ^ 64) < i∧i < 2 ^ 64)∨(-(2 ^ 64) < j∧j < 2 ^ 64)
theorem Zqc.ok {i j:Int} (h:Zqc i j):IntMulOk i j:=by
 rcases h with ⟨h1,h2⟩ | ⟨h1,h2⟩
 ·exact .of_left (intBits_le_64 h1 h2)
 ·exact .of_right (intBits_le_64 h1 h2)
theorem Wh:OpR X (binaryOp .Add) (rI0 λi j=>.int (i+j)):=Zrb λ_ _ _ _ _ _ _ q=>add_int q
theorem O4:OpR X (binaryOp .Sub) (rI0 λi j=>.int (i - j)):=Zrb λ_ _ _ _ _ _ _ q=>sub_int q
theorem Zbq:OpR X (binaryOp .Mult) (rI Zqc λi j=>.int (i * j)):=opI λ_ _ _ _ _ _ _ hc q=>mul_int q hc.ok
theorem Dv:OpR X (binaryOp .FloorDiv) (rI CDiv λi j=>.int (i / j)):=opI λi j _ _ _ _ _ hc q=>by
 have h1:(0:Int) < j:=hc.1
 have h2:j < 1073741824:=hc.2
 exact floordiv_int (by omega) (by rw [Int.fdiv_eq_ediv_of_nonneg i (by omega)]; exact q) (.inl (PyProof.noPylong_small (by omega)))
theorem O5:OpR X (binaryOp .Mod) (rI (λ_ j=>0 < j) λi j=>.int (i % j)):=opI λi j _ _ _ _ _ hc q=>by
 have h1:(0:Int) < j:=hc
 exact mod_int' (by omega) (by rw [Int.fmod_eq_emod_of_nonneg i (by omega)]; exact q)
theorem Zoi:OpR X (binaryOp .Pow) (rI CPow λi j=>.int (i ^ j.toNat)):=opI λ_ _ _ _ _ _ _ hc q=>pow_int_small hc.1 hc.2.1 hc.2.2 q
end
def Zqo:V→V→Bool
 | .non,.non=>true | .non,.int _=>true | .int _,.non=>true | .non,.bl _=>true | .bl _,.non=>true | .non,.str _=>true | .str _,.non=>true
 | .int _,.int _=>true | .bl _,.bl _=>true | .str _,.str _=>true | .byt _,.byt _=>true
 | .int _,.str _=>true | .str _,.int _=>true | .bl _,.str _=>true | .str _,.bl _=>true
 | _,_=>false
def rEq:R2:=λx y H Q=>Zqo x y=true∧Q (.bl (decide (x=y))) H
def rNe:R2:=λx y H Q=>Zqo x y=true∧Q (.bl (!decide (x=y))) H
theorem Zep {i j:Int}:decide (V.int i=V.int j)=(i==j):=by
 rw [Bool.eq_iff_iff]
 simp
theorem Zji {i j:Bool}:decide (V.bl i=V.bl j)=(i==j):=by
 rw [Bool.eq_iff_iff]
 simp
theorem Zeo {i j:Str}:decide (V.str i=V.str j)=(i==j):=by
 rw [Bool.eq_iff_iff]
 simp
theorem Zeq {i j:Array UInt8}:decide (V.byt i=V.byt j)=(i.toList==j.toList):=by
 rw [Bool.eq_iff_iff]
 cases i
 cases j
 simp
section
variable {X:Cx} {a b c:Expr} {ta tb tc:TE} {pos:Pos}
theorem Yl {pins:List (Addr × Obj)} {σ:St} {H:Hp} {s:Shared} {Q:VK} {k k':Bool} (I:Inv X pins σ H s) (q:Q (.bl k) H) (e:k=k'):EP X pins σ Q (.bool k') s:=by
 subst e
 exact ⟨.bl k,H,I,rfl,q⟩
theorem Ue:OpR X (compareOp .Eq) rEq:=by
 intro pins s σ H x y v u Q I rx ry h
 obtain ⟨hs,q⟩:=h
 cases x with
 | non=>
  cases rx
  cases y with
  | non=>cases ry; exact PySem.EqNone.eq_none_none (Yl I q (by simp))
  | bl j=>cases ry; exact PySem.EqNone.eq_none_bool (Yl I q (by simp))
  | int j=>obtain ⟨t',rfl⟩:=ry; exact PySem.EqNone.eq_none_int (Yl I q (by simp))
  | str j=>obtain ⟨t',rfl⟩:=ry; exact PySem.EqNone.eq_none_str (Yl I q (by simp))
  | _=>exact absurd (show false=true from hs) Bool.false_ne_true
 | bl i=>
  cases rx
  cases y with
  | non=>cases ry; exact PySem.EqNone.eq_bool_none (Yl I q (by simp))
  | bl j=>cases ry; exact eq_bool (Yl I q Zji)
  | str j=>obtain ⟨t',rfl⟩:=ry; exact PySem.EqMixed.eq_bool_str (Yl I q (by simp))
  | _=>exact absurd (show false=true from hs) Bool.false_ne_true
 | int i=>
  obtain ⟨t,rfl⟩:=rx
  cases y with
  | non=>cases ry; exact PySem.EqNone.eq_int_none (Yl I q (by simp))
  | int j=>obtain ⟨t',rfl⟩:=ry; exact eq_int (Yl I q Zep)
  | str j=>obtain ⟨t',rfl⟩:=ry; exact PySem.EqMixed.eq_int_str (Yl I q (by simp))
  | _=>exact absurd (show false=true from hs) Bool.false_ne_true
 | str i=>
  obtain ⟨t,rfl⟩:=rx
  cases y with
  | non=>cases ry; exact PySem.EqNone.eq_str_none (Yl I q (by simp))
  | bl j=>cases ry; exact PySem.EqMixed.eq_str_bool (Yl I q (by simp))
  | int j=>obtain ⟨t',rfl⟩:=ry; exact PySem.EqMixed.eq_str_int (Yl I q (by simp))
  | str j=>obtain ⟨t',rfl⟩:=ry; exact eq_str (Yl I q Zeo)
  | _=>exact absurd (show false=true from hs) Bool.false_ne_true
 | byt i=>
  obtain ⟨t,rfl⟩:=rx
  cases y with
  | byt j=>obtain ⟨t',rfl⟩:=ry; exact W.eq_bytes (Yl I q Zeq)
  | _=>exact absurd (show false=true from hs) Bool.false_ne_true
 | _=>cases y <;> exact absurd (show false=true from hs) Bool.false_ne_true
theorem Qt:OpR X (compareOp .NotEq) rNe:=by
 intro pins s σ H x y v u Q I rx ry h
 obtain ⟨hs,q⟩:=h
 cases x with
 | non=>
  cases rx
  cases y with
  | non=>cases ry; exact PySem.EqNone.ne_none_none (Yl I q (by simp))
  | bl j=>cases ry; exact PySem.EqNone.ne_none_bool (Yl I q (by simp))
  | int j=>obtain ⟨t',rfl⟩:=ry; exact PySem.EqNone.ne_none_int (Yl I q (by simp))
  | str j=>obtain ⟨t',rfl⟩:=ry; exact PySem.EqNone.ne_none_str (Yl I q (by simp))
  | _=>exact absurd (show false=true from hs) Bool.false_ne_true
 | bl i=>
  cases rx
  cases y with
  | non=>cases ry; exact PySem.EqNone.ne_bool_none (Yl I q (by simp))
  | bl j=>cases ry; exact ne_bool (Yl I q (congrArg not Zji))
  | str j=>obtain ⟨t',rfl⟩:=ry; exact PySem.EqMixed.ne_bool_str (Yl I q (by simp))
  | _=>exact absurd (show false=true from hs) Bool.false_ne_true
 | int i=>
  obtain ⟨t,rfl⟩:=rx
  cases y with
  | non=>cases ry; exact PySem.EqNone.ne_int_none (Yl I q (by simp))
  | int j=>obtain ⟨t',rfl⟩:=ry; exact ne_int (Yl I q (congrArg not Zep))
  | str j=>obtain ⟨t',rfl⟩:=ry; exact PySem.EqMixed.ne_int_str (Yl I q (by simp))
  | _=>exact absurd (show false=true from hs) Bool.false_ne_true
 | str i=>
  obtain ⟨t,rfl⟩:=rx
  cases y with
  | non=>cases ry; exact PySem.EqNone.ne_str_none (Yl I q (by simp))
  | bl j=>cases ry; exact PySem.EqMixed.ne_str_bool (Yl I q (by simp))
  | int j=>obtain ⟨t',rfl⟩:=ry; exact PySem.EqMixed.ne_str_int (Yl I q (by simp))
  | str j=>obtain ⟨t',rfl⟩:=ry; exact ne_str (Yl I q (congrArg not Zeo))
  | _=>exact absurd (show false=true from hs) Bool.false_ne_true
 | byt i=>
  obtain ⟨t,rfl⟩:=rx
  cases y with
  | byt j=>obtain ⟨t',rfl⟩:=ry; exact W.ne_bytes (Yl I q (congrArg not Zeq))
  | _=>exact absurd (show false=true from hs) Bool.false_ne_true
 | _=>cases y <;> exact absurd (show false=true from hs) Bool.false_ne_true
theorem F5:OpR X (compareOp .Lt) (rI0 λi j=>.bl (decide (i < j))):=Zk3 λ_ _ _ _ _ _ _ q=>lt_int q
theorem L9:OpR X (compareOp .LtE) (rI0 λi j=>.bl (decide (i≤j))):=Zk3 λ_ _ _ _ _ _ _ q=>le_int q
theorem Zhw:OpR X (compareOp .Gt) (rI0 λi j=>.bl (decide (j < i))):=Zk3 λ_ _ _ _ _ _ _ q=>gt_int q
theorem Zra:OpR X (compareOp .GtE) (rI0 λi j=>.bl (decide (j≤i))):=Zk3 λ_ _ _ _ _ _ _ q=>ge_int q
theorem Zff:OpR X (compareOp .Lt) (λx y H Q=>∃ i j,x=.str i∧y=.str j∧Q (.bl (decide (i.cps.toList < j.cps.toList))) H):=by
 intro pins s σ H x y v u Q I rx ry h
 obtain ⟨i,j,rfl,rfl,q⟩:=h
 obtain ⟨t,rfl⟩:=rx
 obtain ⟨t',rfl⟩:=ry
 exact lt_str (Yl I q rfl)
theorem Zok:OpR X (compareOp .Is) (λx y H Q=>y=.non∧Q (.bl (decide (x=.non))) H):=by
 intro pins s σ H x y v u Q I rx ry h
 obtain ⟨rfl,q⟩:=h
 cases ry
 refine is_none_gen (Yl I q ?_)
 cases x <;> first
  | (cases rx; rfl)
  | (obtain ⟨t,rfl⟩:=rx; rfl)
theorem Zk0:OpR X (compareOp .IsNot) (λx y H Q=>y=.non∧Q (.bl (!decide (x=.non))) H):=by
 intro pins s σ H x y v u Q I rx ry h
 obtain ⟨rfl,q⟩:=h
 cases ry
 refine isnot_none_gen (Yl I q ?_)
 cases x <;> first
  | (cases rx; rfl)
  | (obtain ⟨t,rfl⟩:=rx; rfl)
theorem Z8 (b:Expr) {op:CmpOp} (h:op≠.In:=by decide) (h2:op≠.NotIn:=by decide):behindInMarks op b=false:=by
 have e1:(op==CmpOp.In)=false:=by cases op <;> first | rfl | exact absurd rfl h
 have e2:(op==CmpOp.NotIn)=false:=by cases op <;> first | rfl | exact absurd rfl h2
 cases b <;> simp [behindInMarks,e1,e2]
theorem Xu {op:CmpOp} {r:R2} (ho:OpR X (compareOp op) r) (ha:PE X a ta) (hb:PE X b tb) (hm:behindInMarks op b=false):PE X (.Compare a [op] [b] pos) (tOp r ta tb):=by
 intro pins s σ H Q I h
 exact wpAny_Compare1 (Zp1 ha hb I h λv u s2 x y H2 I2 rx ry q=>ho pins s2 σ H2 x y v u Q I2 rx ry q) hm
inductive Zgo (Q:Bool→Hp→Prop) (x:V) (H':Hp):Prop
 | mk (k:_) (h1:x=.bl k) (h2:Q k H'):Zgo Q x H'
def Zmc (t:TE):TT:=λσ H Q=>t σ H λx H'=>Zgo Q x H'
theorem Z7 {op:CmpOp} {r:R2} (ho:OpR X (compareOp op) r) (ha:PE X a ta) (hb:PE X b tb) (hm:behindInMarks op b=false):PT X (.Compare a [op] [b] pos) (Zmc (tOp r ta tb)):=by
 intro pins s σ H Q I h
 refine wpAny_isTrue_Compare1 (thn (ha pins s σ H _ I h) λv s1 ⟨x,H1,I1,r1,q1⟩=>thn (hb pins s1 σ H1 _ I1 q1) λu s2 ⟨y,H2,I2,r2,q2⟩=>
  thn (ho pins s2 σ H2 x y v u _ I2 r1 r2 q2) λc s3 ⟨z,H3,I3,r3,k,e,q3⟩=>?_) hm
 subst e
 cases r3
 exact wpAny_truthy_bool ⟨H3,I3,q3⟩
def M8 (r r':R2) (ta tb tc:TE):TE:=λσ H Q=>ta σ H λx H1=>tb σ H1 λy H2=>r x y H2 λz H3=>∃ k,z=.bl k∧
 (if k=true then tc σ H3 λw' H4=>r' y w' H4 Q else Q (.bl false) H3)
theorem Qq {op op':CmpOp} {r r':R2} (ho:OpR X (compareOp op) r) (ho':OpR X (compareOp op') r') (ha:PE X a ta) (hb:PE X b tb) (hc:PE X c tc)
  (hm:lastMarks [op,op'] [b,c]=false:=by with_unfolding_all rfl):PE X (.Compare a [op,op'] [b,c] pos) (M8 r r' ta tb tc):=by
 intro pins s σ H Q I h
 refine Compare_chain (thn (ha pins s σ H _ I h) λv s1 ⟨x,H1,I1,r1,q1⟩=>chain_link (thn (hb pins s1 σ H1 _ I1 q1) λu s2 ⟨y,H2,I2,r2,q2⟩=>
  thn (ho pins s2 σ H2 x y v u _ I2 r1 r2 q2) λd s3 ⟨z,H3,I3,r3,k,e,q3⟩=>?_)) hm
 subst e
 cases r3
 refine wpAny_truthy_bool ?_
 cases k with
 | false=>exact ite_ff ⟨.bl false,H3,I3,rfl,q3⟩
 | true=>exact ite_tt (chain_last (thn (hc pins s3 σ H3 _ I3 q3) λw' s4 ⟨z',H4,I4,r4,q4⟩=>ho' pins s4 σ H4 y z' u w' Q I4 r2 r4 q4))
theorem Ae {op op':CmpOp} {r r':R2} (ho:OpR X (compareOp op) r) (ho':OpR X (compareOp op') r') (ha:PE X a ta) (hb:PE X b tb) (hc:PE X c tc)
  (hm:lastMarks [op,op'] [b,c]=false:=by with_unfolding_all rfl):PT X (.Compare a [op,op'] [b,c] pos) (Zmc (M8 r r' ta tb tc)):=by
 intro pins s σ H Q I h
 refine isTrue_chain (thn (ha pins s σ H _ I h) λv s1 ⟨x,H1,I1,r1,q1⟩=>test_link (thn (hb pins s1 σ H1 _ I1 q1) λu s2 ⟨y,H2,I2,r2,q2⟩=>
  thn (ho pins s2 σ H2 x y v u _ I2 r1 r2 q2) λd s3 ⟨z,H3,I3,r3,k,e,q3⟩=>?_)) hm
 subst e
 cases r3
 refine wpAny_truthy_bool ?_
 cases k with
 | false=>
  obtain ⟨k',e',q'⟩:=q3
  cases e'
  exact ite_ff ⟨H3,I3,q'⟩
 | true=>
  refine ite_tt (test_last (thn (hc pins s3 σ H3 _ I3 q3) λw' s4 ⟨z',H4,I4,r4,q4⟩=>thn (ho' pins s4 σ H4 y z' u w' _ I4 r2 r4 q4) λd' s5 ⟨z2,H5,I5,r5,k2,e2,q5⟩=>?_))
  subst e2
  cases r5
  exact wpAny_truthy_bool ⟨H5,I5,q5⟩
def Zp6 (K:W.Frag) (x:V) (H:Hp) (k:Bool):Prop:=
 match x with
 | .non=>k=false
 | .bl b=>k=b
 | .int i=>k=(i != 0)
 | .str y=>y.length≤sizeLine∧k=((y.length:Int) != 0)
 | .byt y=>y.size≤sizeLine∧k=((y.size:Int) != 0)
 | .ref p=>(∃ xs,SqL K H p xs∧k = !xs.isEmpty)∨(∃ xs,SqT K H p xs∧k = !xs.isEmpty)∨∃ kvs,H p=some (.dK kvs)∧k = !kvs.isEmpty
 | _=>False
theorem Zch {κ:Type} {kvs:List (κ × V)} {vs:List (κ × Value)} (r:KV kvs vs):(!vs.isEmpty) = !kvs.isEmpty:=by
 cases r <;> rfl
theorem Hl {xs:List V} {its:List Value} (r:Vals xs its):(!its.toArray.isEmpty) = !xs.isEmpty:=by
 cases r <;> simp
theorem Na:(sizeLine:Nat) < 2 ^ 63:=by rw [sizeLine_eq]; decide
theorem Znl:TruR X (λx H Q=>∃ k,Zp6 X.K x H k∧Q k H):=by
 intro pins s σ H x v Q I rx h
 obtain ⟨k,e,q⟩:=h
 have hl:=Na
 have hs:sizeLine=16777216:=sizeLine_eq
 cases x with
 | non=>
  cases rx
  have e':k=false:=e
  subst e'
  exact truthy_none ⟨H,I,q⟩
 | bl b=>
  cases rx
  have e':k=b:=e
  subst e'
  exact wpAny_truthy_bool ⟨H,I,q⟩
 | int i=>
  obtain ⟨t,rfl⟩:=rx
  have e':k=(i != 0):=e
  subst e'
  exact PySem.P.truthy_int ⟨H,I,q⟩
 | str y=>
  obtain ⟨t,rfl⟩:=rx
  obtain ⟨hy,e'⟩:y.length≤sizeLine∧k=((y.length:Int) != 0):=e
  subst e'
  exact PySem.P.truthy_str (by omega) ⟨H,I.tok _,q⟩
 | byt y=>
  obtain ⟨t,rfl⟩:=rx
  obtain ⟨hy,e'⟩:y.size≤sizeLine∧k=((y.size:Int) != 0):=e
  subst e'
  exact W.truthy_bytes (by omega) ⟨H,I.tok _,q⟩
 | ref p=>
  cases rx
  have e':(∃ xs,SqL X.K H p xs∧k = !xs.isEmpty)∨(∃ xs,SqT X.K H p xs∧k = !xs.isEmpty)∨∃ kvs,H p=some (.dK kvs)∧k = !kvs.isEmpty:=e
  rcases e' with ⟨xs,hx,e'⟩ | ⟨xs,hx,e'⟩ | ⟨kvs,hx,e'⟩
  ·subst e'
   obtain ⟨its,r,pl,hz⟩:=I.list hx
   have hlen:=r.length
   exact wpAny_truthy_list pl.isList (by simp only [List.size_toArray]; omega) ⟨H,I.tok _,by rw [Hl r]; exact q⟩
  ·subst e'
   obtain ⟨its,r,pl,hz⟩:=I.tuple hx
   have hlen:=r.length
   exact truthy_tuple pl (by simp only [List.size_toArray]; omega) ⟨H,I.tok _,by rw [Hl r]; exact q⟩
  ·subst e'
   obtain ⟨hz,hS,vs,r,m⟩:kvs.length≤sizeLine∧(p==sysModules)=false∧∃ vs,KV kvs vs∧s.heap.DictOf (Ys X.prog X.w) p vs:=I.hok p _ hx
   have hlen:kvs.length=vs.length:=Paired.length r
   exact wpAny_truthy_dict hS m (by omega) ⟨H,I.tok _,by rw [Zch r]; exact q⟩
 | _=>exact (show False from e).elim
theorem Zhl (ha:PE X a ta) (he:∀ whole,isTrue a X.env whole=(do let v ← whole; standAt a.pos; holding [v] (truthy v))) :
  PT X a (λσ H Q=>ta σ H λx H'=>∃ k,Zp6 X.K x H' k∧Q k H'):=by
 intro pins s σ H Q I h
 exact isTrue_plain (thn (ha pins s σ H _ I h) λv s1 ⟨x,H1,I1,r1,q1⟩=>Znl pins s1 σ H1 x v Q I1 r1 q1) (he _)
theorem Rf:OpR X (binaryOp .Add) (λx y H Q=>∃ i j,x=.str i∧y=.str j∧i.length+j.length≤sizeLine∧Q (.str (i ++ j)) H):=by
 intro pins s σ H x y v u Q I rx ry h
 obtain ⟨i,j,rfl,rfl,hz,q⟩:=h
 obtain ⟨t,rfl⟩:=rx
 obtain ⟨t',rfl⟩:=ry
 exact add_str (λt' tk=>⟨.str (i ++ j),H,I.tok _,⟨_,rfl⟩,q⟩) hz
theorem vals1 {x:V} {us:List Value} (r:Vals [x] us):∃ u,us=[u]∧RelV x u:=by
 cases r with
 | cons r1 r2=>cases r2; exact ⟨_,rfl,r1⟩
theorem vals2 {x y:V} {us:List Value} (r:Vals [x,y] us):∃ u w',us=[u,w']∧RelV x u∧RelV y w':=by
 cases r with
 | cons r1 r2=>
  cases r2 with
  | cons r3 r4=>cases r4; exact ⟨_,_,rfl,r1,r3⟩
theorem Zf7 (hc:X.calm=true):Xh X (.builtin "max") (λxs H Q=>∃ i j,xs=[.int i,.int j]∧Q (.int (if j > i then j else i)) H):=by
 intro pins s σ H xs us Q I r h
 obtain ⟨i,j,rfl,q⟩:=h
 obtain ⟨u,w',rfl,⟨t,rfl⟩,⟨t',rfl⟩⟩:=vals2 r
 refine max_two_ints (I.ok.hd hc) λh' tk k=>⟨_,H,I.kept k,?_,q⟩
 by_cases hj:j > i
 ·rw [if_pos hj,if_pos hj]; exact ⟨_,rfl⟩
 ·rw [if_neg hj,if_neg hj]; exact ⟨_,rfl⟩
theorem Zf6 (hc:X.calm=true):Xh X (.builtin "min") (λxs H Q=>∃ i j,xs=[.int i,.int j]∧Q (.int (if j < i then j else i)) H):=by
 intro pins s σ H xs us Q I r h
 obtain ⟨i,j,rfl,q⟩:=h
 obtain ⟨u,w',rfl,⟨t,rfl⟩,⟨t',rfl⟩⟩:=vals2 r
 refine min_two_ints (I.ok.hd hc) λh' tk k=>⟨_,H,I.kept k,?_,q⟩
 by_cases hj:j < i
 ·rw [if_pos hj,if_pos hj]; exact ⟨_,rfl⟩
 ·rw [if_neg hj,if_neg hj]; exact ⟨_,rfl⟩
theorem En:Xh X (.type "int") (λxs H Q=>(∃ i,xs=[.int i]∧Q (.int i) H)∨∃ k,xs=[.bl k]∧Q (.int (if k then 1 else 0)) H):=by
 intro pins s σ H xs us Q I r h
 rcases h with ⟨i,rfl,q⟩ | ⟨k,rfl,q⟩
 ·obtain ⟨u,rfl,t,rfl⟩:=vals1 r
  exact call_int_int ⟨.int i,H,I,⟨_,rfl⟩,q⟩
 ·obtain ⟨u,rfl,r1⟩:=vals1 r
  cases r1
  exact call_int_bool ⟨.int (if k then 1 else 0),H,I.tok _,⟨_,rfl⟩,q⟩
theorem Cy:Xh X (.type "str") (λxs H Q=>∃ i,xs=[.int i]∧i.natAbs.log2 < 1920∧Q (.str (toString i)) H):=by
 intro pins s σ H xs us Q I r h
 obtain ⟨i,rfl,hz,q⟩:=h
 obtain ⟨u,rfl,t,rfl⟩:=vals1 r
 exact PySem.P.str_of_int hz ⟨.str _,H,I.tok _,⟨_,rfl⟩,q⟩
end
end L2
namespace L2
open PySem PySem.Spec PyProof.Rows
structure Zqa (h:Heap) (x dx C:Addr) (mA:Str→Option Value):Prop where
 obj:h.get? x=some (W.instObj C dx)
 ns:h.Ns1 dx mA
 ne:dx≠x
theorem Zfm {h:Heap} {dx:Addr} {mA:Str→Option Value} (n:h.Ns1 dx mA):∃ od,h.get? dx=some od∧∀ name,W.lookIn name od=some (mA name):=by
 obtain ⟨o,es,ep,ho,hd,hk,_,hm⟩:=n
 refine ⟨o,ho,λname=>?_⟩
 have e:=hm name
 unfold nsFind findBy at e
 rw [← Array.find?_toList] at e
 unfold W.lookIn
 rw [hd]
 dsimp only
 split
 ·rename_i y q
  rw [q] at e
  exact congrArg some e
 ·rename_i q
  rw [q] at e
  have a:es.toList.any (·.refKey)=false:=by
   rw [List.any_eq_false]
   intro y hy
   obtain ⟨z,t,Zcn⟩:=hk y (Array.mem_toList_iff.mp hy)
   simp [DictEntry.refKey,Zcn]
  have a':¬ es.toList.any (·.refKey)=true:=by rw [a]; exact Bool.false_ne_true
  rw [if_neg a']
  exact congrArg some e
theorem Zqa.look {h:Heap} {x dx C:Addr} {mA:Str→Option Value} (I:Zqa h x dx C mA):∃ od,W.InstAt h x (W.instObj C dx) C (some od)∧∀ name,W.lookIn name od=some (mA name):=
 let ⟨od,ho,hl⟩:=Zfm I.ns
 ⟨od,⟨I.obj,rfl,rfl,ho⟩,hl⟩
section
variable {prog:Program} {w:World} {A:Around} {E:Value→Shared→Prop} {s:Shared} {K:W.Frag} {x dx C f:Addr} {mA:Str→Option Value} {name:Str} {v:Value}
end
theorem L3.some_of {v:V} {o:Option Value} (r:L3 (some v) o):∃ u,o=some u∧RelV v u:=by
 cases o with
 | none=>exact (show False from r).elim
 | some u=>exact ⟨u,rfl,r⟩
section
variable {P:Program} {w:World} {H H':Hp} {h h':Heap} {a C dx:Addr} {fs fs':List (Str × V)}
theorem Zli (hok:HOk P w H h) (e:H a=some (.ins C dx fs)):∃ mA,Zqa h a dx C mA∧(∀ f,L3 (fs.lookup f) (mA f))∧PySem.Within mA (fs.map (·.1))∧fs.length≤1000∧H dx=some (.own a):=by
 obtain ⟨d,z,ne,ob,mA,n,r,q⟩:=(show Yx P w H h a (.ins C dx fs) from hok a _ e)
 exact ⟨mA,⟨ob,n,ne⟩,r,q,z,d⟩
end
structure Cls (K:W.Frag) (C:Addr):Prop where
 pg:W.plainGet K C Str.empty=true
 hd:W.hasDictIn K C=true
 po:W.plainOver K C=true
 sa:W.findIn K (.ref C) "__setattr__" = some (some (.builtin "object.__setattr__"))
theorem Cls.get {K:W.Frag} {C:Addr} (c:Cls K C) (f:Str):W.plainGet K C f=true:=c.pg
section
variable {X:Cx} {pins:List (Addr × Obj)} {σ:St} {H:Hp} {s:Shared} {a C dx:Addr} {fs:List (Str × V)} {f:Str} {v:V} {A:Around} {E:Value→Shared→Prop}
end
section
variable {X:Cx} {o e value:Expr} {f:Str} {pos pos' tpos:Pos} {ta tv:TE}
end
section
variable {X:Cx} {pins:List (Addr × Obj)} {σ:St} {H:Hp} {s:Shared} {A:Around} {E:Value→Shared→Prop} {Q:Value→Shared→Prop} {c:Value} {b:Bool}
inductive L1 (K:W.Frag) (H:Hp):V→Value→Prop where
 | non:L1 K H .non (.type "NoneType")
 | bl (x:Bool):L1 K H (.bl x) (.type "bool")
 | int (i:Int):L1 K H (.int i) (.type "int")
 | str (x:Str):L1 K H (.str x) (.type "str")
 | flt (x:UInt64):L1 K H (.flt x) (.type "float")
 | lst {a:Addr} {xs:List V} (e:H a=some (.lst xs)):L1 K H (.ref a) (.type "list")
 | frz {a:Addr} {o:Obj} {xs:List V} (e:H a=some (.frz o (.lst xs))):L1 K H (.ref a) (.type "list")
 | tup {a:Addr} {xs:List V} (e:H a=some (.tup xs)):L1 K H (.ref a) (.type "tuple")
 | dK {a:Addr} {kvs:List (Key × V)} (e:H a=some (.dK kvs)):L1 K H (.ref a) (.type "dict")
 | dT {a:Addr} {kvs:List (List Key × V)} (e:H a=some (.dT kvs)):L1 K H (.ref a) (.type "dict")
 | ins {a C dx:Addr} {fs:List (Str × V)} (e:H a=some (.ins C dx fs)) (cl:Cls K C) (ha:W.findIn K (.ref C) "__class__" = some (some (.builtin "object.__class__")))
   (hn:W.specialIn K (.builtin "object.__class__") "__get__" = some (some (.builtin "getset_descriptor.__get__"))) (htk:W.takesIn K (.builtin "object.__class__")=some true)
   (hm:W.mroIn K C (.type "object")=some true):L1 K H (.ref a) (.ref C)
theorem Zfr {x:V} {u t:Value} (I:Inv X pins σ H s) (rx:RelV x u) (ty:L1 X.K H x t) (e:W.kitOne X.K t c=some b) (h:∀ tk,Q (.bool b) { s with toks:=tk }) :
  wpAny (model X.prog X.w) A (call (.builtin "isinstance") [u,c]) Q E s:=by
 cases ty with
 | non=>cases (show u=Value.none from rx); exact W.kia_one W.kitx_none I.kIn True.intro e (λz=>nomatch z) h
 | bl y=>cases (show u=Value.bool y from rx); exact W.kia_one W.kitx_bool I.kIn True.intro e (λz=>nomatch z) h
 | int i=>obtain ⟨t,q⟩:=(show ∃ t,u=Value.int i t from rx); cases q; exact W.kia_one W.kitx_int I.kIn True.intro e (λz=>nomatch z) h
 | str y=>obtain ⟨t,q⟩:=(show ∃ t,u=Value.str y t from rx); cases q; exact W.kia_one W.kitx_str I.kIn True.intro e (λz=>nomatch z) h
 | flt y=>obtain ⟨t,q⟩:=(show ∃ t,u=Value.float y t from rx); cases q; exact W.kia_one W.kitx_float I.kIn True.intro e (λz=>nomatch z) h
 | @lst a xs ea=>
  cases (show u=Value.ref a from rx)
  obtain ⟨_,_,n,_,h1⟩:=(show Yx X.prog X.w H s.heap a (.lst xs) from I.hok a _ ea)
  exact W.kia_one W.kitx_list I.kIn ⟨_,h1,rfl⟩ e (λz=>nomatch z) h
 | @frz a ob xs ea=>
  cases (show u=Value.ref a from rx)
  obtain ⟨_,_,_,n,_,h1⟩:=(show Yx X.prog X.w H s.heap a (.frz ob (.lst xs)) from I.hok a _ ea)
  exact W.kia_one W.kitx_list I.kIn ⟨_,h1,rfl⟩ e (λz=>nomatch z) h
 | @tup a xs ea=>
  cases (show u=Value.ref a from rx)
  obtain ⟨_,_,_,p⟩:=(show Yx X.prog X.w H s.heap a (.tup xs) from I.hok a _ ea)
  obtain ⟨o,h1,h2,_⟩:=p
  exact W.kia_one W.kitx_tuple I.kIn ⟨o,h1,h2⟩ e (λz=>nomatch z) h
 | @dK a kvs ea=>
  cases (show u=Value.ref a from rx)
  obtain ⟨_,_,vs,_,p⟩:=(show Yx X.prog X.w H s.heap a (.dK kvs) from I.hok a _ ea)
  obtain ⟨o,es,ep,h1,h2,_⟩:=p
  exact W.kia_one W.kitx_dict I.kIn ⟨o,h1,h2.1⟩ e (λz=>nomatch z) h
 | @dT a kvs ea=>
  cases (show u=Value.ref a from rx)
  obtain ⟨_,_,xs,_,o,es,ep,h1,h2,_⟩:=(show Yx X.prog X.w H s.heap a (.dT kvs) from I.hok a _ ea)
  exact W.kia_one W.kitx_dict I.kIn ⟨o,h1,h2.1⟩ e (λz=>nomatch z) h
 | @ins a C dx fs ea cl ha hn htk hm=>
  cases (show u=Value.ref a from rx)
  obtain ⟨mA,O,_⟩:=Zli I.hok ea
  obtain ⟨od,J,_⟩:=O.look
  exact W.kia_one (W.kitx_own (cl.get _) cl.hd ha hn htk hm) I.kIn J e (λz=>nomatch z) h
end
end L2
namespace L2
open PySem PySem.Spec PyProof.Rows
structure Vs (k:Nat) (A:Around):Prop where
 hd:A.handled=none
 dp:A.depth+3 * k+5 < recursionLimit
 un:A.units+16 * k+200 < cLine
theorem Vs.mono {j k:Nat} {A:Around} (r:Vs k A) (h:j≤k):Vs j A:=⟨r.hd,by have:=r.dp; omega,by have:=r.un; omega⟩
theorem Vs.deeper {k:Nat} {A:Around} (r:Vs (k+1) A) (env:Env):Vs k (A.deeper env):=
 ⟨r.hd,by have:=r.dp; show A.depth+1+3 * k+5 < _; omega,by have:=r.un; show A.units+3+16 * k+200 < _; omega⟩
theorem Vs.depth {k:Nat} {A:Around} (r:Vs k A):A.depth < recursionLimit:=by have:=r.dp; omega
theorem Vs.units {k:Nat} {A:Around} (r:Vs k A):A.units+64 < cLine:=by have:=r.un; omega
def Znp:TA:=λ_ H Q=>Q [] H
def Zgr (ta:TE) (tr:TA):TA:=λσ H Q=>ta σ H λx H1=>tr σ H1 λxs H2=>Q (x :: xs) H2
section
variable {X:Cx} {e:Expr} {es:List Expr} {te:TE} {t:TA} {pos:Pos}
theorem Zc:PA X [] Znp:=λ_ _ _ _ H Q I h=>Calls.spliced_nil ⟨[],H,I,.nil,h⟩
theorem Za (ha:PE X e te) (hr:PA X es t) (hs:starEach (e :: es) X.env=(false,eval e X.env) :: starEach es X.env:=by rfl):PA X (e :: es) (Zgr te t):=by
 intro pos pins s σ H Q I h
 rw [hs]
 show wpAny _ _ (spliced ((false,eval e X.env) :: backTo pos (starEach es X.env))) _ _ s
 refine Calls.spliced_cons (thn (ha pins s σ H _ I h) λu s1 ⟨x,H1,I1,r1,q1⟩=>?_)
 exact thn (hr pos pins s1 σ H1 _ I1 q1) λus s2 ⟨xs,H2,I2,r2,q2⟩=>⟨x :: xs,H2,I2,.cons r1 r2,q2⟩
def tTup (t:TA):TE:=λσ H Q=>t σ H λxs H1=>xs.length≤sizeLine∧∀ p,H1 p=none→Q (.ref p) (upd H1 p (.tup xs))
def tLst (t:TA):TE:=λσ H Q=>t σ H λxs H1=>xs.length≤sizeLine∧∀ p,H1 p=none→Q (.ref p) (upd H1 p (.lst xs))
theorem Vl {x1} (h:PA X es t):PE X (.Tuple es x1 pos) (tTup t):=by
 intro pins s σ H Q I hq
 refine wpAny_Tuple_spliced (thn (h pos pins s σ H _ I hq) λus s1 ⟨xs,H1,I1,r,z,q⟩=>⟨by rw [← r.length]; exact z,?_⟩)
 have hf:H1 s1.heap.objs.size=none:=I1.hok.fresh (Nat.le_refl _)
 refine ⟨.ref s1.heap.objs.size,upd H1 s1.heap.objs.size (.tup xs),I1.laid (t':=s1.toks) (λb u e=>Heap.get?_push_of_some _ e) (Nat.le_refl _) ?_,rfl,q _ hf⟩
 exact ⟨z,us,r,⟨_,Heap.get?_push_size _ rfl,rfl,_,rfl⟩⟩
theorem X9 (h:PA X es t):PE X (.List es pos) (tLst t):=by
 intro pins s σ H Q I hq
 refine wpAny_List_spliced (thn (h pos pins s σ H _ I hq) λus s1 ⟨xs,H1,I1,r,z,q⟩=>⟨by rw [← r.length]; exact z,?_⟩)
 have hf:H1 s1.heap.objs.size=none:=I1.hok.fresh (Nat.le_refl _)
 refine ⟨.ref s1.heap.objs.size,upd H1 s1.heap.objs.size (.lst xs),I1.laid (t':=s1.toks) (λb u e=>Heap.get?_push_of_some _ e) (Nat.le_refl _) ?_,rfl,q _ hf⟩
 exact ⟨z,us,0,r,Heap.get?_push_size _ rfl⟩
end
abbrev Sp:=List V→Hp→VK→XK→Prop
abbrev CXT:=List Env→Hp→Shared→XK→Value→Shared→Prop
structure Zda (P:Program) (w:World) (K:W.Frag) (mg:Str→Option Value) (base:Heap) (A:Around) (outer:List Env) (s:Shared) (H:Hp):Prop where
 frames:A.frames=some outer
 mod:Mod K mg base
 bs:∀ b o,base.get? b=some o→s.heap.get? b=some o∧H b=none
 bsz:base.objs.size≤s.heap.objs.size
 Lv:s.heap.FunFrames base outer
 frf:∀ b∈frs outer,H b=none
 hok:HOk P w H s.heap
 bare:AllBare s.gens
def CE (outer:List Env) (P:Program) (w:World) (H:Hp) (s:Shared) (Q:VK) (u:Value) (s':Shared):Prop:=
 ∃ v H',s'.os=s.os∧AllBare s'.gens∧Un (frs outer) [] H H' s.heap s'.heap∧HOk P w H' s'.heap∧RelV v u∧Q v H'
def CR (CX:CXT) (outer:List Env) (P:Program) (w:World) (H:Hp) (s:Shared) (Q:VK) (E:XK) (r:Result) (s':Shared):Prop:=
 match r with
 | .ok (.ret u)=>CE outer P w H s Q u s'
 | .ok _=>False
 | .error e=>CX outer H s E e s'
structure Yp (P:Program) (w:World) (K:W.Frag) (mg:Str→Option Value) (base:Heap) (CX:CXT) (k:Nat) (f:Addr) (fd:FuncData) (ps:List Str) (sp:Sp):Prop where
 len:∀ vs H Q E,sp vs H Q E→vs.length=ps.length
 run:∀ (A:Around) (outer:List Env) (s:Shared) (H:Hp) (args:Args) (us:List Value) (vs:List V) (Q:VK) (E:XK),Vs k A→Zda P w K mg base A outer s H→BindsTo s fd args (ps.zip us)→Vals vs us→sp vs H Q E→
  codeAny (model P w) A (.call (.ref f) args) (CR CX outer P w H s Q E) s
theorem Yp.imp {P:Program} {w:World} {K:W.Frag} {mg:Str→Option Value} {base:Heap} {CX:CXT} {k:Nat} {f:Addr} {fd:FuncData} {ps:List Str} {sp sp':Sp} (F:Yp P w K mg base CX k f fd ps sp)
  (h:∀ vs H Q E,sp' vs H Q E→sp vs H Q E):Yp P w K mg base CX k f fd ps sp':=
 ⟨λvs H Q E q=>F.len vs H Q E (h _ _ _ _ q),λA outer s H args us vs Q E hr he hb hv hs=>F.run A outer s H args us vs Q E hr he hb hv (h _ _ _ _ hs)⟩
section
variable {X:Cx} {pins:List (Addr × Obj)} {σ:St} {H:Hp} {s s':Shared}
theorem Inv.env0 (I:Inv X pins σ H s):Zda X.prog X.w X.K X.mg X.base X.A X.stack s H:=
 ⟨I.ok.frames,I.ok.mod,I.bs,Nat.le_trans I.ok.bsz I.sz,I.stack,I.E1,I.hok,I.bare⟩
theorem Inv.after {Q:VK} {u:Value} (I:Inv X pins σ H s) (h:CE X.stack X.prog X.w H s Q u s'):EP X pins σ Q u s':=by
 obtain ⟨v,H',os,bare,un,hok,r,q⟩:=h
 obtain ⟨hh,g,d,t,os'⟩:=s'
 obtain rfl:os'=s.os:=os
 exact ⟨v,H',I.call (h':=hh) (g':=g) (d':=d) (t':=t) (ch:=[]) un hok bare (λb z=>absurd z (by simp)),r,q⟩
end
def Zmf (sp:Sp) (dvs:List V) (E:XK) (t:TA):TE:=λσ H Q=>t σ H λvs H1=>sp (vs ++ dvs) H1 Q E
def Binds (K:W.Frag) (fd:FuncData) (ps:List Str) (ds:List Value):Prop:=
 ∀ (s:Shared) (us:List Value),K.In s.heap→(us ++ ds).length=ps.length→BindsTo s fd ⟨us,[]⟩ (ps.zip (us ++ ds))
theorem Binds.all {K:W.Frag} {fd:FuncData} {ps:List Str} (h:∀ us:List Value,us.length=ps.length→bindArgs fd ⟨us,[]⟩=pure (ps.zip us)):Binds K fd ps []:=λs us _ hl=>by
 rw [List.append_nil] at hl ⊢
 exact .of_eq (h us hl)
def Passes (CX:CXT) (X:Cx) (E:XK):Prop:=∀ (pins:List (Addr × Obj)) (σ:St) (H:Hp) (s:Shared) (e:Value) (s':Shared),Inv X pins σ H s→CX X.stack H s E e s'→X.xe e s'
section
variable {X:Cx} {CX:CXT} {k:Nat} {f C:Addr} {fd:FuncData} {ps:List Str} {sp:Sp} {dvs:List V} {ds:List Value} {E:XK} {x m:Str} {p pos apos:Pos} {e o:Expr} {es:List Expr} {ta:TE} {t:TA}
theorem Zg5 {pins:List (Addr × Obj)} {σ:St} {H:Hp} {s:Shared} {Q:VK} {us:List Value} {vs:List V} (F:Yp X.prog X.w X.K X.mg X.base CX k f fd ps sp) (hr:Vs k X.A) (hb:Binds X.K fd ps ds) (hd:Vals dvs ds) (hx:Passes CX X E)
  (I:Inv X pins σ H s) (r:Vals vs us) (h:sp (vs ++ dvs) H Q E):wpAny (model X.prog X.w) X.A (call (.ref f) us) (EP X pins σ Q) X.xe s:=by
 have r2:Vals (vs ++ dvs) (us ++ ds):=r.append hd
 have hl:(us ++ ds).length=ps.length:=by rw [← r2.length]; exact F.len _ _ _ _ h
 refine wpAny_call (codeAny_mono (F.run X.A X.stack s H ⟨us,[]⟩ (us ++ ds) (vs ++ dvs) Q E hr I.env0 (hb s us I.kIn hl) r2 h) λr s' hq=>?_)
 cases r with
 | error e=>exact hx pins σ H s e s' I hq
 | ok fl=>
  cases fl with
  | ret u=>exact I.after hq
  | next=>exact False.elim hq
  | brk=>exact False.elim hq
  | cont=>exact False.elim hq
theorem Zky (F:Yp X.prog X.w X.K X.mg X.base CX k f fd ps sp) (hr:Vs k X.A) (hg:Gl X x) (hm:X.mg x=some (.ref f)) (hk:W.keepIn X.K (.ref f)=true) (hb:Binds X.K fd ps ds) (hd:Vals dvs ds) (hx:Passes CX X E)
  (ha:PA X (e :: es) t) (hdb:(x==("__debug__" : Str))=false:=by decide) (he:starEach (e :: es) X.env=(false,eval e X.env) :: starEach es X.env:=by rfl) (hpl:(backTo pos (starEach es X.env)).any (·.1)=false:=by rfl) :
  PE X (.Call (.Name x p) (e :: es) [] pos) (Zmf sp dvs E t):=by
 intro pins s σ H Q I h
 refine wpAny_Call_Name_kw (Cg I hg hm ?_ hdb)
 refine W.callWith_K (h₀:=X.base) I.ok.mod.kin hk (thn (ha pos pins s σ H _ I h) λus s1 ⟨vs,H1,I1,r,q⟩=>⟨I1.kIn,?_⟩) he hpl
 exact Zg5 F hr hb hd hx I1 r q
end
section
variable {X:Cx} {CX:CXT} {k:Nat} {f C:Addr} {fd:FuncData} {ps ks:List Str} {sp:Sp} {E:XK} {x m:Str} {p pos apos kpos:Pos} {e o:Expr} {es:List Expr} {kws:List Keyword} {te ta:TE} {t tk:TA} {nm:Option Str}
variable {g:List Value→List Value→List Value} {gV:List V→List V→List V}
end
structure Z0 (N P:List Str) (sc:Scope):Prop where
 kind:sc.kind=.function
 co:sc.isCoroutine=false
 gen:sc.isGenerator=false
 nd:N.Nodup
 pre:N.take P.length=P
 par:∀ x∈P,sc.names.lookup x=some .local∨sc.names.lookup x=some .cell
 Zoo:∀ y∈sc.names,y.2≠.free
theorem Er {kindOf:Str→Option NameKind} {x:Str}:∀ {binds:List (Str × Value)} {m:Str→Option Value},(∀ v,(x,v)∉binds)→bindL kindOf binds m x=m x
 | [],_,_=>rfl
 | (n,v) :: r,m,h=>by
  unfold bindL
  rw [Er λw hw=>h w (List.mem_cons_of_mem _ hw)]
  split
  ·have:x≠n:=by rintro rfl; exact h v List.mem_cons_self
   simp [this]
  ·rfl
theorem Et {kindOf:Str→Option NameKind} {x:Str}:∀ {binds:List (Str × Value)} {m:Str→Option Value},(∀ v,(x,v)∉binds)→bindC kindOf binds m x=m x
 | [],_,_=>rfl
 | (n,v) :: r,m,h=>by
  unfold bindC
  rw [Et λw hw=>h w (List.mem_cons_of_mem _ hw)]
  split
  ·rfl
  ·have:x≠n:=by rintro rfl; exact h v List.mem_cons_self
   simp [this]
theorem Es {kindOf:Str→Option NameKind} {x:Str} {v:Value}:∀ {P:List Str} {vs:List Value} {i:Nat} {m:Str→Option Value},P.Nodup→P[i]? = some x→vs[i]? = some v→kindOf x=some .local→
  bindL kindOf (P.zip vs) m x=some v
 | [],_,_,_,_,h,_,_=>by simp at h
 | _ :: _,[],_,_,_,_,h,_=>by simp at h
 | p :: P,w :: vs,0,m,nd,h1,h2,hk=>by
  simp at h1 h2; subst h1; subst h2
  show bindL kindOf ((p,w) :: P.zip vs) m p=_
  unfold bindL
  rw [Er λv hv=>(List.nodup_cons.mp nd).1 (List.of_mem_zip hv).1,if_pos hk]
  simp
 | p :: P,w :: vs,i+1,m,nd,h1,h2,hk=>by
  show bindL kindOf ((p,w) :: P.zip vs) m x=_
  unfold bindL
  exact Es (i:=i) (List.nodup_cons.mp nd).2 (by simpa using h1) (by simpa using h2) hk
theorem Eu {kindOf:Str→Option NameKind} {x:Str} {v:Value}:∀ {P:List Str} {vs:List Value} {i:Nat} {m:Str→Option Value},P.Nodup→P[i]? = some x→vs[i]? = some v→kindOf x≠some .local→
  bindC kindOf (P.zip vs) m x=some v
 | [],_,_,_,_,h,_,_=>by simp at h
 | _ :: _,[],_,_,_,_,h,_=>by simp at h
 | p :: P,w :: vs,0,m,nd,h1,h2,hk=>by
  simp at h1 h2; subst h1; subst h2
  show bindC kindOf ((p,w) :: P.zip vs) m p=_
  unfold bindC
  rw [Et λv hv=>(List.nodup_cons.mp nd).1 (List.of_mem_zip hv).1,if_neg hk]
  simp
 | p :: P,w :: vs,i+1,m,nd,h1,h2,hk=>by
  show bindC kindOf ((p,w) :: P.zip vs) m x=_
  unfold bindC
  exact Eu (i:=i) (List.nodup_cons.mp nd).2 (by simpa using h1) (by simpa using h2) hk
def start (N:List Str) (vs:List V):St:=vs.map some ++ List.replicate (N.length - vs.length) none
def Zcr (CX:CXT) (P:Program) (w:World) (K:W.Frag) (mg:Str→Option Value) (base:Heap) (N:List Str) (qual:Str) (scope:Scope) (f:Addr) (cd:Value) (A:Around) (outer:List Env) (s:Shared) (H:Hp) (E:XK):Cx where
 prog:=P
 w:=w
 K:=K
 mg:=mg
 base:=base
 A:=A.deeper (envOfC qual scope s.heap.objs.size f cd)
 N:=N
 s₀:=s
 H₀:=H
 env:=envOfC qual scope s.heap.objs.size f cd
 outer:=outer
 stack:=envOfC qual scope s.heap.objs.size f cd :: outer
 ex:=[]
 calm:=true
 fn:=λ_=>true
 pn:=[]
 xe:=λe s'=>wpAny (model P w) (A.deeper (envOfC qual scope s.heap.objs.size f cd)) (leaving (envOfC qual scope s.heap.objs.size f cd) e) (λ_ s''=>CX outer H s E e s'') (λe' s''=>CX outer H s E e' s'') s'
theorem Zal {sc:Scope} {n:Nat} {x:Str} (h:sc.names.lookup x=some .cell):∃ c,(cellsFrom n sc.names []).lookup x=some c:=by
 have q:=W.cellsFrom_some sc.names n [] (.inl h)
 exact Option.isSome_iff_exists.mp q
theorem Zfs {CX:CXT} {P:Program} {w:World} {K:W.Frag} {mg:Str→Option Value} {base:Heap} {N ps:List Str} {qual:Str} {scope:Scope} {f:Addr} {cd:Value} {A:Around} {outer:List Env} {s s1:Shared} {H:Hp} {E:XK} {us:List Value} {vs:List V}
  (S:Z0 N ps scope) (hd:A.handled=none) (e0:Zda P w K mg base A outer s H) (hl:vs.length=ps.length) (r:Vals vs us)
  (x:InCallC s s.heap.objs.size (bindL (envOfC qual scope s.heap.objs.size f cd).kindOf (ps.zip us) λ_=>none) (cellsFrom (s.heap.objs.size+1) scope.names []) (bindC (envOfC qual scope s.heap.objs.size f cd).kindOf (ps.zip us) λ_=>none) s1) :
  Inv (Zcr CX P w K mg base N qual scope f cd A outer s H E) [] (start N vs) H s1:=by
 have hpl:ps.length≤N.length:=by have:=congrArg List.length S.pre; rw [List.length_take] at this; omega
 obtain ⟨h1,tk,rfl,hk⟩:=x.done
 have noA:∀ b:Addr,b∉(Zcr CX P w K mg base N qual scope f cd A outer s H E).ex:=λb z=>absurd (show b∈([]:List Addr) from z) (by simp)
 refine ⟨⟨e0.mod,S.kind,rfl,rfl,Nat.le_refl _,λy z c h1 h2=>?_,λy hy=>?_,λy c _ h=>?_,λ_=>hd,Around.frames_deeper e0.frames,.inr ⟨rfl,rfl⟩,λb z=>absurd z (noA b),e0.bs,e0.bsz,λb _ _=>noA b,λb z=>absurd z (noA b),e0.Lv,e0.frf⟩,
  rfl,e0.bare,Un.kept hk,⟨_,x.toInCall.ns,λi y v h1 h2 h3=>?_⟩,λy c h=>⟨_,x.cell y c h⟩,e0.hok.fresh (Nat.le_refl _),λy c h=>?_,λp hp=>absurd (show p∈([]:List (Addr × Obj)) from hp) (by simp),e0.hok.kept hk,?_⟩
 ·exact name_of_addr x.apart (PySem.mem_of_lookup h1) (PySem.mem_of_lookup h2)
 ·have hy:scope.names.lookup y=some .cell∨scope.names.lookup y=some .free:=hy
  rcases hy with hy | hy
  ·exact Zal hy
  ·exact absurd rfl (S.Zoo _ (PySem.mem_of_lookup hy))
 ·exact Nat.le_of_lt (x.above y c (PySem.mem_of_lookup h))
 ·have hi:i < vs.length:=by
   unfold start at h2
   by_cases hi:i < vs.length
   ·exact hi
   ·rw [List.getElem?_append_right (by simpa using hi)] at h2
    rw [List.getElem?_replicate] at h2
    split at h2 <;> cases h2
  have ha:vs[i]? = some v:=by
   unfold start at h2
   rw [List.getElem?_append_left (by simpa using hi),List.getElem?_map] at h2
   cases e:vs[i]? with
   | none=>rw [e] at h2; cases h2
   | some a=>rw [e] at h2; cases h2; rfl
  obtain ⟨u,hu,rv⟩:=r.get ha
  have hp:ps[i]? = some y:=by
   rw [← S.pre,List.getElem?_take_of_lt (by omega)]; exact h1
  have ndP:ps.Nodup:=by rw [← S.pre]; exact S.nd.sublist (List.take_sublist _ _)
  refine ⟨u,rv,?_⟩
  rcases S.par y (List.mem_of_getElem? hp) with k | k
  ·exact .inl ⟨k,Es ndP hp hu k⟩
  ·obtain ⟨c,e⟩:=Zal (n:=s.heap.objs.size+1) k
   refine .inr ⟨.inl k,c,e,?_⟩
   have q:=x.cell y c e
   rw [Eu ndP hp hu (by show scope.names.lookup y≠_; rw [k]; decide)] at q
   exact q
 ·exact e0.hok.fresh (Nat.le_of_lt (x.above y c (PySem.mem_of_lookup h)))
 ·unfold start
  show _=N.length
  rw [List.length_append,List.length_map,List.length_replicate]
  omega
theorem Zm8 {CX:CXT} {P:Program} {w:World} {K:W.Frag} {mg:Str→Option Value} {base:Heap} {k:Nat} {f:Addr} {name qual:Str} {params:Arguments} {body:List Stmt} {scope:Scope} {dV kV doc pm cdv ct oc:Value} {an od:Option Addr}
  {osl:Array (Option Value)} {N ps:List Str} {sp:Sp} (lk:K.lookup f=some ⟨oc,od,.func (W.fnOf name qual params body scope dV kV doc pm an cdv ct),osl⟩) (hcd:W.codeIn K cdv qual=true) (S:Z0 N ps scope)
  (len:∀ vs H Q E,sp vs H Q E→vs.length=ps.length)
  (Mp:∀ (A:Around) (outer:List Env) (s:Shared) (H:Hp) (vs:List V) (Q:VK) (E:XK),Vs k (A.deeper (envOfC qual scope s.heap.objs.size f cdv))→sp vs H Q E→
   ∃ t,PSs (Zcr CX P w K mg base N qual scope f cdv A outer s H E) body t∧t { nx:=λ_ H'=>Q .non H',rt:=Q } (start N vs) H) :
  Yp P w K mg base CX (k+1) f (W.fnOf name qual params body scope dV kV doc pm an cdv ct) ps sp:=by
 refine ⟨len,λA outer s H args us vs Q E hr e0 hb r hsp=>?_⟩
 have hl:=len _ _ _ _ hsp
 have KX:K.In s.heap:=e0.mod.kin.keeps λb o e=>(e0.bs b o e).1
 have lim:s.heap.NoLimit:=e0.mod.nolimit.keeps λb o e=>(e0.bs b o e).1
 have Zrw:∀ y∈ps.zip us,scope.names.lookup y.1=some .local∨(scope.names.lookup y.1=some .cell∧((cellsFrom (s.heap.objs.size+1) scope.names []).lookup y.1).isSome=true):=λ⟨n,v⟩ hy=>by
  rcases S.par n (List.of_mem_zip hy).1 with q | q
  ·exact .inl q
  ·exact .inr ⟨q,W.cellsFrom_some _ _ _ (.inl q)⟩
 refine codeAny_call_function hr.depth (KX _ _ lk) rfl S.co S.gen rfl (W.codeRec_of KX hcd) (hb _ _ _ _ ?_)
 refine wpAny_newFunctionEnv_cells S.kind Zrw λenv he s1 x=>?_
 subst he
 refine ⟨lim.keeps x.toInCall.keep,codeAny_func ?_⟩
 obtain ⟨t,ht,hq⟩:=Mp A outer s H vs Q E (hr.deeper _) hsp
 have I:Inv (Zcr CX P w K mg base N qual scope f cdv A outer s H E) [] (start N vs) H s1:=Zfs S hr.hd e0 hl r x
 refine wpAny_mono (ht [] s1 (start N vs) H _ I hq) (λfl s' hs=>?_) λe s' hs=>hs
 have fin:∀ {σ':St} {H':Hp} {v:V} {u:Value},Inv (Zcr CX P w K mg base N qual scope f cdv A outer s H E) [] σ' H' s'→RelV v u→Q v H'→CE outer P w H s Q u s':=
  λ{σ' H' v u} J rv q=>⟨v,H',J.os,J.bare,J.base,J.hok,rv,q⟩
 cases fl with
 | ret u=>
  obtain ⟨v,σ',H',J,rv,q⟩:=hs
  exact fin J rv q
 | next=>
  obtain ⟨σ',H',J,q⟩:=hs
  exact fin (v:=V.non) (u:=Value.none) J rfl q
 | brk=>
  obtain ⟨_,_,_,q⟩:=hs
  exact False.elim q
 | cont=>
  obtain ⟨_,_,_,q⟩:=hs
  exact False.elim q
end L2
namespace L2
open PySem PySem.Spec PyProof.Rows
section
variable {X:Cx} {x:Str} {p pos:Pos} {e:Expr} {es:List Expr} {t:TA} {id T:String} {r:List V→Hp→VK→Prop}
def tCB (r:List V→Hp→VK→Prop) (t:TA):TE:=λσ H Q=>t σ H λvs H1=>r vs H1 Q
theorem Zn (hc:Xh X (.builtin id) r) (hg:Gl X x) (hm:X.mg x=none) (hv:bootBuiltins x=some (.builtin id)) (ha:PA X (e :: es) t) (hn:x≠"__name__":=by decide) (hdb:(x==("__debug__" : Str))=false:=by decide)
  (he:starEach (e :: es) X.env=(false,eval e X.env) :: starEach es X.env:=by rfl) (hpl:(backTo pos (starEach es X.env)).any (·.1)=false:=by rfl):PE X (.Call (.Name x p) (e :: es) [] pos) (tCB r t):=by
 intro pins s σ H Q I h
 refine wpAny_Call_Name_kw (Ri I hg hm hv ?_ hn hdb)
 exact PyProof.Rows.callWith_builtin1 (thn (ha pos pins s σ H _ I h) λus s1 ⟨vs,H1,I1,r1,q1⟩=>hc pins s1 σ H1 vs us Q I1 r1 q1) he hpl
theorem Zu (hc:Xh X (.type T) r) (hg:Gl X x) (hm:X.mg x=none) (hv:bootBuiltins x=some (.type T)) (ha:PA X (e :: es) t) (hn:x≠"__name__":=by decide) (hdb:(x==("__debug__" : Str))=false:=by decide)
  (he:starEach (e :: es) X.env=(false,eval e X.env) :: starEach es X.env:=by rfl) (hpl:(backTo pos (starEach es X.env)).any (·.1)=false:=by rfl):PE X (.Call (.Name x p) (e :: es) [] pos) (tCB r t):=by
 intro pins s σ H Q I h
 refine wpAny_Call_Name_kw (Ri I hg hm hv ?_ hn hdb)
 exact PyProof.Rows.callWith_type1 (thn (ha pos pins s σ H _ I h) λus s1 ⟨vs,H1,I1,r1,q1⟩=>hc pins s1 σ H1 vs us Q I1 r1 q1) he hpl
end
end L2
namespace HT
open PySem PyProof.Rows
section
open PySem.SeqAt
open PySem.AutoSeq1 (wpAny_loadPart')
open PySem.MeetsSeq PySem.MeetsSeq2 PySem.MeetsSeq3
end
section
variable {prog:Program} {w:World} {A:Around} {E:Value→Shared→Prop} {s:Shared}
theorem Zlz {t b:Addr} {vs ws:List Value} {Q:Value→Shared→Prop} (ht:IsTup s.heap t vs.toArray) (hb:IsTup s.heap b ws.toArray) (hv:vs≠[])
  (h1:ws=[]→Q (.ref t) s) (h2:ws≠[]→Q (.ref s.heap.objs.size) { s with heap:=s.heap.push { cls:=.type "tuple",data:=.seq (vs ++ ws).toArray } })
  (hsz:vs.length+ws.length≤sizeLine):wpAny (model prog w) A (binaryOp .Add (.ref t) (.ref b)) Q E s:=by
 obtain ⟨⟨cls,dd,data,sl⟩,ho,hc,n,hd⟩:=id ht
 obtain ⟨⟨Zsk,dd2,data2,sl2⟩,ho2,hc2,n2,hd2⟩:=id hb
 simp only at hc hd hc2 hd2
 subst hc hd hc2 hd2
 have e:vs.toArray ++ ws.toArray=(vs ++ ws).toArray:=by simp
 by_cases hw:ws=[]
 ·exact concat_meets ⟨_,ho,rfl⟩ ⟨_,ho2,rfl⟩ noFill_tuple_add seq_tuple_add PySem.F.slot_tuple_add PySem.F.entry_tuple_add (PySem.F.args_tuple_add_2 _ _)
   (tuple_addW1 t b vs.toArray ws.toArray n n2 dd dd2 sl sl2 (by simpa using hv) (by simp [hw])) ⟨ho,ho2,h1 hw⟩
 ·refine concat_meets ⟨_,ho,rfl⟩ ⟨_,ho2,rfl⟩ noFill_tuple_add seq_tuple_add PySem.F.slot_tuple_add PySem.F.entry_tuple_add (PySem.F.args_tuple_add_2 _ _)
   (tuple_addW2 t b vs.toArray ws.toArray n n2 dd dd2 sl sl2 (by simpa using hv) (by simpa using hw) (by rw [List.size_toArray,List.size_toArray]; exact hsz)) ⟨ho,ho2,?_⟩
  rw [e]
  exact h2 hw
def sIx (n d:Nat):Option Int→Nat
 | none=>d
 | some v=>if v < 0 then (v+(n:Int)).toNat else min v.toNat n
theorem J5 (n d:Nat):sIx n d none=d:=rfl
theorem Dm (n d k:Nat):sIx n d (some (k:Int))=min k n:=by
 show (if (k:Int) < 0 then ((k:Int)+(n:Int)).toNat else min (k:Int).toNat n)=min k n
 rw [if_neg (by omega),Int.toNat_natCast]
theorem Zn4 (n d:Nat) (hd:d≤n) (o:Option Int):sIx n d o≤n:=by
 cases o with
 | none=>exact hd
 | some v=>
  show (if v < 0 then (v+(n:Int)).toNat else min v.toNat n)≤n
  by_cases hv:v < 0
  ·rw [if_pos hv]; omega
  ·rw [if_neg hv]; exact Nat.min_le_right _ _
theorem Zet (v:Int) (n d:Nat):(if v < 0 then max (v+(n:Int)) 0 else min v (n:Int))=((sIx n d (some v):Nat):Int):=by
 show (if v < 0 then max (v+(n:Int)) 0 else min v (n:Int))=(((if v < 0 then (v+(n:Int)).toNat else min v.toNat n):Nat):Int)
 by_cases hv:v < 0
 ·simp only [if_pos hv]; omega
 ·simp only [if_neg hv]; omega
theorem Zc6 (lo hi:Option Int) (n:Nat):Builtin.Slice.sliceAdjust lo hi 1 (n:Int)=(((sIx n 0 lo:Nat):Int),((sIx n n hi:Nat):Int)):=by
 have h1:¬ ((1:Int) < 0):=by omega
 unfold Builtin.Slice.sliceAdjust
 simp only [h1,if_false]
 refine Prod.ext ?_ ?_
 ·cases lo with
  | none=>rfl
  | some v=>exact Zet v n 0
 ·cases hi with
  | none=>rfl
  | some v=>exact Zet v n n
theorem Zbn (i j:Nat):Builtin.Slice.slicePlaces (i:Int) (j:Int) 1=j - i:=by
 unfold Builtin.Slice.slicePlaces
 have h1:(1:Int) > 0:=by omega
 simp only [h1,if_true,Int.ediv_one]
 split <;> omega
theorem J2 {v:Value} {o:Option Int} {Q:Option Int→Shared→Prop} (p:IsPart v o) (h:Q o s):wpAny (model prog w) A (Builtin.Slice.slicePartIndex v) Q E s:=by
 cases p with
 | none=>exact slicePart_none h
 | int i t=>exact slicePart_int h
theorem Sj {sl:Addr} {vl vu:Value} {lo hi:Option Int} {n:Nat} {Q:Int × Int × Nat→Shared→Prop} (hs:s.heap.IsSliceOf sl vl vu .none) (pl:IsPart vl lo) (pu:IsPart vu hi)
  (h:Q (((sIx n 0 lo:Nat):Int),1,sIx n n hi - sIx n 0 lo) s):wpAny (model prog w) A (Builtin.Slice.sliceApplied (.ref sl) (pure (n:Int))) Q E s:=by
 obtain ⟨os,hos,hcs,hds⟩:=id hs
 unfold Builtin.Slice.sliceApplied Builtin.Slice.sliceFields
 refine wpAny_bind (wpAny_bind (wpAny_field hos hds (x:=vl) rfl (wpAny_bind (wpAny_field hos hds (x:=vu) rfl (wpAny_bind (wpAny_field hos hds (x:=.none) rfl (wpAny_pure ?_)))))))
 refine wpAny_bind (slicePart_none ?_)
 show wpAny _ _ (if ((1:Int)==0)=true then _ else _) _ _ s
 rw [if_neg (by decide)]
 refine wpAny_bind (J2 pl (wpAny_bind (J2 pu (wpAny_bind (wpAny_pure ?_)))))
 show wpAny _ _ (match Builtin.Slice.sliceAdjust lo hi 1 (n:Int) with | (lo,hi)=>pure (lo,(1:Int),Builtin.Slice.slicePlaces lo hi 1)) _ _ s
 rw [Zc6 lo hi n]
 show wpAny _ _ (pure (((sIx n 0 lo:Nat):Int),(1:Int),Builtin.Slice.slicePlaces ((sIx n 0 lo:Nat):Int) ((sIx n n hi:Nat):Int) 1)) _ _ s
 rw [Zbn]
 exact wpAny_pure h
theorem Zhm (xs:Array Value) (i k:Nat):((List.range k).filterMap λ(m:Nat)=>xs[((i:Int)+(m:Int) * 1).toNat]?).toArray=((xs.toList.drop i).take k).toArray:=by
 have e:(λ(m:Nat)=>xs[((i:Int)+(m:Int) * 1).toNat]?)=λm=>xs[i+m]?:=by
  funext m
  have:((i:Int)+(m:Int) * 1).toNat=i+m:=by omega
  rw [this]
 rw [e]
 have:=pick_run xs i k
 rw [List.filterMap_map] at this
 have e2:((λx=>xs[x]?) ∘ λx=>i+x)=λm=>xs[i+m]?:=rfl
 rw [e2] at this
 rw [this]
theorem Mr {t sl:Addr} {items:Array Value} {vl vu:Value} {lo hi:Option Int} {Q:Value→Shared→Prop} (ht:IsTup s.heap t items) (hs:s.heap.IsSliceOf sl vl vu .none) (pl:IsPart vl lo) (pu:IsPart vu hi)
  (hw:¬ (sIx items.size 0 lo=0∧sIx items.size items.size hi=items.size))
  (h:Q (.ref s.heap.objs.size) { s with heap:=s.heap.push { cls:=.type "tuple",data:=.seq ((items.toList.drop (sIx items.size 0 lo)).take (sIx items.size items.size hi - sIx items.size 0 lo)).toArray } })
  (hsz:items.size≤sizeLine):wpAny (model prog w) A (getItem (.ref t) (.ref sl)) Q E s:=by
 have Zef:sizeOk (.seq ((items.toList.drop (sIx items.size 0 lo)).take (sIx items.size items.size hi - sIx items.size 0 lo)).toArray):=by
  show ((items.toList.drop (sIx items.size 0 lo)).take (sIx items.size items.size hi - sIx items.size 0 lo)).toArray.size≤sizeLine
  rw [List.size_toArray,List.length_take,List.length_drop,Array.length_toList]
  omega
 have hj:sIx items.size items.size hi≤items.size:=Zn4 _ _ (Nat.le_refl _) hi
 obtain ⟨os,hos,hcs,hds⟩:=id hs
 have hTs:s.TypeIs (.ref sl) "slice":=⟨os,hos,hcs⟩
 unfold getItem
 try with_reducible refine wpAny_holding ?_
 first | refine wpAny_bind (wpAny_pure ?_) | skip
 refine wpAny_bind (wpAny_sequenceKey ht.typeIs (by decide) ?_)
 refine wpAny_bind (wpAny_callSpecial?_slot (name:=Str.ofString "__getitem__") ht.typeIs PyProof.Rows.slot_tuple_getitem
  (wpAny_call_entry PyProof.Rows.slot_tuple_getitem ht.typeIs entry_tuple_getitem ?_ (args_tuple_getitem _ _)))
 show wpAny _ _ (Builtin.Tuple.tupleItemsOf (.ref t) >>= _) _ _ s
 refine wpAny_bind (tupleItemsOf_ ht ?_)
 refine wpAny_bind (wpAny_typeOf hTs ?_)
 rw [if_pos (by decide)]
 refine wpAny_bind (Sj hs pl pu ?_)
 have hno:¬ ((((sIx items.size 0 lo:Nat):Int)==0 && (1:Int)==1 && (sIx items.size items.size hi - sIx items.size 0 lo)==items.size)=true):=by
  intro q
  rw [Bool.and_eq_true,Bool.and_eq_true] at q
  have q1:((sIx items.size 0 lo:Nat):Int)=0:=eq_of_beq q.1.1
  have q2:sIx items.size items.size hi - sIx items.size 0 lo=items.size:=eq_of_beq q.2
  exact hw ⟨by omega,by omega⟩
 show wpAny _ _ (if (((sIx items.size 0 lo:Nat):Int)==0 && (1:Int)==1 && (sIx items.size items.size hi - sIx items.size 0 lo)==items.size)=true then _ else _) _ _ s
 rw [if_neg hno,Zhm]
 first
  | exact wpAny_bind (m:=Builtin.Tuple.tupleExact _) (wpAny_newObj_type (wpAny_pure ⟨_,rfl,wpAny_pure h⟩) Zef)
  | exact wpAny_bind (m:=Builtin.Tuple.tupleExact _) (wpAny_newObj_type (wpAny_bind (wpAny_pure (wpAny_pure ⟨_,rfl,wpAny_pure h⟩))) Zef)
  | exact wpAny_bind (wpAny_bind (m:=Builtin.Tuple.tupleExact _) (wpAny_newObj_type (wpAny_pure (wpAny_pure ⟨_,rfl,wpAny_pure h⟩)) Zef))
  | exact wpAny_bind (wpAny_bind (m:=Builtin.Tuple.tupleExact _) (wpAny_newObj_type (wpAny_pure ⟨_,rfl,wpAny_pure h⟩) Zef))
end
end HT
namespace L2
open PySem PySem.Spec PyProof.Rows
abbrev TO:=St→Hp→(Option Int→Hp→Prop)→Prop
def PO (X:Cx) (e:Option Expr) (t:TO):Prop:=
 ∀ (pins:List (Addr × Obj)) (s:Shared) (σ:St) (H:Hp) (Q:Option Int→Hp→Prop),Inv X pins σ H s→t σ H Q→
  wpAny (model X.prog X.w) X.A (evalPart e X.env) (λu s'=>∃ o H',Inv X pins σ H' s'∧IsPart u o∧Q o H') X.xe s
def Zkd:TO:=λ_ H Q=>Q none H
inductive Zgp (Q:Option Int→Hp→Prop) (x:V) (H1:Hp):Prop
 | mk (i:_) (h1:x=.int i) (h2:Q (some i) H1):Zgp Q x H1
def Zqe (t:TE):TO:=λσ H Q=>t σ H λx H1=>Zgp Q x H1
theorem intsAre_of {ns:List Int}:∀ {us:List Value},Vals (ns.map V.int) us→IntsAre us ns:=by
 induction ns with
 | nil=>intro us r; rw [List.map_nil] at r; cases r; exact .nil
 | cons n ns ih=>
  intro us r
  rw [List.map_cons] at r
  cases r with
  | cons r1 r2=>
   obtain ⟨t,e⟩:=r1
   subst e
   exact .cons n t (ih r2)
section
variable {X:Cx} {e:Expr} {te:TE} {lo hi:Option Expr} {tl th:TO} {pos p2:Pos}
theorem Od:PO X none Zkd:=by
 intro pins s σ H Q I h
 rw [evalPart_none]
 exact wpAny_pure ⟨none,H,I,.none,h⟩
theorem Oc (h:PE X e te):PO X (some e) (Zqe te):=by
 intro pins s σ H Q I hw
 rw [evalPart_some]
 refine thn (h pins s σ H _ I hw) λu s1 ⟨x,H1,I1,r1,q1⟩=>?_
 obtain ⟨i,rfl,q⟩:=q1
 obtain ⟨t,rfl⟩:=r1
 exact ⟨some i,H1,I1,.int i t,q⟩
def SlR (X:Cx) (r:V→Option Int→Option Int→Hp→VK→Prop):Prop:=
 ∀ (pins:List (Addr × Obj)) (s:Shared) (σ:St) (H:Hp) (x:V) (v vl vu:Value) (lo hi:Option Int) (sl:Addr) (Q:VK),Inv X pins σ H s→RelV x v→s.heap.IsSliceOf sl vl vu .none→IsPart vl lo→IsPart vu hi→r x lo hi H Q→
  ∃ T id,typeLookup (.type T) "__getitem__" = pure (some (.builtin id))∧s.TypeIs v T∧wpAny (model X.prog X.w) X.A (getItem v (.ref sl)) (EP X pins σ Q) X.xe s
def tSl (r:V→Option Int→Option Int→Hp→VK→Prop) (te:TE) (tl th:TO):TE:=λσ H Q=>te σ H λx H1=>tl σ H1 λl H2=>th σ H2 λu H3=>r x l u H3 Q
theorem Sm {r:V→Option Int→Option Int→Hp→VK→Prop} (hr:SlR X r) (he:PE X e te) (hl:PO X lo tl) (hu:PO X hi th):PE X (.Subscript e (.Slice lo hi none p2) pos) (tSl r te tl th):=by
 intro pins s σ H Q I h
 refine Subscript_ (thn (he pins s σ H _ I h) λv s1 ⟨x,H1,I1,r1,q1⟩=>?_)
 refine wpAny_Slice (thn (hl pins s1 σ H1 _ I1 q1) λvl s2 ⟨l,H2,I2,pl,q2⟩=>thn (hu pins s2 σ H2 _ I2 q2) λvu s3 ⟨u,H3,I3,pu,q3⟩=>?_)
 rw [evalPart_none]
 refine wpAny_pure ?_
 have I4:Inv X pins σ H3 { s3 with heap:=s3.heap.push { cls:=.type "slice",data:=.fields #[vl,vu,.none] } }:=I3.kept (t':=s3.toks) λb ob q=>Heap.get?_push_of_some _ q
 obtain ⟨T,id,hT,ht,hg⟩:=hr pins { s3 with heap:=s3.heap.push { cls:=.type "slice",data:=.fields #[vl,vu,.none] } } σ H3 x v vl vu l u s3.heap.objs.size Q I4 r1 (Heap.IsSliceOf.new ..) pl pu q3
 show wpAny (model X.prog X.w) X.A (subscriptTail e (.Slice lo hi none p2) v (.ref s3.heap.objs.size)) (EP X pins σ Q) X.xe { s3 with heap:=s3.heap.push { cls:=.type "slice",data:=.fields #[vl,vu,.none] } }
 exact tail_any (ops:=[.ref s3.heap.objs.size,v]) ht hT hg (by with_unfolding_all rfl)
def Q8 (xs:List V) (lo hi:Option Int):List V:=(xs.drop (HT.sIx xs.length 0 lo)).take (HT.sIx xs.length xs.length hi - HT.sIx xs.length 0 lo)
theorem Ke (xs:List V) (lo hi:Option Int):(Q8 xs lo hi).length≤xs.length:=by
 unfold Q8
 rw [List.length_take,List.length_drop]
 omega
inductive Zmn (K:W.Frag) (x:V) (lo:Option Int) (hi:Option Int) (H:Hp) (Q:VK):Prop
 | mk (a xs:_) (h1:x=.ref a) (h2:SqT K H a xs) (h3:¬ (HT.sIx xs.length 0 lo=0∧HT.sIx xs.length xs.length hi=xs.length)) (h4:∀ p,H p=none→Q (.ref p) (upd H p (.tup (Q8 xs lo hi)))):Zmn K x lo hi H Q
def Zqr (K:W.Frag):V→Option Int→Option Int→Hp→VK→Prop:=λx lo hi H Q=>Zmn K x lo hi H Q
theorem Zn3:SlR X (Zqr X.K):=by
 intro pins s σ H x v vl vu lo hi sl Q I rx hs pl pu h
 obtain ⟨a,xs,rfl,hx,hw,q⟩:=h
 cases rx
 obtain ⟨its,r,ht,hz⟩:=I.tuple hx
 have hlen:its.toArray.size=xs.length:=by rw [List.size_toArray]; exact r.length.symm
 refine ⟨"tuple",_,PyProof.Rows.slot_tuple_getitem.lookup,ht.typeIs,?_⟩
 refine HT.Mr ht hs pl pu (by rw [hlen]; exact hw) ?_ (by rw [hlen]; exact hz)
 rw [hlen]
 refine ⟨.ref s.heap.objs.size,_,I.laid (t':=s.toks) (o:=.tup (Q8 xs lo hi)) (λb ob q=>Heap.get?_push_of_some _ q) (Nat.le_refl _) ?_,rfl,q _ (I.hok.fresh (Nat.le_refl _))⟩
 exact ⟨Nat.le_trans (Ke xs lo hi) hz,_,(r.drop (HT.sIx xs.length 0 lo)).take (HT.sIx xs.length xs.length hi - HT.sIx xs.length 0 lo),IsTup.new _ _⟩
inductive Zhh (K:W.Frag) (x:V) (y:V) (H:Hp) (Q:VK):Prop
 | mk (a b xs ys:_) (h1:x=.ref a) (h2:y=.ref b) (h3:SqT K H a xs) (h4:SqT K H b ys) (h5:xs≠[]) (h6:xs.length+ys.length≤sizeLine) (h7:(ys=[]→Q (.ref a) H)) (h8:(ys≠[]→∀ p,H p=none→Q (.ref p) (upd H p (.tup (xs ++ ys))))):Zhh K x y H Q
def Zmv (K:W.Frag):R2:=λx y H Q=>Zhh K x y H Q
theorem Vals.Jc {xs:List V} {us:List Value} (r:Vals xs us):us=[]↔xs=[]:=by
 cases r with
 | nil=>simp
 | cons _ _=>simp
theorem Zd0:OpR X (binaryOp .Add) (Zmv X.K):=by
 intro pins s σ H x y v u Q I rx ry h
 obtain ⟨a,b,xs,ys,rfl,rfl,ha,hb,hx,hz,q1,q2⟩:=h
 cases rx
 cases ry
 obtain ⟨its,r1,p1,_⟩:=I.tuple ha
 obtain ⟨G7,r2,p2,_⟩:=I.tuple hb
 refine HT.Zlz p1 p2 (λz=>hx (r1.Jc.mp z)) (λz=>⟨.ref a,H,I,rfl,q1 (r2.Jc.mp z)⟩) (λz=>?_) (by rw [← r1.length,← r2.length]; exact hz)
 refine ⟨.ref s.heap.objs.size,_,I.laid (t':=s.toks) (o:=.tup (xs ++ ys)) (λb ob q=>Heap.get?_push_of_some _ q) (Nat.le_refl _) ?_,rfl,q2 (λw=>z (r2.Jc.mpr w)) _ (I.hok.fresh (Nat.le_refl _))⟩
 exact ⟨by rw [List.length_append]; exact hz,_,r1.append r2,IsTup.new _ _⟩
end
end L2
namespace L2
open PySem PySem.Spec PyProof.Rows
def ixN (n:Nat) (i:Int):Option Nat:=if 0≤i then (if i < n then some i.toNat else none) else if -(n:Int)≤i then some (i+n).toNat else none
def atI {α:Type} (xs:List α) (i:Int):Option α:=(ixN xs.length i).bind λj=>xs[j]?
theorem Zea {n:Nat} {i:Int} {j:Nat} (h:ixN n i=some j):seqIndex? i n=some j∧j < n∧-(n:Int)≤i∧i < n:=by
 unfold ixN at h
 by_cases h0:0≤i
 ·rw [if_pos h0] at h
  by_cases h1:i < n
  ·rw [if_pos h1] at h
   have e:i.toNat=j:=Option.some.inj h
   exact ⟨by rw [seqIndex_of h0 h1,e],by omega,by omega,h1⟩
  ·rw [if_neg h1] at h; cases h
 ·rw [if_neg h0] at h
  by_cases h1 : -(n:Int)≤i
  ·rw [if_pos h1] at h
   have e:(i+n).toNat=j:=Option.some.inj h
   exact ⟨by rw [seqIndex_neg (by omega) h1,e],by omega,h1,by omega⟩
  ·rw [if_neg h1] at h; cases h
theorem Ba {α:Type} {xs:List α} {i:Int} {v:α} (h:atI xs i=some v):∃ j,seqIndex? i xs.length=some j∧xs[j]? = some v∧j < xs.length∧-(xs.length:Int)≤i∧i < xs.length:=by
 unfold atI at h
 cases e:ixN xs.length i with
 | none=>rw [e] at h; cases h
 | some j=>
  rw [e] at h
  obtain ⟨h1,h2,h3,h4⟩:=Zea e
  exact ⟨j,h1,h,h2,h3,h4⟩
theorem Zl {α:Type} {xs:List α} {j:Nat} {v:α} (h:xs[j]? = some v):atI xs (j:Int)=some v:=by
 have hj:j < xs.length:=(List.getElem?_eq_some_iff.mp h).1
 have e:ixN xs.length (j:Int)=some j:=by
  unfold ixN
  rw [if_pos (by omega),if_pos (by omega)]; simp
 unfold atI; rw [e]; exact h
def Zl7 (b:Expr):Prop:=∀ o i,subscripted b false o i=operate [o,i] (getItem o i)
def IxR (X:Cx) (r:R2):Prop:=
 ∀ (value slice:Expr) (pins:List (Addr × Obj)) (s:Shared) (σ:St) (H:Hp) (x y:V) (v u:Value) (Q:VK),Inv X pins σ H s→RelV x v→RelV y u→r x y H Q→
  subscripted slice false v u=operate [v,u] (getItem v u)→wpAny (model X.prog X.w) X.A (subscriptTail value slice v u) (EP X pins σ Q) X.xe s
def MtR (X:Cx) (id:String) (r:V→List V→Hp→VK→Prop):Prop:=
 ∀ (pins:List (Addr × Obj)) (s:Shared) (σ:St) (H:Hp) (x:V) (xs:List V) (v:Value) (us:List Value) (Q:VK),Inv X pins σ H s→RelV x v→Vals xs us→r x xs H Q→
  wpAny (model X.prog X.w) X.A (call (.builtin id) (v :: us)) (EP X pins σ Q) X.xe s
section
variable {X:Cx} {a b:Expr} {ta tb:TE} {pos:Pos}
theorem Zs {r:R2} (hr:IxR X r) (ha:PE X a ta) (hb:PE X b tb) (hs:Zl7 b):PE X (.Subscript a b pos) (tOp r ta tb):=by
 intro pins s σ H Q I h
 exact Subscript_ (Zp1 ha hb I h λv u s2 x y H2 I2 rx ry q=>hr a b pins s2 σ H2 x y v u Q I2 rx ry q (hs _ _))
inductive Zms (K:W.Frag) (x:V) (y:V) (H:Hp) (Q:VK):Prop
 | mk (p xs i v:_) (h1:x=.ref p) (h2:y=.int i) (h3:SqL K H p xs) (h4:atI xs i=some v) (h5:Q v H):Zms K x y H Q
def Zoe (K:W.Frag):R2:=λx y H Q=>Zms K x y H Q
inductive Zmq (K:W.Frag) (x:V) (y:V) (H:Hp) (Q:VK):Prop
 | mk (p xs i v:_) (h1:x=.ref p) (h2:y=.int i) (h3:SqT K H p xs) (h4:atI xs i=some v) (h5:Q v H):Zmq K x y H Q
def Zqx (K:W.Frag):R2:=λx y H Q=>Zmq K x y H Q
inductive Zmr (x:V) (y:V) (H:Hp) (Q:VK):Prop
 | mk (z i c:_) (h1:x=.str z) (h2:y=.int i) (h3:z.length≤sizeLine) (h4:atI z.cps.toList i=some c) (h5:Q (.str ⟨#[c]⟩) H):Zmr x y H Q
def Zod:R2:=λx y H Q=>Zmr x y H Q
theorem Zlh:IxR X (Zoe X.K):=by
 intro value slice pins s σ H x y v u Q I rx ry h hs
 obtain ⟨p,xs,i,z,rfl,rfl,hq,he,q⟩:=h
 cases rx
 obtain ⟨t,rfl⟩:=ry
 obtain ⟨its,r,pl,hz⟩:=I.list hq
 obtain ⟨j,h1,h2,h3,h4,h5⟩:=Ba he
 obtain ⟨w,ew,rw'⟩:=r.get h2
 have hl:=r.length
 have hn:=Na
 have fin:EP X pins σ Q w s:=⟨z,H,I,rw',q⟩
 by_cases h0:0≤i
 ·have hj:i.toNat=j:=by
   rw [seqIndex_of h0 h5] at h1
   exact Option.some.inj h1
  exact item_listR pl.isList h0 (by omega) (by rw [hj]; simpa using ew) fin hs
 ·have hj:(i+(its.toArray.size:Int)).toNat=j:=by
   rw [seqIndex_neg (by omega) h4] at h1
   rw [List.size_toArray,← hl]
   exact Option.some.inj h1
  exact subscriptTail_builtinR (x:=w) pl.isList.typeIs slot_list_getitem.lookup
   (wpAny_getItem_list_neg (Q:=λr s'=>r=w∧EP X pins σ Q r s') pl.isList (by omega) (by rw [List.size_toArray] <;> omega) (by omega) (by rw [hj]; simpa using ew) ⟨rfl,fin⟩) hs
theorem Zo2:IxR X (Zqx X.K):=by
 intro value slice pins s σ H x y v u Q I rx ry h hs
 obtain ⟨p,xs,i,z,rfl,rfl,hq,he,q⟩:=h
 cases rx
 obtain ⟨t,rfl⟩:=ry
 obtain ⟨its,r,pl,hz⟩:=I.tuple hq
 obtain ⟨j,h1,h2,h3,h4,h5⟩:=Ba he
 obtain ⟨w,ew,rw'⟩:=r.get h2
 have hl:=r.length
 have hn:=Na
 have fin:EP X pins σ Q w s:=⟨z,H,I,rw',q⟩
 exact subscriptTail_builtinR (x:=w) pl.typeIs slot_tuple_getitem.lookup
  (getItem_tuple (j:=j) (Q:=λr s'=>r=w∧EP X pins σ Q r s') pl (by omega) (by omega) (by rw [List.size_toArray,← hl]; exact h1) (by simpa using ew) ⟨rfl,fin⟩) hs
theorem Zcg:IxR X Zod:=by
 intro value slice pins s σ H x y v u Q I rx ry h hs
 obtain ⟨z,i,c,rfl,rfl,hz,he,q⟩:=h
 obtain ⟨t,rfl⟩:=rx
 obtain ⟨t',rfl⟩:=ry
 obtain ⟨j,h1,h2,h3,h4,h5⟩:=Ba he
 have hl:z.cps.toList.length=z.length:=by simp [Str.length]
 rw [hl] at h1 h4 h5
 have hn:=Na
 exact tail_any (typeIs_str s z t) slot_str_getitem.lookup (getItem_str (c:=c) (by
  have e1:decide (i < -(2 ^ 63:Int))=false:=decide_eq_false (by omega)
  have e2:decide (i ≥ 2 ^ 63)=false:=decide_eq_false (by omega)
  rw [e1,e2,Bool.or_false]) (by rw [h1]; simpa using h2) ⟨.str ⟨#[c]⟩,H,I.tok _,⟨_,rfl⟩,q⟩) hs
theorem Zb0 (its:List Value) (n j:Nat) (u:Value):Obj.mapSeq (·.setIfInBounds j u) { cls:=.type "list",data:=.seq its.toArray n } = { cls:=.type "list",data:=.seq (its.set j u).toArray n }:=by
 simp [Obj.mapSeq]
theorem Inv.lst {pins:List (Addr × Obj)} {σ:St} {H:Hp} {s:Shared} {p:Addr} {xs:List V} (I:Inv X pins σ H s) (h:H p=some (.lst xs)) :
  ∃ (its:List Value) (n:Nat),Vals xs its∧s.heap.get? p=some { cls:=.type "list",data:=.seq its.toArray n }∧xs.length≤sizeLine:=by
 obtain ⟨z,its,n,r,e⟩:=I.hok p _ h
 exact ⟨its,n,r,e,z⟩
theorem Inv.Zot {pins:List (Addr × Obj)} {σ:St} {H:Hp} {s:Shared} {p:Addr} {xs ys:List V} {its its':List Value} {n n':Nat} {f:Obj→Obj} (I:Inv X pins σ H s) (h:H p=some (.lst xs))
  (ho:s.heap.get? p=some { cls:=.type "list",data:=.seq its.toArray n }) (hf:f { cls:=.type "list",data:=.seq its.toArray n } = { cls:=.type "list",data:=.seq its'.toArray n' }) (r:Vals ys its') (hz:ys.length≤sizeLine) (t:Nat) :
  Inv X pins σ (upd H p (.lst ys)) { s with heap:=s.heap.update p f,toks:=t }:=by
 have e:(s.heap.update p f).get? p=some { cls:=.type "list",data:=.seq its'.toArray n' }:=by
  rw [Heap.get?_update_self f ho (by rw [hf] <;> rfl),hf]
 refine I.write (x:=p) (e:=p) (by rw [h]; trivial) (.inl rfl) (λb u hb q=>(Heap.get?_update_other _ _ (Ne.symm hb)).trans q) ⟨_,e⟩ ?_
 exact ⟨hz,its',n',r,e⟩
inductive Zhc (o:V) (i:V) (v:V) (H:Hp) (Q:(Hp→Prop)):Prop
 | mk (p xs k j:_) (h1:o=.ref p) (h2:i=.int k) (h3:H p=some (.lst xs)) (h4:ixN xs.length k=some j) (h5:Q (upd H p (.lst (xs.set j v)))):Zhc o i v H Q
def Zqt:V→V→V→Hp→(Hp→Prop)→Prop:=λo i v H Q=>Zhc o i v H Q
theorem set_list:Ztf X Zqt:=by
 intro pins s σ H o i v ov iv u Q I ro ri rv h
 obtain ⟨p,xs,k,j,rfl,rfl,hp,hj,q⟩:=h
 cases ro
 obtain ⟨t,rfl⟩:=ri
 obtain ⟨its,n,r,ho,hz⟩:=I.lst hp
 obtain ⟨h1,h2,h3,h4⟩:=Zea hj
 have hl:=r.length
 have hn:=Na
 have I':Inv X pins σ (upd H p (.lst (xs.set j v))) { s with heap:=s.heap.update p (Obj.mapSeq (·.setIfInBounds j u)) }:=
  I.Zot hp ho (Zb0 its n j u) (r.set rv j) (by rw [List.length_set]; exact hz) s.toks
 by_cases h0:0≤k
 ·have hk:k.toNat=j:=by
   rw [seqIndex_of h0 h4] at h1
   exact Option.some.inj h1
  exact W.ki_setAt ho h0 (by omega) (by rw [List.size_toArray,← hl]; exact h4) (by rw [hk]; exact ⟨_,I',q⟩)
 ·have hk:(k+(its.toArray.size:Int)).toNat=j:=by
   rw [seqIndex_neg (by omega) h3] at h1
   rw [List.size_toArray,← hl]
   exact Option.some.inj h1
  exact W.ki_setBack ho (by omega) (by rw [List.size_toArray,← hl]; exact h3) (by omega) (by rw [hk]; exact ⟨_,I',q⟩)
theorem Dh (lo hi:Option Int) (n:Nat):(sliceBounds lo hi none n).1=((HT.sIx n 0 lo:Nat):Int)∧(sliceBounds lo hi none n).2.1=((HT.sIx n n hi:Nat):Int)∧(sliceBounds lo hi none n).2.2=1:=by
 refine ⟨?_,?_,rfl⟩
 ·cases lo with
  | none=>simp [sliceBounds,HT.sIx]
  | some i=>
   simp only [sliceBounds,HT.sIx,Option.getD_none,show (1:Int) > 0 by decide,if_true]
   by_cases h:i < 0
   ·simp only [h,if_true] <;> omega
   ·simp only [h,if_false] <;> omega
 ·cases hi with
  | none=>simp [sliceBounds,HT.sIx]
  | some i=>
   simp only [sliceBounds,HT.sIx,Option.getD_none,show (1:Int) > 0 by decide,if_true]
   by_cases h:i < 0
   ·simp only [h,if_true] <;> omega
   ·simp only [h,if_false] <;> omega
theorem Gq (its:List Value) (lo hi:Option Int):slicePick its.toArray lo hi none=((its.drop (HT.sIx its.length 0 lo)).take (HT.sIx its.length its.length hi - HT.sIx its.length 0 lo)).toArray:=by
 obtain ⟨h1,h2,h3⟩:=Dh lo hi its.toArray.size
 unfold slicePick
 rw [h1,h2,h3]
 simp only [sliceRange_one,pick_run,List.size_toArray] <;> rfl
inductive Zmo (K:W.Frag) (x:V) (lo:Option Int) (hi:Option Int) (H:Hp) (Q:VK):Prop
 | mk (a xs:_) (h1:x=.ref a) (h2:SqL K H a xs) (h3:∀ p,H p=none→Q (.ref p) (upd H p (.lst (Q8 xs lo hi)))):Zmo K x lo hi H Q
def Zqs (K:W.Frag):V→Option Int→Option Int→Hp→VK→Prop:=λx lo hi H Q=>Zmo K x lo hi H Q
theorem Zkl:SlR X (Zqs X.K):=by
 intro pins s σ H x v vl vu lo hi sl Q I rx hs pl pu h
 obtain ⟨a,xs,rfl,hx,q⟩:=h
 cases rx
 obtain ⟨its,r,ht,hz⟩:=I.list hx
 have hlen:=r.length
 refine ⟨"list",_,slot_list_getitem.lookup,ht.isList.typeIs,?_⟩
 refine wpAny_getItem_list_slice ht.isList hs pl pu .none (by simp) ?_ (by rw [List.size_toArray] <;> omega)
 rw [Gq,← hlen]
 refine ⟨.ref s.heap.objs.size,_,I.laid (t':=s.toks) (o:=.lst (Q8 xs lo hi)) (λb ob q=>Heap.get?_push_of_some _ q) (Nat.le_refl _) ?_,rfl,q _ (I.hok.fresh (Nat.le_refl _))⟩
 exact ⟨Nat.le_trans (Ke xs lo hi) hz,_,0,(r.drop (HT.sIx xs.length 0 lo)).take (HT.sIx xs.length xs.length hi - HT.sIx xs.length 0 lo),Heap.get?_push_size _ rfl⟩
def Oy:V→Bool
 | .non=>true
 | .bl _=>true
 | .int _=>true
 | .str _=>true
 | _=>false
def eqV:V→V→Bool
 | .non,.non=>true
 | .bl a,.bl b=>a==b
 | .bl a,.int b=>(if a then 1 else 0)==b
 | .int a,.bl b=>a==(if b then 1 else 0)
 | .int a,.int b=>a==b
 | .str a,.str b=>a==b
 | _,_=>false
theorem Zpq {A:Around} {s:Shared} {y x:V} {u v:Value} (ry:RelV y u) (rx:RelV x v) (fy:Oy y=true) (fx:Oy x=true):SeqAt.EqAt A s u v (eqV y x):=by
 cases y with
 | non=>
  cases ry
  cases x with
  | non=>cases rx; exact SeqAt.EqAt.same _
  | bl b=>cases rx; exact SeqAt.EqAt.none_bool b
  | int b=>obtain ⟨t,rfl⟩:=rx; exact SeqAt.EqAt.none_int b t
  | str b=>obtain ⟨t,rfl⟩:=rx; exact SeqAt.EqAt.none_str b t
  | _=>exact absurd (show false=true from fx) Bool.false_ne_true
 | bl a=>
  cases ry
  cases x with
  | non=>cases rx; exact SeqAt.EqAt.bool_none a
  | bl b=>cases rx; exact SeqAt.EqAt.bool_bool a b
  | int b=>obtain ⟨t,rfl⟩:=rx; exact SeqAt.EqAt.bool_int a b t
  | str b=>obtain ⟨t,rfl⟩:=rx; exact SeqAt.EqAt.bool_str a b t
  | _=>exact absurd (show false=true from fx) Bool.false_ne_true
 | int a=>
  obtain ⟨t',rfl⟩:=ry
  cases x with
  | non=>cases rx; exact SeqAt.EqAt.int_none a t'
  | bl b=>cases rx; exact SeqAt.EqAt.int_bool a t' b
  | int b=>obtain ⟨t,rfl⟩:=rx; exact SeqAt.EqAt.int_int a t' b t
  | str b=>obtain ⟨t,rfl⟩:=rx; exact SeqAt.EqAt.int_str a t' b t
  | _=>exact absurd (show false=true from fx) Bool.false_ne_true
 | str a=>
  obtain ⟨t',rfl⟩:=ry
  cases x with
  | non=>cases rx; exact SeqAt.EqAt.str_none a t'
  | bl b=>cases rx; exact SeqAt.EqAt.str_bool a t' b
  | int b=>obtain ⟨t,rfl⟩:=rx; exact SeqAt.EqAt.str_int a t' b t
  | str b=>obtain ⟨t,rfl⟩:=rx; exact SeqAt.EqAt.str_str a t' b t
  | _=>exact absurd (show false=true from fx) Bool.false_ne_true
 | _=>exact absurd (show false=true from fy) Bool.false_ne_true
def eqU (x:V) (u:Value):Bool:=match u with
 | .none=>eqV .non x
 | .bool b=>eqV (.bl b) x
 | .int i _=>eqV (.int i) x
 | .str z _=>eqV (.str z) x
 | _=>false
theorem Zi6 {x y:V} {u:Value} (r:RelV y u) (f:Oy y=true):eqU x u=eqV y x:=by
 cases y with
 | non=>cases r; rfl
 | bl b=>cases r; rfl
 | int i=>obtain ⟨t,rfl⟩:=r; rfl
 | str z=>obtain ⟨t,rfl⟩:=r; rfl
 | _=>exact absurd (show false=true from f) Bool.false_ne_true
theorem Bb {x:V}:∀ {xs:List V} {us:List Value},Vals xs us→xs.all Oy=true→us.any (eqU x)=xs.any λy=>eqV y x
 | _,_,.nil,_=>rfl
 | y :: xs,u :: us,.cons r t,f=>by
  rw [List.all_cons,Bool.and_eq_true] at f
  rw [List.any_cons,List.any_cons,Zi6 r f.1,Bb t f.2]
theorem Mj {A:Around} {s:Shared} {x:V} {v:Value} (rx:RelV x v) (fx:Oy x=true):∀ {xs:List V} {us:List Value},Vals xs us→xs.all Oy=true→∀ u∈us,SeqAt.EqAt A s u v (eqU x u)
 | _,_,.nil,_=>λu hu=>by cases hu
 | y :: xs,u :: us,.cons r t,f=>λu' hu=>by
  rw [List.all_cons,Bool.and_eq_true] at f
  rcases List.mem_cons.mp hu with rfl | hu
  ·rw [Zi6 r f.1]; exact Zpq r rx f.1 fx
  ·exact Mj rx fx t f.2 u' hu
def inV (x:V) (xs:List V):Bool:=xs.any λy=>eqV y x
inductive Zqz (K:W.Frag) (neg:Bool) (x:V) (y:V) (H:Hp) (Q:VK):Prop
 | mk (p xs:_) (h1:y=.ref p) (h2:(SqL K H p xs∨SqT K H p xs)) (h3:Oy x=true) (h4:xs.all Oy=true) (h5:Q (.bl (if neg then !inV x xs else inV x xs)) H):Zqz K neg x y H Q
def rIn (K:W.Frag) (neg:Bool):R2:=λx y H Q=>Zqz K neg x y H Q
theorem Zfg:OpR X (compareOp .In) (rIn X.K false):=by
 intro pins s σ H x y v u Q I rx ry h
 obtain ⟨p,xs,rfl,hq,fx,fs,q⟩:=h
 cases ry
 rcases hq with hq | hq
 ·obtain ⟨its,r,pl,hz⟩:=I.list hq
  refine SeqAt.in_listAt (eqU x) pl.isList (λw hw=>Mj rx fx r fs w (by simpa using hw)) ⟨.bl _,H,I,rfl,?_⟩
  rw [show its.toArray.any (eqU x)=its.any (eqU x) by simp,Bb r fs]
  exact q
 ·obtain ⟨its,r,pl,hz⟩:=I.tuple hq
  refine SeqAt.in_tupleAt (eqU x) pl (λw hw=>Mj rx fx r fs w (by simpa using hw)) ⟨.bl _,H,I,rfl,?_⟩
  rw [show its.toArray.any (eqU x)=its.any (eqU x) by simp,Bb r fs]
  exact q
theorem C0:Xh X (.builtin "len") (λxs H Q=>∃ p ys,xs=[.ref p]∧(SqL X.K H p ys∨SqT X.K H p ys)∧Q (.int ys.length) H):=by
 intro pins s σ H xs us Q I r h
 obtain ⟨p,ys,rfl,hq,q⟩:=h
 obtain ⟨u,rfl,rx⟩:=vals1 r
 cases rx
 have hn:=Na
 rcases hq with hq | hq
 ·obtain ⟨its,r',pl,hz⟩:=I.list hq
  have hlen:=r'.length
  exact Calls.call_len_list pl.isList (by simp only [List.size_toArray] <;> omega) ⟨.int ys.length,H,I.tok _,⟨s.toks+1,by rw [List.size_toArray,hlen]⟩,q⟩
 ·obtain ⟨its,r',pl,hz⟩:=I.tuple hq
  have hlen:=r'.length
  exact len_tuple pl (by simp only [List.size_toArray] <;> omega) ⟨.int ys.length,H,I.tok _,⟨s.toks+1,by rw [List.size_toArray,hlen]⟩,q⟩
theorem Wa:Xh X (.builtin "len") (λxs H Q=>∃ z,xs=[.str z]∧z.length≤sizeLine∧Q (.int z.length) H):=by
 intro pins s σ H xs us Q I r h
 obtain ⟨z,rfl,hz,q⟩:=h
 obtain ⟨u,rfl,t,rfl⟩:=vals1 r
 have hn:=Na
 exact len_str (by omega) ⟨.int z.length,H,I.tok _,⟨_,rfl⟩,q⟩
theorem Cz:Xh X (.type "list") (λxs H Q=>∃ p ys,xs=[.ref p]∧(SqL X.K H p ys∨SqT X.K H p ys)∧∀ l,H l=none→Q (.ref l) (upd H l (.lst ys))):=by
 intro pins s σ H xs us Q I r h
 obtain ⟨p,ys,rfl,hq,q⟩:=h
 obtain ⟨u,rfl,rx⟩:=vals1 r
 cases rx
 have fin:∀ (its:List Value),Vals ys its→ys.length≤sizeLine→∀ (h':Heap) (c':Nat),(∀ b o',s.heap.get? b=some o'→h'.get? b=some o')→
   h'.get? s.heap.objs.size=some { cls:=.type "list",dict:=none,data:=.seq its.toArray c',slots:=#[] }→EP X pins σ Q (.ref s.heap.objs.size) { s with heap:=h' }:=λits r' hz h' c' kp e=>
  ⟨.ref s.heap.objs.size,_,I.laid (t':=s.toks) kp (Nat.le_refl _) (show Yx X.prog X.w _ h' _ (.lst ys) from ⟨hz,its,c',r',e⟩),rfl,q _ (I.hok.fresh (Nat.le_refl _))⟩
 rcases hq with hq | hq
 ·obtain ⟨its,r',pl,hz⟩:=I.list hq
  have hlen:=r'.length
  obtain ⟨o,ho,hc,n,hd⟩:=pl.isList
  exact call_list_seq p (.inl rfl) ho hc hd (λh' c' kp e=>fin its r' hz h' c' kp e) (by simp only [List.size_toArray] <;> omega)
 ·obtain ⟨its,r',pl,hz⟩:=I.tuple hq
  have hlen:=r'.length
  obtain ⟨o,ho,hc,n,hd⟩:=pl
  exact call_list_seq p (.inr rfl) ho hc hd (λh' c' kp e=>fin its r' hz h' c' kp e) (by simp only [List.size_toArray] <;> omega)
theorem Fc:Xh X (.type "tuple") (λxs H Q=>∃ p ys,xs=[.ref p]∧((SqL X.K H p ys∧∀ l,H l=none→Q (.ref l) (upd H l (.tup ys)))∨(SqT X.K H p ys∧Q (.ref p) H))):=by
 intro pins s σ H xs us Q I r h
 obtain ⟨p,ys,rfl,h⟩:=h
 obtain ⟨u,rfl,rx⟩:=vals1 r
 cases rx
 rcases h with ⟨hq,q⟩ | ⟨hq,q⟩
 ·obtain ⟨its,r',pl,hz⟩:=I.list hq
  have hlen:=r'.length
  refine call_tuple_list pl.isList (λh' kp=>?_) (by simp only [List.size_toArray] <;> omega)
  have I1:Inv X pins σ H { s with heap:=h' }:=I.kept (t':=s.toks) kp
  have I2:Inv X pins σ (upd H h'.objs.size (.tup ys)) { s with heap:=h'.push { cls:=.type "tuple",data:=.seq its.toArray } }:=
   I1.laid (t':=s.toks) (λb o e=>Heap.get?_push_of_some _ e) (Nat.le_refl _) (show Yx X.prog X.w _ _ _ (.tup ys) from ⟨hz,its,r',IsTup.new _ _⟩)
  exact ⟨.ref h'.objs.size,_,I2,rfl,q _ (I1.hok.fresh (Nat.le_refl _))⟩
 ·obtain ⟨its,r',pl,hz⟩:=I.tuple hq
  exact call_tuple_same pl ⟨.ref p,H,I,rfl,q⟩
def tyV (K:W.Frag) (T:String) (x:V) (H:Hp):Prop:=match x with
 | .str _=>T = "str"
 | .int _=>T = "int"
 | .ref p=>(T = "list"∧∃ xs,SqL K H p xs)∨(T = "tuple"∧∃ o,K.lookup p=some o∧o.cls=.type "tuple"∧o.dict=none)∨
   (T = "dict"∧((∃ kvs,H p=some (.dK kvs))∨∃ kvs,H p=some (.dT kvs)))∨(T = "set"∧∃ S n,H p=some (.set S n))
 | _=>False
theorem Znj {pins:List (Addr × Obj)} {σ:St} {H:Hp} {s:Shared} {T:String} {x:V} {v:Value} (I:Inv X pins σ H s) (r:RelV x v) (ty:tyV X.K T x H) :
  s.TypeIs v T∧∀ a,v=.ref a→∃ ob,s.heap.get? a=some ob∧ob.dict=none:=by
 cases x with
 | str z=>
  obtain ⟨t,rfl⟩:=r
  cases (show T = "str" from ty)
  exact ⟨typeIs_str s z t,λ_ e=>nomatch e⟩
 | int i=>
  obtain ⟨t,rfl⟩:=r
  cases (show T = "int" from ty)
  exact ⟨typeIs_int s i t,λ_ e=>nomatch e⟩
 | ref p=>
  cases r
  rcases ty with ⟨rfl,xs,hq⟩ | ⟨rfl,o,hk,hc,hd⟩ | ⟨rfl,hk⟩ | ⟨rfl,S,n,hk⟩
  ·obtain ⟨its,_,pl,_⟩:=I.list hq
   refine ⟨pl.isList.typeIs,λa e=>?_⟩
   cases e
   obtain ⟨o,n,e,c,hd,_⟩:=pl
   exact ⟨o,e,hd⟩
  ·refine ⟨⟨o,I.kIn p o hk,hc⟩,λa e=>?_⟩
   cases e
   exact ⟨o,I.kIn _ o hk,hd⟩
  ·have z:∃ o,s.heap.get? p=some o∧o.ExactDict:=by
    rcases hk with ⟨kvs,hk⟩ | ⟨kvs,hk⟩
    ·obtain ⟨_,_,_,_,o,_,_,e,ex,_⟩:=I.hok p _ hk
     exact ⟨o,e,ex⟩
    ·obtain ⟨_,_,_,_,o,_,_,e,ex,_⟩:=I.hok p _ hk
     exact ⟨o,e,ex⟩
   obtain ⟨o,e,ex⟩:=z
   refine ⟨⟨o,e,ex.1⟩,λa e2=>?_⟩
   cases e2
   exact ⟨o,e,ex.2.1⟩
  ·obtain ⟨o,_,_,_,e,ex,_⟩:=I.hok p _ hk
   refine ⟨⟨o,e,ex.1⟩,λa e2=>?_⟩
   cases e2
   exact ⟨o,e,ex.2.1⟩
 | _=>exact False.elim ty
def tBM (K:W.Frag) (T:String) (r:V→List V→Hp→VK→Prop) (to:TE) (t:TA):TE:=λσ H Q=>to σ H λx H1=>tyV K T x H1∧t σ H1 λxs H2=>r x xs H2 Q
variable {o e:Expr} {es:List Expr} {to:TE} {t:TA} {name:Str} {apos Wi:Pos} {T id:String} {r:V→List V→Hp→VK→Prop}
theorem Zq9 (pa:PlainAttrs T) (slot:Slot T name id) (hty:typeOf (.builtin id)=pure (.type "method_descriptor")) (hm:MtR X id r) (ho:PE X o to) (ha:PA X (e :: es) t)
  (Zix:attributeBase o name X.env (eval o X.env)=eval o X.env:=by rfl)
  (Zpc:((backTo Wi (starEach (e :: es) X.env)).all (λx=>!x.1) && (backToKw Wi (keywordEach [] X.env)).all (λx=>x.1.isSome)
   && decide ((e :: es).length+([]:List Keyword).length+(if ([]:List Keyword).isEmpty then 0 else 1) < 30))=true:=by rfl)
  (Zis:(apos.endLine==Wi.line)=true:=by rfl) (hs:starEach (e :: es) X.env=(false,eval e X.env) :: starEach es X.env:=by rfl) (Zcl:(backTo Wi (starEach es X.env)).any (·.1)=false:=by rfl) :
  PE X (.Call (.Attribute o name apos) (e :: es) [] Wi) (tBM X.K T r to t):=by
 intro pins s σ H Q I h
 refine wpAny_Call_method_late Zix Zpc Zis rfl (thn (ho pins s σ H _ I h) λv s1 ⟨x,H1,I1,r1,ty,q1⟩=>?_)
 obtain ⟨h1,h2⟩:=Znj I1 r1 ty
 refine ⟨T,id,pa,slot,hty,h1,h2,?_⟩
 have hA:=ha Wi pins s1 σ H1 _ I1 q1
 rw [hs] at hA ⊢
 refine Calls.callWith_builtin (by show (false || (backTo Wi (starEach es X.env)).any (·.1))=false; rw [Zcl] <;> rfl) (Calls.evalArgs_plain ?_)
 exact thn hA λus s2 ⟨vs,H2,I2,r2,q2⟩=>hm pins s2 σ H2 x vs v us Q I2 r1 r2 q2
end
end L2
namespace L2
open PySem PySem.Spec PyProof.Rows
def MtM (X:Cx) (id:String) (r:V→List V→Hp→VK→Prop):Prop:=
 ∀ (pins:List (Addr × Obj)) (s:Shared) (σ:St) (H:Hp) (x:V) (xs:List V) (v:Value) (us:List Value) (Q:VK),Inv X pins σ H s→RelV x v→Vals xs us→r x xs H Q→
  wpAny (model X.prog X.w) X.A (call (.builtin id) (v :: us)) (EP X pins σ Q) X.xe s
theorem Vals.one:∀ {x:V} {us:List Value},Vals [x] us→∃ u,us=[u]∧RelV x u
 | _,_,.cons r .nil=>⟨_,rfl,r⟩
theorem Vals.eraseIdx:∀ {xs:List V} {us:List Value} (i:Nat),Vals xs us→Vals (xs.eraseIdx i) (us.eraseIdx i)
 | _,_,_,.nil=>.nil
 | _,_,0,.cons _ t=>t
 | _,_,i+1,.cons r t=>.cons r (Vals.eraseIdx i t)
theorem Eb {α:Type}:∀ (l:List α) (i:Nat),(l.eraseIdx i).length≤l.length
 | [],_=>Nat.le_refl _
 | _ :: _,0=>Nat.le_succ _
 | _ :: r,i+1=>Nat.succ_le_succ (Eb r i)
section
variable {X:Cx} {pins:List (Addr × Obj)} {σ:St} {H:Hp} {s:Shared} {l b:Addr} {xs ys zs:List V}
theorem Inv.Zou {its its':List Value} {n:Nat} {f:Array Value→Array Value} {t':Nat} (I:Inv X pins σ H s) (hH:H l=some (.lst xs))
  (e:s.heap.get? l=some { cls:=.type "list",data:=.seq its.toArray n }) (hf:f its.toArray=its'.toArray) (hv:Vals ys its') (hz:ys.length≤sizeLine) :
  Inv X pins σ (upd H l (.lst ys)) { s with heap:=s.heap.update l (Obj.mapSeq f),toks:=t' }:=by
 have q:=PySem.IsL.update e f
 rw [hf] at q
 refine I.write (x:=l) (e:=l) (by rw [hH]; exact trivial) (.inl rfl) (λb' u hb hu=>(Heap.get?_update_other s.heap (Obj.mapSeq f) (Ne.symm hb)).trans hu) ⟨_,q⟩ ?_
 exact ⟨hz,its',_,hv,q⟩
theorem Inv.Zri {its:List Value} {t':Nat} (I:Inv X pins σ H s) (hv:Vals ys its) (hz:ys.length≤sizeLine) :
  Inv X pins σ (upd H s.heap.objs.size (.lst ys)) { s with heap:=s.heap.push { cls:=.type "list",data:=.seq its.toArray },toks:=t' }:=
 I.laid (λ_ _ q=>Heap.get?_push_of_some _ q) (Nat.le_refl _) ⟨hz,its,0,hv,Heap.get?_push_size _ rfl⟩
theorem Inv.fresh (I:Inv X pins σ H s):H s.heap.objs.size=none:=I.hok.fresh (Nat.le_refl _)
theorem Inv.Zcb (I:Inv X pins σ H s) (hH:H l=some (.lst xs)):xs.length≤sizeLine∧∃ (its:List Value) (n:Nat),Vals xs its∧xs.length=its.length∧s.heap.get? l=some { cls:=.type "list",data:=.seq its.toArray n }:=by
 obtain ⟨z,its,n,r,e⟩:=I.hok l _ hH
 exact ⟨z,its,n,r,r.length,e⟩
theorem Zh7 {n:Nat} (h:n≤sizeLine):Builtin.List.listTooLong n=false:=by
 unfold Builtin.List.listTooLong
 exact decide_eq_false (by omega)
end
section
variable {X:Cx}
inductive Ad (x:V) (vs:List V) (H:Hp) (Q:VK):Prop
 | mk (l xs y:_) (h1:x=.ref l) (h2:vs=[y]) (h3:H l=some (.lst xs)) (h4:xs.length < sizeLine) (h5:Q .non (upd H l (.lst (xs ++ [y])))):Ad x vs H Q
def Zku:V→List V→Hp→VK→Prop:=λx vs H Q=>Ad x vs H Q
theorem We:MtM X "list.append" Zku:=by
 intro pins s σ H x vs v us Q I rx rv h
 obtain ⟨l,xs,y,rfl,rfl,hH,hz,q⟩:=h
 cases rx
 obtain ⟨u,rfl,ru⟩:=rv.one
 obtain ⟨z,its,n,r,hl,e⟩:=I.Zcb hH
 refine call_meets F.slot_list_append ⟨_,e,rfl⟩ F.entry_list_append (F.args_list_append_2 _ _) (PySem.list_append l its.toArray n u (by rw [List.size_toArray]; omega)) ⟨e,?_⟩
 refine ⟨.non,_,I.Zou (its':=its ++ [u]) hH e (by simp) (r.append (.cons ru .nil)) ?_,rfl,q⟩
 rw [List.length_append,List.length_singleton]
 omega
inductive Ac (x:V) (vs:List V) (H:Hp) (Q:VK):Prop
 | mk (l b xs zs:_) (h1:x=.ref l) (h2:vs=[.ref b]) (h3:H l=some (.lst xs)) (h4:H b=some (.lst zs)) (h5:xs.length+zs.length≤sizeLine) (h6:Q .non (upd H l (.lst (xs ++ zs)))):Ac x vs H Q
def Zkt:V→List V→Hp→VK→Prop:=λx vs H Q=>Ac x vs H Q
theorem Lo:MtM X "list.extend" Zkt:=by
 intro pins s σ H x vs v us Q I rx rv h
 obtain ⟨l,b,xs,zs,rfl,rfl,hH,hB,hz,q⟩:=h
 cases rx
 obtain ⟨u,rfl,ru⟩:=rv.one
 cases ru
 obtain ⟨z,its,n,r,hl,e⟩:=I.Zcb hH
 obtain ⟨z2,G7,n2,r2,hl2,e2⟩:=I.Zcb hB
 have hsz:its.toArray.size+G7.toArray.size≤sizeLine:=by rw [List.size_toArray,List.size_toArray]; omega
 have Zrv:¬ (!its.toArray.isEmpty && Builtin.List.listTooLong (its.toArray.size+G7.toArray.size))=true:=by
  rw [Zh7 hsz,Bool.and_false]
  exact Bool.false_ne_true
 refine call_meets F.slot_list_extend ⟨_,e,rfl⟩ F.entry_list_extend (F.args_list_extend_2 _ _)
  (AutoSeq1.list_extend_list_list_0 l its.toArray n b G7.toArray n2 Zrv (by rw [List.size_toArray]; omega) (by omega)) ⟨e,e2,?_⟩
 refine ⟨.non,_,I.Zou (its':=its ++ G7) hH e (by simp) (r.append r2) ?_,rfl,q⟩
 rw [List.length_append]
 omega
inductive Zds (x:V) (vs:List V) (H:Hp) (Q:VK):Prop
 | mk (l xs i k y:_) (h1:x=.ref l) (h2:vs=[.int i]) (h3:H l=some (.lst xs)) (h4 : -(2 ^ 63)≤i) (h5:i < 2 ^ 63) (h6:seqIndex? i xs.length=some k) (h7:xs[k]? = some y) (h8:Q y (upd H l (.lst (xs.eraseIdx k)))):Zds x vs H Q
def Zob:V→List V→Hp→VK→Prop:=λx vs H Q=>Zds x vs H Q
theorem Aq:MtM X "list.pop" Zob:=by
 intro pins s σ H x vs v us Q I rx rv h
 obtain ⟨l,xs,i,k,y,rfl,rfl,hH,h1,h2,hk,hy,q⟩:=h
 cases rx
 obtain ⟨u,rfl,ru⟩:=rv.one
 obtain ⟨t,rfl⟩:=ru
 obtain ⟨z,its,n,r,hl,e⟩:=I.Zcb hH
 obtain ⟨w,hw,rw'⟩:=r.get hy
 refine call_meets F.slot_list_pop ⟨_,e,rfl⟩ F.entry_list_pop (F.args_list_pop_2 _ _)
  (MeetsSeq.list_pop_at l its.toArray n i t k w (fitsIndex_both h1 h2) (by rw [List.size_toArray,← hl]; exact hk) (by rw [← Array.getElem?_toList]; exact hw) (by rw [List.size_toArray]; omega)) ⟨e,?_⟩
 refine ⟨y,_,I.Zou (its':=its.eraseIdx k) hH e ?_ (r.eraseIdx k) ?_,rw',q⟩
 ·show its.toArray.eraseIdxIfInBounds k=(its.eraseIdx k).toArray
  rw [List.eraseIdxIfInBounds_toArray]
 ·have:=Eb xs k
  omega
inductive Zmw (x:V) (y:V) (H:Hp) (Q:VK):Prop
 | mk (l b xs zs:_) (h1:x=.ref l) (h2:y=.ref b) (h3:H l=some (.lst xs)) (h4:H b=some (.lst zs)) (h5:xs.length+zs.length≤sizeLine) (h6:∀ p,H p=none→Q (.ref p) (upd H p (.lst (xs ++ zs)))):Zmw x y H Q
def Zq3:R2:=λx y H Q=>Zmw x y H Q
theorem Zhy:OpR X (binaryOp .Add) Zq3:=by
 intro pins s σ H x y v u Q I rx ry h
 obtain ⟨l,b,xs,zs,rfl,rfl,hH,hB,hz,q⟩:=h
 cases rx
 cases ry
 obtain ⟨z,its,n,r,hl,e⟩:=I.Zcb hH
 obtain ⟨z2,G7,n2,r2,hl2,e2⟩:=I.Zcb hB
 refine PySem.P.add_list e e2 ?_ (by rw [List.size_toArray,List.size_toArray]; omega)
 have ea:its.toArray ++ G7.toArray=(its ++ G7).toArray:=by simp
 rw [ea]
 exact ⟨.ref _,_,I.Zri (t':=s.toks) (r.append r2) (by rw [List.length_append]; omega),rfl,q _ I.fresh⟩
end
section
variable {prog:Program} {w:World} {A:Around} {E:Value→Shared→Prop} {s:Shared}
set_option maxRecDepth 100000 in
end
section
variable {X:Cx}
end
end L2
namespace Att
open PySem PySem.W PySem.Calls PyProof.Rows
theorem Kv {P:Params} {h:Heap}:∀ (ns:List Int) (vs:List Value),WellAll P h vs (ns.map WData.int)→IntsAre vs ns:=by
 intro ns
 induction ns with
 | nil=>
  intro vs w
  rw [List.map_nil] at w
  cases w
  exact .nil
 | cons n ns ih=>
  intro vs w
  rw [List.map_cons] at w
  cases w with
  | cons a b=>
   cases a
   exact .cons _ _ (ih _ b)
theorem Ze8 {l:OpenLaw} {n:Nat} (hn:l.most=some n) {P:Params} {h:Heap} {args:List WData} {vals:List Value}
  (Kw:l.row.toRowW.claim.pre args=true) (hwl:WellAll P h vals args) :
  ∃ a vs ns,vals=[Value.ref a]∧args=[WData.list (ns.map WData.int)]∧h.get? a=some { cls:=.type "list",data:=.seq vs.toArray }∧IntsAre vs ns∧ns.length≤n:=by
 have hsh:WShape.hasAll [] args [.list .int]=true:=(pre_splitW Kw).1
 have hc:l.pre.holds [] { args:=args } = true:=(pre_splitW Kw).2
 obtain ⟨d,r,rfl,h1,h2⟩:=hasAllW_cons hsh
 obtain rfl:=hasAllW_nil h2
 obtain ⟨xs,rfl,h3⟩:=hasW_list h1
 obtain ⟨ns,rfl⟩:=items_int h3
 have hlen:ns.length≤n:=by
  unfold OpenLaw.pre at hc
  have h4:(WTm.not (.lt (.lit (.int (n:Int))) (.len (.arg 0)))).holds [] { args:=[.list (ns.map .int)] } = true:=by
   have h4:=(holds_andW hc).1
   rw [hn] at h4
   exact h4
  have h5:=condW_of h4 (w_not (w_lt w_lit (w_len_list (w_arg rfl))))
  rw [List.length_map] at h5
  refine Nat.le_of_not_lt λq=>?_
  have q':(n:Int) < ((ns.length:Nat):Int):=by omega
  first
   | (rw [decide_eq_true q'] at h5; exact absurd h5 (by decide))
   | (simp at h5; omega)
 cases hwl with
 | cons w1 w2=>
  cases w2
  cases w1 with
  | list ho Kx=>exact ⟨_,_,ns,rfl,rfl,ho,Kv ns _ Kx,hlen⟩
theorem Ze9 (l:OpenLaw) (args:List WData):l.row.toRowW.claim.post args (.bool true) args=true:=
 postW_of (r:=l.row.toRowW) (X:=(true==true))
  (show WShape.has [] (.bool true) .bool=true by first | rfl | decide | simp [WShape.has,WShape.arms,WShape.armsAll])
  (show (WTm.eq .res (.lit (.bool true))).value [] { args:=args,res:=some (.bool true),after:=args } = some (.bool (true==true)) from w_eq_bool (w_res rfl) w_lit) rfl
theorem Kf {l:OpenLaw} {n:Nat} {q:Program} {loose:List Str} {XP:(Str→Option Value)→Heap→Prop} {YP:World→Heap→Prop} {d:DefRec}
  (hn:l.most=some n) (hdf:d.params.defaults=[])
  (call:∀ (w:World) (s₀ s₁:Shared) (mg mb:Str→Option Value) (fa:Addr) (o:Obj) (pm cd doc:Value) (a:Addr) (vs:List Value) (ns:List Int),
   Ground q loose [] XP w s₀ mg mb s₁.heap→YP w s₁.heap→
   s₁.heap.get? fa=some o→o.data=.func (docDef d.name d.params d.body d.scope pm cd doc)→s₁.heap.CodeRec cd d.name→mg d.name=some (.ref fa)→
   s₁.heap.get? a=some { cls:=.type "list",data:=.seq vs.toArray }→IntsAre vs ns→ns.length≤n→s₁.gens = #[]→
   codeAny (model l.prog w) callerA (.call (.ref fa) ⟨[.ref a],[]⟩) (λr s'=>r=.ok (.ret (.bool true))∧OldK s₁.heap s'.heap∧s'.os=s₁.os∧AllBare s'.gens) s₁) :
  WalkO q loose XP YP l.row.toRowW d [] (λf vs=>PySem.call f vs):=by
 intro w s₀ s₁ mg mb G Y fa o pm cd doc dV kV ho hd hcd hD hmg hg args vals as Kw hlay hrd hwl hlo
 obtain rfl:dV=.none:=Dflts.none hD hdf
 obtain rfl:kV=.none:=Dflts.noKw hD
 obtain ⟨a,vs,ns,rfl,rfl,Ziq,hints,hlen⟩:=Ze8 hn Kw hwl
 refine enter_call (codeAny_mono (call w s₀ s₁ mg mb fa o pm cd doc a vs ns G Y ho (fd_plain hd) hcd hmg Ziq hints hlen hg) λr s' hq=>?_)
 obtain ⟨rfl,h2,h3,h4⟩:=hq
 exact ⟨.inl ⟨.bool true,.bool true,[],rfl,λ_=>rfl,.bool true,Ze9 l _,λ_=>⟨List.Pairwise.nil,λ_ hm=>(nomatch hm)⟩⟩,h2,h3,h4⟩
section
variable {prog:Program} {w:World} {A:Around} {E:Value→Shared→Prop} {s:Shared} {K:Frag}
def ledger (h:Heap) (L d:Addr):List (Addr × Obj):=(List.range h.objs.size).filterMap λa=>if a=L∨a=d then none else (h.get? a).map λo=>(a,o)
end
end Att
namespace L2
open PySem PySem.Spec PyProof.Rows
theorem P0:∀ {vs:List Value} {ns:List Int},IntsAre vs ns→Vals (ns.map V.int) vs
 | _,_,.nil=>.nil
 | _,_,.cons n t h=>.cons ⟨t,rfl⟩ (P0 h)
def Zp9 (H:Hp):Prop:=∀ b,H b=none∨∃ o xs,H b=some (.frz o (.lst xs))
theorem Zid {P:Program} {w:World} {K:W.Frag} {mg mb:Str→Option Value} {CX:CXT} {k:Nat} {fa a:Addr} {fd:FuncData} {x:Str} {sp:Sp} {s₁:Shared} {vs:List Value} {ns:List Int}
  (KX:K.In s₁.heap) (hns:s₁.heap.Ns mainGlobals mg) (hb:s₁.heap.Ns builtinsNs mb) (hbb:∀ x:Str,x≠"__name__"→mb x=bootBuiltins x) (Zpa:s₁.heap.NoLimit) (hg:s₁.gens = #[])
  (ha:s₁.heap.get? a=some { cls:=.type "list",data:=.seq vs.toArray }) (hi:IntsAre vs ns) (hl:ns.length≤sizeLine) (hr:Vs k callerA)
  (F:∀ base:Heap,K.In base→base.Ns mainGlobals mg→Yp P w K mg base CX k fa fd [x] sp) (Ziw:∀ (s:Shared) (u:Value),BindsTo s fd ⟨[u],[]⟩ [(x,u)])
  (hsp:∀ H:Hp,Zp9 H→SqL K H a (ns.map V.int)→sp [.ref a] H (λv _=>v=.bl true) λ_ _ _=>False)
  (hCX:∀ H e s',CX [] H s₁ (λ_ _ _=>False) e s'→False) :
  codeAny (model P w) callerA (.call (.ref fa) ⟨[.ref a],[]⟩) (λr s'=>r=.ok (.ret (.bool true))∧OldK s₁.heap s'.heap∧s'.os=s₁.os∧AllBare s'.gens) s₁:=by
 have rv:=P0 hi
 have Zow:=hi.length
 have core:∀ H:Hp,Zp9 H→SqL K H a (ns.map V.int)→HOk P w H s₁.heap→(∀ b,H b≠none→b=a)→(H a≠none→K.lookup a=none)→
   codeAny (model P w) callerA (.call (.ref fa) ⟨[.ref a],[]⟩) (λr s'=>r=.ok (.ret (.bool true))∧OldK s₁.heap s'.heap∧s'.os=s₁.os∧AllBare s'.gens) s₁:=by
  intro H hO hS hok hA hK
  have Oo:∀ {b:Addr} {o:Obj},s₁.heap.get? b=some o→H b=none→(Nc s₁.heap H).get? b=some o:=λe n=>Zac e n
  have noA:∀ {b:Addr} {o:Obj} {es:Array DictEntry} {ep:Nat},s₁.heap.get? b=some o→o.data=.dict es ep→H b=none:=λ{b o es ep} e d=>by
   cases q:H b with
   | none=>rfl
   | some u=>
    have e':b=a:=hA b (by rw [q]; simp)
    subst e'
    rw [ha] at e; cases e
    have d':Data.seq vs.toArray _=Data.dict es ep:=d
    cases d'
  have nsK:∀ {b:Addr} {m:Str→Option Value},s₁.heap.Ns b m→(Nc s₁.heap H).Ns b m:=λ{b m} ⟨o,es,ep,e,d,r⟩=>⟨o,es,ep,Oo e (noA e d),d,r⟩
  have hKb:K.In (Nc s₁.heap H):=λb o e=>Oo (KX b o e) (by
   cases q:H b with
   | none=>rfl
   | some u=>
    have e':b=a:=hA b (by rw [q]; simp)
    subst e'
    rw [hK (by rw [q]; simp)] at e; cases e)
  have hM:Mod K mg (Nc s₁.heap H):=⟨hKb,nsK hns,⟨mb,nsK hb,hbb⟩,let ⟨mc,h1,h2⟩:=Zpa; ⟨mc,nsK h1,h2⟩⟩
  have e0:Zda P w K mg (Nc s₁.heap H) callerA [] s₁ H:=⟨rfl,hM,λb o e=>Zd1 e,Nat.le_of_eq (Ef _ _),trivial,λb hb=>absurd (show b∈([]:List Addr) from hb) (by simp),hok,.of_eq hg⟩
  refine codeAny_mono ((F _ hKb (nsK hns)).run callerA [] s₁ H ⟨[.ref a],[]⟩ [.ref a] [.ref a] _ _ hr e0 (Ziw s₁ (.ref a)) (.cons rfl .nil) (hsp H hO hS)) λr s' h=>?_
  cases r with
  | error e=>exact (hCX H e s' h).elim
  | ok fl=>
   cases fl with
   | next=>exact False.elim h
   | brk=>exact False.elim h
   | cont=>exact False.elim h
   | ret u=>
    obtain ⟨v,H',os,bare,un,Zll,r',q⟩:=h
    have q':v=.bl true:=q
    subst q'
    obtain rfl:u=Value.bool true:=r'
    refine ⟨rfl,OldK.of_keep λb o e=>?_,os,bare⟩
    cases q:H b with
    | none=>exact un.keep b o e q (by intro z; exact absurd (show b∈([]:List Addr) from z) (by simp)) (by simp)
    | some u=>
     rcases hO b with z | ⟨ob,xs,z⟩
     ·rw [q] at z; cases z
     ·have z2:=un.Hr b ob _ z
      obtain ⟨e1,_⟩:=hok b _ z
      obtain ⟨e2,_⟩:=Zll b _ z2
      rw [e] at e1; cases e1
      exact e2
 cases hk:K.lookup a with
 | some o=>
  have e:=KX a o hk
  rw [ha] at e
  cases e
  refine core (λ_=>none) (λ_=>.inl rfl) (.inr ⟨_,vs.toArray,_,hk,rfl,rfl,rfl,by rw [List.size_toArray,Zow]; exact hl,by simpa using rv⟩) (λb u z=>by have z':(none:Option HO)=some u:=z; cases z') (λb z=>absurd rfl z) λz=>absurd rfl z
 | none=>
  refine core (λb=>if b=a then some (.frz { cls:=.type "list",data:=.seq vs.toArray } (.lst (ns.map V.int))) else none) (λb=>?_) (.inl (.inr ⟨{ cls:=.type "list",data:=.seq vs.toArray },if_pos rfl⟩)) (λb u z=>?_) (λb z=>?_) λ_=>hk
  ·by_cases hb:b=a
   ·exact .inr ⟨_,_,if_pos hb⟩
   ·exact .inl (if_neg hb)
  ·by_cases hb:b=a
   ·have z':=(if_pos hb).symm.trans z
    cases z'
    subst hb
    exact ⟨ha,by rw [List.length_map]; exact hl,vs,_,rv,ha⟩
   ·have z':=(if_neg hb).symm.trans z
    cases z'
  ·by_cases hb:b=a
   ·exact hb
   ·exact absurd (if_neg hb) z
end L2
namespace L2
open PySem PySem.Spec PyProof.Rows
abbrev KOf {K:W.Frag} {h:Heap} (_:K.In h):W.Frag:=K
theorem Zka {l:W.OpenLaw} {n k:Nat} {q:Program} {loose:List Str} {XP:(Str→Option Value)→Heap→Prop} {YP:World→Heap→Prop} {d:DefRec} {K:Params→W.Frag} {CX:World→CXT} {sp:World→Sp} {x:Str}
  (hn:l.most=some n) (hn2:n≤sizeLine) (hdf:d.params.defaults=[]) (hr:Vs k callerA)
  (hY:∀ (w:World) (h:Heap),YP w h→(K w.params).In h)
  (F:∀ (w:World) (mg:Str→Option Value) (fa:Addr) (h:Heap),(K w.params).In h→h.Ns mainGlobals mg→mg d.name=some (.ref fa)→
   ∃ fd:FuncData,(∀ (s:Shared) (u:Value),BindsTo s fd ⟨[u],[]⟩ [(x,u)])∧
    ∀ base:Heap,(K w.params).In base→base.Ns mainGlobals mg→Yp l.prog w (K w.params) mg base (CX w) k fa fd [x] (sp w))
  (hsp:∀ (w:World) (H:Hp) (a:Addr) (ns:List Int),ns.length≤n→Zp9 H→SqL (K w.params) H a (ns.map V.int)→sp w [.ref a] H (λv _=>v=.bl true) λ_ _ _=>False)
  (hCX:∀ (w:World) (H:Hp) (s:Shared) (e:Value) (s':Shared),CX w [] H s (λ_ _ _=>False) e s'→False) :
  W.WalkO q loose XP YP l.row.toRowW d [] (λf vs=>PySem.call f vs):=by
 refine Att.Kf hn hdf λw s₀ s₁ mg mb fa o pm cd doc a vs ns G Y ho hd hcd hmg Ziq hints hlen hg=>?_
 have KX:=hY w _ Y
 obtain ⟨fd,hb,hF⟩:=F w mg fa _ KX G.T.g hmg
 exact Zid KX G.T.g G.T.b G.T.builtins G.T.nolimit hg Ziq hints (Nat.le_trans hlen hn2) hr hF hb (λH hO hS=>hsp w H a ns hlen hO hS) λH e s'=>hCX w H s₁ e s'
end L2
/- THE LAST THEOREM (shape; LID,My.* are yours):
   My.Adr: a structure of the addresses that your layer names (classes,Zqd); My.Txt K t: a structure (Prop) of the equations over K;
   My.Znk:{K} {implicit addresses ..} (e1:nsIn K mainGlobals "law" = some (some (.ref f))) (e2:K.lookup f=some ⟨oc,od,.func (fnOf "law" "law" params body scope dV kV doc pm an cdv ct),sl⟩) (e3:codeIn K cdv "law" = true) .. : ∃ t,My.Txt K t
set_option maxRecDepth 100000 in
set_option maxHeartbeats 0 in
theorem PySem.Challenge.Zly : PySem.Challenge.Zn5.Holds := by
 w_on; o_law; k_head; (case hw=>w_witness2)
 k_fill
 refine L2.Zka (l:=PySem.Challenge.Zn5) (n:=63) (k:=40) (x:="script") (CX:=λw=>..) (sp:=λ_=>My.sp_law) rfl (by decide) rfl ⟨rfl,by decide,by decide⟩ (λw h Y=>W.kIn_of Y) ?F ?S ?C
 case F=>
  intro w mg fa h KX G hmg
  have T:∃ t,My.Txt (L2.KOf KX) t:=by
   dsimp only [L2.KOf]                          -- K must stand as «<heap const> w.params» for k_is
   refine' My.Znk ?e1 ?e2 ?e3 ..
   (case e1=>W.k_is)                    -- in the order: a name -> its address -> its object -> its parts
   (case e2=>W.k_is)
   ..
  obtain ⟨t,T⟩:=T
  have e0:=hmg.symm.trans (W.mg_of KX G T.law)
  cases e0                                       -- fa is the law's own address
  exact ⟨_,λs u=>.of_eq rfl,λbase kb nb=>My.Zox T kb nb⟩     -- if «.of_eq rfl» comes too early: refine' ⟨_,?b,λbase kb nb=>My.Zox T kb nb⟩; exact λs u=>.of_eq rfl
 case S=>exact λw H a ns hl hO hS=>..
 case C=>exact ..
(the tactic k_is has no namespace: write k_is) -/
namespace L2
open PySem PySem.Spec PyProof.Rows
def Zy (s:Stmt):Arguments:=match s with
 | .FunctionDef _ a _ _ _ _ _ _ _ _=>a
 | _=>{ posonlyargs:=[],args:=[],vararg:=none,kwonlyargs:=[],kw_defaults:=[],kwarg:=none,defaults:=[] }
def Zx (s:Stmt):List Stmt:=match s with
 | .FunctionDef _ _ b _ _ _ _ _ _ _=>b
 | _=>[]
def Zf (s:Stmt):Scope:=match s with
 | .FunctionDef _ _ _ _ _ _ sc _ _ _=>sc
 | _=>{ kind:=.function,names:=[],isGenerator:=false,isCoroutine:=false }
abbrev CX0:CXT:=λ_ _ _ _ _ _=>False
abbrev E0:XK:=λ_ _ _=>False
theorem Zmy {X:Cx}:Passes CX0 X E0:=λ_ _ _ _ _ _ _ h=>h.elim
structure Fun (K:W.Frag) (x qual:Str) (st:Stmt) (f:Addr) (fd:FuncData):Prop where
 ex:∃ (oc:Value) (od:Option Addr) (kV doc pm:Value) (an:Option Addr) (cdv ct:Value) (osl:Array (Option Value)),
  fd=W.fnOf x qual (Zy st) (Zx st) (Zf st) .none kV doc pm an cdv ct∧K.lookup f=some ⟨oc,od,.func fd,osl⟩∧W.codeIn K cdv qual=true
 kp:W.keepIn K (.ref f)=true
section
variable {P:Program} {w:World} {K:W.Frag} {mg:Str→Option Value} {base:Heap}
theorem Fun.ok {x qual:Str} {st:Stmt} {f:Addr} {fd:FuncData} {N ps:List Str} {k:Nat} {sp:Sp} (F:Fun K x qual st f fd) (S:Z0 N ps (Zf st)) (len:∀ vs H Q E,sp vs H Q E→vs.length=ps.length)
  (Mp:∀ (cdv:Value) (A:Around) (outer:List Env) (s:Shared) (H:Hp) (vs:List V) (Q:VK) (E:XK),Vs k (A.deeper (envOfC qual (Zf st) s.heap.objs.size f cdv))→sp vs H Q E→
   ∃ t,PSs (Zcr CX0 P w K mg base N qual (Zf st) f cdv A outer s H E).nox (Zx st) t∧t { nx:=λ_ H'=>Q .non H',rt:=Q } (start N vs) H):Yp P w K mg base CX0 (k+1) f fd ps sp:=by
 obtain ⟨oc,od,kV,doc,pm,an,cdv,ct,osl,rfl,lk,hcd⟩:=F.ex
 refine Zm8 lk hcd S len λA outer s H vs Q E hr hsp=>?_
 obtain ⟨t,h,q⟩:=Mp cdv A outer s H vs Q E hr hsp
 exact ⟨t,h.nox,q⟩
theorem Fun.binds {x qual:Str} {st:Stmt} {f:Addr} {fd:FuncData} {ps:List Str} (F:Fun K x qual st f fd)
  (h:∀ (kV doc pm:Value) (an:Option Addr) (cdv ct:Value) (us:List Value),us.length=ps.length→bindArgs (W.fnOf x qual (Zy st) (Zx st) (Zf st) .none kV doc pm an cdv ct) ⟨us,[]⟩=pure (ps.zip us)):Binds K fd ps []:=by
 obtain ⟨oc,od,kV,doc,pm,an,cdv,ct,osl,rfl,lk,hcd⟩:=F.ex
 exact .all (h kV doc pm an cdv ct)
theorem Ye {x qual:Str} {st:Stmt} {f:Addr} {oc:Value} {od an:Option Addr} {osl:Array (Option Value)} {kV doc pm cdv ct:Value} (l:K.lookup f=some ⟨oc,od,.func (W.fnOf x qual (Zy st) (Zx st) (Zf st) .none kV doc pm an cdv ct),osl⟩)
  (c:W.codeIn K cdv qual=true) (k:W.keepIn K (.ref f)=true):Fun K x qual st f (W.fnOf x qual (Zy st) (Zx st) (Zf st) .none kV doc pm an cdv ct):=⟨⟨oc,od,kV,doc,pm,an,cdv,ct,osl,rfl,l,c⟩,k⟩
end
theorem Vt {A:Around} {k:Nat} (hr:Vs k A):A.units+1 < cLine:=Nat.lt_of_le_of_lt (Nat.add_le_add_left (by decide:1≤64) _) hr.units
theorem Zt {n:Nat} (h:n≤1000):n < sizeLine:=Nat.lt_of_le_of_lt h (by decide)
section
variable {X:Cx}
theorem pv (i:Nat) {x:Str} {pos:Pos} (hN:X.N[i]? = some x:=by rfl) (hv:Vis X.env.scope x:=by first | exact Or.inl rfl | exact Or.inr (Or.inl rfl) | exact Or.inr (Or.inr rfl)) (hd:(x==("__debug__" : Str))=false:=by decide)
  (hcd:(x==("__classdict__" : Str))=false:=by decide):PE X (.Name x pos) (M7 i):=Zhp hN hv hd hcd
end
theorem Sb {A B:Prop} (h:B):if false=true then A else B:=by
 rw [if_neg Bool.false_ne_true]
 exact h
theorem Mo {A B:Prop} (h:A):if true=true then A else B:=by
 rw [if_pos rfl]
 exact h
theorem V9 {c A B:Prop} [Decidable c] (h1:c→A) (h2:¬ c→B):if c then A else B:=by
 by_cases h:c
 ·rw [if_pos h]
  exact h1 h
 ·rw [if_neg h]
  exact h2 h
theorem Zec {c A B:Prop} [Decidable c] (hc:c) (h:B):if (!decide c)=true then A else B:=by
 rw [decide_eq_true hc]
 exact Sb h
def Zo (H H':Hp):Prop:=∀ b o,H b=some o→H' b=some o
theorem Zo.refl (H:Hp):Zo H H:=λ_ _ h=>h
theorem Zo.trans {H H1 H2:Hp} (a:Zo H H1) (b:Zo H1 H2):Zo H H2:=λc o h=>b c o (a c o h)
theorem Zo.free {H H':Hp} (e:Zo H H') {l:Addr} (h:H' l=Option.none):H l=Option.none:=by
 cases q:H l with
 | none=>rfl
 | some o=>
  rw [e l o q] at h
  cases h
end L2
namespace L2
open PySem PySem.Spec PyProof.Rows
section
variable {κ:Type} [DecidableEq κ]
def X8 (kvs:List (κ × V)) (k:κ):Option V:=(kvs.find? λkv=>decide (kv.1=k)).map (·.2)
def putK (kvs:List (κ × V)) (k:κ) (v:V):List (κ × V):=
 if (kvs.any λkv=>decide (kv.1=k))=true then kvs.map (λkv=>if kv.1=k then (kv.1,v) else kv) else kvs ++ [(k,v)]
theorem Zgm {k:κ}:X8 ([]:List (κ × V)) k=none:=rfl
theorem Xq {p:κ × V} {r:List (κ × V)} {k:κ} (e:p.1=k):X8 (p :: r) k=some p.2:=by simp [X8,List.find?_cons,e]
theorem Y1 {p:κ × V} {r:List (κ × V)} {k:κ} (e:¬ p.1=k):X8 (p :: r) k=X8 r k:=by simp [X8,List.find?_cons,e]
theorem Qc (k:κ):∀ kvs:List (κ × V),(kvs.any λkv=>decide (kv.1=k))=(X8 kvs k).isSome
 | []=>rfl
 | p :: r=>by
  rw [List.any_cons]
  by_cases e:p.1=k
  ·simp only [Xq e,decide_eq_true e,Bool.true_or,Option.isSome_some]
  ·rw [Y1 e,decide_eq_false e,Bool.false_or]; exact Qc k r
theorem Bi (k j:κ) (y:V):∀ kvs:List (κ × V),X8 (kvs.map λkv=>if kv.1=k then (kv.1,y) else kv) j=(X8 kvs j).map λx=>if j=k then y else x
 | []=>rfl
 | p :: r=>by
  have ih:=Bi k j y r
  rw [List.map_cons]
  by_cases h:p.1=k
  ·rw [if_pos h]
   by_cases e:p.1=j
   ·rw [Xq (p:=(p.1,y)) e,Xq e,Option.map_some,if_pos (e.symm.trans h)]
   ·rw [Y1 (p:=(p.1,y)) e,Y1 e,ih]
  ·rw [if_neg h]
   by_cases e:p.1=j
   ·rw [Xq (p:=p) e,Xq e,Option.map_some,if_neg (λz=>h (e.trans z))]
   ·rw [Y1 (p:=p) e,Y1 e,ih]
theorem Fo (k j:κ) (y:V):∀ kvs:List (κ × V),X8 kvs k=none→X8 (kvs ++ [(k,y)]) j=if j=k then some y else X8 kvs j
 | [],_=>by
  by_cases e:k=j
  ·rw [if_pos e.symm]; exact Xq (p:=(k,y)) e
  ·rw [if_neg (λz=>e z.symm)]; exact Y1 (p:=(k,y)) e
 | p :: r,hn=>by
  rw [List.cons_append]
  have hk:¬ p.1=k:=λz=>by rw [Xq z] at hn; cases hn
  rw [Y1 hk] at hn
  have ih:=Fo k j y r hn
  by_cases e:p.1=j
  ·rw [Xq e,Xq e,if_neg (λz=>hk (e.trans z))]
  ·rw [Y1 e,Y1 e,ih]
theorem Zgl (kvs:List (κ × V)) (k j:κ) (y:V):X8 (putK kvs k y) j=if j=k then some y else X8 kvs j:=by
 unfold putK
 by_cases a:(kvs.any λkv=>decide (kv.1=k))=true
 ·rw [if_pos a,Bi]
  rw [Qc] at a
  by_cases e:j=k
  ·obtain ⟨x,hx⟩:=Option.isSome_iff_exists.mp a
   rw [if_pos e,e,hx,Option.map_some,if_pos rfl]
  ·rw [if_neg e]
   cases X8 kvs j with
   | none=>rfl
   | some x=>rw [Option.map_some,if_neg e]
 ·rw [if_neg a]
  refine Fo k j y kvs ?_
  rw [Qc] at a
  cases q:X8 kvs k with
  | none=>rfl
  | some x=>rw [q] at a; exact (a rfl).elim
theorem V8 (kvs:List (κ × V)) (k:κ) (v:V):(putK kvs k v).length≤kvs.length+1:=by
 unfold putK
 split
 ·rw [List.length_map]; omega
 ·rw [List.length_append,List.length_cons,List.length_nil]; omega
theorem Qn {kvs:List (κ × V)} {k:κ} (v:V) (h:X8 kvs k=none):putK kvs k v=kvs ++ [(k,v)]:=by
 unfold putK
 rw [Qc,h]
 exact if_neg (by decide)
theorem L3.Ls {o:Option V} {u:Option Value} (r:L3 o u):o.isSome=u.isSome:=by
 cases o with
 | none=>cases u with
  | none=>rfl
  | some _=>exact (show False from r).elim
 | some _=>cases u with
  | none=>exact (show False from r).elim
  | some _=>rfl
theorem KV.val {kvs:List (κ × V)} {vs:List (κ × Value)} (r:KV kvs vs) (k:κ):L3 (X8 kvs k) (valueAt vs k):=by
 unfold KV at r
 induction r with
 | nil=>exact True.intro
 | @cons p q ps qs h t ih=>
  obtain ⟨h1,h2⟩:=h
  by_cases e:p.1=k
  ·have e':q.1=k:=h1.symm.trans e
   have b:valueAt (q :: qs) k=some q.2:=by simp [valueAt,List.find?_cons,e']
   rw [Xq e,b]; exact h2
  ·have e':¬ q.1=k:=λz=>e (h1.trans z)
   have b:valueAt (q :: qs) k=valueAt qs k:=by simp [valueAt,List.find?_cons,e']
   rw [Y1 e,b]; exact ih
theorem KV.any {kvs:List (κ × V)} {vs:List (κ × Value)} (r:KV kvs vs) (k:κ):(kvs.any λkv=>decide (kv.1=k))=vs.any λkv=>decide (kv.1=k):=by
 unfold KV at r
 induction r with
 | nil=>rfl
 | cons h t ih=>rw [List.any_cons,List.any_cons,ih,h.1]
theorem KV.Zn7 {kvs:List (κ × V)} {vs:List (κ × Value)} (r:KV kvs vs) (k:κ) {y:V} {u:Value} (ry:RelV y u) :
  KV (kvs.map λkv=>if kv.1=k then (kv.1,y) else kv) (vs.map λkv=>if kv.1=k then (kv.1,u) else kv):=by
 unfold KV at r ⊢
 induction r with
 | nil=>exact .nil
 | @cons p q ps qs h t ih=>
  rw [List.map_cons,List.map_cons]
  refine .cons ?_ ih
  obtain ⟨h1,h2⟩:=h
  by_cases e:p.1=k
  ·rw [if_pos e,if_pos (h1.symm.trans e)]; exact ⟨h1,ry⟩
  ·rw [if_neg e,if_neg (λz=>e (h1.trans z))]; exact ⟨h1,h2⟩
theorem KV.put {kvs:List (κ × V)} {vs:List (κ × Value)} (r:KV kvs vs) (k:κ) {y:V} {u:Value} (ry:RelV y u):KV (putK kvs k y) (stored vs k u):=by
 unfold putK stored
 rw [r.any k]
 by_cases e:(vs.any λkv=>decide (kv.1=k))=true
 ·rw [if_pos e,if_pos e]; exact r.Zn7 k ry
 ·rw [if_neg e,if_neg e]; exact Paired.snoc r ⟨rfl,ry⟩
theorem KV.length {kvs:List (κ × V)} {vs:List (κ × Value)} (r:KV kvs vs):kvs.length=vs.length:=Paired.length r
end
theorem A9 {P:Program} {w:World} {k:Key} {u:Value} (r:RelV (kV k) u):(Ys P w).is k u=true:=by
 cases k with
 | inl i=>obtain ⟨t,e⟩:=(show ∃ t,u=Value.int i t from r); subst e; exact As P w i t
 | inr x=>obtain ⟨t,e⟩:=(show ∃ t,u=Value.str x t from r); subst e; exact Ar P w x t
theorem Ed {P:Program} {w:World}:∀ {ks:List Key} {us:List Value},Vals (ks.map kV) us→ItemsAre (Ys P w) ks us
 | [],_,r=>by rw [List.map_nil] at r; cases r; exact .nil
 | k :: ks,_,r=>by
  rw [List.map_cons] at r
  cases r with
  | cons h t=>exact .cons (A9 h) (Ed t)
abbrev KT (H:Hp):List (List Key × V)→List (List Key × Addr × Value)→Prop:=Paired λp q=>p.1=q.1∧H q.2.1=some (.tup (p.1.map kV))∧RelV p.2 q.2.2
theorem KT.val {H:Hp} {kvs:List (List Key × V)} {xs:List (List Key × Addr × Value)} (r:KT H kvs xs) (k:List Key):L3 (X8 kvs k) ((atKey xs k).map (·.2)):=by
 induction r with
 | nil=>exact True.intro
 | @cons p q ps qs h t ih=>
  obtain ⟨h1,_,h2⟩:=h
  by_cases e:p.1=k
  ·have e':q.1=k:=h1.symm.trans e
   have b:atKey (q :: qs) k=some q.2:=by simp [atKey,List.find?_cons,e']
   rw [Xq e,b]; exact h2
  ·have e':¬ q.1=k:=λz=>e (h1.trans z)
   have b:atKey (q :: qs) k=atKey qs k:=by simp [atKey,List.find?_cons,e']
   rw [Y1 e,b]; exact ih
theorem KT.Zn7 {H:Hp} {kvs:List (List Key × V)} {xs:List (List Key × Addr × Value)} (r:KT H kvs xs) (k:List Key) {y:V} {u:Value} (ry:RelV y u) :
  KT H (kvs.map λkv=>if kv.1=k then (kv.1,y) else kv) (xs.map (putAt k u)):=by
 induction r with
 | nil=>exact .nil
 | @cons p q ps qs h t ih=>
  rw [List.map_cons,List.map_cons]
  refine .cons ?_ ih
  obtain ⟨h1,h2,h3⟩:=h
  unfold putAt
  by_cases e:p.1=k
  ·rw [if_pos e,if_pos (h1.symm.trans e)]; exact ⟨h1,h2,ry⟩
  ·rw [if_neg e,if_neg (λz=>e (h1.trans z))]; exact ⟨h1,h2,h3⟩
theorem KT.put {H:Hp} {kvs:List (List Key × V)} {xs:List (List Key × Addr × Value)} (r:KT H kvs xs) (k:List Key) {b:Addr} {y:V} {u:Value} (hb:H b=some (.tup (k.map kV))) (ry:RelV y u) :
  KT H (putK kvs k y) (storedH xs k b u):=by
 have e:(kvs.any λkv=>decide (kv.1=k))=(atKey xs k).isSome:=by
  rw [Qc,(r.val k).Ls,Option.isSome_map]
 unfold putK storedH
 rw [e]
 by_cases q:(atKey xs k).isSome=true
 ·rw [if_pos q,if_pos q]; exact r.Zn7 k ry
 ·rw [if_neg q,if_neg q]; exact Paired.snoc r ⟨rfl,hb,ry⟩
theorem KT.keeps {H H':Hp} {kvs:List (List Key × V)} {xs:List (List Key × Addr × Value)} (r:KT H kvs xs) (ht:∀ b ys,H b=some (.tup ys)→H' b=some (.tup ys)):KT H' kvs xs:=
 Paired.Zop r λ_ _ z=>⟨z.1,ht _ _ z.2.1,z.2.2⟩
section
variable {P:Program} {w:World} {H:Hp} {h:Heap} {a:Addr}
theorem Zml {u:HO} (ok:HOk P w H h) (e:Rd H a u):Yx P w H h a u:=e.ok ok
theorem Ej {kvs:List (Key × V)} (ok:HOk P w H h) (e:Rd H a (.dK kvs)):kvs.length≤sizeLine∧(a==sysModules)=false∧∃ vs,KV kvs vs∧h.DictOf (Ys P w) a vs:=
 show Yx P w H h a (.dK kvs) from Zml ok e
theorem Zna {kvs:List (Key × V)} (ok:HOk P w H h) (e:H a=some (.dK kvs)):kvs.length≤sizeLine∧(a==sysModules)=false∧∃ vs,KV kvs vs∧h.DictOf (Ys P w) a vs:=Ej ok (.inl e)
theorem Lr {ks:List Key} (ok:HOk P w H h) (e:H a=some (.tup (ks.map kV))):(tupleKind (Ys P w)).is h ks a:=by
 obtain ⟨_,its,r,o,h1,h2,n,h3⟩:=(show Yx P w H h a (.tup (ks.map kV)) from ok a _ e)
 exact ⟨o,its.toArray,n,h1,h2,h3,by simpa using Ed r⟩
theorem Ei {kvs:List (List Key × V)} (ok:HOk P w H h) (e:Rd H a (.dT kvs)):kvs.length≤sizeLine∧(a==sysModules)=false∧
  ∃ xs,KT H kvs xs∧h.DictOfH (tupleKind (Ys P w)) a xs:=by
 obtain ⟨z,y,xs,r,o,es,ep,h1,h2,h3,h4,h5⟩:=(show Yx P w H h a (.dT kvs) from Zml ok e)
 refine ⟨z,y,xs,r,o,es,ep,h1,h2,h3,h4,λx hx=>?_,h5⟩
 have all:∀ {l:List (List Key × V)} {m:List (List Key × Addr × Value)},KT H l m→∀ x∈m,(tupleKind (Ys P w)).is h x.1 x.2.1:=by
  intro l m q
  induction q with
  | nil=>intro x hx; exact nomatch hx
  | @cons p q ps qs hq t ih=>
   intro x hx
   rcases List.mem_cons.mp hx with e | hx
   ·subst e
    exact Lr ok (by rw [← hq.1]; exact hq.2.1)
   ·exact ih x hx
 exact all r x hx
theorem Zjc {kvs:List (List Key × V)} (ok:HOk P w H h) (e:H a=some (.dT kvs)):kvs.length≤sizeLine∧(a==sysModules)=false∧
  ∃ xs,KT H kvs xs∧h.DictOfH (tupleKind (Ys P w)) a xs:=Ei ok (.inl e)
end
def Pr (H:Hp) (a:Addr) (y:V) (r:Option V):Prop:=
 (∃ kvs k,Rd H a (.dK kvs)∧y=kV k∧r=X8 kvs k)∨∃ kvs k b,Rd H a (.dT kvs)∧y=.ref b∧H b=some (.tup (k.map kV))∧r=X8 kvs k
def Fj (H:Hp) (a:Addr) (y v:V) (H':Hp):Prop:=
 (∃ kvs k,H a=some (.dK kvs)∧y=kV k∧kvs.length < sizeLine∧H'=upd H a (.dK (putK kvs k v)))∨
 ∃ kvs k b,H a=some (.dT kvs)∧y=.ref b∧H b=some (.tup (k.map kV))∧kvs.length < sizeLine∧H'=upd H a (.dT (putK kvs k v))
theorem Pr.k {H:Hp} {a:Addr} {kvs:List (Key × V)} {k:Key} (e:H a=some (.dK kvs)):Pr H a (kV k) (X8 kvs k):=.inl ⟨kvs,k,.inl e,rfl,rfl⟩
theorem Pr.t {H:Hp} {a b:Addr} {kvs:List (List Key × V)} {k:List Key} (e:H a=some (.dT kvs)) (eb:H b=some (.tup (k.map kV))):Pr H a (.ref b) (X8 kvs k):=.inr ⟨kvs,k,b,.inl e,rfl,eb,rfl⟩
theorem Fj.k {H:Hp} {a:Addr} {kvs:List (Key × V)} {k:Key} {v:V} (e:H a=some (.dK kvs)) (hl:kvs.length < sizeLine):Fj H a (kV k) v (upd H a (.dK (putK kvs k v))):=.inl ⟨kvs,k,e,rfl,hl,rfl⟩
theorem Fj.t {H:Hp} {a b:Addr} {kvs:List (List Key × V)} {k:List Key} {v:V} (e:H a=some (.dT kvs)) (eb:H b=some (.tup (k.map kV))) (hl:kvs.length < sizeLine) :
  Fj H a (.ref b) v (upd H a (.dT (putK kvs k v))):=.inr ⟨kvs,k,b,e,rfl,eb,hl,rfl⟩
section
variable {X:Cx} {pins:List (Addr × Obj)} {σ:St} {H:Hp} {s:Shared} {a:Addr} {y v:V} {u r:Value} {o:Option V} {A:Around} {E:Value→Shared→Prop}
theorem Inv.big (I:Inv X pins σ H s):sysModules < s.heap.objs.size:=by
 have h:mainGlobals < s.heap.objs.size:=(I.mod.glob.keeps I.bk).lt
 exact Nat.lt_trans (by decide) h
theorem Zf3 {Q:Value→Shared→Prop} (hu:A.units+1 < cLine) (I:Inv X pins σ H s) (g:Pr H a y (some v)) (ry:RelV y u) (h:∀ w' s',Inv X pins σ H s'→RelV v w'→Q w' s') :
  wpAny (model X.prog X.w) A (getItem (.ref a) u) Q E s:=by
 rcases g with ⟨kvs,k,e,ey,l⟩ | ⟨kvs,k,b,e,ey,eb,l⟩
 ·subst ey
  obtain ⟨z,hd,vs,rel,dd⟩:=Ej I.hok e
  obtain ⟨w',hw,rw'⟩:=L3.some_of (v:=v) (o:=valueAt vs k) (by rw [l]; exact rel.val k)
  exact wpAny_getItem_of (A9 ry) dd.mapOf hw (h w' _ (I.tok _) rw')
 ·subst ey
  cases (show u=Value.ref b from ry)
  obtain ⟨z,hd,xs,rel,dd⟩:=Ei I.hok e
  obtain ⟨w',hw,rw'⟩:=L3.some_of (v:=v) (o:=(atKey xs k).map (·.2)) (by rw [l]; exact rel.val k)
  obtain ⟨p,hp,hp2⟩:=Option.map_eq_some_iff.mp hw
  refine wpAny_getItem_heap (tupleKind_room_in1 hu) (Lr I.hok eb) dd hp ?_
  rw [hp2]
  exact h w' _ (I.tok _) rw'
theorem Zlw {Q:Value→Shared→Prop} (hu:A.units+1 < cLine) (I:Inv X pins σ H s) (g:Pr H a y o) (ry:RelV y u) (h:∀ s',Inv X pins σ H s'→Q (.bool (!o.isSome)) s') :
  wpAny (model X.prog X.w) A (compareOp .NotIn u (.ref a)) Q E s:=by
 rcases g with ⟨kvs,k,e,ey,l⟩ | ⟨kvs,k,b,e,ey,eb,l⟩
 ·subst ey
  obtain ⟨z,hd,vs,rel,dd⟩:=Ej I.hok e
  refine wpAny_notIn_of (A9 ry) hd dd.mapOf ?_
  rw [← (rel.val k).Ls,← l]
  exact h _ (I.tok _)
 ·subst ey
  cases (show u=Value.ref b from ry)
  obtain ⟨z,hd,xs,rel,dd⟩:=Ei I.hok e
  refine wpAny_notIn_heap (tupleKind_room_in1 hu) (Lr I.hok eb) hd dd ?_
  have q:=(rel.val k).Ls
  rw [Option.isSome_map] at q
  rw [← q,← l]
  exact h _ (I.tok _)
theorem Oh {h':Heap} {t':Nat} {ob:HO} (I:Inv X pins σ H s) (mu:Mut (H a)) (hs:Heap.SameBut a s.heap h') (he:∃ q,h'.get? a=some q) (new:Yx X.prog X.w (upd H a ob) h' a ob) :
  Inv X pins σ (upd H a ob) { s with heap:=h',toks:=t' }:=
 I.write (x:=a) (e:=a) mu (.inl rfl) (λb q hb z=>(hs.2 b hb).trans z) he new
theorem Zjg {P:Program} {w:World} {H':Hp} {h':Heap} {kvs:List (Key × V)} {vs:List (Key × Value)} (z:kvs.length≤sizeLine) (hd:(a==sysModules)=false) (rel:KV kvs vs) (dd:h'.DictOf (Ys P w) a vs) :
  Yx P w H' h' a (.dK kvs):=⟨z,hd,vs,rel,dd⟩
theorem Zf2 {H':Hp} {Q:Unit→Shared→Prop} (hu:A.units+1 < cLine) (I:Inv X pins σ H s) (g:Fj H a y v H') (ry:RelV y u) (rv:RelV v r) (h:∀ s',Inv X pins σ H' s'→Q () s') :
  wpAny (model X.prog X.w) A (setItem (.ref a) u r) Q E s:=by
 rcases g with ⟨kvs,k,e,ey,l,eH⟩ | ⟨kvs,k,b,e,ey,eb,l,eH⟩
 ·subst ey eH
  obtain ⟨z,hd,vs,rel,dd⟩:=Zna I.hok e
  have hz:vs.length≤sizeLine:=by rw [← rel.length]; exact z
  have hl:(putK kvs k v).length≤sizeLine:=by have:=V8 kvs k v; omega
  refine wpAny_setItem_pairs (hsz:=hz) (A9 ry) dd λh' dd' hs=>h _ ?_
  have he:∃ q,h'.get? a=some q:=let ⟨q,_,_,hq,_⟩:=dd'; ⟨q,hq⟩
  exact Oh I (by rw [e]; exact True.intro) hs he (Zjg hl hd (rel.put k rv) dd')
 ·subst ey eH
  cases (show u=Value.ref b from ry)
  obtain ⟨z,hd,xs,rel,dd⟩:=Zjc I.hok e
  have hz:xs.length≤sizeLine:=by rw [← Paired.length rel]; exact z
  have hl:(putK kvs k v).length≤sizeLine:=by have:=V8 kvs k v; omega
  refine wpAny_setItem_heap (hsz:=hz) (tupleKind_room_in1 hu) (Lr I.hok eb) dd λh' dd' hs=>h _ ?_
  obtain ⟨q,es,ep,hq,h2,h3,h4,_,h5⟩:=dd'
  refine Oh I (by rw [e]; exact True.intro) hs ⟨q,hq⟩ ⟨hl,hd,_,(rel.put k eb rv).keeps λc ys ec=>?_,q,es,ep,hq,h2,h3,h4,h5⟩
  rw [Zj (Wb ec e (λz=>nomatch z))]
  exact ec
end
section
variable {X:Cx} {pins:List (Addr × Obj)} {σ:St} {H:Hp} {s:Shared} {a:Addr} {kvs:List (Key × V)} {k:Key} {u:Value} {A:Around} {E:Value→Shared→Prop}
theorem Zsi {Q:Value→Shared→Prop} (I:Inv X pins σ H s) (e:Rd H a (.dK kvs)) (h:∀ t s',Inv X pins σ H s'→Q (.int kvs.length t) s'):wpAny (model X.prog X.w) A (call (.builtin "len") [.ref a]) Q E s:=by
 obtain ⟨z,hd,vs,rel,dd⟩:=Ej I.hok e
 refine call_len_dict hd dd (by rw [← rel.length]; rw [sizeLine_eq] at z; omega) ?_
 rw [← rel.length]
 exact h _ _ (I.tok _)
end
def Ztg (i:Expr):Prop:=∀ ov iv,subscripted i false ov iv=operate [ov,iv] (getItem ov iv)
theorem Zkg {prog:Program} {w:World} {A:Around} {E:Value→Shared→Prop} {s:Shared} {env:Env} {value slice:Expr} {pos:Pos} {T id:String} {Q:Value→Shared→Prop}
  (hl:typeLookup (.type T) "__getitem__" = pure (some (.builtin id))) (hs:Ztg slice)
  (h:wpAny (model prog w) A (eval value env) (λo s₁=>wpAny (model prog w) A (eval slice env) (λi s₂=>s₂.TypeIs o T∧wpAny (model prog w) A (getItem o i) Q E s₂) E s₁) E s) :
  wpAny (model prog w) A (eval (.Subscript value slice pos) env) Q E s:=by
 refine Subscript_ (wpAny_mono h (λo s₁ h₁=>wpAny_mono h₁ (λi s₂ h₂=>?_) λ_ _ x=>x) λ_ _ x=>x)
 obtain ⟨hT,h₂⟩:=h₂
 unfold subscriptTail
 refine wpAny_bind ?_
 rw [getitemInPython_of_ne hT.not_modules]
 refine wpAny_bind (wpAny_specialOf hT hl ?_)
 have fin:wpAny (model prog w) A (subscripted slice false o i) (λr s₃=>wpAny (model prog w) A (letTemporaryGo value o r >>= λ_=>pure r) Q E s₃) E s₂:=by
  rw [hs o i]
  exact wpAny_operating (wpAny_mono h₂ (λr s₃ h₃=>wpAny_bind (wpAny_letTemporaryGo (wpAny_pure h₃))) λ_ _ x=>x)
 first
  | exact wpAny_pure (wpAny_bind fin)
  | exact wpAny_bind (wpAny_pure (wpAny_bind fin))
  | exact wpAny_bind fin
theorem Zai {X:Cx} {pins:List (Addr × Obj)} {σ:St} {H:Hp} {s:Shared} {a:Addr} {y:V} {o:Option V} (I:Inv X pins σ H s) (g:Pr H a y o):s.TypeIs (.ref a) "dict":=by
 rcases g with ⟨kvs,k,e,_,_⟩ | ⟨kvs,k,b,e,_,_,_⟩
 ·obtain ⟨_,_,vs,_,dd⟩:=Ej I.hok e
  exact dd.typeIs
 ·obtain ⟨_,_,xs,_,dd⟩:=Ei I.hok e
  exact dd.typeIs
def Zqk (td ty:TE):TE:=λσ H Q=>td σ H λx H1=>ty σ H1 λy H2=>∃ a v,x=.ref a∧Pr H2 a y (some v)∧Q v H2
def Zkf (ty td:TE):TE:=λσ H Q=>ty σ H λy H1=>td σ H1 λx H2=>∃ a o,x=.ref a∧Pr H2 a y o∧Q (.bl (!o.isSome)) H2
def Zqp (td ty tv:TE):TS:=λD σ H=>tv σ H λv H1=>td σ H1 λx H2=>ty σ H2 λy H3=>∃ a H4,x=.ref a∧Fj H3 a y v H4∧D.nx σ H4
section
variable {X:Cx} {o i e value:Expr} {pos pos' tpos:Pos} {td ty tv:TE}
theorem Rb (hu:X.A.units+1 < cLine) (ho:PE X o td) (hi:PE X i ty) (hs:Ztg i):PE X (.Subscript o i pos) (Zqk td ty):=by
 intro pins s σ H Q I h
 refine Zkg PySem.F.slot_dict_getitem.lookup hs (thn (ho pins s σ H _ I h) λu s1 ⟨x,H1,I1,rx,q1⟩=>thn (hi pins s1 σ H1 _ I1 q1) λiv s2 ⟨y,H2,I2,ry,a,v,ex,g,q2⟩=>?_)
 subst ex
 obtain rfl:u=Value.ref a:=rx
 exact ⟨Zai I2 g,Zf3 hu I2 g ry λw' s3 I3 rw'=>⟨v,H2,I3,rw',q2⟩⟩
theorem Lg (hu:X.A.units+1 < cLine) (hi:PE X i ty) (ho:PE X o td):PC X .NotIn i o (Zkf ty td):=by
 intro pins s σ H Q I h
 refine thn (hi pins s σ H _ I h) λiv s1 ⟨y,H1,I1,ry,q1⟩=>thn (ho pins s1 σ H1 _ I1 q1) λu s2 ⟨x,H2,I2,rx,a,ov,ex,g,q2⟩=>?_
 subst ex
 obtain rfl:u=Value.ref a:=rx
 exact Zlw hu I2 g ry λs3 I3=>⟨.bl (!ov.isSome),H2,I3,rfl,q2⟩
theorem K8 (hu:X.A.units+1 < cLine) (ho:PE X o td) (hi:PE X i ty) (hv:PE X value tv) (hs:swapsWith value (some (.Subscript o i pos')) pos.line X.env=pure false) :
  PS X (.Assign [.Subscript o i pos'] value pos) (Zqp td ty tv):=by
 intro pins s σ H D I h
 refine wpAny_Assign_Subscript (thn (hv pins s σ H _ I h) λr s1 ⟨v,H1,I1,rv,q1⟩=>thn (ho pins s1 σ H1 _ I1 q1) λu s2 ⟨x,H2,I2,rx,q2⟩=>thn (hi pins s2 σ H2 _ I2 q2) λiv s3 ⟨y,H3,I3,ry,a,H4,ex,g,q3⟩=>?_) hs
 subst ex
 obtain rfl:u=Value.ref a:=rx
 exact Zf2 hu I3 g ry rv λs4 I4=>⟨σ,H4,I4,q3⟩
end
theorem Zah {P:Program} {w:World} {H:Hp} (h:Heap) (hb:sysModules < h.objs.size):Yx P w H (h.push { cls:=.type "dict",data:=.dict #[] }) h.objs.size (.dK []):=
 ⟨Nat.zero_le _,beq_eq_false_iff_ne.mpr (Ne.symm (Nat.ne_of_lt hb)),[],.nil,Heap.DictOf.new h⟩
theorem Zag {P:Program} {w:World} {H:Hp} (h:Heap) (hb:sysModules < h.objs.size):Yx P w H (h.push { cls:=.type "dict",data:=.dict #[] }) h.objs.size (.dT []):=
 ⟨Nat.zero_le _,beq_eq_false_iff_ne.mpr (Ne.symm (Nat.ne_of_lt hb)),[],.nil,_,#[],0,Heap.get?_push_size _ rfl,⟨rfl,rfl,rfl⟩,rfl,rfl,List.nodup_nil⟩
def Znu:TE:=λ_ H Q=>∀ p,H p=none→Q (.ref p) (upd H p (.dK []))
def Znt:TE:=λ_ H Q=>∀ p,H p=none→Q (.ref p) (upd H p (.dT []))
section
variable {X:Cx} {pos:Pos}
theorem Zht:PE X (.Dict [] [] pos) Znu:=λpins s σ H Q I h=>
 wpAny_Dict_empty ⟨.ref s.heap.objs.size,_,I.laid (a:=s.heap.objs.size) (o:=.dK []) (t':=s.toks) (λ_ _ q=>Heap.get?_push_of_some _ q) (Nat.le_refl _) (Zah s.heap I.big),rfl,h _ (I.hok.fresh (Nat.le_refl _))⟩
theorem Ag:PE X (.Dict [] [] pos) Znt:=λpins s σ H Q I h=>
 wpAny_Dict_empty ⟨.ref s.heap.objs.size,_,I.laid (a:=s.heap.objs.size) (o:=.dT []) (t':=s.toks) (λ_ _ q=>Heap.get?_push_of_some _ q) (Nat.le_refl _) (Zag s.heap I.big),rfl,h _ (I.hok.fresh (Nat.le_refl _))⟩
end
def Ez:List (TE × TE)→St→Hp→(List (V × V)→Hp→Prop)→Prop
 | [],_,H,Q=>Q [] H
 | (tk,tv) :: r,σ,H,Q=>tk σ H λx H1=>tv σ H1 λy H2=>Ez r σ H2 λps H3=>Q ((x,y) :: ps) H3
abbrev VV:List (V × V)→List (Value × Value)→Prop:=Paired λp q=>RelV p.1 q.1∧RelV p.2 q.2
def PPs (X:Cx) (pos:Pos) (keys:List (Option Expr)) (values:List Expr) (trs:List (TE × TE)):Prop:=
 ∀ (pins:List (Addr × Obj)) (s:Shared) (σ:St) (H:Hp) (Q:List (V × V)→Hp→Prop),Inv X pins σ H s→Ez trs σ H Q→
  wpAny (model X.prog X.w) X.A (evalPairs (pairTrees keys values X.env pos)) (λvs s'=>∃ ps H',Inv X pins σ H' s'∧VV ps vs∧Q ps H') X.xe s
theorem Dq {X:Cx} {pos:Pos}:PPs X pos [] [] []:=λpins s σ H Q I h=>pairTrees_nil_walk ⟨[],H,I,.nil,h⟩
theorem Ib {X:Cx} {pos:Pos} {k v:Expr} {ks:List (Option Expr)} {vs:List Expr} {tk tv:TE} {trs:List (TE × TE)} (hk:PE X k tk) (hv:PE X v tv) (hr:PPs X pos ks vs trs) :
  PPs X pos (some k :: ks) (v :: vs) ((tk,tv) :: trs):=λpins s σ H Q I h=>
 pairTrees_cons_walk (thn (hk pins s σ H _ I h) λu s1 ⟨x,H1,I1,rx,q1⟩=>thn (hv pins s1 σ H1 _ I1 q1) λw2 s2 ⟨y,H2,I2,ry,q2⟩=>
  thn (hr pins s2 σ H2 _ I2 q2) λws s3 ⟨ps,H3,I3,rel,q3⟩=>⟨(x,y) :: ps,H3,I3,.cons ⟨rx,ry⟩ rel,q3⟩)
def Uy (kvs more:List (Key × V)):List (Key × V):=more.foldl (λacc kv=>putK acc kv.1 kv.2) kvs
theorem KV.merge:∀ {more:List (Key × V)} {rs:List (Key × Value)} {kvs:List (Key × V)} {vs:List (Key × Value)},KV more rs→KV kvs vs→KV (Uy kvs more) (merged vs rs):=by
 intro more rs kvs vs r
 unfold KV at r
 induction r generalizing kvs vs with
 | nil=>intro q; exact q
 | @cons p q ps qs h t ih=>
  intro r0
  have e:KV (putK kvs p.1 p.2) (stored vs q.1 q.2):=by
   have:=r0.put p.1 h.2
   rw [← h.1]; exact this
  exact ih e
theorem Ou:∀ (more kvs:List (Key × V)),(Uy kvs more).length≤kvs.length+more.length
 | [],kvs=>by show kvs.length≤kvs.length+0; omega
 | p :: r,kvs=>by
  have h1:=Ou r (putK kvs p.1 p.2)
  have h2:=V8 kvs p.1 p.2
  show (Uy (putK kvs p.1 p.2) r).length≤_
  rw [List.length_cons]; omega
theorem Hx {P:Program} {w:World}:∀ {kvs:List (Key × V)} {ws:List (Value × Value)},VV (kvs.map λkv=>(kV kv.1,kv.2)) ws→∃ rs,Carries (Ys P w) ws rs∧KV kvs rs
 | [],_,r=>by rw [List.map_nil] at r; cases r; exact ⟨[],True.intro,.nil⟩
 | p :: kvs,_,r=>by
  rw [List.map_cons] at r
  cases r with
  | @cons a b as bs h t=>
   obtain ⟨rs,c,q⟩:=Hx (P:=P) (w:=w) t
   obtain ⟨b1,b2⟩:=b
   exact ⟨(p.1,b2) :: rs,⟨A9 h.1,rfl,c⟩,.cons ⟨rfl,h.2⟩ q⟩
def Zqj (trs:List (TE × TE)):TE:=λσ H Q=>∀ p,H p=none→Ez trs σ (upd H p (.dK [])) λps H2=>H2 p=some (.dK [])∧∃ kvs:List (Key × V),ps=kvs.map (λkv=>(kV kv.1,kv.2))∧kvs.length≤15∧Q (.ref p) (upd H2 p (.dK (Uy [] kvs)))
theorem Zdy {X:Cx} {pos:Pos} {keys:List (Option Expr)} {values:List Expr} {trs:List (TE × TE)} (h:PPs X pos keys values trs) (Kx:keys.all (·.isSome)=true) (hl:keys.length=values.length) (h0:keys≠[])
  (h15:keys.length≤15):PE X (.Dict keys values pos) (Zqj trs):=by
 intro pins s σ H Q I q
 have hn:=I.hok.fresh (Nat.le_refl s.heap.objs.size)
 have I1:=I.laid (a:=s.heap.objs.size) (o:=.dK []) (h':=s.heap.push { cls:=.type "dict",data:=.dict #[] }) (t':=s.toks) (λ_ _ q=>Heap.get?_push_of_some _ q) (Nat.le_refl _) (Zah s.heap I.big)
 refine wpAny_Dict_walk (knd:=Ys X.prog X.w) Kx hl h0 h15 (thn (h pins _ σ _ _ I1 (q _ hn)) λws s2 ⟨ps,H2,I2,rel,e,kvs,ep,lk,q2⟩=>?_)
 subst ep
 obtain ⟨rs,c,rk⟩:=Hx (P:=X.prog) (w:=X.w) rel
 obtain ⟨z,hd,vs0,r0,dd⟩:=Zna I2.hok e
 cases r0
 refine ⟨rs,c,dd,λh' dd' hs=>⟨.ref s.heap.objs.size,_,?_,rfl,q2⟩⟩
 have hz:(Uy [] kvs).length≤sizeLine:=by
  have h1:=Ou kvs []
  rw [List.length_nil] at h1
  rw [sizeLine_eq]; omega
 have he:∃ q,h'.get? s.heap.objs.size=some q:=let ⟨q,_,_,hq,_⟩:=dd'; ⟨q,hq⟩
 exact Oh I2 (by rw [e]; exact True.intro) hs he (Zjg hz hd (rk.merge .nil) dd')
structure M1 (X:Cx) (o:Expr) (m:Str) (apos:Pos) (e:Expr) (Wi:Pos):Prop where
 base:attributeBase o m X.env (eval o X.env)=eval o X.env
 few:((backTo Wi (starEach [e] X.env)).all (λx=>!x.1) && (backToKw Wi (keywordEach [] X.env)).all (λx=>x.1.isSome)
  && decide (([e]:List Expr).length+([]:List Keyword).length+(if ([]:List Keyword).isEmpty then 0 else 1) < 30))=true
 line:(apos.endLine==Wi.line)=true
 trees:backTo Wi (starEach [e] X.env)=[(false,eval e X.env)]
structure M2 (X:Cx) (o:Expr) (m:Str) (apos:Pos) (e f:Expr) (Wi:Pos):Prop where
 base:attributeBase o m X.env (eval o X.env)=eval o X.env
 few:((backTo Wi (starEach [e,f] X.env)).all (λx=>!x.1) && (backToKw Wi (keywordEach [] X.env)).all (λx=>x.1.isSome)
  && decide (([e,f]:List Expr).length+([]:List Keyword).length+(if ([]:List Keyword).isEmpty then 0 else 1) < 30))=true
 line:(apos.endLine==Wi.line)=true
 trees:backTo Wi (starEach [e,f] X.env)=[(false,eval e X.env),(false,eval f X.env)]
def IsD (H:Hp) (a:Addr):Prop:=(∃ kvs,Rd H a (.dK kvs))∨∃ kvs,Rd H a (.dT kvs)
theorem Zo3 {X:Cx} {pins:List (Addr × Obj)} {σ:St} {H:Hp} {s:Shared} {a:Addr} (I:Inv X pins σ H s) (d:IsD H a) :
  s.TypeIs (.ref a) "dict"∧(∀ b,Value.ref a=.ref b→∃ ob,s.heap.get? b=some ob∧ob.dict=none)∧(a==sysModules)=false:=by
 rcases d with ⟨kvs,e⟩ | ⟨kvs,e⟩
 ·obtain ⟨_,hd,vs,_,dd⟩:=Ej I.hok e
  refine ⟨dd.typeIs,λb q=>?_,hd⟩
  cases q
  obtain ⟨ob,_,_,h1,h2,_⟩:=dd
  exact ⟨ob,h1,h2.2.1⟩
 ·obtain ⟨_,hd,xs,_,dd⟩:=Ei I.hok e
  refine ⟨dd.typeIs,λb q=>?_,hd⟩
  cases q
  obtain ⟨ob,_,_,h1,h2,_⟩:=dd
  exact ⟨ob,h1,h2.2.1⟩
section
variable {X:Cx} {pins:List (Addr × Obj)} {σ:St} {H:Hp} {s:Shared} {a:Addr} {y d:V} {u r:Value} {o:Option V} {A:Around} {E:Value→Shared→Prop}
end
section
variable {X:Cx} {o e f:Expr} {apos Wi:Pos} {td ty tx:TE}
end
end L2
namespace L2
open PySem PySem.Spec PyProof.Rows
def U4 (env:Env):List (Str × NameKind)→List (Str × Addr)→List (Str × Addr)
 | [],acc=>acc
 | (n,.free) :: r,acc=>U4 env r ((n,(env.cells.lookup n).getD 0) :: acc)
 | _ :: r,acc=>U4 env r acc
def Zdc (env:Env) (acc:List (Str × Addr)):Prop:=∀ y c,acc.lookup y=some c→c=(env.cells.lookup y).getD 0
theorem Oi {env:Env} {n:Str} {k:NameKind} {r:List (Str × NameKind)} {acc:List (Str × Addr)} (h:k≠.free):U4 env ((n,k) :: r) acc=U4 env r acc:=by
 cases k <;> first | rfl | exact absurd rfl h
theorem Oj {env:Env}:∀ (names:List (Str × NameKind)) (acc:List (Str × Addr)),Zdc env acc→Zdc env (U4 env names acc)
 | [],acc,h=>h
 | (n,k) :: r,acc,h=>by
  by_cases hk:k=.free
  ·subst hk
   refine Oj r _ λy c e=>?_
   rw [List.lookup_cons] at e
   by_cases hy:y=n
   ·subst hy
    simp only [beq_self_eq_true] at e
    exact (Option.some.inj e).symm
   ·have hb:(y==n)=false:=by simpa using hy
    rw [hb] at e
    exact h y c e
  ·rw [Oi hk]
   exact Oj r acc h
theorem Pa {env:Env} {x:Str}:∀ (names:List (Str × NameKind)) (acc:List (Str × Addr)),((∃ c,acc.lookup x=some c)∨(x,NameKind.free)∈names)→∃ c,(U4 env names acc).lookup x=some c
 | [],acc,h=>by
  rcases h with h | h
  ·exact h
  ·cases h
 | (n,k) :: r,acc,h=>by
  by_cases hk:k=.free
  ·subst hk
   refine Pa r _ ?_
   rw [List.lookup_cons]
   by_cases hy:x=n
   ·subst hy
    exact .inl ⟨(env.cells.lookup x).getD 0,by simp only [beq_self_eq_true]⟩
   ·have hb:(x==n)=false:=by simpa using hy
    rw [hb]
    rcases h with h | h
    ·exact .inl h
    ·rcases List.mem_cons.mp h with h | h
     ·exact absurd (congrArg Prod.fst h) hy
     ·exact .inr h
  ·rw [Oi hk]
   refine Pa r acc ?_
   rcases h with h | h
   ·exact .inl h
   ·rcases List.mem_cons.mp h with h | h
    ·exact absurd (congrArg Prod.snd h).symm hk
    ·exact .inr h
theorem Mw {env:Env} {x:Str} {c:Addr}:∀ (names:List (Str × NameKind)) (acc:List (Str × Addr)),(U4 env names acc).lookup x=some c→acc.lookup x=some c∨(x,NameKind.free)∈names
 | [],acc,h=>.inl h
 | (n,k) :: r,acc,h=>by
  by_cases hk:k=.free
  ·subst hk
   rcases Mw r _ h with h1 | h1
   ·rw [List.lookup_cons] at h1
    by_cases hy:x=n
    ·subst hy
     exact .inr List.mem_cons_self
    ·have hb:(x==n)=false:=by simpa using hy
     rw [hb] at h1
     exact .inl h1
   ·exact .inr (List.mem_cons_of_mem _ h1)
  ·rw [Oi hk] at h
   rcases Mw r acc h with h1 | h1
   ·exact .inl h1
   ·exact .inr (List.mem_cons_of_mem _ h1)
theorem Ht {env:Env} {f:Str × NameKind→List (Str × Addr)→Sem (ForInStep (List (Str × Addr)))} (h1:∀ n k r,k≠NameKind.free→f (n,k) r=pure (.yield r))
  (h2:∀ n r c,env.cells.lookup n=some c→f (n,.free) r=pure (.yield ((n,c) :: r))) :
  ∀ (names:List (Str × NameKind)) (acc:List (Str × Addr)),(∀ y∈names,y.2=NameKind.free→∃ c,env.cells.lookup y.1=some c)→forIn names acc f=pure (U4 env names acc)
 | [],acc,_=>rfl
 | (n,k) :: r,acc,hc=>by
  have hr:∀ y∈r,y.2=NameKind.free→∃ c,env.cells.lookup y.1=some c:=λy hy=>hc y (List.mem_cons_of_mem _ hy)
  rw [List.forIn_cons]
  by_cases hk:k=.free
  ·subst hk
   obtain ⟨c,e⟩:=hc (n,.free) List.mem_cons_self rfl
   rw [h2 n acc c e,pure_bind]
   show forIn r ((n,c) :: acc) f=_
   rw [Ht h1 h2 r _ hr]
   show _=pure (U4 env r ((n,(env.cells.lookup n).getD 0) :: acc))
   rw [e]
   rfl
  ·rw [h1 n k acc hk,pure_bind,Oi hk]
   exact Ht h1 h2 r acc hr
theorem U3 {env:Env} {scope:Scope} (hc:∀ y∈scope.names,y.2=NameKind.free→∃ c,env.cells.lookup y.1=some c):closureFor scope env=pure (U4 env scope.names []):=by
 unfold closureFor
 dsimp only
 rw [Ht (env:=env) ?_ ?_ scope.names [] hc]
 ·rfl
 ·intro n k r hk
  have hb:(k==NameKind.free)=false:=by simpa using hk
  simp only [hb,Bool.false_eq_true,if_false]
 ·intro n r c e
  simp only [cellOf,e,beq_self_eq_true,if_true,pure_bind]
structure Zdb (sc:Scope) (Nm own:List Str) (fr:List Nat) (scope:Scope):Prop where
 kind:scope.kind=.function
 Li:∀ y∈scope.names,y.2≠NameKind.cell
 free:∀ y∈scope.names,y.2=NameKind.free→sc.names.lookup y.1=some .cell∨sc.names.lookup y.1=some .free
 locs:∀ y∈scope.names,y.2=NameKind.local→scope.names.lookup y.1=some .local
 frs:∀ j∈fr,j < Nm.length∧scope.names.lookup (Nm.getD j "")=some .free
def Yr (own Nm:List Str) (fr:List Nat):List Str:=own ++ fr.map λj=>Nm.getD j ""
def Sd (n:Nat) (fr:List Nat) (σ:St):St:=List.replicate n none ++ fr.map λj=>σ.getD j none
structure CD where
 cl:List (Str × Addr)
 C:Addr
 s:Shared
 H:Hp
 fp:List Addr
def Xo (X:Cx) (Nm:List Str) (scope:Scope) (d:CD):Cx:=
 {prog:=X.prog,w:=X.w,K:=X.K,mg:=X.mg,base:=X.base,A:=X.A,N:=Nm,s₀:=d.s,H₀:=d.H,env:=compEnvC scope d.cl d.C X.env,outer:=X.stack,stack:=X.stack,
  ex:=d.fp,fn:=λ_=>false,calm:=X.calm,pn:=[],xe:=λ_ _=>False }
def PTs (X:Cx) (ifs:List Expr) (t:TT):Prop:=
 ∀ (pins:List (Addr × Obj)) (s:Shared) (σ:St) (H:Hp) (Q:Bool→Hp→Prop),Inv X pins σ H s→t σ H Q→
  wpAny (model X.prog X.w) X.A (forIn ifs true λc r=>if r=true then do let ok ← isTrue c X.env (eval c X.env); pure (ForInStep.yield ok) else pure (ForInStep.yield r)) (TP X pins σ Q) X.xe s
def Zno:TT:=λ_ H Q=>Q true H
theorem Yb {X:Cx}:PTs X [] Zno:=by
 intro pins s σ H Q I h
 rw [List.forIn_nil]
 exact wpAny_pure ⟨H,I,h⟩
theorem Oa {X:Cx} {c:Expr} {t:TT} (hc:PT X c t):PTs X [c] t:=by
 intro pins s σ H Q I h
 rw [List.forIn_cons,if_pos rfl]
 refine wpAny_bind (wpAny_bind (thn (hc pins s σ H Q I h) λb s1 q=>wpAny_pure ?_))
 show wpAny _ _ (forIn [] b _) _ _ s1
 rw [List.forIn_nil]
 exact wpAny_pure q
def GFr (n:Nat) (g:TG):Prop:=∀ v σ H Q,g v σ H Q→g v σ H λσ2 H2=>Q σ2 H2∧σ2.length=σ.length∧∀ i,n≤i→σ2[i]? = σ[i]?
theorem Z2 {n i:Nat} (h:i < n):GFr n (Kc i):=λv σ H Q q=>⟨q,by simp,λj hj=>by
 rw [List.getElem?_set_ne (by omega)]⟩
def Zl9 (n:Nat) (g:TGs):Prop:=∀ v σ H Q,g v σ H Q→g v σ H λσ2 H2=>Q σ2 H2∧σ2.length=σ.length∧∀ i,n≤i→σ2[i]? = σ[i]?
theorem Mq {n:Nat}:Zl9 n Zpl:=λv σ H Q q=>⟨q.1,q.2,rfl,λ_ _=>rfl⟩
theorem Vd {n i:Nat} {u:TGs} (h:i < n) (hu:Zl9 n u):Zl9 n (Zek (Kc i) u):=λv σ H Q q=>by
 obtain ⟨x,r,e,q⟩:=q
 refine ⟨x,r,e,?_⟩
 have q2:=hu r (σ.set i (some x)) H Q q
 have mono:∀ Q1 Q2:St→Hp→Prop,(∀ a b,Q1 a b→Q2 a b)→True:=λ_ _ _=>True.intro
 have e1:(σ.set i (some x)).length=σ.length:=by simp
 have e2:∀ j,n≤j→(σ.set i (some x))[j]? = σ[j]?:=λj hj=>by rw [List.getElem?_set_ne (by omega)]
 have:(λσ2 H2=>Q σ2 H2∧σ2.length=(σ.set i (some x)).length∧∀ j,n≤j→σ2[j]? = (σ.set i (some x))[j]?)=λσ2 H2=>Q σ2 H2∧σ2.length=σ.length∧∀ j,n≤j→σ2[j]? = σ[j]?:=by
  funext σ2 H2
  rw [e1]
  refine propext ⟨λz=>⟨z.1,z.2.1,λj hj=>(z.2.2 j hj).trans (e2 j hj)⟩,λz=>⟨z.1,z.2.1,λj hj=>(z.2.2 j hj).trans (e2 j hj).symm⟩⟩
 rw [this] at q2
 exact q2
theorem Je {n k:Nat} {K:W.Frag} {u:TGs} (hu:Zl9 n u):GFr n (Zlq K k u):=λv σ H Q q=>by
 obtain ⟨a,xs,e,h1,h2,q⟩:=q
 exact ⟨a,xs,e,h1,h2,hu xs σ H Q q⟩
def Znh (J:It) (n:Nat) (fr:List Nat) (g:TG) (tt:TT) (te:TE) (σ:St) (H1:Hp) (Q:VK):Prop:=∃ W:Nat→Nat→List V→Hp→Prop,(∃ m,W 0 m [] H1)∧∀ i m acc H2,W i m acc H2→
 acc.length < sizeLine∧((J.stop i H2∧∀ l,H2 l=none→Q (.ref l) (upd H2 l (.lst acc)))∨
  (J.go i H2∧∃ Nx:List V→Hp→Prop,(∀ Zp3 H',Nx Zp3 H'→∃ m',m' < m∧W (i+1) m' Zp3 H')∧
   ∀ x H3,J.yld i H2 x H3→g x (Sd n fr σ) H3 λσ4 H4=>tt σ4 H4 λb H5=>if b=true then te σ4 H5 λv H6=>Nx (acc ++ [v]) H6 else Nx acc H5))
def Zgs (n:Nat) (fr:List Nat) (wi:TI) (g:TG) (tt:TT) (te:TE):TE:=λσ H Q=>wi σ H λJ H1=>Znh J n fr g tt te σ H1 Q
section
variable {X:Cx} {pins:List (Addr × Obj)} {σ:St} {H:Hp} {s:Shared}
theorem Inv.adopt {a:Addr} {o:HO} (I:Inv X pins σ H s) (hp:X.s₀.heap.objs.size≤a) (hn:H a=none) (hL:a≠X.env.locals) (hc:∀ x c,X.env.cells.lookup x=some c→c≠a)
  (hq:∀ p∈X.pn ++ pins,p.1≠a) (new:Yx X.prog X.w (upd H a o) s.heap a o):Inv X pins σ (upd H a o) s:=by
 refine ⟨I.ok,I.os,I.bare,⟨I.base.keep,I.base.slot,λb ob e n hx=>?_,I.base.there,λb xs e=>?_,λb ob u e=>?_,λb ps e=>?_⟩,I.loc,I.cell,?_,λx c e=>?_,λp hp'=>?_,λb u e=>?_,I.len⟩
 ·rw [Zj (Nat.ne_of_lt (Nat.lt_of_lt_of_le (Heap.lt_size e) hp))]
  exact I.base.free b ob e n hx
 ·have q:=I.base.Ey b xs e
  rw [Zj (Zg q hn)]
  exact q
 ·have q:=I.base.Hr b ob u e
  rw [Zj (Zg q hn)]
  exact q
 ·obtain ⟨more,q⟩:=I.base.Gp b ps e
  exact ⟨more,by rw [Zj (Zg q hn)]; exact q⟩
 ·rw [Zj (Ne.symm hL)]
  exact I.free
 ·rw [Zj (hc x c e)]
  exact I.Sz x c e
 ·obtain ⟨h1,h2,h3⟩:=I.pin p hp'
  exact ⟨h1,by rw [Zj (hq p hp')]; exact h2,h3⟩
 ·by_cases hb:b=a
  ·subst hb
   rw [Zb] at e
   cases e
   exact new
  ·rw [Zj hb] at e
   refine (I.hok b u e).Jq (λc v _ q=>q) (λc q=>?_) λc xs q=>?_
   ·rw [Zj (Zg q hn)]; exact q
   ·rw [Zj (Zg q hn)]; exact q
end
section
variable {prog:Program} {w:World} {A:Around} {R:Result→Shared→Prop} {s:Shared}
theorem Zfl {elt target iter:Expr} {ifs:List Expr} {scope:Scope} {pos:Pos} {it acc:Value} {env:Env} (J:Nat→Shared→Prop)
  (turn:∀ n s,J n s→wpAny (model prog w) A (pyNext it) (λr s1=>match r with
   | none=>R (.ok .next) s1
   | some v=>wpAny (model prog w) A (letOwnedTupleGo target it v) (λ_ s2=>wpAny (model prog w) A (assign target env v) (λ_ s3=>
     wpAny (model prog w) A (forIn ifs true λc r=>if r=true then do let ok ← isTrue c env (eval c env); pure (ForInStep.yield ok) else pure (ForInStep.yield r)) (λok s4=>
      if ok=true then wpAny (model prog w) A (eval elt env) (λx s5=>wpAny (model prog w) A (call (.builtin "list.append") [acc,x]) (λ_ s6=>∃ m,m < n∧J m s6) (λ_ _=>False) s5) (λ_ _=>False) s4
      else ∃ m,m < n∧J m s4) (λ_ _=>False) s3) (λ_ _=>False) s2) (λ_ _=>False) s1) (λ_ _=>False) s)
  (n:Nat) (h:J n s):codeAny (model prog w) A (.compLoop (.ListComp elt [⟨target,iter,ifs,0⟩] scope pos) 0 it acc env) R s:=by
 refine codeAny_loop rfl J (λk t hJ=>?_) n h
 show wpAny _ A ((compTurn (.ListComp elt [⟨target,iter,ifs,0⟩] scope pos) 0 it acc env).onRaise (λx=>do noteFrame x env; theTreesLotGoes x)) _ _ t
 refine wpAny_noted ?_
 rw [compTurn_list]
 have no:∀ {α:Type} {m:Sem α} {Q:α→Shared→Prop} {E:Value→Shared→Prop} {u:Shared},wpAny (model prog w) A m Q (λ_ _=>False) u→wpAny (model prog w) A m Q E u:=λq=>wpAny_mono q (λ_ _ z=>z) λ_ _ z=>z.elim
 refine wpAny_bind (wpAny_standAt (wpAny_bind (no (thn (turn k t hJ) λr s1 h1=>?_))))
 cases r with
 | none=>exact wpAny_pure h1
 | some v=>
  refine wpAny_bind (no (thn h1 λ_ s2 h2=>wpAny_bind (no (thn h2 λ_ s3 h3=>wpAny_bind (no (thn h3 λok s4 h4=>?_))))))
  cases ok with
  | false=>exact wpAny_pure ⟨rfl,h4⟩
  | true=>
   exact wpAny_bind (wpAny_bind (no (thn h4 λx s5 h5=>wpAny_bind (no (thn h5 λ_ s6 h6=>wpAny_pure (wpAny_pure ⟨rfl,h6⟩))))))
end
section
variable {X:Cx} {sc scope:Scope} {Nm own:List Str} {fr:List Nat} {elt tg iter:Expr} {ifs:List Expr} {Wi:Pos} {wi:TI} {g:TG} {tt:TT} {te:TE}
theorem Rh {env:Env} {x:Str} {k:NameKind}:∀ {names:List (Str × NameKind)},(names.map λ(n,k)=>if (k==NameKind.free && env.scope.kind==.function && env.kindOf n==some .cell) then (n,NameKind.cell) else (n,k)).lookup x=some k→
  names.lookup x=some k∨(k=.cell∧names.lookup x=some .free)
 | [],h=>by simp at h
 | (n,j) :: r,h=>by
  have ih:=@Rh env x k r
  have h':List.lookup x ((if (j==NameKind.free && env.scope.kind==.function && env.kindOf n==some .cell)=true then (n,NameKind.cell) else (n,j)) :: _)=some k:=h
  cases hx:x==n with
  | true=>
   by_cases hc:(j==NameKind.free && env.scope.kind==.function && env.kindOf n==some .cell)=true
   ·rw [if_pos hc] at h'
    simp only [List.lookup_cons,hx] at h' ⊢
    simp only [Bool.and_eq_true,beq_iff_eq] at hc
    exact .inr ⟨(Option.some.inj h').symm,congrArg some hc.1.1⟩
   ·rw [if_neg hc] at h'
    simp only [List.lookup_cons,hx] at h' ⊢
    exact .inl h'
  | false=>
   have h2:List.lookup x (r.map λ(n,k)=>if (k==NameKind.free && env.scope.kind==.function && env.kindOf n==some .cell) then (n,NameKind.cell) else (n,k))=some k:=by
    by_cases hc:(j==NameKind.free && env.scope.kind==.function && env.kindOf n==some .cell)=true
    ·rw [if_pos hc] at h'
     simpa only [List.lookup_cons,hx] using h'
    ·rw [if_neg hc] at h'
     simpa only [List.lookup_cons,hx] using h'
   simp only [List.lookup_cons,hx]
   exact ih h2
theorem J8 {env:Env} {x:Str}:∀ {names:List (Str × NameKind)},names.lookup x=some .free→
  (names.map λ(n,k)=>if (k==NameKind.free && env.scope.kind==.function && env.kindOf n==some .cell) then (n,NameKind.cell) else (n,k)).lookup x=some .cell∨
  (names.map λ(n,k)=>if (k==NameKind.free && env.scope.kind==.function && env.kindOf n==some .cell) then (n,NameKind.cell) else (n,k)).lookup x=some .free
 | [],h=>by simp at h
 | (n,j) :: r,h=>by
  have ih:=@J8 env x r
  show List.lookup x ((if (j==NameKind.free && env.scope.kind==.function && env.kindOf n==some .cell)=true then (n,NameKind.cell) else (n,j)) :: _)=_∨List.lookup x ((if (j==NameKind.free && env.scope.kind==.function && env.kindOf n==some .cell)=true then (n,NameKind.cell) else (n,j)) :: _)=_
  cases hx:x==n with
  | true=>
   simp only [List.lookup_cons,hx] at h
   by_cases hc:(j==NameKind.free && env.scope.kind==.function && env.kindOf n==some .cell)=true
   ·rw [if_pos hc]; simp only [List.lookup_cons,hx]; first | exact .inl rfl | exact .inl trivial
   ·rw [if_neg hc]; simp only [List.lookup_cons,hx]; exact .inr h
  | false=>
   simp only [List.lookup_cons,hx] at h
   by_cases hc:(j==NameKind.free && env.scope.kind==.function && env.kindOf n==some .cell)=true
   ·rw [if_pos hc]; simp only [List.lookup_cons,hx]; exact ih h
   ·rw [if_neg hc]; simp only [List.lookup_cons,hx]; exact ih h
theorem El (S:Zdb sc Nm own fr scope) (hsc:X.env.scope=sc) (hN:X.N=Nm) (hc:X.calm=true) (hgf:GFr own.length g) (hi:PI X tg iter wi) (hg:∀ d,PG (Xo X (Yr own Nm fr) scope d) tg g)
  (ht:∀ d,PTs (Xo X (Yr own Nm fr) scope d) ifs tt) (he:∀ d,PE (Xo X (Yr own Nm fr) scope d) elt te) (hs:∀ x,foldedSetIterable iter X.env x=pure x)
  {use:Option (Value→Sem Unit)} {Q0:Value→Shared→Prop} {pins:List (Addr × Obj)} {s:Shared} {σ:St} {H:Hp} (I:Inv X pins σ H s) {Qf:VK} (h:Zgs own.length fr wi g tt te σ H Qf)
  (hfin:∀ (D C:Addr) (Hd:Hp) (s':Shared) (m:Str→Option Value),Inv X pins σ Hd s'→Qf (.ref D) Hd→s'.heap.Ns C m→Hd C=none→X.s₀.heap.objs.size≤C→C≠X.env.locals→(∀ x c,X.env.cells.lookup x=some c→c≠C)→
   (∀ p∈X.pn ++ pins,p.1≠C)→compPost (model X.prog X.w) X.A X.xe use Q0 (.ref D) C (.ok .next) s') :
  wpAny (model X.prog X.w) X.A (comprehension (.ListComp elt [⟨tg,iter,ifs,0⟩] scope Wi) scope X.env (firstIterPos [⟨tg,iter,ifs,0⟩] Wi) (newList []) false (eval iter X.env) use) Q0 X.xe s:=by
 have Ow:∀ y∈scope.names,y.2=NameKind.free→∃ c,X.env.cells.lookup y.1=some c:=λy hy hk=>by
  have q:=S.free y hy hk
  rw [← hsc] at q
  exact I.ok.has y.1 q
 refine wpAny_comprehension_free (g:=⟨tg,iter,ifs,0⟩) (gs:=[]) rfl hs (U3 Ow) S.kind S.locs ?_
 refine thn (hi pins s σ H _ I h) λv s1 h1=>thn h1 λitv s2 h2=>?_
 obtain ⟨it,fp,tn,J,H2,e,I2,T,st2,f2,W,⟨m0,w0⟩,turn⟩:=h2
 subst e
 refine wpAny_newObj_type (wpAny_newFunctionEnv S.Li (by intro y hy; simp at hy) (λh1 hns hsb=>?_) S.kind)
 dsimp only at hns hsb ⊢
 generalize hG:s2.heap.push { cls:=.type "list",dict:=none,data:=.seq ([]:List Value).toArray } = G at hns hsb ⊢
 have hC:G.objs.size=s2.heap.objs.size+1:=by rw [← hG,Heap.size_push]
 have hDC:s2.heap.objs.size≠G.objs.size:=by omega
 have lo:∀ b,b < s2.heap.objs.size→b≠G.objs.size∧b≠s2.heap.objs.size:=λb hb=>⟨by omega,by omega⟩
 have old:∀ b o,s2.heap.get? b=some o→h1.get? b=some o:=λb o e=>hsb.extBut b o (lo b (Heap.lt_size e)).1 (Heap.get?_push_of_some _ (hG▸Heap.get?_push_of_some _ e))
 have Zlo:h1.PlainList s2.heap.objs.size #[]:=⟨_,hsb.extBut _ _ hDC (Heap.get?_push_of_some _ (hG▸Heap.get?_push_size _ rfl))⟩
 have fpl:∀ b∈fp,b < s2.heap.objs.size:=λb hb=>by
  obtain ⟨o,e,_⟩:=T.obj 0 _ st2 b hb
  exact Heap.lt_size e
 have hDf:s2.heap.objs.size∉fp:=λz=>Nat.lt_irrefl _ (fpl _ z)
 have hCf:G.objs.size∉fp:=λz=>Nat.lt_irrefl _ (Nat.lt_trans (fpl _ z) (by rw [hC]; exact Nat.lt_succ_self _))
 have Hw:∀ x c,(U4 X.env scope.names []).lookup x=some c→X.env.cells.lookup x=some c∧(x,NameKind.free)∈scope.names:=λx c e=>by
  have e1:=Oj (env:=X.env) scope.names [] (λy c z=>by simp at z) x c e
  rcases Mw scope.names [] e with z | z
  ·simp at z
  ·obtain ⟨c',e'⟩:=Ow _ z rfl
   rw [e1,e']
   exact ⟨rfl,z⟩
 have Zjt:∀ x c,X.env.cells.lookup x=some c→c < s2.heap.objs.size:=λx c e=>by
  obtain ⟨v,q⟩:=I2.cell x c e
  exact q.lt
 let d:CD:=⟨U4 X.env scope.names [],G.objs.size,s2,H2,fp⟩
 have isFree:∀ x,((Xo X (Yr own Nm fr) scope d).env.kindOf x=some .cell∨(Xo X (Yr own Nm fr) scope d).env.kindOf x=some .free)→scope.names.lookup x=some .free:=λx hx=>by
  have noC:scope.names.lookup x≠some .cell:=λz=>S.Li _ (PySem.mem_of_lookup z) rfl
  rcases hx with hx | hx
  ·rcases Rh (names:=scope.names) hx with z | z
   ·exact absurd z noC
   ·exact z.2
  ·rcases Rh (names:=scope.names) hx with z | z
   ·exact z
   ·exact absurd z.1 (by decide)
 have ok:(Xo X (Yr own Nm fr) scope d).Ok:=by
  refine ⟨I.ok.mod,S.kind,I.ok.glob,I.ok.blt,?_,λx y c e1 e2=>?_,λx hx=>?_,λx c z=>?_,I.ok.hd,I.ok.frames,.inl rfl,λb hb=>⟨?_,λx c e=>?_⟩,I2.bs,Nat.le_trans I2.ok.bsz I2.sz,λb o e hb=>?_,λb hb z=>?_,I2.stack,I2.E1⟩
  ·show s2.heap.objs.size≤G.objs.size
   omega
  ·exact I.ok.inj x y c (Hw x c e1).1 (Hw y c e2).1
  ·exact Pa scope.names [] (.inr (PySem.mem_of_lookup (isFree x hx)))
  ·exact absurd (show false=true from z) Bool.false_ne_true
  ·exact λz=>hCf ((show b=G.objs.size from z)▸hb)
  ·exact (f2 b hb).2.2.2.2.1 x c (Hw x c e).1
  ·rcases (f2 b hb).2.2.2.1 with z | z
   ·exact I.ok.Zh8 b o e z
   ·exact absurd (Nat.lt_of_lt_of_le (Heap.lt_size e) (Nat.le_trans I.ok.bsz z)) (Nat.lt_irrefl _)
  ·rcases List.mem_cons.mp (I2.Jp b z) with z | z
   ·exact (f2 b hb).2.1 z
   ·exact (f2 b hb).2.2.1 z
 have hfrs:∀ (i:Nat) x v,(Yr own Nm fr)[i]? = some x→(Sd own.length fr σ)[i]? = some (some v)→scope.names.lookup x=some .free∧∃ j,Nm[j]? = some x∧σ[j]? = some (some v):=λi x v e1 e2=>by
  unfold Yr at e1
  unfold Sd at e2
  by_cases hil:i < own.length
  ·rw [List.getElem?_append_left (by simpa using hil),List.getElem?_replicate,if_pos hil] at e2
   cases e2
  ·rw [List.getElem?_append_right (by omega),List.getElem?_map] at e1
   rw [List.getElem?_append_right (by simpa using hil),List.getElem?_map,List.length_replicate] at e2
   cases q:fr[i - own.length]? with
   | none=>rw [q] at e1; cases e1
   | some j=>
    rw [q] at e1 e2
    have hj:=S.frs j (List.mem_of_getElem? q)
    have e1':Nm.getD j "" = x:=Option.some.inj e1
    have e2':σ.getD j none=some v:=Option.some.inj e2
    rw [e1'] at hj
    refine ⟨hj.2,j,?_,?_⟩
    ·rw [← e1',List.getD_eq_getElem?_getD,List.getElem?_eq_getElem hj.1]
     rfl
    ·rw [List.getD_eq_getElem?_getD] at e2'
     cases q2:σ[j]? with
     | none=>rw [q2] at e2'; cases e2'
     | some z=>rw [q2] at e2'; exact congrArg some e2'
 have Zm2:(Sd own.length fr σ).length=(Yr own Nm fr).length:=by
  unfold Sd Yr
  simp
 have J0:∀ tk,Inv (Xo X (Yr own Nm fr) scope d) [] (Sd own.length fr σ) H2 { s2 with heap:=h1,toks:=tk }:=λtk=>by
  obtain ⟨m,hn,hl⟩:=I2.loc
  refine ⟨ok,rfl,I2.bare,Un.kept old,⟨_,hns,λi x v e1 e2 _=>?_⟩,λx c e=>?_,I2.hok.fresh (show s2.heap.objs.size≤G.objs.size by omega),λx c e=>I2.Sz x c (Hw x c e).1,λp hp=>absurd (show p∈([]:List (Addr × Obj)) from hp) (by simp),I2.hok.kept old,Zm2⟩
  ·obtain ⟨hf,j,hj1,hj2⟩:=hfrs i x v e1 e2
   have kd:X.env.scope.names.lookup x=some .cell∨X.env.scope.names.lookup x=some .free:=by
    rw [hsc]
    exact S.free _ (PySem.mem_of_lookup hf) rfl
   obtain ⟨u,r,q⟩:=hl j x v (by rw [hN]; exact hj1) hj2 (kd.elim (λz=>.inr (.inl z)) λz=>.inr (.inr z))
   refine ⟨u,r,.inr ⟨J8 hf,?_⟩⟩
   obtain ⟨c,e⟩:=Pa (env:=X.env) scope.names [] (.inr (PySem.mem_of_lookup hf))
   refine ⟨c,e,?_⟩
   rcases q with ⟨k,_⟩ | ⟨_,c',e',z⟩
   ·have k':X.env.scope.names.lookup x=some .local:=k
    rcases kd with y | y <;> rw [y] at k' <;> cases k'
   ·have:c=c':=Option.some.inj ((Hw x c e).1.symm.trans e')
    subst this
    obtain ⟨o,ho,hd⟩:=z
    exact ⟨o,old _ o ho,hd⟩
  ·obtain ⟨v,o,ho,hd⟩:=I2.cell x c (Hw x c e).1
   exact ⟨v,o,old _ o ho,hd⟩
 have Zbb:∀ {H':Hp} {pl:List (Addr × Obj)},(∀ b∈fp,H' b=none)→(∀ p∈pl,p.1∉fp)→∀ b∈fp,Fi (Xo X (Yr own Nm fr) scope d) pl H' b:=λhn hp b hb=>
  ⟨hn b hb,λz=>hCf ((show b=G.objs.size from z)▸hb),ok.Zi5 b hb,.inl hb,(ok.exf b hb).2,λp hp' z=>hp p (by simpa using (show p∈([]:List (Addr × Obj)) ++ _ from hp')) (z▸hb)⟩
 have loop:∀ tk,codeAny (model X.prog X.w) X.A (.compLoop (.ListComp elt [⟨tg,iter,ifs,0⟩] scope Wi) 0 (.ref it) (.ref s2.heap.objs.size) (compEnvC scope (U4 X.env scope.names []) G.objs.size X.env))
   (compPost (model X.prog X.w) X.A X.xe use Q0 (.ref s2.heap.objs.size) G.objs.size) { s2 with heap:=h1,toks:=tk }:=by
  intro tk
  refine Zfl (λn s'=>∃ i acc its H',Inv (Xo X (Yr own Nm fr) scope d) [] (Sd own.length fr σ) H' s'∧tn i s'.heap∧(∀ b∈fp,H' b=none)∧H' s2.heap.objs.size=none∧Vals acc its∧s'.heap.PlainList s2.heap.objs.size its.toArray∧W i n acc H') ?_ m0
   ⟨0,[],[],H2,J0 tk,T.keep 0 _ _ st2 λb _ o e=>old b o e,λb hb=>(f2 b hb).1,I2.hok.fresh (Nat.le_refl _),.nil,Zlo,w0⟩
  rintro n s3 ⟨i,acc,its,H3,I3,st3,fr3,nD,va,⟨na,pa⟩,w3⟩
  have Zq7:Inv (Xo X (Yr own Nm fr) scope d) [(s2.heap.objs.size,{ cls:=.type "list",data:=.seq its.toArray na })] (Sd own.length fr σ) H3 s3:=I3.K9 λp hp=>by
   have hp':=List.mem_singleton.mp hp
   subst hp'
   refine ⟨pa,nD,hDC,λz=>?_,λv z=>?_⟩
   ·have z':s2.heap.objs.size∈frs X.stack:=z
    rcases List.mem_cons.mp (I2.Jp _ z') with y | y
    ·exact absurd I2.lt (by rw [← y]; exact Nat.lt_irrefl _)
    ·exact I2.Zrd (Nat.le_refl _) y
   ·have z':Data.seq its.toArray na=Data.cell v:=z
    cases z'
  have Dr:∀ p∈[(s2.heap.objs.size,({ cls:=.type "list",data:=.seq its.toArray na }:Obj))],p.1∉fp:=λp hp=>by
   rw [List.mem_singleton.mp hp]
   exact hDf
  obtain ⟨hz,alt⟩:=turn i n acc H3 w3
  rcases alt with ⟨stop,qn⟩ | ⟨go,Nx,hNx,step⟩
  ·refine thn (T.done (Xo X (Yr own Nm fr) scope d) rfl rfl rfl hc i _ s3 _ H3 _ Zq7 (Zbb fr3 Dr) st3 stop) λr s4 ⟨hr,I4⟩=>?_
   subst hr
   have pD:=I4.pin (s2.heap.objs.size,{ cls:=.type "list",data:=.seq its.toArray na }) (List.mem_append_right _ (List.mem_singleton.mpr rfl))
   obtain ⟨m4,hn4,_⟩:=I4.loc
   have I5:Inv X pins σ H3 s4:=I2.Ztc (ch:=fp) I4.os I4.base I4.hok I4.bare λb hb=>⟨(f2 b hb).2.2.2.1,(f2 b hb).2.1,(f2 b hb).2.2.2.2.1,(f2 b hb).2.2.2.2.2⟩
   have far:∀ a,s2.heap.objs.size≤a→X.s₀.heap.objs.size≤a∧a≠X.env.locals∧(∀ x c,X.env.cells.lookup x=some c→c≠a)∧∀ p∈X.pn ++ pins,p.1≠a:=λa ha=>
    ⟨Nat.le_trans I2.sz ha,Nat.ne_of_gt (Nat.lt_of_lt_of_le I2.lt ha),λx c e=>Nat.ne_of_lt (Nat.lt_of_lt_of_le (Zjt x c e) ha),λp hp=>Nat.ne_of_lt (Nat.lt_of_lt_of_le (Heap.lt_size (I2.pin p hp).1) ha)⟩
   have fD:=far s2.heap.objs.size (Nat.le_refl _)
   have fC:=far G.objs.size (by omega)
   have I6:=I5.adopt (o:=.lst acc) fD.1 pD.2.1 fD.2.1 fD.2.2.1 fD.2.2.2 ⟨Nat.le_of_lt hz,its,na,va,pD.1⟩
   exact hfin s2.heap.objs.size G.objs.size _ s4 m4 I6 (qn _ pD.2.1) hn4 (by rw [Zj (Ne.symm hDC)]; exact I4.free) fC.1 fC.2.1 fC.2.2.1 fC.2.2.2
  ·refine thn (T.item (Xo X (Yr own Nm fr) scope d) rfl rfl rfl hc i _ s3 _ H3 _ Zq7 (Zbb fr3 Dr) st3 go) λr s4 ⟨u,hr,h4⟩=>?_
   subst hr
   refine thn h4 λ_ s5 ⟨x,H5,I5,r5,y5,st5,fr5⟩=>?_
   have I5':=I5.pinned (Zbb fr5 Dr) (T.obj _ _ st5)
   refine thn (hg d _ s5 _ H5 x u _ I5' r5 (hgf _ _ _ _ (step x H5 y5))) λ_ s6 ⟨σ6,H6,I6,q6,l6,k6⟩=>?_
   have wk:∀ (j:Nat) v,(Sd own.length fr σ)[j]? = some (some v)→σ6[j]? = some (some v):=λj v e=>by
    by_cases hj:j < own.length
    ·unfold Sd at e
     rw [List.getElem?_append_left (by simpa using hj),List.getElem?_replicate,if_pos hj] at e
     cases e
    ·rw [k6 j (by omega)]
     exact e
   refine thn (ht d _ s6 σ6 H6 _ I6 q6) λb s7 ⟨H7,I7,q7⟩=>?_
   have fpK:∀ {σ':St} {H':Hp} {s':Shared},Inv (Xo X (Yr own Nm fr) scope d) ([(s2.heap.objs.size,({ cls:=.type "list",data:=.seq its.toArray na }:Obj))] ++ Lf fp s5.heap) σ' H' s'→
     tn (i+1) s'.heap∧(∀ b∈fp,H' b=none)∧H' s2.heap.objs.size=none∧s'.heap.get? s2.heap.objs.size=some { cls:=.type "list",data:=.seq its.toArray na }:=λ{σ' H' s'} I'=>by
    have pD:=I'.pin (s2.heap.objs.size,{ cls:=.type "list",data:=.seq its.toArray na }) (List.mem_append_right _ (List.mem_append_left _ (List.mem_singleton.mpr rfl)))
    refine ⟨T.keep _ _ _ st5 λb hb o e=>(I'.pin (b,o) (List.mem_append_right _ (List.mem_append_right _ (Rg hb e)))).1,λb hb=>?_,pD.2.1,pD.1⟩
    obtain ⟨o,e,_⟩:=T.obj _ _ st5 b hb
    exact (I'.pin (b,o) (List.mem_append_right _ (List.mem_append_right _ (Rg hb e)))).2.1
   have drop:∀ {σ':St} {H':Hp} {s':Shared},(∀ (j:Nat) v,(Sd own.length fr σ)[j]? = some (some v)→σ'[j]? = some (some v))→Inv (Xo X (Yr own Nm fr) scope d) ([(s2.heap.objs.size,({ cls:=.type "list",data:=.seq its.toArray na }:Obj))] ++ Lf fp s5.heap) σ' H' s'→
     Inv (Xo X (Yr own Nm fr) scope d) [] (Sd own.length fr σ) H' s':=λ{σ' H' s'} hw I'=>
    (I'.K9 (pins':=[]) (λp hp=>absurd hp (by simp))).weak (Zm2.trans I'.len.symm) hw
   cases b with
   | false=>
    rw [if_neg Bool.false_ne_true]
    obtain ⟨m',hm,w'⟩:=hNx acc H7 (by rw [if_neg Bool.false_ne_true] at q7; exact q7)
    obtain ⟨k1,k2,k3,k4⟩:=fpK I7
    exact ⟨m',hm,i+1,acc,its,H7,drop wk I7,k1,k2,k3,va,⟨_,k4⟩,w'⟩
   | true=>
    rw [if_pos rfl]
    rw [if_pos rfl] at q7
    refine thn (he d _ s7 σ6 H7 _ I7 q7) λy s8 ⟨yv,H8,I8,r8,q8⟩=>?_
    obtain ⟨m',hm,w'⟩:=hNx _ H8 q8
    obtain ⟨k1,k2,k3,k4⟩:=fpK I8
    have hsz:its.toArray.size≤sizeLine:=by
     rw [List.size_toArray,← va.length]
     exact Nat.le_of_lt hz
    refine wpAny_list_append_plain (hsz:=hsz) ⟨_,k4⟩ λh9 hl9 hs9=>?_
    have I9:Inv (Xo X (Yr own Nm fr) scope d) [] (Sd own.length fr σ) H8 { s8 with heap:=h9 }:=by
     refine (drop wk I8).turned (t':=s8.toks) (it:=s2.heap.objs.size) (λb o hb e=>hs9.extBut b o hb e) k3 hDC (.inr (Nat.le_refl _)) (λx c e=>?_) λp hp=>absurd (show p∈([]:List (Addr × Obj)) from hp) (by simp)
     exact Nat.ne_of_lt (Zjt x c (Hw x c e).1)
    refine ⟨m',hm,i+1,acc ++ [yv],its ++ [y],H8,I9,T.keep _ _ _ k1 λb hb o e=>hs9.extBut b o (λz=>hDf (z▸hb)) e,k2,k3,va.append (.cons r8 .nil),?_,w'⟩
    rw [show (its ++ [y]).toArray=its.toArray.push y by simp]
    exact hl9
 exact codeAny_compStart_list (loop _) (T.self _ 0 _ _ _ (T.keep 0 _ _ st2 λb _ o e=>old b o e) (loop _))
theorem Yc (S:Zdb sc Nm own fr scope) (hc:X.calm=true) (hgf:GFr own.length g) (hi:PI X tg iter wi) (hg:∀ d,PG (Xo X (Yr own Nm fr) scope d) tg g)
  (ht:∀ d,PTs (Xo X (Yr own Nm fr) scope d) ifs tt) (he:∀ d,PE (Xo X (Yr own Nm fr) scope d) elt te) (hsc:X.env.scope=sc:=by rfl) (hN:X.N=Nm:=by rfl)
  (hs:∀ x,foldedSetIterable iter X.env x=pure x:=by intro _; rfl):PE X (.ListComp elt [⟨tg,iter,ifs,0⟩] scope Wi) (Zgs own.length fr wi g tt te):=by
 intro pins s σ H Q I h
 rw [eval_ListComp]
 refine El (use:=none) S hsc hN hc hgf hi hg ht he hs I h λD C Hd s' m I' q hn nC c1 c2 c3 c4=>?_
 exact ⟨m,hn,λh' hb=>⟨.ref D,Hd,I'.turned (t':=s'.toks) (λb o hne e=>hb.extBut b o hne e) nC c2 (.inr c1) c3 c4,rfl,q⟩⟩
theorem Ob {i:Nat} {x:Str} {pos pos':Pos} (hNd:X.N.Nodup) (hix:X.N[i]? = some x) (hx:X.env.scope.names.lookup x=some .local) (S:Zdb sc Nm own fr scope) (hc:X.calm=true) (hgf:GFr own.length g) (hi:PI X tg iter wi)
  (hg:∀ d,PG (Xo X (Yr own Nm fr) scope d) tg g) (ht:∀ d,PTs (Xo X (Yr own Nm fr) scope d) ifs tt) (he:∀ d,PE (Xo X (Yr own Nm fr) scope d) elt te) (hsc:X.env.scope=sc:=by rfl) (hN:X.N=Nm:=by rfl)
  (hs:∀ x,foldedSetIterable iter X.env x=pure x:=by intro _; rfl)
  (hsw:swapsWith (.ListComp elt [⟨tg,iter,ifs,0⟩] scope Wi) (some (.Name x pos')) pos.line X.env=pure true:=by rfl) :
  PS X (.Assign [.Name x pos'] (.ListComp elt [⟨tg,iter,ifs,0⟩] scope Wi) pos) (Znz (Zgs own.length fr wi g tt te) (Kc i)):=by
 intro pins s σ H D0 I h
 rw [exec_Assign_Name_used _ _ _ _ hsw]
 refine wpAny_bind (wpAny_standAt (wpAny_bind ?_))
 refine wpAny_bind (thn (El (use:=some (assign (.Name x pos') X.env)) (Q0:=λ_ s'=>SP X pins D0 .next s') S hsc hN hc hgf hi hg ht he hs I h λD C Hd s' m I' q hn nC c1 c2 c3 c4=>?_) λ_ s' q=>wpAny_pure (wpAny_pure q))
 show wpAny _ _ (assign (.Name x pos') X.env (.ref D)) _ _ s'
 refine wpAny_assign_Name (Fq I' hNd hix (.inl hx) (v:=.ref D) rfl (λs2 I2 ⟨a,sb,ha⟩=>?_) (.inr hx))
 have hCa:C≠a:=by
  rcases ha with z | z
  ·rw [z]; exact c2
  ·exact (c3 x a z).symm
 refine ⟨m,hn.sameBut sb hCa,λh' hb=>⟨_,Hd,I2.turned (t':=s2.toks) (λb o hne e=>hb.extBut b o hne e) nC c2 (.inr c1) c3 c4,q⟩⟩
end
theorem S1 {J:It} {n k:Nat} {fr:List Nat} {g:TG} {tt:TT} {te:TE} {σ:St} {H:Hp} {Q:VK} (Pv:Nat→List V→Hp→Prop) (hk:k < sizeLine) (h0:Pv 0 [] H) (hlen:∀ i acc H,Pv i acc H→acc.length≤i)
  (hgo:∀ i acc H,i < k→Pv i acc H→J.go i H) (hst:∀ acc H,Pv k acc H→J.stop k H)
  (hs:∀ i acc H2 x H3,i < k→Pv i acc H2→J.yld i H2 x H3→g x (Sd n fr σ) H3 λσ4 H4=>tt σ4 H4 λb H5=>if b=true then te σ4 H5 λv H6=>Pv (i+1) (acc ++ [v]) H6 else Pv (i+1) acc H5)
  (hd:∀ acc H2,Pv k acc H2→∀ l,H2 l=none→Q (.ref l) (upd H2 l (.lst acc))) :
  Znh J n fr g tt te σ H Q:=by
 refine ⟨λi m acc H=>m=k - i∧i≤k∧Pv i acc H,⟨k,by simp,Nat.zero_le _,h0⟩,?_⟩
 rintro i m acc H2 ⟨rfl,hi,p⟩
 have hl:=hlen i acc H2 p
 refine ⟨by omega,?_⟩
 by_cases hlt:i < k
 ·exact .inr ⟨hgo i acc H2 hlt p,Pv (i+1),λZp3 H' p'=>⟨k - (i+1),by omega,rfl,hlt,p'⟩,λx H3 y=>hs i acc H2 x H3 hlt p y⟩
 ·have e:i=k:=by omega
  subst e
  exact .inl ⟨hst acc H2 p,hd acc H2 p⟩
def Xy {lo:Int} {n k:Nat} {fr:List Nat} {g:TG} {tt:TT} {te:TE} {σ:St} {H:Hp} {Q:VK} (Pv:Nat→List V→Hp→Prop) (hk:k < sizeLine) (h0:Pv 0 [] H) (hlen:∀ i acc H,Pv i acc H→acc.length≤i)
  (hs:∀ i acc H2,i < k→Pv i acc H2→g (.int (lo+i)) (Sd n fr σ) H2 λσ4 H4=>tt σ4 H4 λb H5=>if b=true then te σ4 H5 λv H6=>Pv (i+1) (acc ++ [v]) H6 else Pv (i+1) acc H5)
  (hd:∀ acc H2,Pv k acc H2→∀ l,H2 l=none→Q (.ref l) (upd H2 l (.lst acc))):=
 S1 (J:=Itr lo k) (n:=n) (fr:=fr) (g:=g) (tt:=tt) (te:=te) (σ:=σ) (Q:=Q) Pv hk h0 hlen (λ_ _ _ h _=>h) (λ_ _ _=>Nat.le_refl _) (λi acc H2 x H3 hi p y=>by
  obtain ⟨e1,e2⟩:=y
  subst e1 e2
  exact hs i acc _ hi p) hd
def Xi {K:W.Frag} {a:Addr} {xs:List V} {n:Nat} {fr:List Nat} {g:TG} {tt:TT} {te:TE} {σ:St} {H:Hp} {Q:VK} (Pv:Nat→List V→Hp→Prop) (hk:xs.length < sizeLine) (h0:Pv 0 [] H) (hlen:∀ i acc H,Pv i acc H→acc.length≤i)
  (hl:∀ i acc H,Pv i acc H→SqL K H a xs)
  (hs:∀ i acc H2 x,xs[i]? = some x→Pv i acc H2→g x (Sd n fr σ) H2 λσ4 H4=>tt σ4 H4 λb H5=>if b=true then te σ4 H5 λv H6=>Pv (i+1) (acc ++ [v]) H6 else Pv (i+1) acc H5)
  (hd:∀ acc H2,Pv xs.length acc H2→∀ l,H2 l=none→Q (.ref l) (upd H2 l (.lst acc))):=
 S1 (J:=Itl K a) (n:=n) (fr:=fr) (g:=g) (tt:=tt) (te:=te) (σ:=σ) (Q:=Q) Pv hk h0 hlen (λi acc H hi p=>⟨xs,xs[i],hl i acc H p,by simp [hi]⟩) (λacc H p=>⟨xs,hl _ acc H p,Nat.le_refl _⟩) (λi acc H2 x H3 hi p y=>by
  obtain ⟨e1,e2⟩:=y
  subst e1
  exact hs i acc _ x (e2 xs (hl i acc _ p)) p) hd
def U2 {K:W.Frag} {a:Addr} {xs:List V} {n:Nat} {fr:List Nat} {g:TG} {tt:TT} {te:TE} {σ:St} {H:Hp} {Q:VK} (Pv:Nat→List V→Hp→Prop) (hk:xs.length < sizeLine) (h0:Pv 0 [] H) (hlen:∀ i acc H,Pv i acc H→acc.length≤i)
  (hl:∀ i acc H,Pv i acc H→SqT K H a xs)
  (hs:∀ i acc H2 x,xs[i]? = some x→Pv i acc H2→g x (Sd n fr σ) H2 λσ4 H4=>tt σ4 H4 λb H5=>if b=true then te σ4 H5 λv H6=>Pv (i+1) (acc ++ [v]) H6 else Pv (i+1) acc H5)
  (hd:∀ acc H2,Pv xs.length acc H2→∀ l,H2 l=none→Q (.ref l) (upd H2 l (.lst acc))):=
 S1 (J:=Itt K a) (n:=n) (fr:=fr) (g:=g) (tt:=tt) (te:=te) (σ:=σ) (Q:=Q) Pv hk h0 hlen (λi acc H hi p=>⟨xs,xs[i],hl i acc H p,by simp [hi]⟩) (λacc H p=>⟨xs,hl _ acc H p,Nat.le_refl _⟩) (λi acc H2 x H3 hi p y=>by
  obtain ⟨e1,e2⟩:=y
  subst e1
  exact hs i acc _ x (e2 xs (hl i acc _ p)) p) hd
end L2
namespace L2
open PySem PySem.Spec PyProof.Rows
def Its (cs:List Nat):It:=⟨λi _=>i < cs.length,λi H x H'=>H'=H∧∃ c,cs[i]? = some c∧x=.str ⟨#[c]⟩,λi _=>cs.length≤i⟩
theorem Zgn {P:Program} {w:World} {K:W.Frag} {tg:Expr} (it:Addr) (ty:String) (hty:ty = "str_ascii_iterator"∨ty = "str_iterator") (x:Str) (t:Tok) :
  Turn P w K tg (Its x.cps.toList) [it] it (λi h=>h.IsStrIter it ty x t i) where
 mem:=by simp
 obj:=λi h st b hb=>by
  rw [List.mem_singleton.mp hb]
  obtain ⟨o,e,c,d⟩:=st
  exact ⟨o,e,λv z=>by rw [d] at z; cases z⟩
 keep:=λi h h' st k=>by
  obtain ⟨o,e,r⟩:=st
  exact ⟨o,k it (by simp) o e,r⟩
 item:=by
  intro X hP hw hK hc i pins s σ H E I hf st hg
  subst hP hw hK
  have hlt:i < x.cps.toList.length:=hg
  obtain ⟨f0,f1,f2,f3,f4,f5⟩:=hf it (by simp)
  have hx:x.cps[i]? = some (x.cps.toList[i]):=by
   rw [← Array.getElem?_toList]
   exact List.getElem?_eq_getElem hlt
  have fin:∀ h',h'.IsStrIter it ty x t (i+1)→Heap.SameBut it s.heap h'→∃ u,some (Value.str ⟨#[x.cps.toList[i]]⟩ s.toks)=some u∧
    wpAny (model X.prog X.w) X.A (letOwnedTupleGo tg (.ref it) u) (λ_ s2=>∃ y H',Inv X pins σ H' s2∧RelV y u∧(Its x.cps.toList).yld i H y H'∧s2.heap.IsStrIter it ty x t (i+1)∧∀ b∈[it],H' b=none) E { s with heap:=h',toks:=s.toks+1 }:=λh' st' sb=>by
   have I1:Inv X pins σ H { s with heap:=h',toks:=s.toks+1 }:=I.turned (λb o hb e=>(sb.2 b hb).trans e) f0 f1 f3 f4 f5
   obtain ⟨o,e,c,d⟩:=id st'
   refine ⟨_,rfl,Eg (s:={ s with heap:=h',toks:=s.toks+1 }) (n:=ty) e c d (by rcases hty with z | z <;> subst z <;> decide) ⟨.str ⟨#[x.cps.toList[i]]⟩,H,I1,⟨_,rfl⟩,⟨rfl,_,List.getElem?_eq_getElem hlt,rfl⟩,st',λb hb=>(hf b hb).1⟩⟩
  rcases hty with z | z
  ·subst z
   exact wpAny_pyNext_ascii_item st hx λh' st' sb=>fin h' st' sb
  ·subst z
   exact wpAny_pyNext_wide_item st hx λh' st' sb=>fin h' st' sb
 done:=by
  intro X hP hw hK hc i pins s σ H E I hf st hg
  subst hP hw hK
  have hle:x.cps.toList.length≤i:=hg
  obtain ⟨f0,f1,f2,f3,f4,f5⟩:=hf it (by simp)
  have hx:x.cps[i]? = none:=by
   rw [← Array.getElem?_toList]
   exact List.getElem?_eq_none_iff.mpr hle
  rcases hty with z | z
  ·subst z
   exact wpAny_pyNext_ascii_end (I.ok.hd hc) st hx λh' eb=>⟨rfl,I.turned (t':=s.toks) (λb o hb e=>eb b o hb e) f0 f1 f3 f4 f5⟩
  ·subst z
   exact wpAny_pyNext_wide_end (I.ok.hd hc) st hx λh' eb=>⟨rfl,I.turned (t':=s.toks) (λb o hb e=>eb b o hb e) f0 f1 f3 f4 f5⟩
 self:=λ_ _ _ _ _ st h=>by
  rcases hty with z | z
  ·subst z
   exact wpAny_pyIter_striter_ascii st h
  ·subst z
   exact wpAny_pyIter_striter_wide st h
section
variable {X:Cx} {tg e:Expr} {te:TE}
def iStr (te:TE):TI:=λσ H R=>te σ H λv H1=>∃ z,v=.str z∧R (Its z.cps.toList) H1
theorem Ra (he:PE X e te):PI X tg e (iStr te):=by
 intro pins s σ H R I h
 refine thn (he pins s σ H _ I h) λv s1 ⟨x,H1,I1,r1,q1⟩=>?_
 obtain ⟨z,e1,q⟩:=q1
 subst e1
 obtain ⟨t,rfl⟩:=r1
 have go:∀ (ty:String),(ty = "str_ascii_iterator"∨ty = "str_iterator")→PIE X pins σ tg R (.ref s1.heap.objs.size) { s1 with heap:=s1.heap.push { cls:=.type ty,data:=.fields #[.str z t,.int 0 0] } }:=λty hty=>by
  refine ⟨s1.heap.objs.size,[s1.heap.objs.size],_,_,H1,rfl,I1.kept (t':=s1.toks) λb o e=>Heap.get?_push_of_some _ e,Zgn _ ty hty z t,⟨_,Heap.get?_push_size _ rfl,rfl,rfl⟩,λb hb=>?_,q⟩
  rw [List.mem_singleton.mp hb]
  exact I1.Fb (Nat.le_refl _) (I1.hok.fresh (Nat.le_refl _))
 cases ha:z.cps.all (· < 128) with
 | false=>exact wpAny_pyIter_wide ha (go _ (.inr rfl))
 | true=>exact wpAny_pyIter_ascii ha (go _ (.inl rfl))
end
theorem Jf {cs:List Nat} {g:TG} {tb:TS} {D:Ends} {σ:St} {H:Hp} (Pv:Nat→St→Hp→Prop) (h0:Pv 0 σ H)
  (hs:∀ i c σ H,cs[i]? = some c→Pv i σ H→g (.str ⟨#[c]⟩) σ H λσ2 H2=>tb { D with nx:=Pv (i+1),ct:=Pv (i+1),bk:=D.nx } σ2 H2) (hd:∀ σ H,Pv cs.length σ H→D.nx σ H) :
  ∃ W:Nat→Nat→St→Hp→Prop,(∃ m,W 0 m σ H)∧∀ i m σ H,W i m σ H→
   ((Its cs).stop i H∧D.nx σ H)∨((Its cs).go i H∧∃ N:St→Hp→Prop,(∀ σ' H',N σ' H'→∃ m',m' < m∧W (i+1) m' σ' H')∧∀ x H',(Its cs).yld i H x H'→g x σ H' λσ2 H2=>tb { D with nx:=N,ct:=N,bk:=D.nx } σ2 H2):=by
 refine ⟨λi m σ H=>m=cs.length - i∧i≤cs.length∧Pv i σ H,⟨cs.length,by simp,Nat.zero_le _,h0⟩,?_⟩
 rintro i m σ H ⟨rfl,hi,p⟩
 by_cases hlt:i < cs.length
 ·refine .inr ⟨hlt,Pv (i+1),λσ' H' p'=>⟨cs.length - (i+1),by omega,rfl,hlt,p'⟩,λx H' y=>?_⟩
  obtain ⟨e,c,hc,hx⟩:=y
  subst e hx
  exact hs i c σ _ hc p
 ·have e:i=cs.length:=by omega
  subst e
  exact .inl ⟨Nat.le_refl _,hd σ H p⟩
def Q9 {cs:List Nat} {n:Nat} {fr:List Nat} {g:TG} {tt:TT} {te:TE} {σ:St} {H:Hp} {Q:VK} (Pv:Nat→List V→Hp→Prop) (hk:cs.length < sizeLine) (h0:Pv 0 [] H) (hlen:∀ i acc H,Pv i acc H→acc.length≤i)
  (hs:∀ i acc H2 c,cs[i]? = some c→Pv i acc H2→g (.str ⟨#[c]⟩) (Sd n fr σ) H2 λσ4 H4=>tt σ4 H4 λb H5=>if b=true then te σ4 H5 λv H6=>Pv (i+1) (acc ++ [v]) H6 else Pv (i+1) acc H5)
  (hd:∀ acc H2,Pv cs.length acc H2→∀ l,H2 l=none→Q (.ref l) (upd H2 l (.lst acc))):=
 S1 (J:=Its cs) (n:=n) (fr:=fr) (g:=g) (tt:=tt) (te:=te) (σ:=σ) (Q:=Q) Pv hk h0 hlen (λ_ _ _ h _=>h) (λ_ _ _=>Nat.le_refl _) (λi acc H2 x H3 hi p y=>by
  obtain ⟨e1,c,hc,hx⟩:=y
  subst e1 hx
  exact hs i acc _ c hc p) hd
theorem Ia (bs:List Bool):(List.range bs.length).all (λi=>bs.getD i false)=bs.all id:=by
 rw [Bool.eq_iff_iff,List.all_eq_true,List.all_eq_true]
 constructor
 ·intro h b hb
  obtain ⟨i,hi,rfl⟩:=List.getElem_of_mem hb
  have:=h i (List.mem_range.mpr hi)
  simpa [List.getD_eq_getElem?_getD,hi] using this
 ·intro h i hi
  have hi':=List.mem_range.mp hi
  have:=h bs[i] (List.getElem_mem hi')
  simpa [List.getD_eq_getElem?_getD,hi'] using this
theorem J9 (bs:List Bool):(List.range bs.length).any (λi=>bs.getD i false)=bs.any id:=by
 rw [Bool.eq_iff_iff,List.any_eq_true,List.any_eq_true]
 constructor
 ·rintro ⟨i,hi,h⟩
  have hi':=List.mem_range.mp hi
  exact ⟨bs[i],List.getElem_mem hi',by simpa [List.getD_eq_getElem?_getD,hi'] using h⟩
 ·rintro ⟨b,hb,h⟩
  obtain ⟨i,hi,rfl⟩:=List.getElem_of_mem hb
  exact ⟨i,List.mem_range.mpr hi,by simpa [List.getD_eq_getElem?_getD,hi] using h⟩
section
variable {X:Cx}
theorem Jj {pins:List (Addr × Obj)} {σ:St} {H:Hp} {s:Shared} {p:Addr} {bs:List Bool} {Qv:VK} {f:Nat→(Nat→Bool)→Bool} {b:Bool} (hc:X.calm=true) (I:Inv X pins σ H s) (hq:SqL X.K H p (bs.map V.bl)) (hb:f bs.length (λi=>bs.getD i false)=b) (q:Qv (.bl b) H) :
  wpAny (model X.prog X.w) X.A.in1 (pyIter (.ref p)) (λit s₂=>∃ I fp wr n P St tr,it=.ref I∧Walks X.prog X.w X.A.in1 I fp wr n P St∧St 0 s₂.heap∧TruthOf X.prog X.w X.A.in1 P tr∧
   ∀ h' tk,(∀ b o,b∉wr→s₂.heap.get? b=some o→h'.get? b=some o)→EP X pins σ Qv (.bool (f n tr)) { s₂ with heap:=h',toks:=tk }) X.xe s:=by
 obtain ⟨its,r,pl,hz⟩:=I.list hq
 have hlen:its.toArray.size=bs.length:=by
  rw [List.size_toArray,← r.length,List.length_map]
 have hpl:p < s.heap.objs.size:=by
  obtain ⟨o,e,_⟩:=pl.isList
  exact Heap.lt_size e
 refine wpAny_pyIter_list pl.isList ?_
 refine ⟨s.heap.objs.size,[s.heap.objs.size,p],[s.heap.objs.size],its.toArray.size,_,_,λi=>bs.getD i false,rfl,Walks.list (A:=X.A.in1) (show X.A.in1.handled=none from I.ok.hd hc) s.heap.objs.size p (Nat.ne_of_lt hpl) its.toArray,?_,?_,λh' tk k=>?_⟩
 ·refine And.intro (show Heap.IsListIter _ _ _ _ from ⟨_,Heap.get?_push_size _ rfl,rfl,rfl⟩) ?_
  obtain ⟨o,e,z⟩:=pl.isList
  exact ⟨o,Heap.get?_push_of_some _ e,z⟩
 ·intro i v s' Q E hv hQ
  have hv':its[i]? = some v:=by simpa using hv
  cases e:(bs.map V.bl)[i]? with
  | none=>
   have z:=r.none_of e
   rw [hv'] at z
   cases z
  | some x=>
   obtain ⟨u,hu,ru⟩:=r.get e
   rw [hv'] at hu
   cases hu
   rw [List.getElem?_map] at e
   cases e2:bs[i]? with
   | none=>rw [e2] at e; cases e
   | some y=>
    rw [e2] at e
    cases e
    cases ru
    refine wpAny_truthy_bool ?_
    have:bs.getD i false=y:=by rw [List.getD_eq_getElem?_getD,e2]; rfl
    exact this▸(show Q (bs.getD i false) s' from hQ)
 ·rw [hlen,hb]
  refine ⟨.bl b,H,I.kept λc o e=>k c o ?_ (Heap.get?_push_of_some _ e),rfl,q⟩
  have:=Heap.lt_size e
  intro z
  rw [List.mem_singleton.mp z] at this
  exact Nat.lt_irrefl _ this
theorem Zao (hc:X.calm=true):Xh X (.builtin "all") (λxs H Q=>∃ (p:Addr) (bs:List Bool),xs=[.ref p]∧SqL X.K H p (bs.map V.bl)∧Q (.bl (bs.all id)) H):=by
 intro pins s σ H xs us Q I r h
 obtain ⟨p,bs,rfl,hq,q⟩:=h
 obtain ⟨u,rfl,ru⟩:=vals1 r
 cases ru
 exact call_all_walk (Jj (f:=λn tr=>(List.range n).all tr) hc I hq (Ia bs) q)
theorem Zan (hc:X.calm=true):Xh X (.builtin "any") (λxs H Q=>∃ (p:Addr) (bs:List Bool),xs=[.ref p]∧SqL X.K H p (bs.map V.bl)∧Q (.bl (bs.any id)) H):=by
 intro pins s σ H xs us Q I r h
 obtain ⟨p,bs,rfl,hq,q⟩:=h
 obtain ⟨u,rfl,ru⟩:=vals1 r
 cases ru
 exact call_any_walk (Jj (f:=λn tr=>(List.range n).any tr) hc I hq (J9 bs) q)
theorem O0:∀ {ys:List Str} {us:List Value},Vals (ys.map V.str) us→StrsAre us ys
 | [],us,r=>by rw [List.map_nil] at r; cases r; exact .nil
 | y :: ys,us,r=>by
  rw [List.map_cons] at r
  cases r with
  | cons r1 r2=>
   obtain ⟨t,e⟩:=r1
   subst e
   exact .cons y t (O0 r2)
theorem Fm:∀ {us:List Value} {ys:List Str},StrsAre us ys→Vals (ys.map V.str) us
 | _,_,.nil=>.nil
 | _,_,.cons y t h=>.cons ⟨t,rfl⟩ (Fm h)
inductive Zhg (K:W.Frag) (x:V) (xs:List V) (H:Hp) (Q:VK):Prop
 | mk (z p ys:_) (h1:x=.str z) (h2:xs=[.ref p]) (h3:SqL K H p (ys.map V.str)) (h4:(ys.map (·.length)).sum+ys.length * z.length≤16777216) (h5:Q (.str (Txt.join z ys)) H):Zhg K x xs H Q
def rJoin (K:W.Frag):V→List V→Hp→VK→Prop:=λx xs H Q=>Zhg K x xs H Q
theorem Zla:MtR X "str.join" (rJoin X.K):=by
 intro pins s σ H x xs v us Q I rx rs h
 obtain ⟨z,p,ys,rfl,rfl,hq,hz,q⟩:=h
 obtain ⟨t,rfl⟩:=rx
 obtain ⟨u,rfl,ru⟩:=rs.one
 cases ru
 obtain ⟨its,r,pl,_⟩:=I.list hq
 exact join_list pl.isList (by simpa using O0 r) hz λt' k=>⟨.str _,H,I.tok _,⟨_,rfl⟩,q⟩
theorem G6 (ys:List Str):(Txt.join (Str.ofString "") ys).cps.toList=(ys.map λy=>y.cps.toList).flatten:=by
  show (Builtin.Str.glued (Str.ofString "") ys).cps.toList=_
  rw [StrLaws.glued_eq_join]
  induction ys with
  | nil=>rfl
  | cons y r ih=>
   cases r with
   | nil=>simp [Str.join]
   | cons z r=>
    have e:Str.join (Str.ofString "") (y :: z :: r)=y ++ Str.ofString "" ++ Str.join (Str.ofString "") (z :: r):=rfl
    rw [e]
    have h0:(Str.ofString "").cps = #[]:=by decide +kernel
    show ((y.cps ++ (Str.ofString "").cps) ++ (Str.join (Str.ofString "") (z :: r)).cps).toList=_
    rw [h0,Array.append_empty,Array.toList_append,ih,List.map_cons,List.map_cons,List.flatten_cons]
    rfl
inductive Zdq (K:W.Frag) (xs:List V) (H:Hp) (Q:VK):Prop
 | mk (p ys:_) (h1:xs=[.ref p]) (h2:SqL K H p (ys.map V.str)) (h3:ys.length < 64) (h4:∀ ys' l,ys'.Perm ys→sortedS ys'=true→H l=none→Q (.ref l) (upd H l (.lst (ys'.map V.str)))):Zdq K xs H Q
def Zhb (K:W.Frag):List V→Hp→VK→Prop:=λxs H Q=>Zdq K xs H Q
theorem Ky:Xh X (.builtin "sorted") (Zhb X.K):=by
 intro pins s σ H xs us Q I r h
 obtain ⟨p,ys,rfl,hq,h64,q⟩:=h
 obtain ⟨u,rfl,ru⟩:=vals1 r
 cases ru
 obtain ⟨its,r',pl,hz⟩:=I.list hq
 have hlen:=r'.length
 rw [List.length_map] at hlen hz
 refine sorted_strs pl.isList (O0 r') (by omega) λout ss' a1 a2 a3=>?_
 obtain ⟨e,he⟩:=sortedAll_at s.heap its out
 have hn:H (s.heap.objs.size+1)=none:=I.hok.fresh (Nat.le_succ _)
 refine ⟨.ref (s.heap.objs.size+1),upd H (s.heap.objs.size+1) (.lst (ss'.map V.str)),I.laid (t':=s.toks) (λ_ _=>sortedAll_old) (Nat.le_succ _) ⟨?_,out.toList,e,Fm a1,?_⟩,rfl,q ss' _ a2 a3 hn⟩
 ·rw [List.length_map,a2.length_eq]
  exact hz
 ·simpa [seqObj] using he
def Gs (c:Nat):V:=.str ⟨#[c]⟩
theorem Jk {x:Str}:∀ (us:List Value) (k:Nat),(∀ i v,us[i]? = some v→SignAt x (k+i) v)→us.length+k=x.cps.toList.length→Vals ((x.cps.toList.drop k).map Gs) us
 | [],k,_,hl=>by
  rw [List.drop_eq_nil_of_le (by simpa using Nat.le_of_eq hl.symm)]
  exact .nil
 | u :: us,k,h,hl=>by
  have hk:k < x.cps.toList.length:=by
   simp only [List.length_cons] at hl
   omega
  rw [List.drop_eq_getElem_cons hk,List.map_cons]
  refine .cons ?_ (Jk us (k+1) (λi v e=>?_) (by simp only [List.length_cons] at hl; omega))
  ·obtain ⟨c,t,hc,rfl⟩:=h 0 u rfl
   have hc':x.cps.toList[k]? = some c:=by
    rw [Array.getElem?_toList]
    exact hc
   rw [List.getElem?_eq_getElem hk] at hc'
   rw [Option.some.inj hc']
   exact ⟨t,rfl⟩
  ·have:=h (i+1) v e
   rw [show k+1+i=k+(i+1) by omega]
   exact this
theorem Hy (hc:X.calm=true):Xh X (.type "list") (λxs H Q=>∃ z,xs=[.str z]∧z.length≤sizeLine∧∀ l,H l=none→Q (.ref l) (upd H l (.lst (z.cps.toList.map Gs)))):=by
 intro pins s σ H xs us Q I r h
 obtain ⟨z,rfl,hz,q⟩:=h
 obtain ⟨u,rfl,t,rfl⟩:=vals1 r
 refine call_list_str (hn:=hz) (I.ok.hd hc) z t λh' tk acc c kp e it=>?_
 refine ⟨.ref s.heap.objs.size,_,I.laid kp (Nat.le_refl _) (show Yx X.prog X.w _ h' _ (.lst (z.cps.toList.map Gs)) from ⟨by rw [List.length_map]; simpa [Str.length] using hz,acc.toList,c,?_,by simpa using e⟩),rfl,q _ (I.hok.fresh (Nat.le_refl _))⟩
 have e1:=Jk (x:=z) acc.toList 0 (λi v e=>by rw [Nat.zero_add]; exact it.2 i v (by rw [← Array.getElem?_toList]; exact e)) (by rw [Array.length_toList,it.1,Nat.add_zero,Array.length_toList])
 rw [List.drop_zero] at e1
 exact e1
inductive Zdu (x:V) (xs:List V) (H:Hp) (Q:VK):Prop
 | mk (z y:_) (h1:x=.str z) (h2:xs=[.str y]) (h3:0≤Txt.find z y) (h4:Q (.int (Txt.find z y)) H):Zdu x xs H Q
def Zof:V→List V→Hp→VK→Prop:=λx xs H Q=>Zdu x xs H Q
theorem Zib (hc:X.calm=true):MtR X "str.index" Zof:=by
 intro pins s σ H x xs v us Q I rx rs h
 obtain ⟨z,y,rfl,rfl,h0,q⟩:=h
 obtain ⟨t,rfl⟩:=rx
 obtain ⟨u1,rfl,⟨t1,rfl⟩⟩:=rs.one
 exact index_or (I.ok.hd hc) (λe=>by omega) λ_ _=>⟨.int _,H,I.tok _,⟨_,rfl⟩,q⟩
inductive Zqy (K:W.Frag) (xs:List V) (H:Hp) (Q:VK):Prop
 | mk (x n t b:_) (h1:xs=[x,.ty n]) (h2:L1 K H x t) (h3:W.kitOne K t (.type n)=some b) (h4:Q (.bl b) H):Zqy K xs H Q
def rIs (K:W.Frag):List V→Hp→VK→Prop:=λxs H Q=>Zqy K xs H Q
theorem Zl0:Xh X (.builtin "isinstance") (rIs X.K):=by
 intro pins s σ H xs us Q I r h
 obtain ⟨x,n,t,b,rfl,ty,e,q⟩:=h
 obtain ⟨u,w',rfl,rx,rc⟩:=vals2 r
 cases (show w'=Value.type n from rc)
 exact Zfr I rx ty e λtk=>⟨.bl b,H,I.tok _,rfl,q⟩
end
end L2
namespace L2
open PySem PySem.Spec PyProof.Rows
inductive Zme (t:TS) (u:TS) (D:Ends) (σ:St) (H:Hp):Prop
 | mk (P:St→Hp→Prop) (h1:t { D with nx:=P } σ H) (h2:∀ σ' H',P σ' H'→u D σ' H'):Zme t u D σ H
def Znw (t u:TS):TS:=λD σ H=>Zme t u D σ H
theorem Zdv {X:Cx} {st:Stmt} {rest:List Stmt} {t u:TS} (h1:PS X st t) (h2:PSs X rest u):PSs X (st :: rest) (Znw t u):=by
 intro pins s σ H D I h
 obtain ⟨P,q,k⟩:=h
 have z:PSs X (st :: rest) (Zq (λD' σ' H'=>D'=D∧σ'=σ∧H'=H) (λ_ _ _=>True))→True:=λ_=>True.intro
 exact Zd (t:=λD' σ' H'=>t { D' with nx:=P } σ' H'∧∀ σ2 H2,P σ2 H2→D'.nx σ2 H2) (u:=u) (λpins s σ H D I h=>by
  refine thn (h1 pins s σ H _ I h.1) λf s' r=>?_
  cases f with
  | next=>
   obtain ⟨σ',H',I',p⟩:=r
   exact ⟨σ',H',I',h.2 σ' H' p⟩
  | brk=>exact r
  | cont=>exact r
  | ret v=>exact r) h2 pins s σ H D I ⟨q,k⟩
structure Cal (P:Program) (w:World) (K:W.Frag) (mg:Str→Option Value) (base:Heap) (x:Str) (k:Nat) (ps:List Str) (sp:Sp) where
 f:Addr
 fd:FuncData
 ok:Yp P w K mg base CX0 k f fd ps sp
 at_:mg x=some (.ref f)
 kp:W.keepIn K (.ref f)=true
 b:Binds K fd ps []
theorem Yg {X:Cx} {x:Str} {k:Nat} {ps:List Str} {sp:Sp} {p pos:Pos} {e:Expr} {es:List Expr} {t:TA} (C:Cal X.prog X.w X.K X.mg X.base x k ps sp) (hr:Vs k X.A) (ha:PA X (e :: es) t) (hg:Gl X x:=by rfl)
  (hdb:(x==("__debug__" : Str))=false:=by decide) (he:starEach (e :: es) X.env=(false,eval e X.env) :: starEach es X.env:=by rfl) (hpl:(backTo pos (starEach es X.env)).any (·.1)=false:=by rfl) :
  PE X (.Call (.Name x p) (e :: es) [] pos) (Zmf sp [] E0 t):=Zky C.ok hr hg C.at_ C.kp C.b .nil Zmy ha hdb he hpl
section
variable {X:Cx}
theorem Oe:OpR X (compareOp .LtE) (λx y H Q=>∃ i j,x=.str i∧y=.str j∧Q (.bl (!decide (j.cps.toList < i.cps.toList))) H):=by
 intro pins s σ H x y v u Q I rx ry h
 obtain ⟨i,j,rfl,rfl,q⟩:=h
 obtain ⟨t,rfl⟩:=rx
 obtain ⟨t',rfl⟩:=ry
 exact PySem.P.le_str (Yl I q rfl)
theorem Zk1:OpR X (compareOp .IsNot) (λx y H Q=>∃ a b,x=.bl a∧y=.bl b∧Q (.bl (!(a==b))) H):=by
 intro pins s σ H x y v u Q I rx ry h
 obtain ⟨a,b,rfl,rfl,q⟩:=h
 cases rx
 cases ry
 refine wpAny_isNot_plain (by cases a <;> cases b <;> rfl) ⟨.bl (!(a==b)),H,I,?_,q⟩
 cases a <;> cases b <;> rfl
end
theorem Lq (a b:Nat):decide (([a]:List Nat) < [b])=decide (a < b):=by
 rw [Bool.eq_iff_iff,decide_eq_true_eq,decide_eq_true_eq]
 constructor
 ·intro h
  cases h with
  | rel h=>exact h
  | cons h=>cases h
 ·intro h
  exact List.Lex.rel h
section
variable {X:Cx} {K:W.Frag}
inductive Zhf (K:W.Frag) (xs:List V) (H:Hp) (Q:VK):Prop
 | mk (p ys:_) (h1:xs=[V.ref p]) (h2:(SqL K H p ys∨SqT K H p ys)) (h3:Q (.int ys.length) H):Zhf K xs H Q
def Zqw (K:W.Frag):List V→Hp→VK→Prop:=λxs H Q=>Zhf K xs H Q
inductive Zdt (K:W.Frag) (xs:List V) (H:Hp) (Q:VK):Prop
 | mk (p ys:_) (h1:xs=[V.ref p]) (h2:(SqL K H p ys∨SqT K H p ys)) (h3:∀ l,H l=none→Q (.ref l) (upd H l (.lst ys))):Zdt K xs H Q
def Zoc (K:W.Frag):List V→Hp→VK→Prop:=λxs H Q=>Zdt K xs H Q
inductive Zha (K:W.Frag) (xs:List V) (H:Hp) (Q:VK):Prop
 | mk (p ys:_) (h1:xs=[V.ref p]) (h2:((SqL K H p ys∧∀ l,H l=none→Q (.ref l) (upd H l (.tup ys)))∨(SqT K H p ys∧Q (.ref p) H))):Zha K xs H Q
def Zqq (K:W.Frag):List V→Hp→VK→Prop:=λxs H Q=>Zha K xs H Q
inductive Zhk (K:W.Frag) (xs:List V) (H:Hp) (Q:VK):Prop
 | mk (p:Addr) (bs:List Bool) (h1:xs=[V.ref p]) (h2:SqL K H p (bs.map V.bl)) (h3:Q (.bl (bs.all id)) H):Zhk K xs H Q
def Zq5 (K:W.Frag):List V→Hp→VK→Prop:=λxs H Q=>Zhk K xs H Q
inductive Zhj (K:W.Frag) (xs:List V) (H:Hp) (Q:VK):Prop
 | mk (p:Addr) (bs:List Bool) (h1:xs=[V.ref p]) (h2:SqL K H p (bs.map V.bl)) (h3:Q (.bl (bs.any id)) H):Zhj K xs H Q
def Zq4 (K:W.Frag):List V→Hp→VK→Prop:=λxs H Q=>Zhj K xs H Q
theorem Xh.imp {X:Cx} {f:Value} {r r':List V→Hp→VK→Prop} (h:Xh X f r) (hi:∀ xs H Q,r' xs H Q→r xs H Q):Xh X f r':=λpins s σ H xs us Q I rv q=>h pins s σ H xs us Q I rv (hi xs H Q q)
theorem Zz (hK:X.K=K:=by rfl):IxR X (Zoe K):=by subst hK; exact Zlh
theorem Zw (hK:X.K=K:=by rfl):IxR X (Zqx K):=by subst hK; exact Zo2
theorem Z3 (hK:X.K=K:=by rfl):Xh X (.builtin "len") (Zqw K):=by subst hK; exact C0.imp λ_ _ _ ⟨p,ys,e,h,q⟩=>⟨p,ys,e,h,q⟩
theorem U5 (hK:X.K=K:=by rfl):Xh X (.type "list") (Zoc K):=by subst hK; exact Cz.imp λ_ _ _ ⟨p,ys,e,h,q⟩=>⟨p,ys,e,h,q⟩
theorem Yi (hK:X.K=K:=by rfl):Xh X (.type "tuple") (Zqq K):=by subst hK; exact Fc.imp λ_ _ _ ⟨p,ys,e,h⟩=>⟨p,ys,e,h⟩
theorem Um (hc:X.calm=true:=by rfl) (hK:X.K=K:=by rfl):Xh X (.builtin "all") (Zq5 K):=by subst hK; exact (Zao hc).imp λ_ _ _ ⟨p,bs,e,h,q⟩=>⟨p,bs,e,h,q⟩
theorem Eo (hc:X.calm=true:=by rfl) (hK:X.K=K:=by rfl):Xh X (.builtin "any") (Zq4 K):=by subst hK; exact (Zan hc).imp λ_ _ _ ⟨p,bs,e,h,q⟩=>⟨p,bs,e,h,q⟩
theorem Zct (hK:X.K=K:=by rfl):Xh X (.builtin "sorted") (Zhb K):=by subst hK; exact Ky
theorem Zju (hK:X.K=K:=by rfl):Xh X (.builtin "isinstance") (rIs K):=by subst hK; exact Zl0
theorem Rc (hK:X.K=K:=by rfl):OpR X (compareOp .In) (rIn K false):=by subst hK; exact Zfg
theorem Zhx (hK:X.K=K:=by rfl):OpR X (binaryOp .Add) (Zmv K):=by subst hK; exact Zd0
theorem Bz (hK:X.K=K:=by rfl):SlR X (Zqs K):=by subst hK; exact Zkl
theorem Zkk (hK:X.K=K:=by rfl):SlR X (Zqr K):=by subst hK; exact Zn3
theorem Iy (hK:X.K=K:=by rfl):MtR X "str.join" (rJoin K):=by subst hK; exact Zla
theorem Yv {tg l:Expr} {tl:TE} (hl:PE X l tl) (hK:X.K=K:=by rfl):PI X tg l (Zm5 K tl):=by subst hK; exact Zkx hl
theorem V3 {tg l:Expr} {tl:TE} (hl:PE X l tl) (hK:X.K=K:=by rfl):PI X tg l (Zrl K tl):=by subst hK; exact Zog hl
theorem V5 {es:List Expr} {k:Nat} {t:TGs} {n:Nat} {pos:Pos} (hc:X.calm=true) (h:PGs X es t) (hK:X.K=K:=by rfl)
  (hn:(assignEach es X.env).length=n:=by rfl) (hst:(assignEach es X.env).findIdx? (·.1)=none:=by rfl):PG X (.Tuple es k pos) (Zlq K n t):=by subst hK; exact Zoh hc h hn hst
theorem Xd {o e:Expr} {es:List Expr} {to:TE} {t:TA} {name:Str} {apos Wi:Pos} {T id:String} {r:V→List V→Hp→VK→Prop} (pa:PlainAttrs T) (slot:Slot T name id) (hty:typeOf (.builtin id)=pure (.type "method_descriptor")) (hm:MtR X id r) (ho:PE X o to)
  (ha:PA X (e :: es) t) (hK:X.K=K:=by rfl) (Zix:attributeBase o name X.env (eval o X.env)=eval o X.env:=by rfl)
  (Zpc:((backTo Wi (starEach (e :: es) X.env)).all (λx=>!x.1) && (backToKw Wi (keywordEach [] X.env)).all (λx=>x.1.isSome)
   && decide ((e :: es).length+([]:List Keyword).length+(if ([]:List Keyword).isEmpty then 0 else 1) < 30))=true:=by rfl)
  (Zis:(apos.endLine==Wi.line)=true:=by rfl) (hs:starEach (e :: es) X.env=(false,eval e X.env) :: starEach es X.env:=by rfl) (Zcl:(backTo Wi (starEach es X.env)).any (·.1)=false:=by rfl) :
  PE X (.Call (.Attribute o name apos) (e :: es) [] Wi) (tBM K T r to t):=by subst hK; exact Zq9 pa slot hty hm ho ha Zix Zpc Zis hs Zcl
end
theorem Ya:bootBuiltins "len" = some (.builtin "len"):=by decide +kernel
theorem Ep:bootBuiltins "sorted" = some (.builtin "sorted"):=by decide +kernel
theorem L0:bootBuiltins "all" = some (.builtin "all"):=by decide +kernel
theorem Zjw:bootBuiltins "any" = some (.builtin "any"):=by decide +kernel
theorem Fd:bootBuiltins "isinstance" = some (.builtin "isinstance"):=by decide +kernel
theorem Zp0:bootBuiltins "max" = some (.builtin "max"):=by decide +kernel
theorem Zpz:bootBuiltins "min" = some (.builtin "min"):=by decide +kernel
theorem Ro:bootBuiltins "list" = some (.type "list"):=by decide +kernel
theorem Yo:bootBuiltins "tuple" = some (.type "tuple"):=by decide +kernel
theorem Zcz:bootBuiltins "int" = some (.type "int"):=by decide +kernel
theorem Zjv:bootBuiltins "str" = some (.type "str"):=by decide +kernel
theorem Mx:bootBuiltins "enumerate" = some (.type "enumerate"):=by decide +kernel
theorem C3:bootBuiltins "set" = some (.type "set"):=by decide +kernel
theorem Vg {i:Nat} {x:V} {σ:St} {H:Hp} {te:TE} {Nt:VK} {Nf:Hp→Prop} (h:te (σ.set i (some x)) H Nt):Kc i x σ H λσ4 H4=>Zno σ4 H4 λb H5=>if b=true then te σ4 H5 Nt else Nf H5:=by
 show if true=true then te (σ.set i (some x)) H Nt else Nf H
 exact Mo h
theorem Ze {H:Hp} {p:Addr} (h:H p=none) (o:HO):Zo H (upd H p o):=λb u q=>by rw [Zj (Zg q h)]; exact q
theorem Xv {n:Nat} (h:n≤1000):n≤sizeLine:=Nat.le_of_lt (Zt h)
def L4 (sc:Addr) (xs:List V):Prop:=∃ a b c d:Int,xs=[.ref sc,.int a,.int b,.int c,.int d]∧0≤a∧0≤b∧0≤c∧c < 2147483647∧0≤d
structure Yf (H:Hp) (p sc:Addr):Prop where
 here:∃ xs,H p=some (.lst xs)∧L4 sc xs
 cells:∃ ns:List Int,H sc=some (.lst (ns.map V.int))
theorem Yf.ne {H:Hp} {p sc:Addr} (F:Yf H p sc):sc≠p:=by
 obtain ⟨xs,h1,a,b,c,d,e,_⟩:=F.here
 obtain ⟨ns,h2⟩:=F.cells
 refine Wb h2 h1 λz=>?_
 have z':ns.map V.int=xs:=by injection z
 rw [e] at z'
 cases ns with
 | nil=>cases z'
 | cons n r=>
  rw [List.map_cons] at z'
  injection z' with z1
  cases z1
theorem Yf.go {H:Hp} {p sc:Addr} {xs:List V} (F:Yf H p sc) (h:L4 sc xs):Yf (upd H p (.lst xs)) p sc:=by
 obtain ⟨ns,h2⟩:=F.cells
 exact ⟨⟨xs,Zb,h⟩,ns,by rw [Zj F.ne]; exact h2⟩
def Ym (H H':Hp) (p:Addr):Prop:=∀ b o,H b=some o→b≠p→H' b=some o
theorem Yf.same {H H':Hp} {p sc:Addr} (F:Yf H p sc) (e:Zo H H'):Yf H' p sc:=by
 obtain ⟨xs,h1,h2⟩:=F.here
 obtain ⟨ns,h3⟩:=F.cells
 exact ⟨⟨xs,e _ _ h1,h2⟩,ns,e _ _ h3⟩
theorem Ym.refl (H:Hp) (p:Addr):Ym H H p:=λ_ _ h _=>h
theorem Ym.trans {H H1 H2:Hp} {p:Addr} (a:Ym H H1 p) (b:Ym H1 H2 p):Ym H H2 p:=λc o h n=>b c o (a c o h n) n
theorem Ym.upd {H:Hp} {p:Addr} (o:HO):Ym H (upd H p o) p:=λb u h n=>by rw [Zj n]; exact h
theorem Ym.same {H H':Hp} {p:Addr} (h:Zo H H'):Ym H H' p:=λb o e _=>h b o e
inductive Zdm (K:W.Frag) (vs:List V) (H:Hp) (Q:VK):Prop
 | mk (a:Addr) (ns:List Int) (h1:vs=[.ref a]) (h2:SqL K H a (ns.map V.int)) (h3:∀ p sc H',H p=none→Zo H H'→Yf H' p sc→Q (.ref p) H'):Zdm K vs H Q
def Zbg (K:W.Frag):Sp:=λvs H Q u3_=>Zdm K vs H Q
inductive Zdi (vs:List V) (H:Hp) (Q:VK):Prop
 | mk (p sc:Addr) (m:Int) (h1:vs=[.ref p,.int m]) (h2:0 < m) (h3:m < 1073741824) (h4:Yf H p sc) (h5:∀ r xs,0≤r→r < m→L4 sc xs→Q (.int r) (upd H p (.lst xs))):Zdi vs H Q
def Qh:Sp:=λvs H Q u3_=>Zdi vs H Q
def X6 (z:Str) (n:Nat):Prop:=z.cps.toList.length=n∧z.cps.toList.Pairwise (· < ·)∧∀ c∈z.cps.toList,97≤c∧c≤122
inductive Jx (vs:List V) (H:Hp) (Q:VK):Prop
 | mk (p sc:Addr) (m:Int) (h1:vs=[.ref p,.int m]) (h2:0≤m) (h3:m≤26) (h4:Yf H p sc) (h5:∀ z H',X6 z m.toNat→Ym H H' p→Yf H' p sc→Q (.str z) H'):Jx vs H Q
def Lb:Sp:=λvs H Q u3_=>Jx vs H Q
inductive Dt where
 | non | bl (b:Bool) | int (i:Int) | str (x:Str) | lst (ds:List Dt) | tup (ds:List Dt)
def Dt.dep:Dt→Nat
 | .lst ds=>(ds.map Dt.dep).foldr max 0+1
 | .tup ds=>(ds.map Dt.dep).foldr max 0+1
 | _=>0
inductive Den (H:Hp):V→Dt→Prop where
 | non:Den H .non .non
 | bl (b:Bool):Den H (.bl b) (.bl b)
 | int (i:Int):Den H (.int i) (.int i)
 | str (x:Str):Den H (.str x) (.str x)
 | lst {a:Addr} {xs:List V} {ds:List Dt} (h:H a=some (.lst xs)) (hz:xs.length≤1000000) (hl:xs.length=ds.length) (hd:∀ (i:Nat) x d,xs[i]? = some x→ds[i]? = some d→Den H x d):Den H (.ref a) (.lst ds)
 | tup {a:Addr} {xs:List V} {ds:List Dt} (h:H a=some (.tup xs)) (hz:xs.length≤1000000) (hl:xs.length=ds.length) (hd:∀ (i:Nat) x d,xs[i]? = some x→ds[i]? = some d→Den H x d):Den H (.ref a) (.tup ds)
end L2
namespace L2
open PySem PySem.Spec PyProof.Rows
section
variable {X:Cx} {tg:Expr}
end
def tTru (K:W.Frag) (ta:TE):TT:=λσ H Q=>ta σ H λx H'=>∃ k,Zp6 K x H' k∧Q k H'
theorem Yy {X:Cx} {K:W.Frag} {a:Expr} {ta:TE} (ha:PE X a ta) (he:∀ whole,isTrue a X.env whole=(do let v ← whole; standAt a.pos; holding [v] (truthy v))) (hK:X.K=K:=by rfl):PT X a (tTru K ta):=by
 subst hK
 exact Zhl ha he
end L2
namespace L2
open PySem PySem.Spec PyProof.Rows
section
variable {P:Program} {w:World} {A:Around} {E:Value→Shared→Prop} {s:Shared}
set_option maxHeartbeats 3200000 in
end
end L2
namespace L2
open PySem PySem.Spec PyProof.Rows
section
variable {P:Program} {w:World} {A:Around} {E:Value→Shared→Prop} {s:Shared}
end
end L2
namespace L2
open PySem PySem.Spec PyProof.Rows
section
variable {P:Program} {w:World} {A:Around} {E:Value→Shared→Prop} {s:Shared}
end
def signs (z:Str):List Str:=z.cps.toList.map λc=>⟨#[c]⟩
section
variable {X:Cx}
end
end L2
namespace L2
open PySem PySem.Spec PyProof.Rows
def Znq (tk tv:TE):TE:=λσ H Q=>∀ p,H p=none→Ez [(tk,tv)] σ (upd H p (.dT [])) λps H2=>∃ x y,ps=[(x,y)]∧H2 p=some (.dT [])∧∃ b ks,x=.ref b∧H2 b=some (.tup (ks.map kV))∧Q (.ref p) (upd H2 p (.dT [(ks,y)]))
theorem Zhv {X:Cx} {pos:Pos} {k v:Expr} {tk tv:TE} (hu:X.A.units+1 < cLine) (hk:PE X k tk) (hv:PE X v tv):PE X (.Dict [some k] [v] pos) (Znq tk tv):=by
 intro pins s σ H Q I q
 have hn:=I.hok.fresh (Nat.le_refl s.heap.objs.size)
 have I1:=I.laid (a:=s.heap.objs.size) (o:=.dT []) (h':=s.heap.push { cls:=.type "dict",data:=.dict #[] }) (t':=s.toks) (λ_ _ q=>Heap.get?_push_of_some _ q) (Nat.le_refl _) (Zag s.heap I.big)
 have Kx:([some k]:List (Option Expr)).all (·.isSome)=true:=rfl
 have hn1:=pairTrees_length [some k] [v] X.env pos Kx rfl
 rw [arm_eval_Dict,zip_pairTrees [some k] [v] X.env pos Kx rfl,dictDisplay_pairs _ (λhe=>by rw [he] at hn1; cases hn1) (by rw [hn1]; show 1 < 17; decide)]
 refine wpAny_bind (wpAny_standAt (wpAny_bind ?_))
 unfold subDict
 refine wpAny_bind (wpAny_alloc (wpAny_bind (wpAny_holding ?_)))
 rw [if_pos (by rw [hn1]; show 1≤15; decide)]
 refine wpAny_bind (wpAny_mono (Ib hk hv Dq pins _ σ _ _ I1 (q _ hn)) (λvs s2 h2=>?_) λ_ _ e=>e)
 obtain ⟨ps,H2,I2,rel,x,y,rfl,e,b,ks,rfl,eb,q2⟩:=h2
 cases rel with
 | @cons a c as cs hac tl=>
  cases tl
  obtain ⟨u,r⟩:=c
  cases (show u=Value.ref b from hac.1)
  refine wpAny_holding (wpAny_bind ?_)
  rw [List.forIn_cons]
  obtain ⟨z,hd,xs,rl,dd⟩:=Zjc I2.hok e
  cases rl
  refine wpAny_bind (wpAny_bind (wpAny_dictSet_heap (show X.A.units < cLine by omega) (Lr I2.hok eb) dd λh' dd' hs=>wpAny_pure ?_))
  refine wpAny_pure (wpAny_pure (wpAny_pure (wpAny_pure ?_)))
  obtain ⟨qo,es,ep,hq,h2,h3,h4,_,h5⟩:=dd'
  refine ⟨.ref s.heap.objs.size,_,Oh (ob:=.dT [(ks,y)]) I2 (by rw [e]; exact True.intro) hs ⟨qo,hq⟩ ⟨by show 1≤sizeLine; decide,hd,_,.cons ⟨rfl,?_,hac.2⟩ .nil,qo,es,ep,hq,h2,h3,h4,h5⟩,rfl,q2⟩
  rw [Zj (Wb eb e (λz=>nomatch z))]
  exact eb
end L2
namespace L2
open PySem PySem.Spec PyProof.Rows
section
variable {X:Cx} {K:W.Frag}
theorem Zrr {A:Around} {k:Nat} (hr:Vs k A):A.units < cLine:=Nat.lt_of_succ_lt (Vt hr)
end
end L2
namespace L2
open PySem PySem.Spec PyProof.Rows
theorem Vk {X:Cx} {st:Stmt}:PS X st (λ_ _ _=>False):=λ_ _ _ _ _ _ h=>h.elim
theorem Zdw {X:Cx} {tg it:Expr} {w1 w2:TI} (h1:PI X tg it w1) (h2:PI X tg it w2):PI X tg it (λσ H R=>w1 σ H R∨w2 σ H R):=λpins s σ H R I h=>by
 rcases h with h | h
 ·exact h1 pins s σ H R I h
 ·exact h2 pins s σ H R I h
def Zk5 (n:Int):Str:=Str.ofString (toString n)
section
variable {X:Cx}
theorem Cw:Xh X (.type "str") (λxs H Q=>∃ n:Int,xs=[.int n]∧n.natAbs < 1000000∧Q (.str (Zk5 n)) H):=by
 intro pins s σ H xs us Q I r h
 obtain ⟨n,rfl,hn,q⟩:=h
 refine Cy pins s σ H [.int n] us Q I r ⟨n,rfl,?_,q⟩
 by_cases h0:n.natAbs=0
 ·rw [h0]; decide
 ·exact Nat.lt_trans ((Nat.log2_lt h0).mpr (show n.natAbs < 2 ^ 20 by omega)) (by decide)
theorem C1:Xh X (.type "int") (λxs H Q=>∃ n:Int,xs=[.str (Zk5 n)]∧0≤n∧n < 10 ^ 10∧Q (.int n) H):=by
 intro pins s σ H xs us Q I r h
 obtain ⟨n,rfl,h0,h1,q⟩:=h
 obtain ⟨u,rfl,t,rfl⟩:=vals1 r
 exact W.KIN.call_num h0 h1 ⟨.int n,H,I.tok _,⟨_,rfl⟩,q⟩
theorem Fn:∀ (tk:Nat) (ys:List Str),Vals (ys.map V.str) (strsFrom tk ys)
 | _,[]=>.nil
 | tk,y :: r=>.cons ⟨tk,rfl⟩ (Fn (tk+1) r)
inductive Zdp (x:V) (xs:List V) (H:Hp) (Q:VK):Prop
 | mk (z y:_) (h1:x=.str z) (h2:xs=[.str y]) (h3:y.length=1) (h4:z.length≤1000000) (h5:∀ l,H l=none→Q (.ref l) (upd H l (.lst ((Txt.split z y).map V.str)))):Zdp x xs H Q
def Zn9:V→List V→Hp→VK→Prop:=λx xs H Q=>Zdp x xs H Q
theorem Iw:MtR X "str.split" Zn9:=by
 intro pins s σ H x xs v us Q I rx rs h
 obtain ⟨z,y,rfl,rfl,hy,hz,q⟩:=h
 obtain ⟨t,rfl⟩:=rx
 obtain ⟨w',rfl,u,rfl⟩:=rs.one
 have hs:(Txt.split z y).length≤z.length+2:=split_le z y
 have hl:sizeLine=16777216:=sizeLine_eq
 have fin:∀ (tk:Nat) (its:List Value),Vals ((Txt.split z y).map V.str) its→EP X pins σ Q (.ref s.heap.objs.size) { s with heap:=s.heap.push { cls:=.type "list",data:=.seq its.toArray },toks:=tk }:=λtk its hv=>
  ⟨.ref _,_,I.Zri (t':=tk) hv (by rw [List.length_map]; omega),rfl,q _ I.fresh⟩
 have hy0:(y.length==0)=false:=by rw [hy]; rfl
 cases h1:(decide (z.length < y.length) || decide (Builtin.Str.strKind z < Builtin.Str.strKind y))
 ·cases hf:(Builtin.Str.occurrences z y 0 z.length (z.length+1)).isEmpty
  ·have e:Txt.split z y=Builtin.Str.partsBetween z (Builtin.Str.occurrences z y 0 z.length (z.length+1)) y.length:=by
    unfold Txt.split
    rw [if_neg (by rw [h1]; decide),if_neg (by rw [hf]; decide)]
   rw [e] at fin hs
   exact call_meets F.slot_str_split (typeIs_str _ _ _) F.entry_str_split (F.args_str_split_2 _ _) (meets_str_split_sep z y t u h1 hy0 hf (by omega) (by omega)) (fin _ _ (Fn _ _))
  ·have e:Txt.split z y=[z]:=by
    unfold Txt.split
    rw [if_neg (by rw [h1]; decide),if_pos hf]
   rw [e] at fin
   exact call_meets F.slot_str_split (typeIs_str _ _ _) F.entry_str_split (F.args_str_split_2 _ _) (meets_str_split_not_found z y t u h1 hy0 hf) (fin _ _ (.cons ⟨_,rfl⟩ .nil))
 ·have e:Txt.split z y=[z]:=by
   unfold Txt.split
   rw [if_pos h1]
  rw [e] at fin
  exact call_meets F.slot_str_split (typeIs_str _ _ _) F.entry_str_split (F.args_str_split_2 _ _) (meets_str_split_cannot_occur z y t u h1) (fin _ _ (.cons ⟨_,rfl⟩ .nil))
end
def jl (c:Nat):List (List Nat)→List Nat
 | []=>[]
 | [x]=>x
 | x :: y :: r=>x ++ c :: jl c (y :: r)
theorem Mn (c:Nat) (x y:List Nat) (r:List (List Nat)):jl c (x :: y :: r)=x ++ c :: jl c (y :: r):=rfl
theorem Zes {c:Nat}:∀ {x y a b:List Nat},c∉x→c∉y→x ++ c :: a=y ++ c :: b→x=y∧a=b
 | [],[],a,b,_,_,h=>⟨rfl,by simpa using h⟩
 | [],d :: y,a,b,_,hy,h=>by
  injection h with h1 h2
  exact absurd (by rw [h1]; exact List.mem_cons_self) hy
 | d :: x,[],a,b,hx,_,h=>by
  injection h with h1 h2
  exact absurd (by rw [h1]; exact List.mem_cons_self) hx
 | d :: x,e :: y,a,b,hx,hy,h=>by
  injection h with h1 h2
  obtain ⟨g1,g2⟩:=Zes (λz=>hx (List.mem_cons_of_mem _ z)) (λz=>hy (List.mem_cons_of_mem _ z)) h2
  exact ⟨by rw [h1,g1],g2⟩
theorem Zii {c:Nat}:∀ {p q:List (List Nat)},p≠[]→q≠[]→(∀ x∈p,c∉x)→(∀ x∈q,c∉x)→jl c p=jl c q→p=q
 | [],_,h,_,_,_,_=>absurd rfl h
 | _,[],_,h,_,_,_=>absurd rfl h
 | [x],[y],_,_,_,_,h=>by rw [show x=y from h]
 | [x],y :: z :: r,_,_,hp,_,h=>by
  rw [Mn] at h
  have:x=y ++ c :: jl c (z :: r):=h
  exact absurd (by rw [this]; exact List.mem_append_right _ List.mem_cons_self) (hp x List.mem_cons_self)
 | x :: z :: r,[y],_,_,_,hq,h=>by
  rw [Mn] at h
  have:x ++ c :: jl c (z :: r)=y:=h
  exact absurd (by rw [← this]; exact List.mem_append_right _ List.mem_cons_self) (hq y List.mem_cons_self)
 | x :: x2 :: r,y :: y2 :: r2,_,_,hp,hq,h=>by
  rw [Mn,Mn] at h
  obtain ⟨g1,g2⟩:=Zes (hp x List.mem_cons_self) (hq y List.mem_cons_self) h
  rw [g1,Zii (p:=x2 :: r) (q:=y2 :: r2) (by simp) (by simp) (λz hz=>hp z (List.mem_cons_of_mem _ hz)) (λz hz=>hq z (List.mem_cons_of_mem _ hz)) g2]
theorem Ck (c:Nat):∀ ys:List Str,(Str.join ⟨#[c]⟩ ys).cps.toList=jl c (ys.map λy=>y.cps.toList)
 | []=>rfl
 | [y]=>rfl
 | y :: z :: r=>by
  have e:Str.join ⟨#[c]⟩ (y :: z :: r)=y ++ ⟨#[c]⟩ ++ Str.join ⟨#[c]⟩ (z :: r):=rfl
  rw [e]
  show ((y.cps ++ #[c]) ++ (Str.join ⟨#[c]⟩ (z :: r)).cps).toList=_
  rw [Array.toList_append,Array.toList_append,Ck c (z :: r)]
  simp [jl]
theorem Cf {a b:List Str} (h:a.map (λy=>y.cps.toList)=b.map λy=>y.cps.toList):a=b:=by
 have inj:∀ x y:Str,x.cps.toList=y.cps.toList→x=y:=λx y e=>by
  cases x
  cases y
  simpa using e
 revert b
 induction a with
 | nil=>intro b h; cases b with
  | nil=>rfl
  | cons y b=>cases h
 | cons x a ih=>intro b h; cases b with
  | nil=>cases h
  | cons y b=>
   rw [List.map_cons,List.map_cons] at h
   injection h with h1 h2
   rw [inj x y h1,ih h2]
theorem O1 {c:Nat} {ys:List Str} (hne:ys≠[]) (hf:∀ y∈ys,c∉y.cps.toList):Txt.split (Txt.join ⟨#[c]⟩ ys) ⟨#[c]⟩=ys:=by
 have h1:Str.join ⟨#[c]⟩ (Txt.split (Txt.join ⟨#[c]⟩ ys) ⟨#[c]⟩)=Txt.join ⟨#[c]⟩ ys:=StrLaws.join_split _ _
 have h2:Txt.join ⟨#[c]⟩ ys=Str.join ⟨#[c]⟩ ys:=StrLaws.glued_eq_join _ _
 have h3:=StrLaws.split_free (Txt.join ⟨#[c]⟩ ys) c
 have h4:Txt.split (Txt.join ⟨#[c]⟩ ys) ⟨#[c]⟩≠[]:=λe=>by
  have:=split_pos (Txt.join ⟨#[c]⟩ ys) ⟨#[c]⟩
  rw [e] at this
  exact absurd this (by decide)
 generalize Txt.split (Txt.join ⟨#[c]⟩ ys) ⟨#[c]⟩=zs at h1 h3 h4
 rw [h2] at h1
 have h5:=congrArg (λs:Str=>s.cps.toList) h1
 simp only [Ck] at h5
 refine Cf (Zii (c:=c) (by simpa using h4) (by simpa using hne) (λx hx=>?_) (λx hx=>?_) h5)
 ·obtain ⟨y,hy,rfl⟩:=List.mem_map.mp hx
  exact h3 y hy
 ·obtain ⟨y,hy,rfl⟩:=List.mem_map.mp hx
  exact hf y hy
end L2
namespace L2
open PySem PySem.Spec PyProof.Rows
section
variable {X:Cx} {K:W.Frag}
end
section
open PySem.SeqAt
open PySem.AutoSeq1 (wpAny_loadPart')
open PySem.MeetsSeq PySem.MeetsSeq2 PySem.MeetsSeq3
theorem Zos:∀ l:List Nat,decide (l < l)=false:=λl=>decide_eq_false (List.lt_irrefl l)
end
section
variable {X:Cx} {K:W.Frag}
end
end L2
namespace L2
open PySem PySem.Spec PyProof.Rows
section
open PySem.W (KasT kas_asc kas_count kas_cmp kas_st kas_item)
end
section
variable {prog:Program} {w:World} {A:Around} {E:Value→Shared→Prop} {s:Shared}
end
abbrev lo (ks:List Value) (e:Nat):Obj:={ cls:=.type "list",data:=.seq ks.toArray e }
section
variable {X:Cx} {pins:List (Addr × Obj)} {σ:St} {H:Hp} {s:Shared}
end
section
variable {X:Cx} {pins:List (Addr × Obj)} {σ:St} {H:Hp} {s:Shared} {x:Str} {k:Nat} {ps:List Str} {sp:Sp} {ok:V→Prop} {kf:V→List V}
end
end L2
namespace L2
open PySem PySem.Spec PyProof.Rows
section
open PySem.W (KasT kas_asc kas_desc kas_tail3 kas_descPart kas_count kas_place kas_bin kas_sort kas_rev)
variable {n:Nat} {lt:Nat→Nat→Bool} {p:Array Nat}
end
end L2
namespace L2
open PySem PySem.Spec PyProof.Rows
section
open PySem.W (kas_count kas_ask kas_item kas_st kas_asc)
end
section
variable {X:Cx} {pins:List (Addr × Obj)} {σ:St} {H:Hp} {s:Shared} {x:Str} {k:Nat} {ps:List Str} {sp:Sp}
end
end L2
namespace L2
open PySem PySem.Spec PyProof.Rows
section
variable {P:Program} {w:World} {A:Around} {E:Value→Shared→Prop} {s:Shared}
end
section
variable {X:Cx} {pins:List (Addr × Obj)} {σ:St} {H:Hp} {s:Shared} {x:Str} {k:Nat} {ps:List Str} {sp:Sp}
end
end L2
namespace L2
open PySem PySem.Spec PyProof.Rows
section
variable {prog:Program} {w:World} {A:Around} {E:Value→Shared→Prop} {s:Shared} {K:W.Frag} {C:Addr}
end
section
variable {prog:Program} {w:World} {A:Around} {E:Value→Shared→Prop} {s:Shared} {K:W.Frag} {x C:Addr} {ox:Obj} {od:Option Obj} {name:Str}
end
end L2
namespace L2
open PySem PySem.Spec PyProof.Rows
section
variable {X:Cx} {pins:List (Addr × Obj)} {σ:St} {H:Hp} {s:Shared} {a C:Addr} {fs:List (Str × V)} {A:Around} {E:Value→Shared→Prop}
end
end L2
namespace L2
open PySem PySem.Spec PyProof.Rows
section
variable {P:Program} {w:World} {A:Around} {E:Value→Shared→Prop} {s:Shared}
end
section
variable {X:Cx}
end
end L2
namespace L2
open PySem PySem.Spec PyProof.Rows
section
variable {P:Program} {w:World} {A:Around} {E:Value→Shared→Prop} {s:Shared} {d:Addr} {vs:List Value} {ep:Nat}
end
section
variable {X:Cx} {pins:List (Addr × Obj)} {σ:St} {H:Hp} {s:Shared} {x:Str} {k:Nat} {ps:List Str} {sp:Sp}
end
end L2
namespace L2
open PySem PySem.Spec PyProof.Rows
section
open PySem.W (KasT kas_asc kas_desc kas_tail3 kas_descPart kas_count kas_place kas_bin kas_sort kas_rev)
variable {n:Nat} {key:Nat→Nat} {p:Array Nat}
end
end L2
namespace L2
open PySem PySem.Spec PyProof.Rows
section
open PySem.W (kas_sort kas_ask kas_item)
variable {X:Cx} {pins:List (Addr × Obj)} {σ:St} {H:Hp} {s:Shared}
end
end L2
namespace L2
open PySem PySem.Spec PyProof.Rows
section
variable {P:Program} {w:World} {A:Around} {E:Value→Shared→Prop} {s:Shared}
set_option maxHeartbeats 3200000 in
end
section
variable {X:Cx}
end
end L2
namespace L2
open PySem PySem.Spec PyProof.Rows
section
variable {P:Program} {w:World} {A:Around} {E:Value→Shared→Prop} {s:Shared} {t r:Addr} {items:Array Value}
end
section
variable {X:Cx}
inductive Zmm (K:W.Frag) (x:V) (lo:Option Int) (hi:Option Int) (H:Hp) (Q:VK):Prop
 | mk (a xs:_) (h1:x=.ref a) (h2:SqT K H a xs) (h3:(HT.sIx xs.length 0 lo=0∧HT.sIx xs.length xs.length hi=xs.length)) (h4:Q (.ref a) H):Zmm K x lo hi H Q
def rSlW (K:W.Frag):V→Option Int→Option Int→Hp→VK→Prop:=λx lo hi H Q=>Zmm K x lo hi H Q
theorem Zkj {K:W.Frag} (hK:X.K=K:=by rfl):SlR X (rSlW K):=by
 subst hK
 intro pins s σ H x v vl vu lo hi sl Q I rx hs pl pu h
 obtain ⟨a,xs,rfl,hx,hw,q⟩:=h
 cases rx
 obtain ⟨its,r,ht,hz⟩:=I.tuple hx
 have hlen:its.toArray.size=xs.length:=by rw [List.size_toArray]; exact r.length.symm
 refine ⟨"tuple",_,PyProof.Rows.slot_tuple_getitem.lookup,ht.typeIs,?_⟩
 obtain ⟨os,hos,hcs,hds⟩:=id hs
 have hTs:s.TypeIs (.ref sl) "slice":=⟨os,hos,hcs⟩
 unfold getItem
 try with_reducible refine wpAny_holding ?_
 first | refine wpAny_bind (wpAny_pure ?_) | skip
 refine wpAny_bind (wpAny_sequenceKey ht.typeIs (by decide) (wpAny_bind (wpAny_callSpecial?_slot (name:=Str.ofString "__getitem__") ht.typeIs PyProof.Rows.slot_tuple_getitem (wpAny_call_entry PyProof.Rows.slot_tuple_getitem ht.typeIs entry_tuple_getitem ?_ (args_tuple_getitem _ _)))))
 refine (show wpAny _ _ (Builtin.Tuple.tupleItemsOf (.ref a) >>= _) _ _ s from wpAny_bind (tupleItemsOf_ ht (wpAny_bind (wpAny_typeOf hTs ?_))))
 rw [if_pos (by decide)]
 refine wpAny_bind (HT.Sj hs pl pu ?_)
 have yes:(((HT.sIx its.toArray.size 0 lo:Nat):Int)==0 && (1:Int)==1 && (HT.sIx its.toArray.size its.toArray.size hi - HT.sIx its.toArray.size 0 lo)==its.toArray.size)=true:=by
  rw [hlen,hw.1,hw.2]
  simp
 show wpAny _ _ (if (((HT.sIx its.toArray.size 0 lo:Nat):Int)==0 && (1:Int)==1 && (HT.sIx its.toArray.size its.toArray.size hi - HT.sIx its.toArray.size 0 lo)==its.toArray.size)=true then _ else _) _ _ s
 rw [if_pos yes]
 unfold Builtin.Tuple.tupleIsExact
 refine wpAny_bind (wpAny_bind (wpAny_typeOf ht.typeIs (wpAny_pure ?_)))
 rw [if_pos (by decide)]
 exact wpAny_bind (wpAny_rule (wpAny_pure ⟨_,rfl,wpAny_pure ⟨.ref a,H,I,rfl,q⟩⟩))
inductive Zmp (x:V) (lo:Option Int) (hi:Option Int) (H:Hp) (Q:VK):Prop
 | mk (a xs:_) (h1:x=.ref a) (h2:H a=some (.tup xs)) (h3:∀ g H',Zo H H'→H' g=some (.tup (Q8 xs lo hi))→Q (.ref g) H'):Zmp x lo hi H Q
def rSlG (K:W.Frag):V→Option Int→Option Int→Hp→VK→Prop:=λx lo hi H Q=>Zmp x lo hi H Q
theorem K5 {K:W.Frag} (hK:X.K=K:=by rfl):SlR X (rSlG K):=by
 intro pins s σ H x v vl vu lo hi sl Q I rx hs pl pu h
 obtain ⟨a,xs,e,hx,q⟩:=h
 by_cases z:HT.sIx xs.length 0 lo=0∧HT.sIx xs.length xs.length hi=xs.length
 ·refine Zkj hK pins s σ H x v vl vu lo hi sl Q I rx hs pl pu ⟨a,xs,e,SqT.of hx,z,q a H (Zo.refl _) ?_⟩
  have:Q8 xs lo hi=xs:=by
   unfold Q8
   rw [z.1,z.2,List.drop_zero,Nat.sub_zero,List.take_length]
  rw [this]
  exact hx
 ·exact Zkk hK pins s σ H x v vl vu lo hi sl Q I rx hs pl pu ⟨a,xs,e,SqT.of hx,z,λp hp=>q p _ (Ze hp _) Zb⟩
end
end L2
namespace L2
open PySem PySem.Spec PyProof.Rows
section
variable {X:Cx} {tg:Expr}
end
end L2
namespace L2
open PySem PySem.Spec PyProof.Rows
def FnO (f:Addr) (fd:FuncData):HO:=.ext λh=>h.get? f=some { cls:=.type "function",data:=.func fd }
def CdO (c:Addr) (q:Str):HO:=.ext λh=>h.CodeRec (.ref c) q
section
variable {P:Program} {w:World} {H:Hp} {h h':Heap} {f c a:Addr} {fd:FuncData} {q:Str}
theorem Zco (e:h.get? f=some { cls:=.type "function",data:=.func fd }):Yx P w H h f (FnO f fd):=⟨e,⟨_,e⟩,λ_ _ a k=>k _ a⟩
theorem Zpv (e:h.CodeRec (.ref c) q):Yx P w H h c (CdO c q):=by
 have e':=e
 obtain ⟨c2,o,vs,t,e1,e2,e3,e4⟩:=e'
 cases e1
 refine ⟨e,⟨o,e2⟩,λh1 h2 a k=>?_⟩
 obtain ⟨c3,o3,vs3,t3,f1,f2,f3,f4⟩:=a
 cases f1
 exact ⟨_,o3,vs3,t3,rfl,k _ f2,f3,f4⟩
theorem FnO.at_ (ok:HOk P w H h) (e:H f=some (FnO f fd)):h.get? f=some { cls:=.type "function",data:=.func fd }:=(ok f _ e).1
theorem CdO.at_ (ok:HOk P w H h) (e:H c=some (CdO c q)):h.CodeRec (.ref c) q:=(ok c _ e).1
end
theorem Zgb {p:Pos} {r:List Value} (l:List Value) (h:TriplesOk l):codeAmong p (l ++ r)=match codeAmong p l with | some c=>some c | none=>codeAmong p r:=by
 fun_induction TriplesOk l with
 | case1=>rfl
 | case2 a t b u x rest ih=>
  simp only [List.cons_append,codeAmong]
  split
  ·rfl
  ·exact ih h
 | case3 l h1 h2=>exact h.elim
def Vu (P:Addr) (H H':Hp):Prop:=∀ b o,b≠P→H b=some o→H' b=some o
theorem Vu.trans {P:Addr} {H H1 H2:Hp} (a:Vu P H H1) (b:Vu P H1 H2):Vu P H H2:=λc o n h=>b c o n (a c o n h)
theorem Zo.t {P:Addr} {H H1:Hp} (a:Zo H H1):Vu P H H1:=λc o _ h=>a c o h
def Tb (P:Addr) (L:List (Pos × Str)) (H:Hp):Prop:=
 ∃ ps,H P=some (.tbl ps)∧TriplesOk ps.toList∧∀ x∈L,codeAmong x.1 ps.toList=none∨∃ c,codeAmong x.1 ps.toList=some (.ref c)∧H c=some (CdO c x.2)
theorem Tb.same {P:Addr} {L:List (Pos × Str)} {H H':Hp} (t:Tb P L H) (e:Zo H H'):Tb P L H':=by
 obtain ⟨ps,h1,h2,h3⟩:=t
 refine ⟨ps,e _ _ h1,h2,λx hx=>?_⟩
 rcases h3 x hx with h | ⟨c,a,b⟩
 ·exact .inl h
 ·exact .inr ⟨c,a,e _ _ b⟩
theorem Tb.start {P:Addr} {L:List (Pos × Str)} {H:Hp} (h:H P=some (.tbl #[])):Tb P L H:=⟨#[],h,True.intro,λ_ _=>.inl rfl⟩
section
variable {fs ex:List Addr} {H:Hp} {h h':Heap} {P c f:Addr} {o1 o2:HO} {ps more:Array Value}
def made (H:Hp) (P c f:Addr) (ps:Array Value) (o1 o2:HO):Hp:=upd (upd (upd H P (.tbl ps)) c o1) f o2
theorem Uh {b:Addr} (h1:b≠P) (h2:b≠c) (h3:b≠f):made H P c f ps o1 o2 b=H b:=by
 unfold made
 rw [Zj h3,Zj h2,Zj h1]
theorem Zic:made H P c f ps o1 o2 f=some o2:=Zb
theorem Zb1 (n:c≠f):made H P c f ps o1 o2 c=some o1:=by
 unfold made
 rw [Zj n,Zb]
theorem Zb2 (n1:P≠c) (n2:P≠f):made H P c f ps o1 o2 P=some (.tbl ps):=by
 unfold made
 rw [Zj n2,Zj n1,Zb]
theorem Un.made (e:H P=some (.tbl ps)) (k:∀ b u,b≠P→h.get? b=some u→h'.get? b=some u) (hP:∃ u,h'.get? P=some u) (hc:h.objs.size≤c) (hf:h.objs.size≤f) (nc:H c=none) (nf:H f=none) :
  Un fs ex H (made H P c f (ps ++ more) o1 o2) h h':=by
 have nP:∀ b,H b=none→b≠P:=λb n z=>by rw [z,e] at n; cases n
 have lo:∀ {b:Addr} {u:Obj},h.get? b=some u→b≠c∧b≠f:=λ{b u} q=>⟨Nat.ne_of_lt (Nat.lt_of_lt_of_le (Heap.lt_size q) hc),Nat.ne_of_lt (Nat.lt_of_lt_of_le (Heap.lt_size q) hf)⟩
 refine ⟨λb u q n _ _=>k b u (nP b n) q,λb u q n _ _=>⟨u.slots,k b u (nP b n) q⟩,λb u q n _=>by rw [Uh (nP b n) (lo q).1 (lo q).2]; exact n,λb u q _=>?_,λb xs q=>?_,λb u xs q=>?_,λb ps' q=>?_⟩
 ·by_cases hb:b=P
  ·rw [hb]; exact hP
  ·exact ⟨u,k b u hb q⟩
 ·rw [Uh (λz=>by rw [z,e] at q; cases q) (Zg q nc) (Zg q nf)]; exact q
 ·rw [Uh (λz=>by rw [z,e] at q; cases q) (Zg q nc) (Zg q nf)]; exact q
 ·by_cases hb:b=P
  ·subst hb
   rw [e] at q
   cases q
   exact ⟨more,Zb2 (Zg e nc) (Zg e nf)⟩
  ·exact ⟨#[],by rw [Uh hb (Zg q nc) (Zg q nf),q]; simp⟩
theorem HOk.made {Pg:Program} {w:World} (ok:HOk Pg w H h) (e:H P=some (.tbl ps)) (k:∀ b u,b≠P→h.get? b=some u→h'.get? b=some u) (hP:h'.get? P=some (W.tabObj (ps ++ more))) (nc:H c=none) (nf:H f=none) (ncf:c≠f)
  (hc:Yx Pg w (made H P c f (ps ++ more) o1 o2) h' c o1) (hf:Yx Pg w (made H P c f (ps ++ more) o1 o2) h' f o2):HOk Pg w (made H P c f (ps ++ more) o1 o2) h':=λb u q=>by
 by_cases b1:b=f
 ·subst b1; rw [Zic] at q; cases q; exact hf
 by_cases b2:b=c
 ·subst b2; rw [Zb1 ncf] at q; cases q; exact hc
 by_cases b3:b=P
 ·subst b3; rw [Zb2 b2 b1] at q; cases q; exact hP
 rw [Uh b3 b2 b1] at q
 refine (ok b u q).Jq (λy v hy r=>k y v ?_ r) (λy r=>?_) λy xs r=>?_
 ·rcases hy with z | z
  ·rw [z]; exact b3
  ·intro z2
   rw [z2,e] at z
   cases z
 ·rw [Uh (λz=>by rw [z,e] at r; cases r) (Zg r nc) (Zg r nf)]; exact r
 ·rw [Uh (λz=>by rw [z,e] at r; cases r) (Zg r nc) (Zg r nf)]; exact r
end
def Nw (mg:Str→Option Value) (h:Heap):Prop:=∃ bm ob,mg "__builtins__" = some (.ref bm)∧bm≠builtinsNs∧h.get? bm=some ob∧ob.cls=.type "module"∧ob.dict=some builtinsNs∧ob.data=.plain
theorem Nw.keeps {mg:Str→Option Value} {h h':Heap} (b:Nw mg h) (k:∀ b o,h.get? b=some o→h'.get? b=some o):Nw mg h':=
 let ⟨bm,ob,h1,h2,h3,r⟩:=b; ⟨bm,ob,h1,h2,k _ _ h3,r⟩
theorem Nw.at_ {mg:Str→Option Value} {h:Heap} {P:Addr} {ps:Array Value} (b:Nw mg h) (g:h.Ns mainGlobals mg) (e:h.get? P=some (W.tabObj ps)):h.BuiltinsAt mg P:=by
 obtain ⟨bm,ob,h1,h2,h3,h4,h5,h6⟩:=b
 refine ⟨bm,ob,h1,h2,λz=>?_,λz=>?_,h3,h4,h5,h6⟩
 ·obtain ⟨o,es,ep,e2,hd,_⟩:=g
  rw [z,e2] at h3; cases h3; rw [hd] at h6; cases h6
 ·rw [z,e] at h3; cases h3; cases h4
theorem Zmz {mg:Str→Option Value} {h:Heap} {P:Addr} {ps:Array Value} (g:h.Ns mainGlobals mg) (e:h.get? P=some (W.tabObj ps)):mainGlobals≠P:=λz=>by
 obtain ⟨o,es,ep,e2,hd,_⟩:=g
 rw [z,e] at e2; cases e2; cases hd
def tLam (P:Addr) (L:List (Pos × Str)) (fdOf:Addr→Value→FuncData) (q:Str):TE:=λ_ H Q=>Tb P L H∧
 ∀ H' f c ct,Vu P H H'→Tb P L H'→H f=none→H' f=some (FnO f (fdOf c ct))→H' c=some (CdO c q)→Q (.ref f) H'
section
variable {X:Cx} {params:Arguments} {body:Expr} {scope:Scope} {pos:Pos} {c P:Addr} {L:List (Pos × Str)}
theorem Zd5 {pins:List (Addr × Obj)} {σ:St} {H:Hp} {s:Shared} {q:Str} {fdOf:Addr→Value→FuncData} {Q:VK} {ps:Array Value} (I:Inv X pins σ H s) (hP:H P=some (.tbl ps)) (ht:TriplesOk ps.toList)
  (hT:∀ x∈L,codeAmong x.1 ps.toList=none∨∃ c,codeAmong x.1 ps.toList=some (.ref c)∧H c=some (CdO c x.2)) (hu:∀ x∈L,x.1.line=pos.line→x.1.col=pos.col→x.2=q)
  (hq:∀ H' f c ct,Vu P H H'→Tb P L H'→H f=none→H' f=some (FnO f (fdOf c ct))→H' c=some (CdO c q)→Q (.ref f) H') (hn:codeAmong pos ps.toList=none)
  {c':Addr} {ctv:Value} {h':Heap} {tk:Tok} (hx:Heap.ExtBut P s.heap h') (hge:s.heap.objs.size≤c') (hlt:c' < h'.objs.size) (Zio:h'.CodeRec (.ref c') q)
  (htb:h'.get? P=some (W.tabObj (ps ++ #[rawInt pos.line,rawInt pos.col,.ref c']))) :
  EP X pins σ Q (.ref h'.objs.size) { s with heap:=h'.push { cls:=.type "function",data:=.func (fdOf c' ctv) },toks:=tk }:=by
 have hsz:s.heap.objs.size≤h'.objs.size:=Nat.le_of_lt (Nat.lt_of_le_of_lt hge hlt)
 have nc:H c'=none:=I.hok.fresh hge
 have nf:H h'.objs.size=none:=I.hok.fresh hsz
 have ncf:c'≠h'.objs.size:=Nat.ne_of_lt hlt
 have k:∀ b u,b≠P→s.heap.get? b=some u→(h'.push { cls:=.type "function",data:=.func (fdOf c' ctv) }).get? b=some u:=λb u hb e=>Heap.get?_push_of_some _ (hx b u hb e)
 have hPc:P≠c':=Zg hP nc
 have hPf:P≠h'.objs.size:=Zg hP nf
 refine ⟨.ref h'.objs.size,L2.made H P c' h'.objs.size (ps ++ #[rawInt pos.line,rawInt pos.col,.ref c']) (CdO c' q) (FnO h'.objs.size (fdOf c' ctv)),
  I.un (t':=tk) (Un.made hP k ⟨_,Heap.get?_push_of_some _ htb⟩ hge hsz nc nf) (HOk.made I.hok hP k (Heap.get?_push_of_some _ htb) nc nf ncf (Zpv (Zio.push _)) (Zco (Heap.get?_push_size _ rfl))),rfl,?_⟩
 refine hq _ _ c' ctv (λb o hb e=>by rw [Uh hb (Zg e nc) (Zg e nf)]; exact e) ⟨_,Zb2 hPc hPf,?_,λx hx2=>?_⟩ nf Zic (Zb1 ncf)
 ·rw [Array.toList_append]
  exact TriplesOk_snoc _ _ _ _ ht
 ·rw [Array.toList_append,Zgb _ ht]
  rcases hT x hx2 with hh | ⟨c2,e1,e2⟩
  ·rw [hh]
   show codeAmong x.1 [rawInt pos.line,rawInt pos.col,.ref c']=none∨_
   by_cases hp:x.1.line=pos.line∧x.1.col=pos.col
   ·refine .inr ⟨c',?_,?_⟩
    ·simp [codeAmong,rawInt,hp.1,hp.2]
    ·rw [hu x hx2 hp.1 hp.2]
     exact Zb1 ncf
   ·left
    have:¬ ((pos.line=x.1.line)∧(pos.col=x.1.col)):=λz=>hp ⟨z.1.symm,z.2.symm⟩
    simp only [codeAmong,rawInt]
    rw [if_neg]
    ·rw [Bool.and_eq_true,beq_iff_eq,beq_iff_eq]
     rintro ⟨z1,z2⟩
     exact this ⟨by omega,by omega⟩
  ·rw [e1]
   refine .inr ⟨c2,rfl,?_⟩
   rw [Uh (λz=>by rw [z,hP] at e2; cases e2) (Zg e2 nc) (Zg e2 nf)]
   exact e2
theorem Zhr (Ox:X.env.code=.ref c) (C:W.CodeHd X.base c P) (hB:Nw X.mg X.base) (hL:(pos,X.env.qual ++ "<lambda>")∈L) (hu:∀ x∈L,x.1.line=pos.line→x.1.col=pos.col→x.2=X.env.qual ++ "<lambda>")
  (hdef:defaultsOf params X.env=([],[]):=by rfl) {sc:Scope} (hsc:X.env.scope=sc:=by rfl) (hfr:∀ y∈scope.names,y.2=NameKind.free→sc.names.lookup y.1=some .cell∨sc.names.lookup y.1=some .free:=by decide +kernel) :
  PE X (.Lambda params body scope pos) (tLam P L (λc ct=>W.kla_fn "<lambda>" (X.env.qual ++ "<lambda>") params body scope (U4 X.env scope.names []) ((X.mg "__name__").getD .none) (.ref c) ct) (X.env.qual ++ "<lambda>")):=by
 intro pins s σ H Q I ⟨⟨ps,hP,ht,hT⟩,hq⟩
 have hPo:s.heap.get? P=some (W.tabObj ps):=I.hok P _ hP
 have hg:=I.mod.glob.keeps I.bk
 have hb:=(hB.keeps I.bk).at_ hg hPo
 have hcl:∀ y∈scope.names,y.2=NameKind.free→∃ c,X.env.cells.lookup y.1=some c:=λy hy e=>I.ok.has y.1 (by subst hsc; exact hfr y hy e)
 refine W.kla_eval hdef ?_
 rcases hT _ hL with hn | ⟨c2,hc,hcd⟩
 ·refine W.kla_makeFunction (mg:=X.mg) (U3 hcl) I.ok.glob hg Ox (C.keeps I.bk) hPo ht hn (Zmz hg hPo) hb λc' ctv h' tk hx hge hlt Zio htb=>?_
  exact Zd5 (fdOf:=λc ct=>W.kla_fn "<lambda>" (X.env.qual ++ "<lambda>") params body scope (U4 X.env scope.names []) ((X.mg "__name__").getD .none) (.ref c) ct) I hP ht hT hu hq hn hx hge hlt Zio htb
 ·refine W.kla_makeFunctionHit (mg:=X.mg) (U3 hcl) I.ok.glob hg Ox (C.keeps I.bk) hPo ht hc hb λctv h' tk hk hsz=>?_
  have nf:H h'.objs.size=none:=I.hok.fresh hsz
  refine ⟨.ref h'.objs.size,_,I.laid (t':=tk) (λb u e=>Heap.get?_push_of_some _ (hk b u e)) hsz (Zco (Heap.get?_push_size _ rfl)),rfl,?_⟩
  have e0:Zo H (upd H h'.objs.size (FnO h'.objs.size (W.kla_fn "<lambda>" (X.env.qual ++ "<lambda>") params body scope (U4 X.env scope.names []) ((X.mg "__name__").getD .none) (.ref c2) ctv))):=λb o e=>by rw [Zj (Zg e nf)]; exact e
  exact hq _ _ c2 ctv e0.t (Tb.same ⟨ps,hP,ht,hT⟩ e0) nf Zb (e0 _ _ hcd)
end
def Znx (i:Nat) (f:Addr) (fd:FuncData) (sp:Sp) (t:TA):TE:=λσ H Q=>σ[i]? = some (some (.ref f))∧H f=some (FnO f fd)∧t σ H λvs H1=>H1 f=some (FnO f fd)∧sp vs H1 Q E0
theorem N9 {X:Cx} {i k:Nat} {f:Addr} {fd:FuncData} {ps:List Str} {sp:Sp} {x:Str} {p pos:Pos} {e:Expr} {es:List Expr} {t:TA} (F:Yp X.prog X.w X.K X.mg X.base CX0 k f fd ps sp) (hr:Vs k X.A) (hb:Binds X.K fd ps [])
  (ha:PA X (e :: es) t) (hN:X.N[i]? = some x:=by rfl) (hv:Vis X.env.scope x:=by first | exact Or.inl rfl | exact Or.inr (Or.inl rfl) | exact Or.inr (Or.inr rfl)) (hd:(x==("__debug__" : Str))=false:=by decide) (hcd:(x==("__classdict__" : Str))=false:=by decide)
  (he:starEach (e :: es) X.env=(false,eval e X.env) :: starEach es X.env:=by rfl) (hpl:(backTo pos (starEach es X.env)).any (·.1)=false:=by rfl):PE X (.Call (.Name x p) (e :: es) [] pos) (Znx i f fd sp t):=by
 intro pins s σ H Q I ⟨hs,hf,h⟩
 refine wpAny_Call_Name_kw (thn (Zhp hN hv hd hcd pins s σ H (λv H1=>v=.ref f∧H1=H) I ⟨_,hs,rfl,rfl⟩) λu s1 ⟨v,H1,I1,r,q⟩=>?_)
 obtain ⟨rfl,rfl⟩:=q
 obtain rfl:u=Value.ref f:=r
 refine W.callWith_F ⟨_,_,_,_,FnO.at_ I1.hok hf⟩ (thn (ha pos pins s1 σ H1 _ I1 h) λus s2 ⟨vs,H2,I2,r2,q1,q2⟩=>⟨⟨_,_,_,_,FnO.at_ I2.hok q1⟩,?_⟩) he hpl
 exact Zg5 F hr hb .nil Zmy I2 r2 (by rw [List.append_nil]; exact q2)
structure Zj7 (N ps:List Str) (scope:Scope):Prop where
 kind:scope.kind=.function
 co:scope.isCoroutine=false
 gen:scope.isGenerator=false
 nd:N.Nodup
 pre:N.take ps.length=ps
 par:∀ x∈ps,scope.names.lookup x=some .local
 Li:∀ y∈scope.names,y.2≠.cell
structure Zey (base:Heap) (N ps:List Str) (scope:Scope) (cl:List (Str × Addr)) (fv:List V):Prop where
 inj:∀ x y c,cl.lookup x=some c→cl.lookup y=some c→x=y
 has:∀ x,scope.names.lookup x=some .free→∃ c,cl.lookup x=some c
 cell:∀ x c,cl.lookup x=some c→∃ v,base.IsCell c v
 len:N.length=ps.length+fv.length
 val:∀ (j:Nat) x v,N[ps.length+j]? = some x→fv[j]? = some v→scope.names.lookup x=some .free∧∃ c u,cl.lookup x=some c∧RelV v u∧base.IsCell c (some u)
def Ek (P:Program) (w:World) (K:W.Frag) (mg:Str→Option Value) (base:Heap) (N:List Str) (qual:Str) (scope:Scope) (f:Addr) (cd:Value) (cl:List (Str × Addr)) (A:Around) (outer:List Env) (s:Shared) (H:Hp):Cx where
 prog:=P
 w:=w
 K:=K
 mg:=mg
 base:=base
 A:=A.deeper (W.envX qual scope s.heap.objs.size f cd cl)
 N:=N
 s₀:=s
 H₀:=H
 env:=W.envX qual scope s.heap.objs.size f cd cl
 outer:=outer
 stack:=W.envX qual scope s.heap.objs.size f cd cl :: outer
 ex:=[]
 calm:=true
 fn:=λ_=>false
 pn:=[]
 xe:=λ_ _=>False
theorem J7:∀ {ps:List Str} {us:List Value} {i:Nat} {y:Str} {u:Value},ps.Nodup→ps[i]? = some y→us[i]? = some u→((ps.zip us).reverse).lookup y=some u
 | [],_,_,_,_,_,h,_=>by simp at h
 | _ :: _,[],_,_,_,_,_,h=>by simp at h
 | p :: ps,u0 :: us,0,y,u,nd,h1,h2=>by
  simp at h1 h2
  subst h1; subst h2
  rw [List.zip_cons_cons,List.reverse_cons]
  have hn:((ps.zip us).reverse).lookup p=none:=by
   rw [List.lookup_eq_none_iff]
   rintro ⟨a,b⟩ hm
   have:=(List.of_mem_zip (List.mem_reverse.mp hm)).1
   have ne:a≠p:=λz=>(List.nodup_cons.mp nd).1 (z▸this)
   simpa using λz=>ne z.symm
  rw [List.lookup_append,hn]
  simp [List.lookup]
 | p :: ps,u0 :: us,i+1,y,u,nd,h1,h2=>by
  rw [List.zip_cons_cons,List.reverse_cons,List.lookup_append,J7 (i:=i) (List.nodup_cons.mp nd).2 (by simpa using h1) (by simpa using h2)]
  rfl
theorem Zed {P:Program} {w:World} {K:W.Frag} {mg:Str→Option Value} {base:Heap} {N ps:List Str} {qual:Str} {scope:Scope} {f:Addr} {cd:Value} {cl:List (Str × Addr)} {fv:List V} {A:Around} {outer:List Env} {s:Shared} {H:Hp} {us:List Value} {vs:List V} {h1:Heap} {tk:Tok}
  (S:Zj7 N ps scope) (LC:Zey base N ps scope cl fv) (hd:A.handled=none) (e0:Zda P w K mg base A outer s H) (hl:vs.length=ps.length) (r:Vals vs us)
  (hns:h1.Ns s.heap.objs.size (λx=>(ps.zip us).reverse.lookup x)) (hk:∀ b o,s.heap.get? b=some o→h1.get? b=some o) :
  Inv (Ek P w K mg base N qual scope f cd cl A outer s H) [] (vs.map some ++ fv.map some) H { s with heap:=h1,toks:=tk }:=by
 have noA:∀ b:Addr,b∉(Ek P w K mg base N qual scope f cd cl A outer s H).ex:=λb z=>absurd (show b∈([]:List Addr) from z) (by simp)
 have bk:∀ b o,base.get? b=some o→h1.get? b=some o:=λb o e=>hk b o (e0.bs b o e).1
 have ndP:ps.Nodup:=by rw [← S.pre]; exact S.nd.sublist (List.take_sublist _ _)
 have cellK:∀ {c:Addr} {v:Option Value},base.IsCell c v→h1.IsCell c v:=λ⟨o,e,d⟩=>⟨o,bk _ _ e,d⟩
 refine ⟨⟨e0.mod,S.kind,rfl,rfl,Nat.le_refl _,λy z c h1 h2=>LC.inj y z c h1 h2,λy hy=>?_,λy c z _=>(by cases z),λ_=>hd,Around.frames_deeper e0.frames,.inr ⟨rfl,rfl⟩,λb z=>absurd z (noA b),e0.bs,e0.bsz,λb _ _=>noA b,λb z=>absurd z (noA b),e0.Lv,e0.frf⟩,
  rfl,e0.bare,Un.kept hk,⟨_,hns,λi y v h1 h2 h3=>?_⟩,λy c h=>?_,e0.hok.fresh (Nat.le_refl _),λy c h=>?_,λp hp=>absurd (show p∈([]:List (Addr × Obj)) from hp) (by simp),e0.hok.kept hk,?_⟩
 ·have hy:scope.names.lookup y=some .cell∨scope.names.lookup y=some .free:=hy
  rcases hy with hy | hy
  ·exact absurd rfl (S.Li _ (PySem.mem_of_lookup hy))
  ·exact LC.has y hy
 ·have h1:N[i]? = some y:=h1
  by_cases hi:i < vs.length
  ·have ha:vs[i]? = some v:=by
    rw [List.getElem?_append_left (by simpa using hi),List.getElem?_map] at h2
    cases e:vs[i]? with
    | none=>rw [e] at h2; cases h2
    | some a=>rw [e] at h2; cases h2; rfl
   obtain ⟨u,hu,rv⟩:=r.get ha
   have hp:ps[i]? = some y:=by
    rw [← S.pre,List.getElem?_take_of_lt (by omega)]; exact h1
   exact ⟨u,rv,.inl ⟨S.par y (List.mem_of_getElem? hp),J7 ndP hp hu⟩⟩
  ·rw [List.getElem?_append_right (by simpa using hi),List.getElem?_map] at h2
   rw [List.length_map] at h2
   have ha:fv[i - vs.length]? = some v:=by
    cases e:fv[i - vs.length]? with
    | none=>rw [e] at h2; cases h2
    | some a=>rw [e] at h2; cases h2; rfl
   have e:ps.length+(i - vs.length)=i:=by omega
   obtain ⟨hf,c,u,hc,rv,Zej⟩:=LC.val (i - vs.length) y v (by rw [e]; exact h1) ha
   exact ⟨u,rv,.inr ⟨.inr hf,c,hc,cellK Zej⟩⟩
 ·obtain ⟨v,z⟩:=LC.cell y c h
  exact ⟨v,cellK z⟩
 ·obtain ⟨v,o,e,_⟩:=LC.cell y c h
  exact (e0.bs c o e).2
 ·show _=N.length
  rw [List.length_append,List.length_map,List.length_map,LC.len,hl]
theorem Zie {P:Program} {w:World} {K:W.Frag} {mg:Str→Option Value} {base:Heap} {k:Nat} {f c:Addr} {name qual:Str} {params:Arguments} {body:Expr} {scope:Scope} {cl:List (Str × Addr)} {pm ct:Value} {N ps:List Str} {fv:List V} {sp:Sp}
  (S:Zj7 N ps scope) (LC:Zey base N ps scope cl fv) (len:∀ vs H Q E,sp vs H Q E→vs.length=ps.length)
  (hat:∀ vs H Q E,sp vs H Q E→H f=some (FnO f (W.kla_fn name qual params body scope cl pm (.ref c) ct))∧H c=some (CdO c qual))
  (Mp:∀ (A:Around) (outer:List Env) (s:Shared) (H:Hp) (vs:List V) (Q:VK) (E:XK),Vs k (A.deeper (W.envX qual scope s.heap.objs.size f (.ref c) cl))→sp vs H Q E→
   ∃ t,PE (Ek P w K mg base N qual scope f (.ref c) cl A outer s H) body t∧t (vs.map some ++ fv.map some) H Q) :
  Yp P w K mg base CX0 (k+1) f (W.kla_fn name qual params body scope cl pm (.ref c) ct) ps sp:=by
 refine ⟨len,λA outer s H args us vs Q E hr e0 hb r hsp=>?_⟩
 have hl:=len _ _ _ _ hsp
 obtain ⟨hf,hc⟩:=hat _ _ _ _ hsp
 have lim:s.heap.NoLimit:=e0.mod.nolimit.keeps λb o e=>(e0.bs b o e).1
 refine W.kla_callFunE hr.depth (FnO.at_ e0.hok hf) rfl S.co S.gen rfl (CdO.at_ e0.hok hc) (hb _ _ _ _ ?_)
 refine wpAny_newFunctionEnv S.Li (λy hy=>S.par y.1 (List.of_mem_zip hy).1) (λh1 hns hsb=>?_) S.kind
 have hk:∀ b o,s.heap.get? b=some o→h1.get? b=some o:=λb o e=>hsb.extBut b o (Nat.ne_of_lt (Heap.lt_size e)) (Heap.get?_push_of_some _ e)
 refine ⟨lim.keeps hk,W.kla_codeExpr ?_⟩
 obtain ⟨t,ht,hq⟩:=Mp A outer s H vs Q E (hr.deeper _) hsp
 have I:Inv (Ek P w K mg base N qual scope f (.ref c) cl A outer s H) [] (vs.map some ++ fv.map some) H { s with heap:=h1,toks:=s.toks+(ps.zip us).length }:=Zed S LC hr.hd e0 hl r hns hk
 refine wpAny_mono (ht [] _ _ H _ I hq) (λu s' hs=>?_) λe s' hs=>hs.elim
 obtain ⟨v,H',J,rv,q⟩:=hs
 exact ⟨v,H',J.os,J.bare,J.base,J.hok,rv,q⟩
theorem Fun.okC {P:Program} {w:World} {K:W.Frag} {mg:Str→Option Value} {base:Heap} {x qual:Str} {st:Stmt} {f:Addr} {fd:FuncData} {N ps:List Str} {k:Nat} {sp:Sp} (F:Fun K x qual st f fd) (S:Z0 N ps (Zf st)) (len:∀ vs H Q E,sp vs H Q E→vs.length=ps.length)
  (Mp:∀ (A:Around) (outer:List Env) (s:Shared) (H:Hp) (vs:List V) (Q:VK) (E:XK),Vs k (A.deeper (envOfC qual (Zf st) s.heap.objs.size f fd.code))→sp vs H Q E→
   ∃ t,PSs (Zcr CX0 P w K mg base N qual (Zf st) f fd.code A outer s H E).nox (Zx st) t∧t { nx:=λ_ H'=>Q .non H',rt:=Q } (start N vs) H):Yp P w K mg base CX0 (k+1) f fd ps sp:=by
 obtain ⟨oc,od,kV,doc,pm,an,cdv,ct,osl,rfl,lk,hcd⟩:=F.ex
 refine Zm8 lk hcd S len λA outer s H vs Q E hr hsp=>?_
 obtain ⟨t,h,q⟩:=Mp A outer s H vs Q E hr hsp
 exact ⟨t,h.nox,q⟩
theorem Zfo {P:Program} {w:World} {K:W.Frag} {mg mb:Str→Option Value} {CX:CXT} {k:Nat} {fa a:Addr} {fd:FuncData} {x:Str} {sp:Sp} {s₁:Shared} {vs:List Value} {ns:List Int} {tabs:List (Addr × Addr)}
  (KX:K.In s₁.heap) (hns:s₁.heap.Ns mainGlobals mg) (hb:s₁.heap.Ns builtinsNs mb) (hbb:∀ x:Str,x≠"__name__"→mb x=bootBuiltins x) (Zpa:s₁.heap.NoLimit) (hg:s₁.gens = #[])
  (ha:s₁.heap.get? a=some { cls:=.type "list",data:=.seq vs.toArray }) (hi:IntsAre vs ns) (hl:ns.length≤sizeLine) (hr:Vs k callerA) (hT:W.TabsAt tabs s₁.heap) (hK0:W.noTabs K=true) (hBM:Nw mg s₁.heap)
  (F:∀ base:Heap,K.In base→base.Ns mainGlobals mg→Nw mg base→Yp P w K mg base CX k fa fd [x] sp) (Ziw:∀ (s:Shared) (u:Value),BindsTo s fd ⟨[u],[]⟩ [(x,u)])
  (hsp:∀ H:Hp,(∀ q∈tabs,H q.2=some (.tbl #[]))→SqL K H a (ns.map V.int)→sp [.ref a] H (λv _=>v=.bl true) λ_ _ _=>False)
  (hCX:∀ H e s',CX [] H s₁ (λ_ _ _=>False) e s'→False) :
  codeAny (model P w) callerA (.call (.ref fa) ⟨[.ref a],[]⟩) (λr s'=>r=.ok (.ret (.bool true))∧OldK s₁.heap s'.heap∧s'.os=s₁.os∧AllBare s'.gens) s₁:=by
 have rv:=P0 hi
 have Zow:=hi.length
 have core:∀ H:Hp,(∀ b,H b=none∨(∃ o xs,H b=some (.frz o (.lst xs))∧b=a)∨(H b=some (.tbl #[])∧∃ q∈tabs,q.2=b))→(∀ q∈tabs,H q.2=some (.tbl #[]))→SqL K H a (ns.map V.int)→HOk P w H s₁.heap→(∀ o xs,H a=some (.frz o (.lst xs))→K.lookup a=none)→
   codeAny (model P w) callerA (.call (.ref fa) ⟨[.ref a],[]⟩) (λr s'=>r=.ok (.ret (.bool true))∧OldK s₁.heap s'.heap∧s'.os=s₁.os∧AllBare s'.gens) s₁:=by
  intro H hO hTb hS hok hK
  have Oo:∀ {b:Addr} {o:Obj},s₁.heap.get? b=some o→H b=none→(Nc s₁.heap H).get? b=some o:=λe n=>Zac e n
  have noA:∀ {b:Addr} {o:Obj},s₁.heap.get? b=some o→(∀ xs n,o.data≠.seq xs n)→(∀ xs,o.data≠.fields xs)→H b=none:=λ{b o} e d1 d2=>by
   rcases hO b with z | ⟨ob,xs,z,rfl⟩ | ⟨z,_⟩
   ·exact z
   ·rw [ha] at e; cases e
    exact absurd rfl (d1 _ _)
   ·have:=hok b _ z
    rw [show s₁.heap.get? b=some (W.tabObj #[]) from this] at e
    cases e
    exact absurd rfl (d2 _)
  have nsK:∀ {b:Addr} {m:Str→Option Value},s₁.heap.Ns b m→(Nc s₁.heap H).Ns b m:=λ{b m} ⟨o,es,ep,e,d,r⟩=>⟨o,es,ep,Oo e (noA e (λ_ _ z=>by rw [d] at z; cases z) λ_ z=>by rw [d] at z; cases z),d,r⟩
  have hKb:K.In (Nc s₁.heap H):=λb o e=>Oo (KX b o e) (by
   rcases hO b with z | ⟨ob,xs,z,rfl⟩ | ⟨z,_⟩
   ·exact z
   ·rw [hK _ _ z] at e; cases e
   ·have e2:s₁.heap.get? b=some (W.tabObj #[]):=hok b _ z
    have e3:=KX b o e
    rw [e2] at e3
    cases e3
    have h2:=List.all_eq_true.mp hK0 _ (W.mem_of_lookupK e)
    exact absurd (show false=true from h2) Bool.false_ne_true)
  have hBb:Nw mg (Nc s₁.heap H):=by
   obtain ⟨bm,ob,b1,b2,b3,b4,b5,b6⟩:=hBM
   exact ⟨bm,ob,b1,b2,Oo b3 (noA b3 (λ_ _ z=>by rw [b6] at z; cases z) λ_ z=>by rw [b6] at z; cases z),b4,b5,b6⟩
  have hM:Mod K mg (Nc s₁.heap H):=⟨hKb,nsK hns,⟨mb,nsK hb,hbb⟩,let ⟨mc,h1,h2⟩:=Zpa; ⟨mc,nsK h1,h2⟩⟩
  have e0:Zda P w K mg (Nc s₁.heap H) callerA [] s₁ H:=⟨rfl,hM,λb o e=>Zd1 e,Nat.le_of_eq (Ef _ _),trivial,λb hb=>absurd (show b∈([]:List Addr) from hb) (by simp),hok,.of_eq hg⟩
  refine codeAny_mono ((F _ hKb (nsK hns) hBb).run callerA [] s₁ H ⟨[.ref a],[]⟩ [.ref a] [.ref a] _ _ hr e0 (Ziw s₁ (.ref a)) (.cons rfl .nil) (hsp H hTb hS)) λr s' h=>?_
  cases r with
  | error e=>exact (hCX H e s' h).elim
  | ok fl=>
   cases fl with
   | next=>exact False.elim h
   | brk=>exact False.elim h
   | cont=>exact False.elim h
   | ret u=>
    obtain ⟨v,H',os,bare,un,Zll,r',q⟩:=h
    have q':v=.bl true:=q
    subst q'
    obtain rfl:u=Value.bool true:=r'
    refine ⟨rfl,⟨λb o e=>?_,λb o e=>un.there b o e (by simp)⟩,os,bare⟩
    rcases hO b with z | ⟨ob,xs,z,_⟩ | ⟨z,q,hq,rfl⟩
    ·exact .inl (un.keep b o e z (by intro z; exact absurd (show b∈([]:List Addr) from z) (by simp)) (by simp))
    ·have z2:=un.Hr b ob _ z
     obtain ⟨e1,_⟩:=hok b _ z
     obtain ⟨e2,_⟩:=Zll b _ z2
     rw [e] at e1; cases e1
     exact .inl e2
    ·obtain ⟨more,z2⟩:=un.Gp _ _ z
     have e1:s₁.heap.get? q.2=some (W.tabObj #[]):=(hT q hq).2
     rw [e] at e1
     cases e1
     exact .inr (.inl ⟨((hT q hq).1.tab (hT q hq).2).isCodeTable,rfl,#[],more,rfl,Zll _ _ z2⟩)
 have hTa:∀ q∈tabs,q.2≠a:=λq hq z=>by
  have e:=(hT q hq).2
  rw [z,ha] at e
  cases e
 cases hk:K.lookup a with
 | some o=>
  have e:=KX a o hk
  rw [ha] at e
  cases e
  refine core (λb=>if b∈tabs.map (·.2) then some (.tbl #[]) else none) (λb=>?_) (λq hq=>if_pos (List.mem_map_of_mem hq)) (.inr ⟨_,vs.toArray,_,hk,rfl,rfl,rfl,by rw [List.size_toArray,Zow]; exact hl,by simpa using rv⟩) (λb u z=>?_) (λo xs z=>?_)
  ·by_cases hb:b∈tabs.map (·.2)
   ·obtain ⟨q,hq,e⟩:=List.mem_map.mp hb
    exact .inr (.inr ⟨if_pos hb,q,hq,e⟩)
   ·exact .inl (if_neg hb)
  ·by_cases hb:b∈tabs.map (·.2)
   ·have z':=(if_pos hb).symm.trans z
    cases z'
    obtain ⟨q,hq,rfl⟩:=List.mem_map.mp hb
    exact (hT q hq).2
   ·have z':=(if_neg hb).symm.trans z
    cases z'
  ·by_cases hb:a∈tabs.map (·.2)
   ·have z':=(if_pos hb).symm.trans z
    cases z'
   ·have z':=(if_neg hb).symm.trans z
    cases z'
 | none=>
  refine core (λb=>if b=a then some (.frz { cls:=.type "list",data:=.seq vs.toArray } (.lst (ns.map V.int))) else if b∈tabs.map (·.2) then some (.tbl #[]) else none) (λb=>?_) (λq hq=>(if_neg (hTa q hq)).trans (if_pos (List.mem_map_of_mem hq))) (.inl (.inr ⟨{ cls:=.type "list",data:=.seq vs.toArray },if_pos rfl⟩)) (λb u z=>?_) (λ_ _ _=>hk)
  ·by_cases hb:b=a
   ·exact .inr (.inl ⟨_,_,if_pos hb,hb⟩)
   ·by_cases hb2:b∈tabs.map (·.2)
    ·obtain ⟨q,hq,e⟩:=List.mem_map.mp hb2
     exact .inr (.inr ⟨(if_neg hb).trans (if_pos hb2),q,hq,e⟩)
    ·exact .inl ((if_neg hb).trans (if_neg hb2))
  ·by_cases hb:b=a
   ·have z':=(if_pos hb).symm.trans z
    cases z'
    subst hb
    exact ⟨ha,by rw [List.length_map]; exact hl,vs,_,rv,ha⟩
   ·have z:=(if_neg hb).symm.trans z
    by_cases hb2:b∈tabs.map (·.2)
    ·have z':=(if_pos hb2).symm.trans z
     cases z'
     obtain ⟨q,hq,rfl⟩:=List.mem_map.mp hb2
     exact (hT q hq).2
    ·have z':=(if_neg hb2).symm.trans z
     cases z'
def Zc7 (q:Program) (K:W.Frag) (h:Heap):Prop:=∀ (x:Str) (d:DefRec) (c P:Addr),(recsOf q).find? (λe=>e.name==x)=some d→W.tabIn K x=some (c,P)→W.CodeHd h c P∧h.get? P=some (W.tabObj #[])
theorem Zgk {l:W.OpenLaw} {n k:Nat} {q:Program} {loose:List Str} {XP:(Str→Option Value)→Heap→Prop} {YP:World→Heap→Prop} {d:DefRec} {K:Params→W.Frag} {CX:World→CXT} {sp:World→List (Addr × Addr)→Sp} {x:Str}
  (hn:l.most=some n) (hn2:n≤sizeLine) (hdf:d.params.defaults=[]) (hr:Vs k callerA)
  (hY:∀ (w:World) (h:Heap),YP w h→(K w.params).In h)
  (F:∀ (w:World) (mg:Str→Option Value) (fa:Addr) (h:Heap),(K w.params).In h→h.Ns mainGlobals mg→mg d.name=some (.ref fa)→Zc7 q (K w.params) h→
   W.noTabs (K w.params)=true∧∃ (fd:FuncData) (tabs:List (Addr × Addr)),W.TabsAt tabs h∧(∀ (s:Shared) (u:Value),BindsTo s fd ⟨[u],[]⟩ [(x,u)])∧
    ∀ base:Heap,(K w.params).In base→base.Ns mainGlobals mg→Nw mg base→Yp l.prog w (K w.params) mg base (CX w) k fa fd [x] (sp w tabs))
  (hsp:∀ (w:World) (tabs:List (Addr × Addr)) (H:Hp) (a:Addr) (ns:List Int),ns.length≤n→(∀ q∈tabs,H q.2=some (.tbl #[]))→SqL (K w.params) H a (ns.map V.int)→sp w tabs [.ref a] H (λv _=>v=.bl true) λ_ _ _=>False)
  (hCX:∀ (w:World) (H:Hp) (s:Shared) (e:Value) (s':Shared),CX w [] H s (λ_ _ _=>False) e s'→False) :
  W.WalkO q loose XP YP l.row.toRowW d [] (λf vs=>PySem.call f vs):=by
 refine Att.Kf hn hdf λw s₀ s₁ mg mb fa o pm cd doc a vs ns G Y ho hd hcd hmg Ziq hints hlen hg=>?_
 have KX:=hY w _ Y
 obtain ⟨h0,fd,tabs,hT,hb,hF⟩:=F w mg fa _ KX G.T.g hmg (λx d c P hr ht=>W.tab_of G.T KX hr ht)
 exact Zfo KX G.T.g G.T.b G.T.builtins G.T.nolimit hg Ziq hints (Nat.le_trans hlen hn2) hr hT h0 G.T.bmain hF hb (λH hO hS=>hsp w tabs H a ns hlen hO hS) λH e s'=>hCX w H s₁ e s'
theorem Bk {K:W.Frag} {x:Str} {f c P:Addr} {oc oc':Value} {od od':Option Addr} {sl sl':Array (Option Value)} {fd:FuncData} {vs:Array Value} (a:W.nsIn K mainGlobals x=some (some (.ref f))) (l:K.lookup f=some ⟨oc,od,.func fd,sl⟩) (y:fd.code=.ref c)
  (v:K.lookup c=some ⟨oc',od',.fields vs,sl'⟩) (u:vs[11]? = some (.ref P)):W.tabIn K x=some (c,P):=by
 unfold W.tabIn
 rw [a]
 dsimp only
 rw [l]
 dsimp only
 rw [y]
 dsimp only
 rw [v]
 dsimp only
 rw [u]
theorem Zei {K:W.Frag} {h base:Heap} {c P:Addr} {o:Obj} (C:W.CodeHd h c P) (X:K.In h) (B:K.In base) (lk:K.lookup c=some o):W.CodeHd base c P:=by
 obtain ⟨o',vs,file,tf,flags,tg,inF,text,tt,e,r⟩:=C
 have:=X c o lk
 rw [this] at e
 cases e
 exact ⟨o,vs,file,tf,flags,tg,inF,text,tt,B c o lk,r⟩
end L2
namespace L2
open PySem PySem.Spec PyProof.Rows
section
variable {P:Program} {w:World} {A:Around} {E:Value→Shared→Prop} {s:Shared} {r:Addr} {x:Str}
end
section
variable {X:Cx}
end
end L2
namespace L2
open PySem PySem.Spec PyProof.Rows
structure Zez (X:Cx) (σ:St) (U8:Heap):Prop where
 sub:∀ b o,X.base.get? b=some o→U8.get? b=some o
 inj:∀ x y c,X.env.cells.lookup x=some c→X.env.cells.lookup y=some c→x=y
 has:∀ x,(X.env.kindOf x=some .cell∨X.env.kindOf x=some .free)→∃ c,X.env.cells.lookup x=some c
 cell:∀ x c,X.env.cells.lookup x=some c→∃ v,U8.IsCell c v
 val:∀ (i:Nat) (x:Str) (v:V),X.N[i]? = some x→σ[i]? = some (some v)→(X.env.kindOf x=some .cell∨X.env.kindOf x=some .free)→∃ u c,RelV v u∧X.env.cells.lookup x=some c∧U8.IsCell c (some u)
def U0 (X:Cx) (b:Addr):Bool:=X.env.cells.any λp=>p.2==b && X.env.cells.lookup p.1==some b
theorem Rl {X:Cx} {b:Addr}:U0 X b=true↔∃ x,X.env.cells.lookup x=some b:=by
 unfold U0
 rw [List.any_eq_true]
 constructor
 ·rintro ⟨p,_,h⟩
  rw [Bool.and_eq_true] at h
  exact ⟨p.1,by simpa using h.2⟩
 ·rintro ⟨x,h⟩
  refine ⟨(x,b),PySem.mem_of_lookup h,?_⟩
  simp [h]
def Zln (X:Cx) (h:Heap):List Addr:=(List.range h.objs.size).filter λb=>(X.base.get? b).isNone && !U0 X b
def baseOf (X:Cx) (h:Heap):Heap:=W.hideAll h (Zln X h)
section
variable {X:Cx} {pins:List (Addr × Obj)} {σ:St} {H:Hp} {s:Shared}
theorem Zd3 {b:Addr} (h:(X.base.get? b).isSome=true∨U0 X b=true):b∉Zln X s.heap:=λz=>by
 have:=(List.mem_filter.mp z).2
 rw [Bool.and_eq_true] at this
 rcases h with h | h
 ·cases e:X.base.get? b with
  | none=>rw [e] at h; cases h
  | some o=>rw [e] at this; cases this.1
 ·rw [h] at this
  cases this.2
theorem Zd2 {b:Addr} {o:Obj} (h:(baseOf X s.heap).get? b=some o):s.heap.get? b=some o∧((X.base.get? b).isSome=true∨U0 X b=true):=by
 have e:=W.of_hideAll _ h
 refine ⟨e,?_⟩
 by_cases c:(X.base.get? b).isSome=true∨U0 X b=true
 ·exact c
 ·have hm:b∈Zln X s.heap:=by
   refine List.mem_filter.mpr ⟨List.mem_range.mpr (Heap.lt_size e),?_⟩
   rw [Bool.and_eq_true]
   refine ⟨?_,?_⟩
   ·cases e2:X.base.get? b with
    | none=>rfl
    | some u=>exact absurd (.inl (by rw [e2]; rfl)) c
   ·cases e2:U0 X b with
    | false=>rfl
    | true=>exact absurd (.inr e2) c
  rw [show baseOf X s.heap=W.hideAll s.heap (Zln X s.heap) from rfl,W.hideAll_none _ hm] at h
  cases h
theorem Inv.Znc (I:Inv X pins σ H s):Zez X σ (baseOf X s.heap):=by
 have cellK:∀ {x:Str} {c:Addr} {v:Option Value},X.env.cells.lookup x=some c→s.heap.IsCell c v→(baseOf X s.heap).IsCell c v:=λ{x c v} e ⟨o,ho,hd⟩=>
  ⟨o,W.hideAll_get _ ho (Zd3 (.inr (Rl.mpr ⟨x,e⟩))),hd⟩
 refine ⟨λb o e=>W.hideAll_get _ (I.bk b o e) (Zd3 (.inl (by rw [e]; rfl))),I.ok.inj,I.ok.has,λx c e=>?_,λi x v h1 h2 h3=>?_⟩
 ·obtain ⟨v,z⟩:=I.cell x c e
  exact ⟨v,cellK e z⟩
 ·obtain ⟨m,_,hl⟩:=I.loc
  have hv:Vis X.env.scope x:=by
   rcases h3 with h3 | h3
   ·exact .inr (.inl h3)
   ·exact .inr (.inr h3)
  obtain ⟨u,r,l⟩:=hl i x v h1 h2 hv
  rcases l with ⟨hk,_⟩ | ⟨hk,c,e,z⟩
  ·rcases h3 with h3 | h3 <;> rw [h3] at hk <;> cases hk
  ·exact ⟨u,c,r,e,cellK e z⟩
theorem Inv.Zsd (I:Inv X pins σ H s) (hfn:∀ x,X.fn x=true):Zda X.prog X.w X.K X.mg (baseOf X s.heap) X.A X.stack s H:=by
 have B:=I.Znc
 have bs:∀ b o,(baseOf X s.heap).get? b=some o→s.heap.get? b=some o∧H b=none:=λb o e=>by
  obtain ⟨e1,h⟩:=Zd2 e
  refine ⟨e1,?_⟩
  rcases h with h | h
  ·obtain ⟨u,hu⟩:=Option.isSome_iff_exists.mp h
   exact (I.bs b u hu).2
  ·obtain ⟨x,hx⟩:=Rl.mp h
   exact I.Sz x b hx
 refine ⟨I.ok.frames,?_,bs,Nat.le_of_eq (W.hideAll_size _ _),?_,I.E1,I.hok,I.bare⟩
 ·obtain ⟨k,g,⟨mb,h1,h2⟩,nl⟩:=I.ok.mod
  exact ⟨k.keeps B.sub,g.keeps B.sub,⟨mb,h1.keeps B.sub,h2⟩,nl.keeps B.sub⟩
 ·have all:∀ (l:List Env),(∀ b∈frs l,b∈X.env.locals :: X.fs)→s.heap.FunFrames X.base l→s.heap.FunFrames (baseOf X s.heap) l:=by
   intro l
   induction l with
   | nil=>intro _ _; trivial
   | cons env r ih=>
    intro hs hl
    obtain ⟨hk,⟨L,o,hf,hn,ho,hd⟩,hr⟩:=hl
    refine ⟨hk,⟨L,o,hf,?_,ho,hd⟩,ih (λb hb=>hs b (by unfold frs; rw [List.filterMap_cons,hf]; exact List.mem_cons_of_mem _ hb)) hr⟩
    cases q:(baseOf X s.heap).get? L with
    | none=>rfl
    | some u=>
     obtain ⟨e1,h⟩:=Zd2 q
     rcases h with h | h
     ·rw [hn] at h; cases h
     ·obtain ⟨x,hx⟩:=Rl.mp h
      rcases List.mem_cons.mp (hs L (by unfold frs; rw [List.filterMap_cons,hf]; exact List.mem_cons_self)) with z | z
      ·exact absurd z (I.cne x L hx)
      ·obtain ⟨_,o2,ho2,_⟩:=I.ok.Lv.mem z
       exact absurd (Nat.lt_of_lt_of_le (Heap.lt_size ho2) (I.ok.cab x L (hfn x) hx)) (Nat.lt_irrefl _)
  exact all _ I.Jp I.stack
end
def Zny (X:Cx) (x:Str) (k:Nat) (t:TA):TE:=λσ H Q=>t σ H λvs H1=>∀ U8:Heap,Zez X σ U8→
 ∃ (ps:List Str) (sp:Sp) (_:Cal X.prog X.w X.K X.mg U8 x k ps sp),sp vs H1 Q E0
theorem Zmx {X:Cx} {x:Str} {k:Nat} {ps:List Str} {sp:Sp} {p pos:Pos} {e:Expr} {es:List Expr} {t:TA} (C:Cal X.prog X.w X.K X.mg X.base x k ps sp) (hr:Vs k X.A) (ha:PA X (e :: es) t) (hg:Gl X x:=by rfl) (hfn:∀ x,X.fn x=true:=by intro _; rfl)
  (hdb:(x==("__debug__" : Str))=false:=by decide) (he:starEach (e :: es) X.env=(false,eval e X.env) :: starEach es X.env:=by rfl) (hpl:(backTo pos (starEach es X.env)).any (·.1)=false:=by rfl) :
  PE X (.Call (.Name x p) (e :: es) [] pos) (Zny X x k t):=by
 intro pins s σ H Q I h
 refine wpAny_Call_Name_kw (Cg I hg C.at_ ?_ hdb)
 refine W.callWith_K (h₀:=X.base) I.ok.mod.kin C.kp (thn (ha pos pins s σ H _ I h) λus s1 ⟨vs,H1,I1,r,q⟩=>⟨I1.kIn,?_⟩) he hpl
 obtain ⟨ps',sp',C',hsp⟩:=q _ I1.Znc
 have ef:C'.f=C.f:=by
  have:=C'.at_.symm.trans C.at_
  injection this with this
  injection this
 have hl:us.length=ps'.length:=by rw [← r.length]; exact C'.ok.len _ _ _ _ hsp
 have hb:=C'.b s1 us I1.kIn (by rw [List.append_nil]; exact hl)
 rw [List.append_nil] at hb
 have run:=C'.ok.run X.A X.stack s1 H1 ⟨us,[]⟩ us vs Q E0 hr (I1.Zsd hfn) hb r hsp
 rw [ef] at run
 show wpAny _ _ (call (.ref C.f) ([] ++ us)) _ _ s1
 refine wpAny_call (codeAny_mono run λr s' hq=>?_)
 cases r with
 | error e=>exact hq.elim
 | ok fl=>
  cases fl with
  | ret u=>exact I1.after hq
  | next=>exact False.elim hq
  | brk=>exact False.elim hq
  | cont=>exact False.elim hq
theorem Zez.cl {X:Cx} {σ:St} {U8:Heap} (B:Zez X σ U8) {N ps:List Str} {scope:Scope} {fv:List V} {sc:Scope} (fr:List Nat) (hsc:X.env.scope=sc) (hfr:∀ y∈scope.names,y.2=NameKind.free→sc.names.lookup y.1=some .cell∨sc.names.lookup y.1=some .free)
  (hlen:N.length=ps.length+fr.length) (hfl:fv.length=fr.length) (hN:∀ (j:Nat) i x,fr[j]? = some i→N[ps.length+j]? = some x→scope.names.lookup x=some .free∧X.N[i]? = some x)
  (hv:∀ (j:Nat) i v,fr[j]? = some i→fv[j]? = some v→σ[i]? = some (some v)):Zey U8 N ps scope (U4 X.env scope.names []) fv:=by
 subst hsc
 have kind:∀ x,scope.names.lookup x=some .free→(X.env.kindOf x=some .cell∨X.env.kindOf x=some .free):=λx hx=>hfr _ (PySem.mem_of_lookup hx) rfl
 have good:Zdc X.env (U4 X.env scope.names []):=Oj _ _ λy c e=>by simp at e
 have look:∀ x c,(U4 X.env scope.names []).lookup x=some c→X.env.cells.lookup x=some c:=λx c e=>by
  have h1:=good x c e
  rcases Mw _ _ e with z | z
  ·simp at z
  ·obtain ⟨c2,e2⟩:=B.has x (hfr _ z rfl)
   rw [e2] at h1
   rw [e2]
   exact congrArg some h1.symm
 have Zrz:∀ x,scope.names.lookup x=some .free→∃ c,(U4 X.env scope.names []).lookup x=some c:=λx hx=>Pa _ _ (.inr (PySem.mem_of_lookup hx))
 refine ⟨λx y c h1 h2=>B.inj x y c (look x c h1) (look y c h2),Zrz,λx c e=>B.cell x c (look x c e),by rw [hlen,hfl],λj x v h1 h2=>?_⟩
 have hj:j < fr.length:=by rw [← hfl]; exact (List.getElem?_eq_some_iff.mp h2).1
 have hfj:fr[j]? = some fr[j]:=List.getElem?_eq_getElem hj
 obtain ⟨hf,hX⟩:=hN j _ x hfj h1
 obtain ⟨u,c,r,e,z⟩:=B.val _ x v hX (hv j _ v hfj h2) (kind x hf)
 obtain ⟨c2,e2⟩:=Zrz x hf
 have:=look x c2 e2
 rw [e] at this
 cases this
 exact ⟨hf,c,u,e2,r,z⟩
section
variable {X:Cx}
end
end L2
namespace L2
open PySem PySem.Spec PyProof.Rows
theorem Cv {ds:List Dt} {d:Dt} (h:d∈ds):d.dep < (Dt.tup ds).dep:=by
 have:∀ (l:List Dt),d∈l→d.dep≤(l.map Dt.dep).foldr max 0:=by
  intro l
  induction l with
  | nil=>intro h; cases h
  | cons a l ih=>
   intro h
   rw [List.map_cons,List.foldr_cons]
   rcases List.mem_cons.mp h with e | e
   ·rw [e]; exact Nat.le_max_left _ _
   ·exact Nat.le_trans (ih e) (Nat.le_max_right _ _)
 have h2:=this ds h
 simp only [Dt.dep]
 omega
theorem Zjh {ds:List Dt} {d:Dt} (h:d∈ds):d.dep < (Dt.lst ds).dep:=by
 have:=Cv h
 simp only [Dt.dep] at this ⊢
 exact this
section
variable {P:Program} {w:World} {H:Hp} {s:Shared}
theorem V6 (ok:HOk P w H s.heap) {a:Addr} {xs:List V} (h:H a=some (.tup xs)):∃ its:List Value,Vals xs its∧s.heap.IsTuple a its.toArray:=by
 obtain ⟨_,its,r,t⟩:=ok a _ h
 exact ⟨its,r,t⟩
theorem A3 (ok:HOk P w H s.heap) {a:Addr} {xs:List V} (h:H a=some (.lst xs)):∃ its:List Value,Vals xs its∧s.heap.IsList a its.toArray:=by
 obtain ⟨_,its,n,r,t⟩:=ok a _ h
 exact ⟨its,r,⟨_,t,rfl,n,rfl⟩⟩
theorem Bc (n:Nat):((List.range n).all λ_=>true)=true:=by
 rw [List.all_eq_true]
 intros
 rfl
theorem Zi7 (ok:HOk P w H s.heap):∀ (n:Nat) (d:Dt) (A:Around) (x y:V) (u v:Value),d.dep≤n→A.units+n < cLine→Den H x d→Den H y d→RelV x u→RelV y v→SeqAt.EqAt A s u v true:=by
 intro n
 induction n with
 | zero=>
  intro d A x y u v hd hu hx hy rx ry
  cases hx with
  | non=>cases hy; cases rx; cases ry; exact SeqAt.EqAt.same _
  | bl b=>cases hy; cases rx; cases ry; exact SeqAt.EqAt.same _
  | int i=>
   cases hy
   obtain ⟨t,rfl⟩:=rx
   obtain ⟨t',rfl⟩:=ry
   have:=SeqAt.EqAt.int_int (A:=A) (s:=s) i t i t'
   rwa [beq_self_eq_true] at this
  | str z=>
   cases hy
   obtain ⟨t,rfl⟩:=rx
   obtain ⟨t',rfl⟩:=ry
   have:=SeqAt.EqAt.str_str (A:=A) (s:=s) z t z t'
   rwa [beq_self_eq_true] at this
  | lst=>simp [Dt.dep] at hd
  | tup=>simp [Dt.dep] at hd
 | succ n ih=>
  intro d A x y u v hd hu hx hy rx ry
  cases hx with
  | non=>cases hy; cases rx; cases ry; exact SeqAt.EqAt.same _
  | bl b=>cases hy; cases rx; cases ry; exact SeqAt.EqAt.same _
  | int i=>
   cases hy
   obtain ⟨t,rfl⟩:=rx
   obtain ⟨t',rfl⟩:=ry
   have:=SeqAt.EqAt.int_int (A:=A) (s:=s) i t i t'
   rwa [beq_self_eq_true] at this
  | str z=>
   cases hy
   obtain ⟨t,rfl⟩:=rx
   obtain ⟨t',rfl⟩:=ry
   have:=SeqAt.EqAt.str_str (A:=A) (s:=s) z t z t'
   rwa [beq_self_eq_true] at this
  | @lst a xs ds ha hz hl hk=>
   cases hy with
   | @lst b ys _ hb hz' hl' hk'=>
    cases rx
    cases ry
    by_cases e:a=b
    ·subst e; exact SeqAt.EqAt.same _
    obtain ⟨i1,r1,p1⟩:=A3 ok ha
    obtain ⟨i2,r2,p2⟩:=A3 ok hb
    have sz1:i1.toArray.size=ds.length:=by rw [List.size_toArray,← hl]; exact r1.length.symm
    have sz2:i2.toArray.size=ds.length:=by rw [List.size_toArray,← hl']; exact r2.length.symm
    have:=SeqAt.RcAt.lists (A:=A) (e:=λ_=>true) p1 p2 (by rw [sz1,sz2]) (by omega) λj h1 h2=>?_
    ·rw [Bc] at this
     exact SeqAt.EqAt.of_refs e this
    have hj:j < ds.length:=by omega
    have hjd:ds[j]? = some ds[j]:=List.getElem?_eq_getElem hj
    have hjx:xs[j]? = some (xs[j]'(by omega)):=List.getElem?_eq_getElem (by omega)
    have hjy:ys[j]? = some (ys[j]'(by omega)):=List.getElem?_eq_getElem (by omega)
    obtain ⟨u1,e1,q1⟩:=r1.get hjx
    obtain ⟨u2,e2,q2⟩:=r2.get hjy
    have g1:i1.toArray[j]=u1:=by
     have:i1[j]? = some i1.toArray[j]:=by simp at h1 ⊢
     rw [e1] at this
     exact (Option.some.inj this).symm
    have g2:i2.toArray[j]=u2:=by
     have:i2[j]? = some i2.toArray[j]:=by simp at h2 ⊢
     rw [e2] at this
     exact (Option.some.inj this).symm
    rw [g1,g2]
    have hdm:=Zjh (List.getElem_mem hj)
    exact ih ds[j] A.in1 _ _ u1 u2 (by omega) (by show A.units+1+n < cLine; omega) (hk j _ _ hjx hjd) (hk' j _ _ hjy hjd) q1 q2
  | @tup a xs ds ha hz hl hk=>
   cases hy with
   | @tup b ys _ hb hz' hl' hk'=>
    cases rx
    cases ry
    by_cases e:a=b
    ·subst e; exact SeqAt.EqAt.same _
    obtain ⟨i1,r1,p1⟩:=V6 ok ha
    obtain ⟨i2,r2,p2⟩:=V6 ok hb
    have sz1:i1.toArray.size=ds.length:=by rw [List.size_toArray,← hl]; exact r1.length.symm
    have sz2:i2.toArray.size=ds.length:=by rw [List.size_toArray,← hl']; exact r2.length.symm
    have:=SeqAt.RcAt.tuples (A:=A) (e:=λ_=>true) p1 p2 (by omega) λj h1 h2=>?_
    ·rw [Bc,sz1,sz2,beq_self_eq_true,Bool.and_self] at this
     exact SeqAt.EqAt.of_refs e this
    have hj:j < ds.length:=by omega
    have hjd:ds[j]? = some ds[j]:=List.getElem?_eq_getElem hj
    have hjx:xs[j]? = some (xs[j]'(by omega)):=List.getElem?_eq_getElem (by omega)
    have hjy:ys[j]? = some (ys[j]'(by omega)):=List.getElem?_eq_getElem (by omega)
    obtain ⟨u1,e1,q1⟩:=r1.get hjx
    obtain ⟨u2,e2,q2⟩:=r2.get hjy
    have g1:i1.toArray[j]=u1:=by
     have:i1[j]? = some i1.toArray[j]:=by simp at h1 ⊢
     rw [e1] at this
     exact (Option.some.inj this).symm
    have g2:i2.toArray[j]=u2:=by
     have:i2[j]? = some i2.toArray[j]:=by simp at h2 ⊢
     rw [e2] at this
     exact (Option.some.inj this).symm
    rw [g1,g2]
    have hdm:=Cv (List.getElem_mem hj)
    exact ih ds[j] A.in1 _ _ u1 u2 (by omega) (by show A.units+1+n < cLine; omega) (hk j _ _ hjx hjd) (hk' j _ _ hjy hjd) q1 q2
end
section
variable {X:Cx}
inductive Zmt (neg:Bool) (x:V) (y:V) (H:Hp) (Q:VK):Prop
 | mk (ds:_) (h1:(Dt.tup ds).dep≤150) (h2:Den H x (.tup ds)) (h3:Den H y (.tup ds)) (h4:Q (.bl (!neg)) H):Zmt neg x y H Q
def rEqD (neg:Bool):R2:=λx y H Q=>Zmt neg x y H Q
theorem Zfc {pins:List (Addr × Obj)} {s:Shared} {σ:St} {H:Hp} {x y:V} {u v:Value} {ds:List Dt} (hu:X.A.units+160 < cLine) (I:Inv X pins σ H s) (hd:(Dt.tup ds).dep≤150) (hx:Den H x (.tup ds)) (hy:Den H y (.tup ds)) (rx:RelV x u) (ry:RelV y v) :
  ∃ (a b:Addr) (i1 i2:List Value),u=.ref a∧v=.ref b∧s.heap.IsTuple a i1.toArray∧s.heap.IsTuple b i2.toArray∧i1.toArray.size=ds.length∧i2.toArray.size=ds.length∧∀ j (h1:j < i1.toArray.size) (h2:j < i2.toArray.size),SeqAt.EqAt X.A.in1 s i1.toArray[j] i2.toArray[j] true:=by
 cases hx with
 | @tup a xs _ ha hz hl hk=>
  cases hy with
  | @tup b ys _ hb hz' hl' hk'=>
   obtain ⟨i1,r1,p1⟩:=V6 I.hok ha
   obtain ⟨i2,r2,p2⟩:=V6 I.hok hb
   have sz1:i1.toArray.size=ds.length:=by rw [List.size_toArray,← hl]; exact r1.length.symm
   have sz2:i2.toArray.size=ds.length:=by rw [List.size_toArray,← hl']; exact r2.length.symm
   refine ⟨a,b,i1,i2,rx,ry,p1,p2,sz1,sz2,λj h1 h2=>?_⟩
   have hj:j < ds.length:=by omega
   have hjd:ds[j]? = some ds[j]:=List.getElem?_eq_getElem hj
   have hjx:xs[j]? = some (xs[j]'(by omega)):=List.getElem?_eq_getElem (by omega)
   have hjy:ys[j]? = some (ys[j]'(by omega)):=List.getElem?_eq_getElem (by omega)
   obtain ⟨u1,e1,q1⟩:=r1.get hjx
   obtain ⟨u2,e2,q2⟩:=r2.get hjy
   have g1:i1.toArray[j]=u1:=by
    have:i1[j]? = some i1.toArray[j]:=by simp at h1 ⊢
    rw [e1] at this
    exact (Option.some.inj this).symm
   have g2:i2.toArray[j]=u2:=by
    have:i2[j]? = some i2.toArray[j]:=by simp at h2 ⊢
    rw [e2] at this
    exact (Option.some.inj this).symm
   rw [g1,g2]
   have hdm:=Cv (List.getElem_mem hj)
   exact Zi7 I.hok 150 ds[j] X.A.in1 _ _ u1 u2 (by omega) (by show X.A.units+1+150 < cLine; omega) (hk j _ _ hjx hjd) (hk' j _ _ hjy hjd) q1 q2
theorem Zoj (hu:X.A.units+160 < cLine):OpR X (compareOp .NotEq) (rEqD true):=by
 intro pins s σ H x y v u Q I rx ry h
 obtain ⟨ds,hd,hx,hy,q⟩:=h
 obtain ⟨a,b,i1,i2,rfl,rfl,p1,p2,s1,s2,he⟩:=Zfc hu I hd hx hy rx ry
 refine SeqAt.RcNeAt.tuples p1 p2 (by omega) (e:=λ_=>true) he _ _ _ _ ⟨.bl false,H,I,?_,q⟩
 rw [Bc,s1,s2,beq_self_eq_true]
 rfl
theorem Zm6 {A:Around} {k:Nat} (hr:Vs k A):A.units+160 < cLine:=by have:=hr.un; omega
end
end L2
namespace L2
open PySem PySem.Spec PyProof.Rows
def Itk (a:Addr) (o:Obj) (kvs:List (Key × V)):It:=
 ⟨λi H=>i < kvs.length∧H a=some (.frz o (.dK kvs)),λi H x H'=>H'=H∧∃ k v,kvs[i]? = some (k,v)∧x=kV k,λi H=>i=kvs.length∧H a=some (.frz o (.dK kvs))⟩
theorem F2 {P:Program} {w:World} {k:Key} {u:Value} (h:(Ys P w).is k u=true):RelV (kV k) u:=by
 rcases Xg (show Hk k u=true from h) with ⟨i,t,rfl,rfl⟩ | ⟨x,t,rfl,rfl⟩
 ·exact ⟨t,rfl⟩
 ·exact ⟨t,rfl⟩
theorem Ci {kvs:List (Key × V)} {vs:List (Key × Value)} (r:KV kvs vs):kvs.length=vs.length:=Paired.length r
theorem Zcf:∀ {kvs:List (Key × V)} {vs:List (Key × Value)} {i:Nat} {k:Key} {x:Value},KV kvs vs→vs[i]? = some (k,x)→∃ v,kvs[i]? = some (k,v)
 | _,_,i,_,_,.nil,h=>by simp at h
 | _,_,0,k,x,.cons (a:=p) (b:=q) r _,h=>by
  cases h
  obtain ⟨e,_⟩:=r
  obtain ⟨pk,pv⟩:=p
  have e':pk=k:=e
  subst e'
  exact ⟨pv,rfl⟩
 | _,_,i+1,k,x,.cons _ t,h=>by
  obtain ⟨v,e⟩:=Zcf (i:=i) t (by simpa using h)
  exact ⟨v,by simpa using e⟩
theorem Ze1 {P:Program} {w:World} {K:W.Frag} {tg:Expr} (a it:Addr) (o:Obj) (kvs:List (Key × V)) (vs:List (Key × Value)) (es:Array DictEntry) (ep:Nat) (rel:KV kvs vs) (ho:∀ h:Heap,h.get? a=some o→h.DictAt (Ys P w) a vs ep) :
  Turn P w K tg (Itk a o kvs) [it] it (λi h=>h.IsKeyIter it a i vs.length ep) where
 mem:=by simp
 obj:=λi h st b hb=>by
  have e:b=it:=by simpa using hb
  subst e
  obtain ⟨o,e,c,d⟩:=st
  exact ⟨o,e,λv z=>by rw [d] at z; cases z⟩
 keep:=λi h h' st k=>st.at λo e=>k it (by simp) o e
 item:=by
  intro X hP hw hK hc i pins s σ H E I hf st hg
  subst hP hw hK
  obtain ⟨hi,hq⟩:=hg
  have hd:=ho s.heap (I.hok a _ hq).1
  have hl:=Ci rel
  have hx:vs[i]? = some (vs[i]'(by omega)):=List.getElem?_eq_getElem (by omega)
  obtain ⟨f0,f1,f2,f3,f4,f5⟩:=hf it (by simp)
  refine wpAny_pyNext_dict_item (k:=(vs[i]'(by omega)).1) (v:=(vs[i]'(by omega)).2) st hd hx λkey h' hk st' sb=>?_
  have I1:Inv X pins σ H { s with heap:=h' }:=I.turned (t':=s.toks) (λb o hb e=>(sb.2 b hb).trans e) f0 f1 f3 f4 f5
  obtain ⟨oi,e,c,d⟩:=id st'
  obtain ⟨v,hv⟩:=Zcf (k:=(vs[i]'(by omega)).1) (x:=(vs[i]'(by omega)).2) rel hx
  exact ⟨key,rfl,Eg (s:={ s with heap:=h' }) e c d (by decide) ⟨kV _,H,I1,F2 hk,⟨rfl,_,v,hv,rfl⟩,st',λb hb=>(hf b hb).1⟩⟩
 done:=by
  intro X hP hw hK hc i pins s σ H E I hf st hg
  subst hP hw hK
  obtain ⟨hi,hq⟩:=hg
  have hd:=ho s.heap (I.hok a _ hq).1
  have hl:=Ci rel
  obtain ⟨f0,f1,f2,f3,f4,f5⟩:=hf it (by simp)
  exact wpAny_pyNext_dict_end (I.ok.hd hc) st hd (List.getElem?_eq_none (by omega)) λh' eb=>⟨rfl,I.turned (t':=s.toks) (λb o hb e=>eb b o hb e) f0 f1 f3 f4 f5⟩
 self:=λ_ _ _ _ _ st h=>wpAny_pyIter_keyiter st h
section
variable {X:Cx} {tg:Expr}
def Zrp (te:TE):TI:=λσ H R=>te σ H λx H1=>∃ a kvs,x=.ref a∧((H1 a=some (.dK kvs)∧∀ o,R (Itk a o kvs) (upd H1 a (.frz o (.dK kvs))))∨∃ o,H1 a=some (.frz o (.dK kvs))∧R (Itk a o kvs) H1)
theorem Zdx {e:Expr} {te:TE} (he:PE X e te):PI X tg e (Zrp te):=by
 intro pins s σ H R I h
 refine thn (he pins s σ H _ I h) λv s1 ⟨x,H1,I1,r1,q1⟩=>?_
 obtain ⟨a,kvs,e,q⟩:=q1
 subst e
 cases r1
 have key:∀ (o:Obj) (H2:Hp),Inv X pins σ H2 s1→H2 a=some (.frz o (.dK kvs))→R (Itk a o kvs) H2→wpAny (model X.prog X.w) X.A (pyIter (.ref a)) (PIE X pins σ tg R) X.xe s1:=by
  intro o H2 I2 h2 q2
  obtain ⟨ho,_,hsm,vs,rel,dd⟩:=I2.hok a _ h2
  obtain ⟨o',es,ep,ho',hx,Ziv,hk,hp,hn⟩:=dd
  rw [ho] at ho'
  cases ho'
  have at_:∀ h:Heap,h.get? a=some o→h.DictAt (Ys X.prog X.w) a vs ep:=λh e=>⟨o,es,e,hx,Ziv,hk,hp,hn⟩
  refine wpAny_pyIter_dict hsm (at_ s1.heap ho) ?_
  refine ⟨s1.heap.objs.size,[s1.heap.objs.size],_,_,H2,rfl,I2.kept (t':=s1.toks) λb o e=>Heap.get?_push_of_some _ e,Ze1 a _ o kvs vs es ep rel at_,⟨_,Heap.get?_push_size _ rfl,rfl,rfl⟩,λb hb=>?_,q2⟩
  have e:b=s1.heap.objs.size:=by simpa using hb
  subst e
  exact I2.Fb (Nat.le_refl _) (I2.hok.fresh (Nat.le_refl _))
 rcases q with ⟨hd,q⟩ | ⟨o,hd,q⟩
 ·obtain ⟨hz,hsm,vs,rel,dd⟩:=I1.hok a _ hd
  obtain ⟨o,es,ep,ho,rest⟩:=id dd
  have I2:Inv X pins σ (upd H1 a (.frz o (.dK kvs))) s1:=I1.write (x:=a) (e:=a) (t':=s1.toks) (h':=s1.heap) (by rw [hd]; exact True.intro) (.inl rfl) (λb u _ e=>e) ⟨o,ho⟩ ⟨ho,hz,hsm,vs,rel,dd⟩
  exact key o _ I2 Zb (q o)
 ·exact key o H1 I1 hd q
theorem Zi3 {a:Addr} {o:Obj} {kvs:List (Key × V)} {g:TG} {tb:TS} {D:Ends} {σ:St} {H:Hp} (Pv:Nat→St→Hp→Prop) (h0:Pv 0 σ H) (hl:∀ i σ H,i≤kvs.length→Pv i σ H→H a=some (.frz o (.dK kvs)))
  (hs:∀ i k v σ H,kvs[i]? = some (k,v)→Pv i σ H→g (kV k) σ H λσ2 H2=>tb { D with nx:=Pv (i+1),ct:=Pv (i+1),bk:=D.nx } σ2 H2) (hd:∀ σ H,Pv kvs.length σ H→D.nx σ H) :
  ∃ W:Nat→Nat→St→Hp→Prop,(∃ m,W 0 m σ H)∧∀ i m σ H,W i m σ H→
   ((Itk a o kvs).stop i H∧D.nx σ H)∨((Itk a o kvs).go i H∧∃ N:St→Hp→Prop,(∀ σ' H',N σ' H'→∃ m',m' < m∧W (i+1) m' σ' H')∧∀ x H',(Itk a o kvs).yld i H x H'→g x σ H' λσ2 H2=>tb { D with nx:=N,ct:=N,bk:=D.nx } σ2 H2):=by
 refine ⟨λi m σ H=>m=kvs.length - i∧i≤kvs.length∧Pv i σ H,⟨kvs.length,by simp,Nat.zero_le _,h0⟩,?_⟩
 rintro i m σ H ⟨rfl,hi,p⟩
 have q:=hl i σ H hi p
 by_cases hlt:i < kvs.length
 ·refine .inr ⟨⟨hlt,q⟩,Pv (i+1),λσ' H' p'=>⟨kvs.length - (i+1),by omega,rfl,hlt,p'⟩,λx H' y=>?_⟩
  obtain ⟨e,k,v,hk,ex⟩:=y
  subst e ex
  exact hs i k v σ _ hk p
 ·have e:i=kvs.length:=by omega
  subst e
  exact .inl ⟨⟨rfl,q⟩,hd σ H p⟩
end
end L2
namespace L2
open PySem PySem.Spec PyProof.Rows
section
variable {P:Program} {w:World} {A:Around} {E:Value→Shared→Prop} {s:Shared}
theorem Zcp {it t:Addr} {i:Nat} {us:Array Value} {x:Value} {Q:Value→Shared→Prop} (hi:s.heap.IsTupleIter it t i) (ht:s.heap.IsTuple t us) (hx:us[i]? = some x)
  (q:∀ h',h'.IsTupleIter it t (i+1)→Heap.SameBut it s.heap h'→Q x { s with heap:=h' }):wpAny (model P w) A (Builtin.SmallTypes.nextOf (.ref it)) Q E s:=by
 obtain ⟨o,e0,ec,ed⟩:=id hi
 obtain ⟨ot,e1,_,n,e2⟩:=ht
 unfold Builtin.SmallTypes.nextOf
 refine wpAny_bind (wpAny_callSpecial?_slot (name:=Str.ofString "__next__") hi.typeIs F.slot_tuple_iterator_next (wpAny_call_entry F.slot_tuple_iterator_next hi.typeIs F.entry_tuple_iterator_next ?_ (F.args_tuple_iterator_next_1 _)))
 refine wpAny_bind (m:=field (.ref it) 0) (wpAny_field e0 ed (x:=.ref t) rfl ?_)
 show wpAny _ _ (ite ((Value.ref t==Value.none)=true) _ _) _ _ s
 refine (if_neg (show ¬ (Value.ref t==Value.none)=true from Bool.false_ne_true))▸?_
 refine wpAny_bind (m:=field (.ref it) 1) (wpAny_field e0 ed (x:=.int i 0) rfl ?_)
 refine wpAny_bind (m:=seqItems? (.ref t)) (wpAny_seqItems e1 e2 ?_)
 simp only [Int.toNat_natCast,hx]
 refine wpAny_bind (wpAny_setField e0 ed (by simp) (wpAny_pure ⟨x,rfl,wpAny_pure (q _ ⟨_,Heap.get?_update_self _ e0 (Obj.isFreed_of_fields (Obj.data_mapFields ed _)),(Obj.cls_mapFields ..).trans ec,?_⟩ (Heap.SameBut.update ..))⟩))
 rw [Obj.data_mapFields ed]
 simp [rawInt]
theorem Zf0 {it t:Addr} {i:Nat} {us:Array Value} {Q:Value→Shared→Prop} (hh:A.handled=none) (hi:s.heap.IsTupleIter it t i) (ht:s.heap.IsTuple t us) (hx:us[i]? = none)
  (q:∀ h' e,Heap.ExtBut it s.heap h'→(∃ o,h'.get? e=some o∧o.cls=.type "StopIteration")→E (.ref e) { s with heap:=h' }):wpAny (model P w) A (Builtin.SmallTypes.nextOf (.ref it)) Q E s:=by
 obtain ⟨o,e0,ec,ed⟩:=id hi
 obtain ⟨ot,e1,_,n,e2⟩:=ht
 unfold Builtin.SmallTypes.nextOf
 refine wpAny_bind (wpAny_callSpecial?_slot (name:=Str.ofString "__next__") hi.typeIs F.slot_tuple_iterator_next (wpAny_call_entry F.slot_tuple_iterator_next hi.typeIs F.entry_tuple_iterator_next ?_ (F.args_tuple_iterator_next_1 _)))
 refine wpAny_bind (m:=field (.ref it) 0) (wpAny_field e0 ed (x:=.ref t) rfl ?_)
 show wpAny _ _ (ite ((Value.ref t==Value.none)=true) _ _) _ _ s
 refine (if_neg (show ¬ (Value.ref t==Value.none)=true from Bool.false_ne_true))▸?_
 refine wpAny_bind (m:=field (.ref it) 1) (wpAny_field e0 ed (x:=.int i 0) rfl ?_)
 refine wpAny_bind (m:=seqItems? (.ref t)) (wpAny_seqItems e1 e2 ?_)
 simp only [Int.toNat_natCast,hx]
 refine wpAny_bind (wpAny_rule (wpAny_bind (wpAny_setField e0 ed (by simp) (wpAny_bind (m:=newExc (.type "StopIteration") []) ?_))))
 simp only [newExc,newTuple,raiseNew]
 refine wpAny_bind (wpAny_newObj_type (wpAny_bind (m:=firstArgMember _ _) (wpAny_of_eq (a:=Value.none) (by first | rfl | (simp only [firstArgMember]; rfl)) (wpAny_newObj_type ?_ (by size_fits)))) (by size_fits))
 refine wpAny_bind (wpAny_handled ?_)
 first | rw [show A.in1.handled=none from hh] | rw [hh]
 exact wpAny_bind (wpAny_pure (wpAny_throw (q _ _ (((Heap.SameBut.update ..).extBut.push _).push _) ⟨_,Heap.get?_push_size _ rfl,rfl⟩)))
theorem Zjd (hh:A.handled=none) (it t:Addr) (hne:t≠it) (us:Array Value):Draws P w A it [it,t] us.size (λi v=>us[i]? = some v) (λi h=>h.IsTupleIter it t i∧h.IsTuple t us) where
 live:=λ_ _ ⟨⟨o,e,_⟩,_⟩=>⟨o,e⟩
 frame:=λ_ _ _ ⟨a,b⟩ k=>⟨a.at λo e=>k it (by simp) o e,b.at λo e=>k t (by simp) o e⟩
 item:=λi s Q E hi st q=>Zcp st.1 st.2 (x:=us[i]) (by simp [hi]) λh' a b=>q _ h' s.toks (by simp [hi]) ⟨a,st.2.extBut b.extBut hne⟩ b
 done:=λs Q E st q=>Zf0 hh st.1 st.2 (by simp) q
open AutoSeq1 (wpAny_loadPart') in
theorem Zi9 (t:Addr) (us:Array Value) (n:Nat) (dx:Option Addr) (sl:Array (Option Value)) :
  Meets (Builtin.«enumerate.__new__» ⟨[.type "enumerate",.ref t],[]⟩) (λ_ R s=>s.heap.get? t=some { cls:=.type "tuple",dict:=dx,data:=.seq us n,slots:=sl }∧
   R (.ok (.ret (.ref (s.heap.push { cls:=.type "tuple_iterator",data:=.fields #[.ref t,.int 0 0] }).objs.size))) { s with heap:=(s.heap.push { cls:=.type "tuple_iterator",data:=.fields #[.ref t,.int 0 0] }).push { cls:=.type "enumerate",data:=.fields #[.none,.bool false,.ref s.heap.objs.size,rawInt 0,.none,.none] } }):=
 .of_wp λprog w A R s h=>by
  obtain ⟨hp,g,d,tk,os⟩:=s
  obtain ⟨ht,q⟩:=h
  have hsub:=sub_enumerate
  have hT:Heap.IsTuple (Shared.heap ⟨hp,g,d,tk,os⟩) t us:=⟨_,ht,rfl,n,rfl⟩
  wp_walk using wpAny_loadPart' ht
  refine wpAny_stack_any λst=>wpAny_pure ?_
  split
  ·rename_i c _ _ _ _ _
   cases (c==Value.type "enumerate") <;> (wp_walk using wpAny_loadPart' ht,wpAny_pyIter_tuple hT; exact ⟨_,rfl,q⟩)
  ·wp_walk using wpAny_loadPart' ht,wpAny_pyIter_tuple hT
   exact ⟨_,rfl,q⟩
theorem Zcx {t:Addr} {us:Array Value} {Q:Value→Shared→Prop} (hT:s.heap.IsTuple t us)
  (q:∀ h',IsEnum h' (s.heap.objs.size+1) s.heap.objs.size 0 .none→h'.IsTupleIter s.heap.objs.size t 0→h'.objs.size=s.heap.objs.size+2→(∀ b o,s.heap.get? b=some o→h'.get? b=some o)→Q (.ref (s.heap.objs.size+1)) { s with heap:=h' }) :
  wpAny (model P w) A (call (.type "enumerate") [.ref t]) Q E s:=by
 obtain ⟨⟨c,dx,dt,sl⟩,ht,ec,n,ed⟩:=hT
 obtain rfl:c=.type "tuple":=ec
 obtain rfl:dt=.seq us n:=ed
 refine callType_new F.called_enumerate (by decide) (F.typeCall_enumerate_1 _) (F.newCall_enumerate_1 _) (λobj=>F.args_object_init_2 obj _) F.entry_enumerate_new (Zi9 t us n dx sl) ⟨ht,?_⟩
 have z:(s.heap.push { cls:=.type "tuple_iterator",data:=.fields #[.ref t,.int 0 0] }).objs.size=s.heap.objs.size+1:=Heap.size_push ..
 show _∧_
 have en:=Heap.get?_push_size (s.heap.push { cls:=.type "tuple_iterator",data:=.fields #[.ref t,.int 0 0] }) (o:={ cls:=.type "enumerate",data:=.fields #[.none,.bool false,.ref s.heap.objs.size,rawInt 0,.none,.none] }) rfl
 rw [z] at en ⊢
 exact ⟨⟨_,en,rfl⟩,q _ en ⟨_,Heap.get?_push_of_some _ (Heap.get?_push_size _ rfl),rfl,rfl⟩ (by rw [Heap.size_push,z]) λb o x=>Heap.get?_push_of_some _ (Heap.get?_push_of_some _ x)⟩
end
theorem Inv.Zkb {X:Cx} {pins:List (Addr × Obj)} {σ:St} {H:Hp} {s:Shared} {h':Heap} {t':Nat} {fp:List Addr} (I:Inv X pins σ H s) (k:∀ b o,b∉fp→s.heap.get? b=some o→h'.get? b=some o) (hf:∀ b∈fp,Fi X pins H b) :
  Inv X pins σ H { s with heap:=h',toks:=t' }:=by
 have nit:∀ b u,H b=some u→b∉fp:=λb u e z=>by rw [(hf b z).1] at e; cases e
 refine I.step (g':=s.gens) (d':=s.drawn) (ch:=fp) (λb hb=>?_) (λb o _ _ hc e _=>k b o hc e) (λb o _ _ hc e _=>⟨o.slots,k b o hc e⟩) (λ_ _ _ _ n=>n) (λb o hc e=>⟨o,k b o hc e⟩) (λ_ _ e=>e) (λ_ _ _ e=>e) (λb ps e=>⟨#[],by rw [e]; simp⟩) (λm hm=>?_) (λb u e=>?_) I.bare
 ·obtain ⟨_,f1,_,f3,f4,f5⟩:=hf b hb
  exact ⟨f3,f1,f4,f5⟩
 ·obtain ⟨o,es,ep,ho,r⟩:=hm
  exact ⟨o,es,ep,k _ o (λz=>(hf _ z).2.1 rfl) ho,r⟩
 ·refine (I.hok b u e).Jq (λc v hc q=>k c v (λy=>?_) q) (λ_ q=>q) λ_ _ q=>q
  rcases hc with z | z
  ·rw [z] at y
   exact nit b u e y
  ·exact nit c _ z y
def ItE (Sq:Hp→List V→Prop):It:=
 ⟨λi H=>∃ xs x,Sq H xs∧xs[i]? = some x,λi H x H'=>∃ p y,x=.ref p∧H p=none∧H'=upd H p (.tup [.int i,y])∧∀ xs,Sq H xs→xs[i]? = some y,λi H=>∃ xs,Sq H xs∧xs.length=i⟩
theorem Ly {X:Cx} {pins:List (Addr × Obj)} {σ:St} {H:Hp} {s:Shared} {h1 h2:Heap} {e it:Addr} {i:Nat} {tk t':Nat} {u:Value} {y:V} (I:Inv X pins σ H s) (hf:∀ b∈[e,it],Fi X pins H b) (ru:RelV y u)
  (ht:h1.get? s.heap.objs.size=some { cls:=.type "tuple",data:=.seq #[.int i tk,u] }) (k:∀ b o,b≠e→b≠it→s.heap.get? b=some o→h1.get? b=some o) (sb:Heap.SameBut e h1 h2) (hel:e < s.heap.objs.size) (hil:it < s.heap.objs.size) :
  Inv X pins σ (upd H s.heap.objs.size (.tup [.int i,y])) { s with heap:=h2,toks:=t' }∧∀ b∈[e,it],upd H s.heap.objs.size (.tup [.int i,y]) b=none:=by
 have hn:∀ b∈[e,it],upd H s.heap.objs.size (.tup [.int i,y]) b=none:=λb hb=>by
  have hb':b=e∨b=it:=by simpa using hb
  have hlt:b < s.heap.objs.size:=by
   rcases hb' with z | z
   ·rw [z]; exact hel
   ·rw [z]; exact hil
  rw [Zj (Nat.ne_of_lt hlt)]
  exact (hf b hb).1
 have I1:Inv X pins σ (upd H s.heap.objs.size (.tup [.int i,y])) { s with heap:=s.heap.push { cls:=.type "tuple",data:=.seq #[.int i tk,u] },toks:=s.toks }:=
  I.laid (λb o q=>Heap.get?_push_of_some _ q) (Nat.le_refl _) ⟨(by show 2≤sizeLine; decide),[.int i tk,u],.cons ⟨tk,rfl⟩ (.cons ru .nil),⟨_,Heap.get?_push_size _ rfl,rfl,_,rfl⟩⟩
 have I2:=I1.Zkb (fp:=[e,it]) (h':=h2) (t':=t') (λb o hb q=>?_) (λb hb=>⟨hn b hb,(hf b hb).2⟩)
 ·exact ⟨I2,hn⟩
 have hb1:b≠e:=λz=>hb (by simp [z])
 have hb2:b≠it:=λz=>hb (by simp [z])
 refine (sb.2 b hb1).trans ?_
 rcases Heap.get?_push_cases q with ⟨z1,z2⟩ | z
 ·rw [z1,z2]
  exact ht
 ·exact k b o hb1 hb2 z
theorem Za6 {P:Program} {w:World} {K:W.Frag} {es:List Expr} {n:Nat} {pos:Pos} (a e it:Addr) (hei:e≠it) :
  Turn P w K (.Tuple es n pos) (ItE λH xs=>SqL K H a xs) [e,it] e (λi h=>(∃ old,IsEnum h e it i old)∧h.IsListIter it a i) where
 mem:=by simp
 obj:=λi h st b hb=>by
  obtain ⟨⟨old,he⟩,oi,e1,c1,d1⟩:=st
  have hb':b=e∨b=it:=by simpa using hb
  rcases hb' with z | z
  ·subst z
   exact ⟨_,he,λv z=>by cases z⟩
  ·subst z
   exact ⟨oi,e1,λv z=>by rw [d1] at z; cases z⟩
 keep:=λi h h' st k=>⟨let ⟨old,he⟩:=st.1; ⟨old,k e (by simp) _ he⟩,st.2.at λo q=>k it (by simp) o q⟩
 item:=by
  intro X hP hw hK hc i pins s σ H E I hf st hg
  subst hP hw hK
  obtain ⟨xs,x,hq,hx⟩:=hg
  obtain ⟨its,rv,p,hz⟩:=I.list hq
  obtain ⟨u,hu,ru⟩:=rv.get hx
  obtain ⟨⟨old,he⟩,hit⟩:=st
  have hel:=Heap.lt_size he
  have hil:it < s.heap.objs.size:=by obtain ⟨o,q,_⟩:=id hit; exact Heap.lt_size q
  refine wpAny_pyNext_enum_item he hit p.isList (x:=u) (by simpa using hu) hei λh1 heo Ziu ht1 hz1 hk1=>⟨_,rfl,?_⟩
  refine wpAny_letOwnedTupleGo_enum heo λh2 he2 sb=>?_
  obtain ⟨I2,hn⟩:=Ly (t':=s.toks+1) I hf ru ht1 hk1 sb hel hil
  exact ⟨.ref s.heap.objs.size,_,I2,rfl,⟨_,x,rfl,I.hok.fresh (Nat.le_refl _),rfl,λys hy=>by rw [I.A5 hy hq]; exact hx⟩,⟨⟨_,by simpa using he2⟩,Ziu.at λo q=>(sb.2 it (Ne.symm hei)).trans q⟩,hn⟩
 done:=by
  intro X hP hw hK hc i pins s σ H E I hf st hg
  subst hP hw hK
  obtain ⟨xs,hq,hx⟩:=hg
  obtain ⟨its,rv,p,hz⟩:=I.list hq
  have hl:=rv.length
  obtain ⟨⟨old,he⟩,hit⟩:=st
  obtain ⟨f0,f1,f2,f3,f4,f5⟩:=hf it (by simp)
  exact wpAny_pyNext_enum_end (I.ok.hd hc) he hit p.isList (by simp; omega) λh' eb=>⟨rfl,I.turned (t':=s.toks) (λb o hb q=>eb b o hb q) f0 f1 f3 f4 f5⟩
 self:=λ_ _ _ _ _ st h=>let ⟨_,he⟩:=st.1; wpAny_pyIter_enum he h
theorem Za5 {P:Program} {w:World} {K:W.Frag} {es:List Expr} {n:Nat} {pos:Pos} (a e it:Addr) (hei:e≠it) :
  Turn P w K (.Tuple es n pos) (ItE λH xs=>SqT K H a xs) [e,it] e (λi h=>(∃ old,IsEnum h e it i old)∧h.IsTupleIter it a i) where
 mem:=by simp
 obj:=λi h st b hb=>by
  obtain ⟨⟨old,he⟩,oi,e1,c1,d1⟩:=st
  have hb':b=e∨b=it:=by simpa using hb
  rcases hb' with z | z
  ·subst z
   exact ⟨_,he,λv z=>by cases z⟩
  ·subst z
   exact ⟨oi,e1,λv z=>by rw [d1] at z; cases z⟩
 keep:=λi h h' st k=>⟨let ⟨old,he⟩:=st.1; ⟨old,k e (by simp) _ he⟩,st.2.at λo q=>k it (by simp) o q⟩
 item:=by
  intro X hP hw hK hc i pins s σ H E I hf st hg
  subst hP hw hK
  obtain ⟨xs,x,hq,hx⟩:=hg
  obtain ⟨its,rv,p,hz⟩:=I.tuple hq
  have hl:=rv.length
  have hlt:i < its.toArray.size:=by
   have:=(List.getElem?_eq_some_iff.mp hx).1
   simp
   omega
  obtain ⟨⟨old,he⟩,hit⟩:=st
  have hel:=Heap.lt_size he
  have hT:s.heap.IsTuple a its.toArray:=p
  have hil:it < s.heap.objs.size:=by obtain ⟨o,q,_⟩:=id hit; exact Heap.lt_size q
  have nat:a≠it:=λz=>by
   obtain ⟨o,q,c,_⟩:=id hit
   obtain ⟨o2,q2,c2,_⟩:=id hT
   rw [z,q] at q2
   cases q2
   rw [c] at c2
   injection c2 with c2
   exact absurd c2 (by decide)
  have nae:a≠e:=λz=>by
   obtain ⟨o2,q2,c2,_⟩:=id hT
   rw [z,he] at q2
   cases q2
   injection c2 with c2
   exact absurd c2 (by decide)
  have hef:e∉[it,a]:=by simp [hei,Ne.symm nae]
  refine wpAny_pyNext_enum_itemD (Zjd (A:=X.A.in1) (I.ok.hd hc) it a nat its.toArray) he ⟨hit,hT⟩ hlt hei hef λu h1 tk hu heo Ziu ht1 hz1 hk1=>⟨_,rfl,?_⟩
  refine wpAny_letOwnedTupleGo_enum heo λh2 he2 sb=>?_
  obtain ⟨u',hu',ru⟩:=rv.get hx
  have eu:u=u':=by
   have h3:its[i]? = some u:=by simpa using hu
   rw [hu'] at h3
   exact (Option.some.inj h3).symm
  subst eu
  obtain ⟨I2,hn⟩:=Ly (t':=tk+1) I hf ru ht1 hk1 sb hel hil
  exact ⟨.ref s.heap.objs.size,_,I2,rfl,⟨_,x,rfl,I.hok.fresh (Nat.le_refl _),rfl,λys hy=>by rw [I.Fp hy hq]; exact hx⟩,⟨⟨_,by simpa using he2⟩,Ziu.1.at λo q=>(sb.2 it (Ne.symm hei)).trans q⟩,hn⟩
 done:=by
  intro X hP hw hK hc i pins s σ H E I hf st hg
  subst hP hw hK
  obtain ⟨xs,hq,hx⟩:=hg
  obtain ⟨its,rv,p,hz⟩:=I.tuple hq
  have hl:=rv.length
  obtain ⟨⟨old,he⟩,hit⟩:=st
  have hT:s.heap.IsTuple a its.toArray:=p
  have nat:a≠it:=λz=>by
   obtain ⟨o,q,c,_⟩:=id hit
   obtain ⟨o2,q2,c2,_⟩:=id hT
   rw [z,q] at q2
   cases q2
   rw [c] at c2
   injection c2 with c2
   exact absurd c2 (by decide)
  obtain ⟨f0,f1,f2,f3,f4,f5⟩:=hf it (by simp)
  have ei:i=its.toArray.size:=by simp; omega
  subst ei
  exact wpAny_pyNext_enum_endD (Zjd (A:=X.A.in1) (I.ok.hd hc) it a nat its.toArray) he ⟨hit,hT⟩ λh' eb=>⟨rfl,I.turned (t':=s.toks) (λb o hb q=>eb b o hb q) f0 f1 f3 f4 f5⟩
 self:=λ_ _ _ _ _ st h=>let ⟨_,he⟩:=st.1; wpAny_pyIter_enum he h
section
variable {X:Cx} {es:List Expr} {n:Nat} {tp:Pos}
def Zro (K:W.Frag) (te:TE):TI:=λσ H R=>te σ H λx H1=>∃ a xs,x=.ref a∧((SqL K H1 a xs∧R (ItE λH xs=>SqL K H a xs) H1)∨(SqT K H1 a xs∧R (ItE λH xs=>SqT K H a xs) H1))
theorem N8 {K:W.Frag} {e:Expr} {te:TE} {p pos:Pos} (hg:Gl X "enumerate") (hm:X.mg "enumerate" = none) (he:PE X e te) (hK:X.K=K:=by rfl)
  (h2:starEach [e] X.env=(false,eval e X.env) :: starEach [] X.env:=by rfl):PI X (.Tuple es n tp) (.Call (.Name "enumerate" p) [e] [] pos) (Zro K te):=by
 subst hK
 intro pins s σ H R I h
 refine wpAny_Call_Name_kw (Ri I hg hm Mx (PyProof.Rows.callWith_type1 (thn (Za he Zc h2 pos pins s σ H (λvs H1=>match vs with | [x]=>∃ a xs,x=.ref a∧((SqL X.K H1 a xs∧R (ItE λH xs=>SqL X.K H a xs) H1)∨(SqT X.K H1 a xs∧R (ItE λH xs=>SqT X.K H a xs) H1)) | _=>False) I h) λus s1 ⟨vs,H1,I1,r1,q1⟩=>?_) h2 rfl))
 obtain ⟨x0,e0,a,xs,e1,q⟩:∃ x0,vs=[x0]∧∃ a xs,x0=.ref a∧((SqL X.K H1 a xs∧R (ItE λH xs=>SqL X.K H a xs) H1)∨(SqT X.K H1 a xs∧R (ItE λH xs=>SqT X.K H a xs) H1)):=by
  match vs,q1 with
  | [x0],q1=>exact ⟨x0,rfl,q1⟩
 subst e0 e1
 obtain ⟨u,rfl,ru⟩:=Vals.one r1
 obtain rfl:u=Value.ref a:=ru
 have fp:∀ b∈[s1.heap.objs.size+1,s1.heap.objs.size],Fi X pins H1 b:=λb hb=>by
  have hb':b=s1.heap.objs.size+1∨b=s1.heap.objs.size:=by simpa using hb
  rcases hb' with z | z
  ·rw [z]; exact I1.Fb (Nat.le_succ _) (I1.hok.fresh (Nat.le_succ _))
  ·rw [z]; exact I1.Fb (Nat.le_refl _) (I1.hok.fresh (Nat.le_refl _))
 rcases q with ⟨hx,q⟩ | ⟨hx,q⟩
 ·obtain ⟨its,rv,pl,hz⟩:=I1.list hx
  refine call_enumerate_list pl.isList λh' hE hI hsz hk=>wpAny_pyIter_enum hE ?_
  exact ⟨_,[s1.heap.objs.size+1,s1.heap.objs.size],_,_,H1,rfl,I1.kept (t':=s1.toks) hk,Za6 a _ _ (Nat.succ_ne_self _),⟨⟨_,hE⟩,hI⟩,fp,q⟩
 ·obtain ⟨its,rv,pl,hz⟩:=I1.tuple hx
  refine Zcx (show s1.heap.IsTuple a its.toArray from pl) λh' hE hI hsz hk=>wpAny_pyIter_enum hE ?_
  exact ⟨_,[s1.heap.objs.size+1,s1.heap.objs.size],_,_,H1,rfl,I1.kept (t':=s1.toks) hk,Za5 a _ _ (Nat.succ_ne_self _),⟨⟨_,hE⟩,hI⟩,fp,q⟩
end
theorem Hs {Sq:Hp→List V→Prop} {xs:List V} {g:TG} {tb:TS} {D:Ends} {σ:St} {H:Hp} (Pv:Nat→St→Hp→Prop) (h0:Pv 0 σ H) (hl:∀ i σ H,i≤xs.length→Pv i σ H→Sq H xs)
  (hs:∀ i x σ H p,xs[i]? = some x→Pv i σ H→H p=none→g (.ref p) σ (upd H p (.tup [.int i,x])) λσ2 H2=>tb { D with nx:=Pv (i+1),ct:=Pv (i+1),bk:=D.nx } σ2 H2) (hd:∀ σ H,Pv xs.length σ H→D.nx σ H) :
  ∃ W:Nat→Nat→St→Hp→Prop,(∃ m,W 0 m σ H)∧∀ i m σ H,W i m σ H→
   ((ItE Sq).stop i H∧D.nx σ H)∨((ItE Sq).go i H∧∃ N:St→Hp→Prop,(∀ σ' H',N σ' H'→∃ m',m' < m∧W (i+1) m' σ' H')∧∀ x H',(ItE Sq).yld i H x H'→g x σ H' λσ2 H2=>tb { D with nx:=N,ct:=N,bk:=D.nx } σ2 H2):=by
 refine ⟨λi m σ H=>m=xs.length - i∧i≤xs.length∧Pv i σ H,⟨xs.length,by simp,Nat.zero_le _,h0⟩,?_⟩
 rintro i m σ H ⟨rfl,hi,p⟩
 have q:=hl i σ H hi p
 by_cases hlt:i < xs.length
 ·refine .inr ⟨⟨xs,xs[i],q,by simp [hlt]⟩,Pv (i+1),λσ' H' p'=>⟨xs.length - (i+1),by omega,rfl,hlt,p'⟩,λx H' y=>?_⟩
  obtain ⟨a,y,e1,hn,e2,hy⟩:=y
  subst e1 e2
  exact hs i y σ H a (hy xs q) p hn
 ·have e:i=xs.length:=by omega
  subst e
  exact .inl ⟨⟨xs,q,rfl⟩,hd σ H p⟩
def Lz {Sq:Hp→List V→Prop} {xs:List V} {n:Nat} {fr:List Nat} {g:TG} {tt:TT} {te:TE} {σ:St} {H:Hp} {Q:VK} (Pv:Nat→List V→Hp→Prop) (hk:xs.length < sizeLine) (h0:Pv 0 [] H) (hlen:∀ i acc H,Pv i acc H→acc.length≤i)
  (hl:∀ i acc H,Pv i acc H→Sq H xs)
  (hs:∀ i acc H2 x p,xs[i]? = some x→Pv i acc H2→H2 p=none→g (.ref p) (Sd n fr σ) (upd H2 p (.tup [.int i,x])) λσ4 H4=>tt σ4 H4 λb H5=>if b=true then te σ4 H5 λv H6=>Pv (i+1) (acc ++ [v]) H6 else Pv (i+1) acc H5)
  (hd:∀ acc H2,Pv xs.length acc H2→∀ l,H2 l=none→Q (.ref l) (upd H2 l (.lst acc))):=
 S1 (J:=ItE Sq) (n:=n) (fr:=fr) (g:=g) (tt:=tt) (te:=te) (σ:=σ) (Q:=Q) Pv hk h0 hlen (λi acc H hi p=>⟨xs,xs[i],hl i acc H p,by simp [hi]⟩) (λacc H p=>⟨xs,hl _ acc H p,rfl⟩) (λi acc H2 x H3 hi p y=>by
  obtain ⟨a,y,e1,hn,e2,hy⟩:=y
  subst e1 e2
  exact hs i acc H2 y a (hy xs (hl i acc H2 p)) p hn) hd
end L2
namespace L2
open PySem PySem.Spec PyProof.Rows
section
variable {P:Program} {w:World} {κ:Type} [DecidableEq κ] {knd:HeapKind P w κ} {A:Around} {E:Value→Shared→Prop} {s:Shared}
theorem B0 {d a:Addr} {xs:List (κ × Addr × Value)} {k:κ} {dflt:Value} {Q:Value→Shared→Prop} (hu:knd.room A) (Zcn:knd.is s.heap k a) (hm:s.heap.DictOfH knd d xs) (hsz:xs.length≤sizeLine)
  (h1:∀ p,atKey xs k=some p→Q p.2 { s with toks:=s.toks+knd.draws k }) (h2:atKey xs k=none→∀ h',h'.DictOfH knd d (storedH xs k a dflt)→Heap.SameBut d s.heap h'→Q dflt { s with heap:=h',toks:=s.toks+knd.draws k }) :
  wpAny (model P w) A (dictSetDefault d (.ref a) dflt) Q E s:=by
 obtain ⟨o,es,ep,ho,hc,hd,he,his,hn⟩:=hm
 unfold dictSetDefault
 try with_reducible refine wpAny_holding ?_
 refine wpAny_bind (knd.pyHash hu Zcn (wpAny_bind (wpAny_dictFind_heap (s:={ s with toks:=s.toks+knd.draws k }) hu Zcn ho hd he his hn (λno=>?_) λj p hj=>?_)))
 ·have h0:=atKey_none_of_get no
  have e:=storedH_new h0 a dflt
  have z:=size_of_entries he
  refine wpAny_bind (wpAny_rule (wpAny_bind (wpAny_updateDictKeys (hz:=by omega) (s:={ s with toks:=s.toks+knd.draws k }) ho hd (wpAny_pure (h2 h0 _ ?_ (Heap.SameBut.update ..))))))
  refine ⟨_,_,ep+1,Heap.get?_update_self _ ho (Obj.isFreed_of_dict (Obj.data_mapDictKeys hd _)),hc.mapDictKeys _,Obj.data_mapDictKeys hd _,?_,?_,?_⟩ <;> rw [e]
  ·simp [he,entryOfKey]
  ·intro x hx
   rcases List.mem_append.mp hx with y | y
   ·exact knd.keeps (his x y) ho hd (Heap.SameBut.update ..)
   ·rw [List.mem_singleton.mp y]
    exact knd.keeps Zcn ho hd (Heap.SameBut.update ..)
  ·rw [List.map_append,List.nodup_append]
   refine ⟨hn,by simp,λx hx y hy q=>not_mem_keys_of_get no ?_⟩
   have:y=k:=by simpa using hy
   rw [← this,← q]
   exact hx
 ·refine wpAny_bind (wpAny_dictEntries (s:={ s with toks:=s.toks+knd.draws k }) ho hd ?_)
  rw [entry_at he j,hj]
  exact wpAny_bind (wpAny_rule (wpAny_pure (h1 p (atKey_of_get hn hj))))
theorem G0 {d a:Addr} {k:κ} (hs:(d==sysModules)=false) (dflt:Value) :
  MeetsIn P w (Builtin.«dict.setdefault» ⟨[.ref d,.ref a,dflt],[]⟩) (λA R s=>knd.room A.in1∧knd.is s.heap k a∧∃ xs,s.heap.DictOfH knd d xs∧xs.length≤sizeLine∧
   (∀ p,atKey xs k=some p→R (.ok (.ret p.2)) { s with toks:=s.toks+knd.draws k })∧(atKey xs k=none→∀ h',h'.DictOfH knd d (storedH xs k a dflt)→Heap.SameBut d s.heap h'→R (.ok (.ret dflt)) { s with heap:=h',toks:=s.toks+knd.draws k })):=
 .of_wp λA R s ⟨hu,hk,xs,hm,hz,h1,h2⟩=>by
  unfold Builtin.«dict.setdefault» Builtin.Dict.keyAndDefault
  refine wpAny_bind (wpAny_bind (wpAny_notOrdered_dict hm.typeIs (wpAny_pure ?_)))
  show wpAny _ _ (ite ((d==sysModules)=true) _ (dictSetDefault d (.ref a) dflt >>= _)) _ _ s
  rw [hs,if_neg Bool.false_ne_true]
  exact wpAny_bind (B0 hu hk hm hz (λp q=>wpAny_pure ⟨_,rfl,h1 p q⟩) λn h' a b=>wpAny_pure ⟨_,rfl,h2 n h' a b⟩)
end
section
variable {X:Cx}
def Znr (td ty tx:TE):TE:=λσ H Q=>td σ H λx H1=>∃ a,x=.ref a∧IsD H1 a∧ty σ H1 λy H2=>tx σ H2 λz H3=>∃ kvs k b,H3 a=some (.dT kvs)∧y=.ref b∧H3 b=some (.tup (k.map kV))∧kvs.length < sizeLine∧
 (∀ v,X8 kvs k=some v→Q v H3)∧(X8 kvs k=none→Q z (upd H3 a (.dT (putK kvs k z))))
theorem Af {o e f:Expr} {apos Wi:Pos} {td ty tx:TE} (hu:X.A.units+1 < cLine) (ho:PE X o td) (he:PE X e ty) (hf:PE X f tx) (m:M2 X o "setdefault" apos e f Wi):PE X (.Call (.Attribute o "setdefault" apos) [e,f] [] Wi) (Znr td ty tx):=by
 intro pins s σ H Q I h
 refine wpAny_Call_method m.base m.few m.line PySem.F.plainAttrs_dict PySem.F.slot_dict_setdefault PySem.F.type_dict_setdefault (thn (ho pins s σ H _ I h) λu s1 ⟨x,H1,I1,rx,a,ex,d,q1⟩=>?_)
 subst ex
 obtain rfl:u=Value.ref a:=rx
 obtain ⟨t1,t2,_⟩:=Zo3 I1 d
 refine ⟨t1,t2,?_⟩
 rw [m.trees]
 refine Calls.callWith_builtin rfl (Calls.evalArgs_plain (Calls.spliced_cons (thn (he pins s1 σ H1 _ I1 q1) λiv s2 ⟨y,H2,I2,ry,q2⟩=>
  Calls.spliced_cons (thn (hf pins s2 σ H2 _ I2 q2) λfv s3 ⟨z,H3,I3,rz,kvs,k,b,hk,ey,hb,hlt,q3,q4⟩=>Calls.spliced_nil ?_))))
 subst ey
 obtain rfl:iv=Value.ref b:=ry
 obtain ⟨hz,hsm,xs,rel,dd⟩:=Zjc I3.hok hk
 have hxl:xs.length≤sizeLine:=by rw [← Paired.length rel]; exact hz
 refine call_meetsIn PySem.F.slot_dict_setdefault dd.typeIs PySem.F.entry_dict_setdefault (PySem.F.args_dict_setdefault_3 _ _ _) (G0 (knd:=tupleKind (Ys X.prog X.w)) (k:=k) hsm fv) ⟨tupleKind_room_in1 hu,Lr I3.hok hb,xs,dd,hxl,λp hp=>?_,λhn h' dd' hs=>?_⟩
 ·have r:=rel.val k
  rw [hp] at r
  cases hv:X8 kvs k with
  | none=>rw [hv] at r; exact r.elim
  | some v=>
   rw [hv] at r
   exact ⟨v,H3,I3.tok _,r,q3 v hv⟩
 ·have r:=rel.val k
  rw [hn] at r
  have hv:X8 kvs k=none:=by
   cases hv:X8 kvs k with
   | none=>rfl
   | some v=>rw [hv] at r; exact r.elim
  have hl:(putK kvs k z).length≤sizeLine:=by have:=V8 kvs k z; omega
  obtain ⟨q,es,ep,hq,h2,h3,h4,_,h5⟩:=dd'
  refine ⟨z,upd H3 a (.dT (putK kvs k z)),Oh I3 (by rw [hk]; exact True.intro) hs ⟨q,hq⟩ ⟨hl,hsm,_,(rel.put k hb rz).keeps λc ys ec=>?_,q,es,ep,hq,h2,h3,h4,h5⟩,rz,q4 hv⟩
  rw [Zj (Wb ec hk (λz=>nomatch z))]
  exact ec
end
end L2
namespace L2
open PySem PySem.Spec PyProof.Rows
def isB (b:Bool):Value→Bool
 | .bool c=>b==c
 | _=>false
theorem Hm {b:Bool} {v:Value} (h:isB b v=true):v=.bool b:=by
 cases v <;> simp_all [isB]
def Hz (P:Program) (w:World):PySem.KeyKind P w Bool where
 is:=isB
 hash:=λb=>reduceHash (if b then 1 else 0)
 inj:=λv a b ha hb=>by
  rw [Hm ha] at hb
  exact (eq_of_beq hb).symm
 byValue:=λk v h=>by rw [Hm h]; rfl
 pyHash:=λ{A E s k v Q} hv h=>by
  rw [Hm hv]
  refine W.pyHash_slot (T:="bool") rfl F.slot_bool_hash entry_int_hash (args_int_hash _) (beq_builtin_none _) (.inl rfl) ?_
  cases k
  ·exact (show wpAny _ _ (do ret (← mkInt 0)) _ _ s from wpAny_bind (wpAny_mkInt (wpAny_pure ⟨_,_,rfl,h⟩)))
  ·exact (show wpAny _ _ (do ret (← mkInt 1)) _ _ s from wpAny_bind (wpAny_mkInt (wpAny_pure ⟨_,_,rfl,h⟩)))
 eqBool:=λ{A E s a b u v Q} hu hv h=>by
  rw [Hm hu,Hm hv]
  exact PySem.SeqAt.EqAt.bool_bool a b P w E Q (by cases a <;> cases b <;> exact h)
 «strs»:=λk x t v h=>by cases h
theorem Za2 {κ:Type} [DecidableEq κ] {kvs:List (κ × Value)} {k:κ} (h:valueAt kvs k=none) (v:Value) (x:κ):valueAt (stored kvs k v) x=if x=k then some v else valueAt kvs x:=by
 have hn:kvs.find? (λkv=>decide (kv.1=k))=none:=by
  unfold valueAt at h
  exact Option.map_eq_none_iff.mp h
 have ha:kvs.any (λkv=>decide (kv.1=k))=false:=by
  rw [List.find?_eq_none] at hn
  rw [List.any_eq_false]
  exact hn
 unfold stored
 rw [ha,if_neg Bool.false_ne_true]
 unfold valueAt
 rw [List.find?_append]
 by_cases c:x=k
 ·subst c
  rw [hn,if_pos rfl]
  simp
 ·rw [if_neg c]
  have:([(k,v)]:List (κ × Value)).find? (λkv=>decide (kv.1=x))=none:=by simp [Ne.symm c]
  rw [this,Option.or_none]
def Zaj (P:Program) (w:World) (a:Addr) (f:Bool→Option V) (n:Nat):HO:=.ext λh=>(a==sysModules)=false∧∃ kvs,h.DictOf (Hz P w) a kvs∧kvs.length≤n∧∀ b,L3 (f b) (valueAt kvs b)
theorem Zem {P:Program} {w:World} {H:Hp} {h:Heap} {a:Addr} {f:Bool→Option V} {n:Nat} {kvs:List (Bool × Value)} (hs:(a==sysModules)=false) (d:h.DictOf (Hz P w) a kvs) (hn:kvs.length≤n) (r:∀ b,L3 (f b) (valueAt kvs b)):Yx P w H h a (Zaj P w a f n):=by
 refine ⟨⟨hs,kvs,d,hn,r⟩,let ⟨o,_,_,e,_⟩:=d; ⟨o,e⟩,λh1 h2 x k=>?_⟩
 obtain ⟨a1,kvs,⟨o,es,ep,e,r⟩,a3,a4⟩:=x
 exact ⟨a1,kvs,⟨o,es,ep,k o e,r⟩,a3,a4⟩
section
variable {X:Cx} {pos:Pos}
def Znv (P:Program) (w:World):TE:=λ_ H Q=>∀ p,H p=none→Q (.ref p) (upd H p (Zaj P w p (λ_=>none) 0))
theorem Zhu {P:Program} {w:World} (hP:X.prog=P:=by rfl) (hw:X.w=w:=by rfl):PE X (.Dict [] [] pos) (Znv P w):=by
 subst hP hw
 exact λpins s σ H Q I h=>
 wpAny_Dict_empty ⟨.ref s.heap.objs.size,_,I.laid (a:=s.heap.objs.size) (o:=Zaj X.prog X.w s.heap.objs.size (λ_=>none) 0) (t':=s.toks) (λ_ _ q=>Heap.get?_push_of_some _ q) (Nat.le_refl _) (Zem (beq_eq_false_iff_ne.mpr (Ne.symm (Nat.ne_of_lt I.big))) (Heap.DictOf.new s.heap) (Nat.zero_le _) λ_=>True.intro),rfl,h _ (I.hok.fresh (Nat.le_refl _))⟩
def Zns (P:Program) (w:World) (td ty tx:TE):TE:=λσ H Q=>td σ H λx H1=>∃ a f n,x=.ref a∧H1 a=some (Zaj P w a f n)∧ty σ H1 λy H2=>tx σ H2 λz H3=>∃ b f n,H3 a=some (Zaj P w a f n)∧y=.bl b∧n < sizeLine∧
 (∀ v,f b=some v→Q v H3)∧(f b=none→Q z (upd H3 a (Zaj P w a (λx=>if x=b then some z else f x) (n+1))))
theorem Zhs {P:Program} {w:World} {o e g:Expr} {apos Wi:Pos} {td ty tx:TE} (ho:PE X o td) (he:PE X e ty) (hf:PE X g tx) (m:M2 X o "setdefault" apos e g Wi) (hP:X.prog=P:=by rfl) (hw:X.w=w:=by rfl):PE X (.Call (.Attribute o "setdefault" apos) [e,g] [] Wi) (Zns P w td ty tx):=by
 subst hP hw
 intro pins s σ H Q I h
 refine wpAny_Call_method m.base m.few m.line PySem.F.plainAttrs_dict PySem.F.slot_dict_setdefault PySem.F.type_dict_setdefault (thn (ho pins s σ H _ I h) λu s1 ⟨x,H1,I1,rx,a,f,n,ex,d,q1⟩=>?_)
 subst ex
 obtain rfl:u=Value.ref a:=rx
 obtain ⟨⟨_,kvs1,d1,_⟩,_⟩:=I1.hok a _ d
 refine ⟨d1.typeIs,λb e=>?_,?_⟩
 ·cases e
  obtain ⟨o,_,_,ho,hc,_⟩:=d1
  exact ⟨o,ho,hc.2.1⟩
 rw [m.trees]
 refine Calls.callWith_builtin rfl (Calls.evalArgs_plain (Calls.spliced_cons (thn (he pins s1 σ H1 _ I1 q1) λiv s2 ⟨y,H2,I2,ry,q2⟩=>
  Calls.spliced_cons (thn (hf pins s2 σ H2 _ I2 q2) λfv s3 ⟨z,H3,I3,rz,b,f,n,hk,ey,hlt,q3,q4⟩=>Calls.spliced_nil ?_))))
 subst ey
 obtain rfl:iv=Value.bool b:=ry
 obtain ⟨⟨hsm,kvs,dd,hl,rel⟩,_⟩:=I3.hok a _ hk
 refine call_meetsIn PySem.F.slot_dict_setdefault dd.typeIs PySem.F.entry_dict_setdefault (PySem.F.args_dict_setdefault_3 _ _ _) (kt_meets_setdefault (Hz X.prog X.w) (k:=b) a (by show (b==b)=true; simp) hsm fv) ⟨kvs,dd,by omega,λw' hw=>?_,λhn h' dd' hs=>?_⟩
 ·have r:=rel b
  rw [hw] at r
  cases hv:f b with
  | none=>rw [hv] at r; exact r.elim
  | some v=>
   rw [hv] at r
   exact ⟨v,H3,I3.tok _,r,q3 v hv⟩
 ·have r:=rel b
  rw [hn] at r
  have hv:f b=none:=by
   cases hv:f b with
   | none=>rfl
   | some v=>rw [hv] at r; exact r.elim
  refine ⟨z,upd H3 a (Zaj X.prog X.w a (λx=>if x=b then some z else f x) (n+1)),Oh I3 (by rw [hk]; exact True.intro) hs (let ⟨q,_,_,e,_⟩:=dd'; ⟨q,e⟩) (Zem hsm dd' (Nat.le_trans (stored_length_le _ _ _) (by omega)) λx=>?_),rz,q4 hv⟩
  rw [Za2 hn]
  by_cases c:x=b
  ·rw [if_pos c,if_pos c]
   exact rz
  ·rw [if_neg c,if_neg c]
   exact rel x
end
end L2
namespace L2
open PySem PySem.Spec PyProof.Rows
def Uc (ns:List Int):List Int:=firstMet (λi=>ns.getD i 0) ns.length
theorem Jl:∀ {ns:List Int} {us:List Value},Vals (ns.map V.int) us→IntsAre us ns
 | [],_,r=>by cases r; exact .nil
 | n :: ns,_,r=>by
  cases r with
  | cons h t=>
   obtain ⟨k,rfl⟩:=h
   exact .cons _ _ (Jl t)
section
variable {X:Cx}
inductive Zhd (K:W.Frag) (xs:List V) (H:Hp) (Q:VK):Prop
 | mk (p ns:_) (h1:xs=[.ref p]) (h2:SqL K H p (ns.map V.int)) (h3:ns.length+1 < scanBound) (h4:∀ l,H l=none→Q (.ref l) (upd H l (.set (λk=>(Uc ns).any (· == k)) (Uc ns).length))):Zhd K xs H Q
def Zqu (K:W.Frag):List V→Hp→VK→Prop:=λxs H Q=>Zhd K xs H Q
theorem Ol {K:W.Frag} (hc:X.calm=true) (hK:X.K=K:=by rfl):Xh X (.type "set") (Zqu K):=by
 subst hK
 intro pins s σ H xs us Q I r h
 obtain ⟨p,ns,rfl,hp,hz,q⟩:=h
 obtain ⟨u,rfl,ru⟩:=vals1 r
 obtain rfl:u=Value.ref p:=ru
 obtain ⟨its,rv,pl,_⟩:=I.list hp
 have hl:its.toArray.size=ns.length:=by rw [List.size_toArray,← rv.length,List.length_map]
 refine PySem.call_set_list (I.ok.hd hc) pl.isList (ns:=ns) (Jl rv) (by rw [hl]; exact hz) λh' tk hS k=>?_
 rw [hl] at hS
 exact ⟨.ref s.heap.objs.size,_,I.laid (λb o e=>k b o (Heap.lt_size e) e) (Nat.le_refl _) (show Yx X.prog X.w _ h' _ (.set (λk=>(Uc ns).any (· == k)) (Uc ns).length) from hS),rfl,q _ (I.hok.fresh (Nat.le_refl _))⟩
theorem Tv:Xh X (.builtin "len") (λxs H Q=>∃ p S n,xs=[.ref p]∧H p=some (.set S n)∧Q (.int (n:Int)) H):=by
 intro pins s σ H xs us Q I r h
 obtain ⟨p,S,n,rfl,hp,q⟩:=h
 obtain ⟨u,rfl,ru⟩:=vals1 r
 obtain rfl:u=Value.ref p:=ru
 obtain ⟨o,es,ep,t,ho,hex,hd,_,_,hb,hf,hn⟩:=(show s.heap.SetOf (intKind X.prog X.w) p S n from I.hok p _ hp)
 subst hn
 exact call_len_set ho hex hd hf (by have h:scanBound≤2 ^ 62:=(by decide); omega) ⟨.int (es.size:Int),H,I.tok _,⟨_,rfl⟩,q⟩
end
end L2
namespace L2
open PySem PySem.Spec PyProof.Rows
def Zqh (P:Addr) (L:List (Pos × Str)) (fdOf:Value→Addr→Value→FuncData) (q:Str) (i:Nat):TS:=λD σ H=>Tb P L H∧
 ∀ H' f c ct doc,Vu P H H'→Tb P L H'→H f=none→H' f=some (FnO f (fdOf doc c ct))→H' c=some (CdO c q)→D.nx (σ.set i (some (.ref f))) H'
section
variable {X:Cx} {name:Str} {params:Arguments} {body:List Stmt} {scope:Scope} {pos:Pos} {c P:Addr} {L:List (Pos × Str)} {i:Nat}
theorem Zkv (hN:X.N.Nodup) (hi:X.N[i]? = some name) (hx:Loc X.env.scope name) (Ox:X.env.code=.ref c) (C:W.CodeHd X.base c P) (hB:Nw X.mg X.base) (hL:(pos,qualnameIn X.env name name)∈L) (hu:∀ x∈L,x.1.line=pos.line→x.1.col=pos.col→x.2=qualnameIn X.env name name)
  (hd0:params.defaults=[]:=by rfl) (hk0:params.kw_defaults=[]:=by rfl) (ha:annTrees params none X.env=[]:=by rfl) {sc:Scope} (hsc:X.env.scope=sc:=by rfl) (hfr:∀ y∈scope.names,y.2=NameKind.free→sc.names.lookup y.1=some .cell∨sc.names.lookup y.1=some .free:=by decide +kernel)
  (hf:X.fn name=true∨X.env.scope.names.lookup name=some .local:=by first | exact .inl rfl | exact .inr rfl | assumption) :
  PS X (.FunctionDef name params body [] none [] scope none name pos) (Zqh P L (λdoc c ct=>W.fnX name (qualnameIn X.env name name) params body scope (U4 X.env scope.names []) .none .none doc ((X.mg "__name__").getD .none) none (.ref c) ct) (qualnameIn X.env name name) i):=by
 intro pins s σ H D I ⟨⟨ps,hP,ht,hT⟩,hq⟩
 have hPo:s.heap.get? P=some (W.tabObj ps):=I.hok P _ hP
 have hg:=I.mod.glob.keeps I.bk
 have hb:=(hB.keeps I.bk).at_ hg hPo
 have hcl:∀ y∈scope.names,y.2=NameKind.free→∃ c,X.env.cells.lookup y.1=some c:=λy hy e=>I.ok.has y.1 (by subst hsc; exact hfr y hy e)
 refine W.nestDef_K hd0 hk0 ha (thn (Q:=EP X pins σ λv H'=>D.nx (σ.set i (some v)) H') ?_ λu s1 ⟨v,H1,I1,r1,q1⟩=>Jo I1 hN hi hx r1 (λs2 I2=>⟨_,H1,I2,q1⟩) hf)
 rcases hT _ hL with hn | ⟨c2,hc,hcd⟩
 ·refine W.makeFunction_K (mg:=X.mg) (U3 hcl) I.ok.glob hg Ox (C.keeps I.bk) hPo ht hn (Zmz hg hPo) hb λc' ctv doc h' tk hx' hge hlt Zio htb=>?_
  exact Zd5 (fdOf:=λc ct=>W.fnX name (qualnameIn X.env name name) params body scope (U4 X.env scope.names []) .none .none doc ((X.mg "__name__").getD .none) none (.ref c) ct) I hP ht hT hu (λH' f c ct a b d e g=>hq H' f c ct doc a b d e g) hn hx' hge hlt Zio htb
 ·refine W.makeFunction_hit (mg:=X.mg) (U3 hcl) I.ok.glob hg Ox (C.keeps I.bk) hPo ht hc hb λctv doc h' tk hk hsz=>?_
  have nf:H h'.objs.size=none:=I.hok.fresh hsz
  refine ⟨.ref h'.objs.size,_,I.laid (t':=tk) (λb u e=>Heap.get?_push_of_some _ (hk b u e)) hsz (Zco (Heap.get?_push_size _ rfl)),rfl,?_⟩
  have e0:Zo H (upd H h'.objs.size (FnO h'.objs.size (W.fnX name (qualnameIn X.env name name) params body scope (U4 X.env scope.names []) .none .none doc ((X.mg "__name__").getD .none) none (.ref c2) ctv))):=λb o e=>by rw [Zj (Zg e nf)]; exact e
  exact hq _ _ c2 ctv doc e0.t (Tb.same ⟨ps,hP,ht,hT⟩ e0) nf Zb (e0 _ _ hcd)
end
theorem Zpu {P:Program} {w:World} {K:W.Frag} {mg:Str→Option Value} {base:Heap} {k:Nat} {f c:Addr} {name qual:Str} {params:Arguments} {body:List Stmt} {scope:Scope} {cl:List (Str × Addr)} {doc pm ct:Value} {N ps:List Str} {fv:List V} {sp:Sp}
  (S:Zj7 N ps scope) (LC:Zey base N ps scope cl fv) (len:∀ vs H Q E,sp vs H Q E→vs.length=ps.length)
  (hat:∀ vs H Q E,sp vs H Q E→H f=some (FnO f (W.fnX name qual params body scope cl .none .none doc pm none (.ref c) ct))∧H c=some (CdO c qual))
  (Mp:∀ (A:Around) (outer:List Env) (s:Shared) (H:Hp) (vs:List V) (Q:VK) (E:XK),Vs k (A.deeper (W.envX qual scope s.heap.objs.size f (.ref c) cl))→sp vs H Q E→
   ∃ t,PSs (Ek P w K mg base N qual scope f (.ref c) cl A outer s H) body t∧t { nx:=λ_ H'=>Q .non H',rt:=Q } (vs.map some ++ fv.map some) H) :
  Yp P w K mg base CX0 (k+1) f (W.fnX name qual params body scope cl .none .none doc pm none (.ref c) ct) ps sp:=by
 refine ⟨len,λA outer s H args us vs Q E hr e0 hb r hsp=>?_⟩
 have hl:=len _ _ _ _ hsp
 obtain ⟨hf,hc⟩:=hat _ _ _ _ hsp
 have lim:s.heap.NoLimit:=e0.mod.nolimit.keeps λb o e=>(e0.bs b o e).1
 refine codeAny_call_function hr.depth (FnO.at_ e0.hok hf) rfl S.co S.gen rfl (CdO.at_ e0.hok hc) (hb _ _ _ _ ?_)
 refine wpAny_newFunctionEnv S.Li (λy hy=>S.par y.1 (List.of_mem_zip hy).1) (λh1 hns hsb=>?_) S.kind
 have hk:∀ b o,s.heap.get? b=some o→h1.get? b=some o:=λb o e=>hsb.extBut b o (Nat.ne_of_lt (Heap.lt_size e)) (Heap.get?_push_of_some _ e)
 refine ⟨lim.keeps hk,codeAny_func ?_⟩
 obtain ⟨t,ht,hq⟩:=Mp A outer s H vs Q E (hr.deeper _) hsp
 have I:Inv (Ek P w K mg base N qual scope f (.ref c) cl A outer s H) [] (vs.map some ++ fv.map some) H { s with heap:=h1,toks:=s.toks+(ps.zip us).length }:=Zed S LC hr.hd e0 hl r hns hk
 refine wpAny_mono (ht [] _ _ H _ I hq) (λfl s' hs=>?_) λe s' hs=>hs.elim
 cases fl with
 | ret u=>
  obtain ⟨v,σ',H',J,rv,q⟩:=hs
  exact ⟨v,H',J.os,J.bare,J.base,J.hok,rv,q⟩
 | next=>
  obtain ⟨σ',H',J,q⟩:=hs
  exact ⟨.non,H',J.os,J.bare,J.base,J.hok,rfl,q⟩
 | brk=>
  obtain ⟨_,_,_,q⟩:=hs
  exact False.elim q
 | cont=>
  obtain ⟨_,_,_,q⟩:=hs
  exact False.elim q
end L2
namespace L2
open PySem PySem.Spec PyProof.Rows
section
variable {P:Program} {w:World} {κ:Type} [DecidableEq κ] {knd:PySem.KeyKind P w κ} {A:Around} {E:Value→Shared→Prop} {s:Shared}
theorem Zcq {it d:Addr} {i ep:Nat} {kvs:List (κ × Value)} {k:κ} {v:Value} {Q:Value→Shared→Prop} (hi:s.heap.IsKeyIter it d i kvs.length ep) (hm:s.heap.DictAt knd d kvs ep) (hx:kvs[i]? = some (k,v))
  (q:∀ key h',knd.is k key=true→h'.IsKeyIter it d (i+1) kvs.length ep→Heap.SameBut it s.heap h'→Q key { s with heap:=h' }):wpAny (model P w) A (Builtin.SmallTypes.nextOf (.ref it)) Q E s:=by
 obtain ⟨o,e0,ec,ed⟩:=id hi
 obtain ⟨od,es,eo,ecd,edd,hk,hp,hn⟩:=id hm
 have z:es.size=kvs.length:=by rw [← hp.length]; simp
 have hlt:i < es.size:=by rw [z]; exact (List.getElem?_eq_some_iff.mp hx).1
 have Zcn:knd.is k es[i].key=true:=(hp.get? (e:=es[i]) (by simp [hlt]) hx).1
 unfold Builtin.SmallTypes.nextOf
 refine wpAny_bind (wpAny_callSpecial?_slot (name:=Str.ofString "__next__") hi.typeIs F.slot_dict_keyiterator_next (wpAny_call_entry F.slot_dict_keyiterator_next hi.typeIs F.entry_dict_keyiterator_next ?_ (F.args_dict_keyiterator_next_1 _)))
 refine wpAny_bind (wpAny_pure (wpAny_bind (wpAny_bind ?_)))
 first | refine wpAny_bind (wpAny_typeNameOfWhole_keyiter hi.typeIs (wpAny_pure (wpAny_bind (wpAny_fieldsOf e0 ed ?_)))) | refine wpAny_bind (wpAny_typeNameOf_keyiter hi.typeIs (wpAny_pure (wpAny_bind (wpAny_fieldsOf e0 ed ?_))))
 simp only [show Builtin.Dict_items.ownsTuple "dict_keyiterator" = false by decide,Bool.false_eq_true,if_false]
 show wpAny _ _ (ite ((Value.ref d==Value.none)=true) _ _) _ _ s
 refine (if_neg (show ¬ (Value.ref d==Value.none)=true from Bool.false_ne_true))▸?_
 refine wpAny_bind (wpAny_pure (wpAny_bind (wpAny_dictEntries eo edd ?_)))
 rw [if_neg (by rw [z]; simp)]
 refine wpAny_bind (wpAny_pure (wpAny_bind (wpAny_dictEpoch eo edd ?_)))
 rw [if_neg (by simp)]
 refine wpAny_pure ?_
 simp only [show ¬ ((i:Int) < 0) from by omega,if_false,Int.toNat_natCast,Array.getElem?_eq_getElem hlt]
 refine wpAny_bind ?_
 first | refine wpAny_bind (wpAny_typeNameOfWhole_keyiter hi.typeIs (wpAny_pure (wpAny_bind (wpAny_isOneOf_keyiter hi.typeIs ?_)))) | refine wpAny_bind (wpAny_typeNameOf_keyiter hi.typeIs (wpAny_pure (wpAny_bind (wpAny_isOneOf_keyiter hi.typeIs ?_))))
 have hi':(s.heap.update it (Obj.mapFields (·.setIfInBounds 1 (rawInt ((i:Int)+1))))).IsKeyIter it d (i+1) kvs.length ep:=by
  refine ⟨_,Heap.get?_update_self _ e0 (Obj.isFreed_of_fields (Obj.data_mapFields ed _)),(Obj.cls_mapFields ..).trans ec,?_⟩
  rw [Obj.data_mapFields ed]
  simp [rawInt]
 refine wpAny_bind (m:=setField (.ref it) 1 (rawInt ((i:Int)+1))) (wpAny_setField e0 ed (by simp) (wpAny_bind (wpAny_holding (wpAny_bind (wpAny_isOneOf_keyiter (s:={ s with heap:=s.heap.update it (Obj.mapFields (·.setIfInBounds 1 (rawInt ((i:Int)+1)))) }) hi'.typeIs ?_)))))
 exact wpAny_pure (wpAny_pure ⟨_,rfl,wpAny_pure (q _ _ Zcn hi' (Heap.SameBut.update ..))⟩)
theorem Zf1 {it d:Addr} {i ep:Nat} {kvs:List (κ × Value)} {Q:Value→Shared→Prop} (hh:A.handled=none) (hi:s.heap.IsKeyIter it d i kvs.length ep) (hm:s.heap.DictAt knd d kvs ep) (hx:kvs[i]? = none)
  (q:∀ h' e,Heap.ExtBut it s.heap h'→(∃ o,h'.get? e=some o∧o.cls=.type "StopIteration")→E (.ref e) { s with heap:=h' }):wpAny (model P w) A (Builtin.SmallTypes.nextOf (.ref it)) Q E s:=by
 obtain ⟨o,e0,ec,ed⟩:=id hi
 obtain ⟨od,es,eo,ecd,edd,hk,hp,hn⟩:=id hm
 have z:es.size=kvs.length:=by rw [← hp.length]; simp
 have hge:es.size≤i:=by rw [z]; simpa using hx
 unfold Builtin.SmallTypes.nextOf
 refine wpAny_bind (wpAny_callSpecial?_slot (name:=Str.ofString "__next__") hi.typeIs F.slot_dict_keyiterator_next (wpAny_call_entry F.slot_dict_keyiterator_next hi.typeIs F.entry_dict_keyiterator_next ?_ (F.args_dict_keyiterator_next_1 _)))
 refine wpAny_bind (wpAny_pure (wpAny_bind (wpAny_bind ?_)))
 first | refine wpAny_bind (wpAny_typeNameOfWhole_keyiter hi.typeIs (wpAny_pure (wpAny_bind (wpAny_fieldsOf e0 ed ?_)))) | refine wpAny_bind (wpAny_typeNameOf_keyiter hi.typeIs (wpAny_pure (wpAny_bind (wpAny_fieldsOf e0 ed ?_))))
 simp only [show Builtin.Dict_items.ownsTuple "dict_keyiterator" = false by decide,Bool.false_eq_true,if_false]
 show wpAny _ _ (ite ((Value.ref d==Value.none)=true) _ _) _ _ s
 refine (if_neg (show ¬ (Value.ref d==Value.none)=true from Bool.false_ne_true))▸?_
 refine wpAny_bind (wpAny_pure (wpAny_bind (wpAny_dictEntries eo edd ?_)))
 rw [if_neg (by rw [z]; simp)]
 refine wpAny_bind (wpAny_pure (wpAny_bind (wpAny_dictEpoch eo edd ?_)))
 rw [if_neg (by simp)]
 refine wpAny_pure ?_
 simp only [show ¬ ((i:Int) < 0) from by omega,if_false,Int.toNat_natCast,Array.getElem?_eq_none hge]
 refine wpAny_bind ?_
 first | refine wpAny_bind (wpAny_typeNameOfWhole_keyiter hi.typeIs (wpAny_pure ?_)) | refine wpAny_bind (wpAny_typeNameOf_keyiter hi.typeIs (wpAny_pure ?_))
 refine wpAny_bind (m:=setField (.ref it) 0 .none) (wpAny_setField e0 ed (by simp) (wpAny_bind (m:=newExc (.type "StopIteration") []) ?_))
 simp only [newExc,newTuple,raiseNew]
 refine wpAny_bind (wpAny_newObj_type (wpAny_bind (m:=firstArgMember _ _) (wpAny_of_eq (a:=Value.none) (by first | rfl | (simp only [firstArgMember]; rfl)) (wpAny_newObj_type ?_ (by size_fits)))) (by size_fits))
 refine wpAny_bind (wpAny_handled ?_)
 first | rw [show A.in1.handled=none from hh] | rw [hh]
 exact wpAny_bind (wpAny_pure (wpAny_throw (q _ _ (((Heap.SameBut.update ..).extBut.push _).push _) ⟨_,Heap.get?_push_size _ rfl,rfl⟩)))
abbrev Zif (d:Addr) (n ep:Nat):Obj:={ cls:=.type "dict_keyiterator",data:=.fields #[.ref d,.int 0 0,.int n 0,.int ep 0] }
abbrev Zse (it:Addr):Obj:={ cls:=.type "enumerate",data:=.fields #[.none,.bool false,.ref it,rawInt 0,.none,.none] }
open AutoSeq1 (wpAny_loadPart') in
theorem Zja (d:Addr) (kvs:List (κ × Value)) (ep:Nat):MeetsIn P w (Builtin.«enumerate.__new__» ⟨[.type "enumerate",.ref d],[]⟩) (λ_ R s=>(d==sysModules)=false∧s.heap.DictAt knd d kvs ep∧R (.ok (.ret (.ref (s.heap.push (Zif d kvs.length ep)).objs.size))) { s with heap:=(s.heap.push (Zif d kvs.length ep)).push (Zse s.heap.objs.size) }):=
 .of_wp λA R s h=>by
  obtain ⟨hp,g,dr,tk,os⟩:=s
  obtain ⟨hs,hm,q⟩:=h
  have hsub:=sub_enumerate
  obtain ⟨⟨c,dx,dt,sl⟩,es,ho,hx,hd,Zeh⟩:=id hm
  obtain ⟨hc,hdx,hsl⟩:=hx
  obtain rfl:c=.type "dict":=hc
  obtain rfl:dt=.dict es ep:=hd
  wp_walk using wpAny_loadPart' ho
  refine wpAny_stack_any λst=>wpAny_pure ?_
  split
  ·rename_i c _ _ _ _ _
   cases (c==Value.type "enumerate") <;> (wp_walk using wpAny_loadPart' ho,wpAny_pyIter_dict hs hm; exact ⟨_,rfl,q⟩)
  ·wp_walk using wpAny_loadPart' ho,wpAny_pyIter_dict hs hm
   exact ⟨_,rfl,q⟩
theorem Zcy {d:Addr} {kvs:List (κ × Value)} {ep:Nat} {Q:Value→Shared→Prop} (hs:(d==sysModules)=false) (hm:s.heap.DictAt knd d kvs ep)
  (q:∀ h',IsEnum h' (s.heap.objs.size+1) s.heap.objs.size 0 .none→h'.IsKeyIter s.heap.objs.size d 0 kvs.length ep→h'.objs.size=s.heap.objs.size+2→(∀ b o,s.heap.get? b=some o→h'.get? b=some o)→Q (.ref (s.heap.objs.size+1)) { s with heap:=h' }) :
  wpAny (model P w) A (call (.type "enumerate") [.ref d]) Q E s:=by
 refine callType_newIn F.called_enumerate (by decide) (F.typeCall_enumerate_1 _) (F.newCall_enumerate_1 _) (λobj=>F.args_object_init_2 obj _) F.entry_enumerate_new (Zja (knd:=knd) d kvs ep) ⟨hs,hm,?_⟩
 have z:(s.heap.push (Zif d kvs.length ep)).objs.size=s.heap.objs.size+1:=Heap.size_push ..
 show _∧_
 have en:=Heap.get?_push_size (s.heap.push (Zif d kvs.length ep)) (o:=Zse s.heap.objs.size) rfl
 rw [z] at en ⊢
 exact ⟨⟨_,en,rfl⟩,q _ en ⟨_,Heap.get?_push_of_some _ (Heap.get?_push_size _ rfl),rfl,rfl⟩ (by rw [Heap.size_push,z]) λb o x=>Heap.get?_push_of_some _ (Heap.get?_push_of_some _ x)⟩
theorem Zje (hh:A.handled=none) (it d:Addr) (hne:d≠it) (kvs:List (κ × Value)) (ep:Nat):Draws P w A it [it,d] kvs.length (λi v=>∃ k x,kvs[i]? = some (k,x)∧knd.is k v=true) (λi h=>h.IsKeyIter it d i kvs.length ep∧h.DictAt knd d kvs ep) where
 live:=λ_ _ ⟨⟨o,e,_⟩,_⟩=>⟨o,e⟩
 frame:=λ_ _ _ ⟨a,b⟩ k=>⟨a.at λo e=>k it (by simp) o e,b.at' λo e=>k d (by simp) o e⟩
 item:=λi s Q E hi st q=>Zcq st.1 st.2 (k:=kvs[i].1) (v:=kvs[i].2) (by simp [hi]) λkey h' hk a b=>q _ h' s.toks ⟨kvs[i].1,kvs[i].2,by simp [hi],hk⟩ ⟨a,st.2.extBut b.extBut hne⟩ b
 done:=λs Q E st q=>Zf1 hh st.1 st.2 (by simp) q
end
theorem Za7 {P:Program} {w:World} {K:W.Frag} {ex:List Expr} {n:Nat} {pos:Pos} (a e it:Addr) (hei:e≠it) (o:Obj) (kvs:List (Key × V)) (vs:List (Key × Value)) (ep:Nat) (rel:KV kvs vs) (ho:∀ h:Heap,h.get? a=some o→h.DictAt (Ys P w) a vs ep) :
  Turn P w K (.Tuple ex n pos) (ItE λH xs=>H a=some (.frz o (.dK kvs))∧xs=kvs.map λp=>kV p.1) [e,it] e (λi h=>(∃ old,IsEnum h e it i old)∧h.IsKeyIter it a i vs.length ep) where
 mem:=by simp
 obj:=λi h st b hb=>by
  obtain ⟨⟨old,he⟩,oi,e1,c1,d1⟩:=st
  have hb':b=e∨b=it:=by simpa using hb
  rcases hb' with z | z
  ·subst z
   exact ⟨_,he,λv z=>by cases z⟩
  ·subst z
   exact ⟨oi,e1,λv z=>by rw [d1] at z; cases z⟩
 keep:=λi h h' st k=>⟨let ⟨old,he⟩:=st.1; ⟨old,k e (by simp) _ he⟩,st.2.at λo q=>k it (by simp) o q⟩
 item:=by
  intro X hP hw hK hc i pins s σ H E I hf st hg
  subst hP hw hK
  obtain ⟨xs,x,⟨hq,hxs⟩,hx⟩:=hg
  have hd:=ho s.heap (I.hok a _ hq).1
  have hl:=Ci rel
  have hlt:i < vs.length:=by
   have:=(List.getElem?_eq_some_iff.mp hx).1
   rw [hxs,List.length_map] at this
   omega
  obtain ⟨⟨old,he⟩,hit⟩:=st
  have hel:=Heap.lt_size he
  have hil:it < s.heap.objs.size:=by obtain ⟨o,q,_⟩:=id hit; exact Heap.lt_size q
  have nat:a≠it:=λz=>by
   obtain ⟨o,q,c,_⟩:=id hit
   obtain ⟨o2,_,q2,c2,_⟩:=id hd
   rw [z,q] at q2
   cases q2
   have c3:=c2.1
   rw [c] at c3
   injection c3 with c3
   exact absurd c3 (by decide)
  have nae:a≠e:=λz=>by
   obtain ⟨o2,_,q2,c2,_⟩:=id hd
   rw [z,he] at q2
   cases q2
   have c3:=c2.1
   injection c3 with c3
   exact absurd c3 (by decide)
  have hef:e∉[it,a]:=by simp [hei,Ne.symm nae]
  refine wpAny_pyNext_enum_itemD (Zje (knd:=Ys X.prog X.w) (A:=X.A.in1) (I.ok.hd hc) it a nat vs ep) he ⟨hit,hd⟩ hlt hei hef λu h1 tk hu heo Ziu ht1 hz1 hk1=>⟨_,rfl,?_⟩
  refine wpAny_letOwnedTupleGo_enum heo λh2 he2 sb=>?_
  obtain ⟨k,x',hk,his⟩:=hu
  obtain ⟨v,hv⟩:=Zcf rel hk
  have ex:x=kV k:=by
   rw [hxs,List.getElem?_map,hv] at hx
   exact (Option.some.inj hx).symm
  subst ex
  obtain ⟨I2,hn⟩:=Ly (t':=tk+1) I hf (F2 his) ht1 hk1 sb hel hil
  exact ⟨.ref s.heap.objs.size,_,I2,rfl,⟨_,kV k,rfl,I.hok.fresh (Nat.le_refl _),rfl,λys hy=>by rw [hy.2,← hxs]; exact hx⟩,⟨⟨_,by simpa using he2⟩,Ziu.1.at λo q=>(sb.2 it (Ne.symm hei)).trans q⟩,hn⟩
 done:=by
  intro X hP hw hK hc i pins s σ H E I hf st hg
  subst hP hw hK
  obtain ⟨xs,⟨hq,hxs⟩,hx⟩:=hg
  have hd:=ho s.heap (I.hok a _ hq).1
  have hl:=Ci rel
  obtain ⟨⟨old,he⟩,hit⟩:=st
  have nat:a≠it:=λz=>by
   obtain ⟨o,q,c,_⟩:=id hit
   obtain ⟨o2,_,q2,c2,_⟩:=id hd
   rw [z,q] at q2
   cases q2
   have c3:=c2.1
   rw [c] at c3
   injection c3 with c3
   exact absurd c3 (by decide)
  obtain ⟨f0,f1,f2,f3,f4,f5⟩:=hf it (by simp)
  have ei:i=vs.length:=by rw [← hx,hxs,List.length_map,hl]
  subst ei
  exact wpAny_pyNext_enum_endD (Zje (knd:=Ys X.prog X.w) (A:=X.A.in1) (I.ok.hd hc) it a nat vs ep) he ⟨hit,hd⟩ λh' eb=>⟨rfl,I.turned (t':=s.toks) (λb o hb q=>eb b o hb q) f0 f1 f3 f4 f5⟩
 self:=λ_ _ _ _ _ st h=>let ⟨_,he⟩:=st.1; wpAny_pyIter_enum he h
section
variable {X:Cx} {ex:List Expr} {n:Nat} {tp:Pos}
def Zo4 (te:TE):TI:=λσ H R=>te σ H λx H1=>∃ a kvs,x=.ref a∧((H1 a=some (.dK kvs)∧∀ o,R (ItE λH xs=>H a=some (.frz o (.dK kvs))∧xs=kvs.map λp=>kV p.1) (upd H1 a (.frz o (.dK kvs))))∨
 ∃ o,H1 a=some (.frz o (.dK kvs))∧R (ItE λH xs=>H a=some (.frz o (.dK kvs))∧xs=kvs.map λp=>kV p.1) H1)
theorem Zhn {e:Expr} {te:TE} {p pos:Pos} (hg:Gl X "enumerate") (hm:X.mg "enumerate" = none) (he:PE X e te) (h2:starEach [e] X.env=(false,eval e X.env) :: starEach [] X.env:=by rfl):PI X (.Tuple ex n tp) (.Call (.Name "enumerate" p) [e] [] pos) (Zo4 te):=by
 intro pins s σ H R I h
 refine wpAny_Call_Name_kw (Ri I hg hm Mx (PyProof.Rows.callWith_type1 (thn (Za he Zc h2 pos pins s σ H (λvs H1=>match vs with | [x]=>∃ a kvs,x=.ref a∧((H1 a=some (.dK kvs)∧∀ o,R (ItE λH xs=>H a=some (.frz o (.dK kvs))∧xs=kvs.map λp=>kV p.1) (upd H1 a (.frz o (.dK kvs))))∨∃ o,H1 a=some (.frz o (.dK kvs))∧R (ItE λH xs=>H a=some (.frz o (.dK kvs))∧xs=kvs.map λp=>kV p.1) H1) | _=>False) I h) λus s1 ⟨vs,H1,I1,r1,q1⟩=>?_) h2 rfl))
 obtain ⟨x0,e0,a,kvs,e1,q⟩:∃ x0,vs=[x0]∧∃ a kvs,x0=.ref a∧((H1 a=some (.dK kvs)∧∀ o,R (ItE λH xs=>H a=some (.frz o (.dK kvs))∧xs=kvs.map λp=>kV p.1) (upd H1 a (.frz o (.dK kvs))))∨∃ o,H1 a=some (.frz o (.dK kvs))∧R (ItE λH xs=>H a=some (.frz o (.dK kvs))∧xs=kvs.map λp=>kV p.1) H1):=by
  match vs,q1 with
  | [x0],q1=>exact ⟨x0,rfl,q1⟩
 subst e0 e1
 obtain ⟨u,rfl,ru⟩:=Vals.one r1
 obtain rfl:u=Value.ref a:=ru
 have key:∀ (o:Obj) (H2:Hp),Inv X pins σ H2 s1→H2 a=some (.frz o (.dK kvs))→R (ItE λH xs=>H a=some (.frz o (.dK kvs))∧xs=kvs.map λp=>kV p.1) H2→
   wpAny (model X.prog X.w) X.A (call (.type "enumerate") [.ref a]) (λv s2=>wpAny (model X.prog X.w) X.A (pyIter v) (PIE X pins σ (.Tuple ex n tp) R) X.xe s2) X.xe s1:=by
  intro o H2 I2 h2 q2
  obtain ⟨ho,_,hsm,vs,rel,dd⟩:=I2.hok a _ h2
  obtain ⟨o',es,ep,ho',hx,Ziv,hk,hp,hn⟩:=dd
  rw [ho] at ho'
  cases ho'
  have at_:∀ h:Heap,h.get? a=some o→h.DictAt (Ys X.prog X.w) a vs ep:=λh e=>⟨o,es,e,hx,Ziv,hk,hp,hn⟩
  refine Zcy hsm (at_ s1.heap ho) λh' hE hI hsz hk=>wpAny_pyIter_enum hE ?_
  refine ⟨_,[s1.heap.objs.size+1,s1.heap.objs.size],_,_,H2,rfl,I2.kept (t':=s1.toks) hk,Za7 a _ _ (Nat.succ_ne_self _) o kvs vs ep rel at_,⟨⟨_,hE⟩,hI⟩,λb hb=>?_,q2⟩
  have hb':b=s1.heap.objs.size+1∨b=s1.heap.objs.size:=by simpa using hb
  rcases hb' with z | z
  ·rw [z]; exact I2.Fb (Nat.le_succ _) (I2.hok.fresh (Nat.le_succ _))
  ·rw [z]; exact I2.Fb (Nat.le_refl _) (I2.hok.fresh (Nat.le_refl _))
 rcases q with ⟨hd,q⟩ | ⟨o,hd,q⟩
 ·obtain ⟨hz,hsm,vs,rel,dd⟩:=I1.hok a _ hd
  obtain ⟨o,es,ep,ho,rest⟩:=id dd
  have I2:Inv X pins σ (upd H1 a (.frz o (.dK kvs))) s1:=I1.write (x:=a) (e:=a) (t':=s1.toks) (h':=s1.heap) (by rw [hd]; exact True.intro) (.inl rfl) (λb u _ e=>e) ⟨o,ho⟩ ⟨ho,hz,hsm,vs,rel,dd⟩
  exact key o _ I2 Zb (q o)
 ·exact key o H1 I1 hd q
end
def Zf5 {a:Addr} {o:Obj} {kvs:List (Key × V)} {n:Nat} {fr:List Nat} {g:TG} {tt:TT} {te:TE} {σ:St} {H:Hp} {Q:VK} (Pv:Nat→List V→Hp→Prop) (hk:kvs.length < sizeLine) (h0:Pv 0 [] H) (hlen:∀ i acc H,Pv i acc H→acc.length≤i)
  (hl:∀ i acc H,Pv i acc H→H a=some (.frz o (.dK kvs)))
  (hs:∀ i acc H2 k v,kvs[i]? = some (k,v)→Pv i acc H2→g (kV k) (Sd n fr σ) H2 λσ4 H4=>tt σ4 H4 λb H5=>if b=true then te σ4 H5 λv H6=>Pv (i+1) (acc ++ [v]) H6 else Pv (i+1) acc H5)
  (hd:∀ acc H2,Pv kvs.length acc H2→∀ l,H2 l=none→Q (.ref l) (upd H2 l (.lst acc))):=
 S1 (J:=Itk a o kvs) (n:=n) (fr:=fr) (g:=g) (tt:=tt) (te:=te) (σ:=σ) (Q:=Q) Pv hk h0 hlen (λi acc H hi p=>⟨hi,hl i acc H p⟩) (λacc H p=>⟨rfl,hl _ acc H p⟩) (λi acc H2 x H3 hi p y=>by
  obtain ⟨e,k,v,hk,ex⟩:=y
  subst e ex
  exact hs i acc _ k v hk p) hd
end L2
namespace L2
open PySem PySem.Spec PyProof.Rows
section
variable {P:Program} {w:World} {κ:Type} [DecidableEq κ] {knd:HeapKind P w κ} {A:Around} {E:Value→Shared→Prop} {s:Shared}
theorem Zbz (d:Addr) (hd:(d==sysModules)=false):MeetsIn P w (Builtin.«dict.__len__» ⟨[.ref d],[]⟩) (λ_ R s=>∃ xs,s.heap.DictOfH knd d xs∧R (.ok (.ret (.int xs.length s.toks))) { s with toks:=s.toks+1 }):=
 .of_wp λA R s ⟨xs,hm,h⟩=>by
  obtain ⟨o,es,ep,ho,_,Ziv,he,_⟩:=hm
  show wpAny _ _ (dictSize d >>= _) _ _ s
  unfold dictSize
  refine wpAny_bind (wpAny_bind (wpAny_dictEntries ho Ziv (wpAny_pure ?_)))
  show wpAny _ _ (Builtin.Dict.pendingCount d >>= _) _ _ s
  refine wpAny_bind (wpAny_pendingCount_other hd (wpAny_ret_mkInt ?_))
  rw [Nat.add_zero,size_of_entries he]
  exact h
theorem lenH {d:Addr} {xs:List (κ × Addr × Value)} {Q:Value→Shared→Prop} (hd:(d==sysModules)=false) (hm:s.heap.DictOfH knd d xs) (hfit:(xs.length:Int) < 2 ^ 63) (h:Q (.int xs.length (s.toks+1)) { s with toks:=s.toks+1+1 }) :
  wpAny (model P w) A (call (.builtin "len") [.ref d]) Q E s:=by
 refine Calls.call_function_entry kind_len plain_len entry_len (args_len1 _) ?_
 unfold Builtin.«len»
 refine wpAny_bind (m:=oneArg "len" _) (wpAny_pure ?_)
 refine wpAny_bind (m:=callSpecial? (.ref d) (Str.ofString "__len__")) (wpAny_callSpecial?_slot (name:=Str.ofString "__len__") hm.typeIs F.slot_dict_len (call_meetsIn F.slot_dict_len hm.typeIs F.entry_dict_len (F.args_dict_len_1 _) (Zbz d hd) ⟨xs,hm,?_⟩))
 show wpAny _ _ _ _ _ { s with toks:=s.toks+1 }
 refine wpAny_bind (wpAny_holding (wpAny_pure (wpAny_bind (wpAny_letGo ?_))))
 show wpAny _ _ (if ((xs.length:Nat):Int) < 0 then _ else _) _ _ _
 rw [if_neg (by omega)]
 show wpAny _ _ (if ((xs.length:Nat):Int) ≥ 2 ^ 63 then _ else _) _ _ _
 rw [if_neg (by omega)]
 exact wpAny_bind (wpAny_mkInt (wpAny_pure ⟨_,rfl,h⟩))
end
section
variable {X:Cx}
theorem Zcw:Xh X (.builtin "len") (λxs H Q=>∃ a kvs,xs=[V.ref a]∧Rd H a (.dK kvs)∧Q (.int kvs.length) H):=by
 intro pins s σ H xs us Q I r h
 obtain ⟨a,kvs,rfl,ha,q⟩:=h
 obtain ⟨u,rfl,ru⟩:=vals1 r
 obtain rfl:u=Value.ref a:=ru
 exact Zsi I ha λt s' I'=>⟨.int kvs.length,H,I',⟨t,rfl⟩,q⟩
theorem Zcv:Xh X (.builtin "len") (λxs H Q=>∃ a kvs,xs=[V.ref a]∧Rd H a (.dT kvs)∧Q (.int kvs.length) H):=by
 intro pins s σ H xs us Q I r h
 obtain ⟨a,kvs,rfl,ha,q⟩:=h
 obtain ⟨u,rfl,ru⟩:=vals1 r
 obtain rfl:u=Value.ref a:=ru
 obtain ⟨z,hd,ks,rel,dd⟩:=Ei I.hok ha
 have hl:kvs.length=ks.length:=Paired.length rel
 refine lenH hd dd (by rw [← hl]; rw [sizeLine_eq] at z; omega) ⟨.int kvs.length,H,I.tok _,⟨s.toks+1,by rw [hl]⟩,q⟩
end
end L2
namespace L2
open PySem PySem.Spec PyProof.Rows
section
variable {X:Cx}
theorem Zaa:∀ {us:List Value} {ns:List Int} {i:Nat} {u:Value},IntsAre us ns→us[i]? = some u→∃ n t,ns[i]? = some n∧u=.int n t
 | _,_,i,u,.nil,h=>by simp at h
 | _,_,0,u,.cons n t _,h=>by cases h; exact ⟨n,t,rfl,rfl⟩
 | _,_,i+1,u,.cons n t r,h=>by
  obtain ⟨m,t',e1,e2⟩:=Zaa (i:=i) r (by simpa using h)
  exact ⟨m,t',by simpa using e1,e2⟩
inductive Ab (x:V) (vs:List V) (H:Hp) (Q:VK):Prop
 | mk (l:Addr) (ns:List Int) (y:Int) (h1:x=.ref l) (h2:vs=[.int y]) (h3:H l=some (.lst (ns.map V.int))) (h4:y∈ns) (h5:Q (.int (ns.idxOf y:Nat)) H):Ab x vs H Q
def Zks:V→List V→Hp→VK→Prop:=λx vs H Q=>Ab x vs H Q
theorem Zfy (ns:List Int):(ns.map V.int).all Oy=true:=by
 induction ns with
 | nil=>rfl
 | cons e r ih=>rw [List.map_cons,List.all_cons,ih]; rfl
theorem Ln:MtM X "list.index" Zks:=by
 intro pins s σ H x vs v us Q I rx rv h
 obtain ⟨l,ns,y,rfl,rfl,hH,hy,q⟩:=h
 cases rx
 obtain ⟨u,rfl,ru⟩:=rv.one
 obtain ⟨z,its,n,r,hl,e⟩:=I.Zcb hH
 have hI:=intsAre_of r
 have hlen:its.length=ns.length:=by have:=r.length; rw [List.length_map] at this; exact this.symm
 have hj:=List.idxOf_lt_length_of_mem hy
 have heq:∀ (m:Nat) (hm:m < its.toArray.size),∃ k,ns[m]? = some k∧eqU (.int y) its.toArray[m]=(k==y):=λm hm=>by
  rw [List.size_toArray] at hm
  obtain ⟨k,t,e1,e2⟩:=Zaa (u:=its[m]) hI (List.getElem?_eq_getElem hm)
  refine ⟨k,e1,?_⟩
  rw [List.getElem_toArray,e2]
  rfl
 refine call_meets F.slot_list_index ⟨_,e,rfl⟩ F.entry_list_index (F.args_list_index_2 _ _)
  (SeqAt.list_indexAt l its.toArray n none #[] u (eqU (.int y)) (ns.idxOf y) (by rw [List.size_toArray]; omega) (by rw [List.length_map,sizeLine_eq] at z; omega) ?_ λm hm hlt=>?_) ⟨e,λw hw=>?_,?_⟩
 ·obtain ⟨k,e1,e2⟩:=heq (ns.idxOf y) (by rw [List.size_toArray]; omega)
  rw [e2]
  rw [List.getElem?_eq_getElem hj,List.getElem_idxOf] at e1
  cases e1
  simp
 ·obtain ⟨k,e1,e2⟩:=heq m hm
  rw [e2]
  have hk:k≠y:=λz=>by
   have Zir:k∈ns.take (m+1):=by
    rw [List.take_add_one,e1]
    simp
   have h1:ns.idxOf y=(ns.take (m+1)).idxOf y:=by
    conv=>lhs; rw [← List.take_append_drop (m+1) ns]
    rw [List.idxOf_append,if_pos (z▸Zir)]
   have h2:=List.idxOf_lt_length_of_mem (z▸Zir:y∈ns.take (m+1))
   have h3:m < ns.length:=(List.getElem?_eq_some_iff.mp e1).1
   have h4:(ns.take m).length=m:=by rw [List.length_take]; omega
   by_cases c:y∈ns.take m
   ·have h5:ns.idxOf y=(ns.take m).idxOf y:=by
     conv=>lhs; rw [← List.take_append_drop m ns]
     rw [List.idxOf_append,if_pos c]
    have h6:=List.idxOf_lt_length_of_mem c
    rw [List.length_take] at h2
    omega
   ·rw [List.length_take] at h2
    omega
  exact beq_eq_false_iff_ne.mpr hk
 ·exact Mj ru rfl r (Zfy ns) w (by simpa using hw)
 ·exact ⟨.int (ns.idxOf y:Nat),H,I.tok _,⟨_,rfl⟩,q⟩
inductive Zdr (K:W.Frag) (xs:List V) (H:Hp) (Q:VK):Prop
 | mk (p:Addr) (ns:List Int) (h1:xs=[.ref p]) (h2:SqL K H p (ns.map V.int)) (h3:ns.length < 64) (h4:∀ (ns':List Int) l,ns'.Perm ns→ns'.Pairwise (·≤·)→H l=none→Q (.ref l) (upd H l (.lst (ns'.map V.int)))):Zdr K xs H Q
def Zoa (K:W.Frag):List V→Hp→VK→Prop:=λxs H Q=>Zdr K xs H Q
theorem Zcu {K:W.Frag} (hK:X.K=K:=by rfl):Xh X (.builtin "sorted") (Zoa K):=by
 subst hK
 intro pins s σ H xs us Q I r h
 obtain ⟨p,ys,rfl,hq,h64,q⟩:=h
 obtain ⟨u,rfl,ru⟩:=vals1 r
 obtain rfl:u=Value.ref p:=ru
 obtain ⟨its,r',pl,hz⟩:=I.list hq
 have hlen:=r'.length
 rw [List.length_map] at hlen hz
 refine sorted_ints pl.isList (intsAre_of r') (by omega) λout ss' a1 a2 a3=>?_
 obtain ⟨e,he⟩:=sortedAll_at s.heap its out
 have hn:H (s.heap.objs.size+1)=none:=I.hok.fresh (Nat.le_succ _)
 refine ⟨.ref (s.heap.objs.size+1),upd H (s.heap.objs.size+1) (.lst (ss'.map V.int)),I.laid (t':=s.toks) (λ_ _=>sortedAll_old) (Nat.le_succ _) ⟨?_,out.toList,e,P0 a1,?_⟩,rfl,q ss' _ a2 a3 hn⟩
 ·rw [List.length_map,a2.length_eq]
  exact hz
 ·simpa [seqObj] using he
def Zke (te:TE):TE:=λσ H Q=>te σ H λx H1=>∃ n:Nat,x=.int (n:Int)∧n≤1000∧∀ l,H1 l=none→Q (.ref l) (upd H1 l (.lst ((List.range n).map λi:Nat=>V.int (i:Int))))
theorem Bh:∀ (us:List Value) (k:Nat),(∀ (i:Nat) v,us[i]? = some v→∃ t,v=.int ((k:Int)+(i:Int)) t)→Vals ((List.range' k us.length).map λi:Nat=>V.int (i:Int)) us
 | [],k,_=>.nil
 | u :: us,k,h=>by
  rw [List.length_cons,List.range'_succ,List.map_cons]
  refine .cons ?_ (Bh us (k+1) λi v e=>?_)
  ·obtain ⟨t,e⟩:=h 0 u rfl
   exact ⟨t,by rw [e]; simp⟩
  ·obtain ⟨t,e'⟩:=h (i+1) v (by simpa using e)
   refine ⟨t,?_⟩
   rw [e']
   congr 1
   omega
theorem Zfb {e:Expr} {te:TE} {p p2 pos Zkw:Pos} (hc:X.calm=true) (hg:Gl X "list") (hm:X.mg "list" = none) (hg2:Gl X "range") (hm2:X.mg "range" = none) (he:PE X e te)
  (h1:starEach [.Call (.Name "range" p2) [e] [] Zkw] X.env=(false,eval (.Call (.Name "range" p2) [e] [] Zkw) X.env) :: starEach [] X.env:=by rfl)
  (h2:starEach [e] X.env=(false,eval e X.env) :: starEach [] X.env:=by rfl):PE X (.Call (.Name "list" p) [.Call (.Name "range" p2) [e] [] Zkw] [] pos) (Zke te):=by
 intro pins s σ H Q I h
 refine wpAny_Call_Name_kw (Ri I hg hm Ro ?_)
 refine PyProof.Rows.callWith_type1 ?_ h1 rfl
 rw [h1]
 show wpAny _ _ (spliced ((false,eval _ X.env) :: backTo pos (starEach [] X.env))) _ _ s
 refine Calls.spliced_cons (wpAny_Call_Name_kw (Ri I hg2 hm2 boot_range (PyProof.Rows.callWith_type1 (thn (Za he Zc h2 Zkw pins s σ H (λvs H1=>match vs with | [x]=>∃ n:Nat,x=.int (n:Int)∧n≤1000∧∀ l,H1 l=none→Q (.ref l) (upd H1 l (.lst ((List.range n).map λi:Nat=>V.int (i:Int)))) | _=>False) I h) λus s1 ⟨vs,H1,I1,r1,q1⟩=>?_) h2 rfl)))
 obtain ⟨x0,e0,n,e1,hn,q⟩:∃ x0,vs=[x0]∧∃ n:Nat,x0=.int (n:Int)∧n≤1000∧∀ l,H1 l=none→Q (.ref l) (upd H1 l (.lst ((List.range n).map λi:Nat=>V.int (i:Int)))):=by
  match vs,q1 with
  | [x0],q1=>exact ⟨x0,rfl,q1⟩
 subst e0 e1
 obtain ⟨u,rfl,ru⟩:=Vals.one r1
 obtain ⟨t,rfl⟩:=ru
 refine call_range_1 (Calls.spliced_nil ?_)
 refine call_list_range (n:=n) (I1.ok.hd hc) (IsRange.new ..) (small_one (by omega) (by omega) (by omega) (by omega)) (by rw [rangeSize_one]; split <;> omega) (by omega) λh' tk' acc c kp hD Zlo=>?_
 have le:s1.heap.objs.size≤(s1.heap.push { cls:=.type "range",data:=.fields #[.int 0 s1.toks,.int (n:Int) t,.int 1 (s1.toks+1)] }).objs.size:=by rw [Heap.size_push]; exact Nat.le_succ _
 have kp':∀ b o,s1.heap.get? b=some o→h'.get? b=some o:=λb o e=>kp b o (Heap.get?_push_of_some _ e)
 have hv:=Bh acc.toList 0 λi v hi=>by
  obtain ⟨t,e⟩:=Zlo.2 i v (by rw [← Array.getElem?_toList]; exact hi)
  exact ⟨t,by rw [e]; simp⟩
 rw [Array.length_toList,Zlo.1,← List.range_eq_range'] at hv
 exact ⟨.ref _,_,I1.laid (t':=tk') kp' le (show Yx X.prog X.w _ h' _ (.lst ((List.range n).map λi:Nat=>V.int (i:Int))) from ⟨by rw [List.length_map,List.length_range,sizeLine_eq]; omega,acc.toList,c,hv,by rw [Array.toArray_toList]; exact hD⟩),rfl,q _ (I1.hok.fresh le)⟩
end
end L2
namespace L2
open PySem PySem.Spec PyProof.Rows
def Zc8 (h:Heap) (d:Addr) (es:Array DictEntry) (ep:Nat):Prop:=∃ o,h.get? d=some o∧o.ExactDict∧o.data=.dict es ep
section
variable {P:Program} {w:World} {A:Around} {E:Value→Shared→Prop} {s:Shared} {it d:Addr} {i ep:Nat} {es:Array DictEntry}
theorem Zc8.typeIs (hm:Zc8 s.heap d es ep):s.TypeIs (.ref d) "dict":=let ⟨o,h1,h2,_⟩:=hm; ⟨o,h1,h2.1⟩
theorem Zkr {Q:Value→Shared→Prop} (hs:(d==sysModules)=false) (hm:Zc8 s.heap d es ep) (q:Q (.ref s.heap.objs.size) { s with heap:=s.heap.push (Zif d es.size ep) }):wpAny (model P w) A (pyIter (.ref d)) Q E s:=by
 have ty:=hm.typeIs
 obtain ⟨o,e1,e2,e3⟩:=hm
 refine wpAny_pyIter_slot ty F.slot_dict_iter (wpAny_call_entry F.slot_dict_iter ty F.entry_dict_iter ?_ (F.args_dict_iter_1 _))
 unfold Builtin.«dict.__iter__»
 refine wpAny_bind ?_
 unfold Builtin.Dict.dictSlotNone
 refine wpAny_bind (wpAny_notOrdered_dict ty (wpAny_pure ?_))
 show wpAny _ _ (Builtin.Dict.showsAll d >>= _) _ _ s
 unfold Builtin.Dict.showsAll
 rw [if_neg (by rw [hs]; exact Bool.false_ne_true)]
 refine wpAny_bind (wpAny_pure (wpAny_bind (wpAny_dictEntries e1 e3 (wpAny_bind (wpAny_dictEpoch e1 e3 ?_)))))
 refine wpAny_bind (wpAny_newObj_type (wpAny_pure ⟨_,rfl,"dict_keyiterator",_,⟨_,Heap.get?_push_size _ rfl,rfl⟩,F.slot_dict_keyiterator_next.lookup,?_⟩))
 simpa [rawInt] using q
theorem Dp {Q:Value→Shared→Prop} (hi:s.heap.IsKeyIter it d i es.size ep) (hm:Zc8 s.heap d es ep) (hlt:i < es.size) (q:∀ h',h'.IsKeyIter it d (i+1) es.size ep→Heap.SameBut it s.heap h'→Q es[i].key { s with heap:=h' }) :
  wpAny (model P w) A (Builtin.«dict_keyiterator.__next__» ⟨[.ref it],[]⟩) (λfin s'=>∃ r,fin=.done (.ret r)∧Q r s') E s:=by
 obtain ⟨o,e0,ec,ed⟩:=id hi
 obtain ⟨od,eo,ecd,edd⟩:=id hm
 refine wpAny_bind (wpAny_pure (wpAny_bind (wpAny_bind ?_)))
 first | refine wpAny_bind (wpAny_typeNameOfWhole_keyiter hi.typeIs (wpAny_pure (wpAny_bind (wpAny_fieldsOf e0 ed ?_)))) | refine wpAny_bind (wpAny_typeNameOf_keyiter hi.typeIs (wpAny_pure (wpAny_bind (wpAny_fieldsOf e0 ed ?_))))
 simp only [show Builtin.Dict_items.ownsTuple "dict_keyiterator" = false by decide,Bool.false_eq_true,if_false]
 show wpAny _ _ (ite ((Value.ref d==Value.none)=true) _ _) _ _ s
 refine (if_neg (show ¬ (Value.ref d==Value.none)=true from Bool.false_ne_true))▸?_
 refine wpAny_bind (wpAny_pure (wpAny_bind (wpAny_dictEntries eo edd ?_)))
 rw [if_neg (by simp)]
 refine wpAny_bind (wpAny_pure (wpAny_bind (wpAny_dictEpoch eo edd ?_)))
 rw [if_neg (by simp)]
 refine wpAny_pure ?_
 simp only [show ¬ ((i:Int) < 0) from by omega,if_false,Int.toNat_natCast,Array.getElem?_eq_getElem hlt]
 refine wpAny_bind ?_
 first | refine wpAny_bind (wpAny_typeNameOfWhole_keyiter hi.typeIs (wpAny_pure (wpAny_bind (wpAny_isOneOf_keyiter hi.typeIs ?_)))) | refine wpAny_bind (wpAny_typeNameOf_keyiter hi.typeIs (wpAny_pure (wpAny_bind (wpAny_isOneOf_keyiter hi.typeIs ?_))))
 have hi':(s.heap.update it (Obj.mapFields (·.setIfInBounds 1 (rawInt ((i:Int)+1))))).IsKeyIter it d (i+1) es.size ep:=by
  refine ⟨_,Heap.get?_update_self _ e0 (Obj.isFreed_of_fields (Obj.data_mapFields ed _)),(Obj.cls_mapFields ..).trans ec,?_⟩
  rw [Obj.data_mapFields ed]
  simp [rawInt]
 refine wpAny_bind (m:=setField (.ref it) 1 (rawInt ((i:Int)+1))) (wpAny_setField e0 ed (by simp) (wpAny_bind (wpAny_holding (wpAny_bind (wpAny_isOneOf_keyiter (s:={ s with heap:=s.heap.update it (Obj.mapFields (·.setIfInBounds 1 (rawInt ((i:Int)+1)))) }) hi'.typeIs ?_)))))
 exact wpAny_pure (wpAny_pure ⟨_,rfl,q _ hi' (Heap.SameBut.update ..)⟩)
theorem Dn {Q:Option Value→Shared→Prop} (hi:s.heap.IsKeyIter it d i es.size ep) (hm:Zc8 s.heap d es ep) (hlt:i < es.size) (q:∀ h',h'.IsKeyIter it d (i+1) es.size ep→Heap.SameBut it s.heap h'→Q (some es[i].key) { s with heap:=h' }) :
  wpAny (model P w) A (pyNext (.ref it)) Q E s:=by
 unfold pyNext
 refine wpAny_bind (wpAny_attempt (wpAny_callSpecial?_slot (name:=Str.ofString "__next__") hi.typeIs F.slot_dict_keyiterator_next (wpAny_call_entry F.slot_dict_keyiterator_next hi.typeIs F.entry_dict_keyiterator_next ?_ (F.args_dict_keyiterator_next_1 _))))
 exact Dp hi hm hlt λh' a b=>wpAny_pure (q h' a b)
theorem B7 {Qf:Fin→Shared→Prop} (hh:A.handled=none) (hi:s.heap.IsKeyIter it d i es.size ep) (hm:Zc8 s.heap d es ep) (hge:es.size≤i) (q:∀ h' e,Heap.ExtBut it s.heap h'→(∃ o,h'.get? e=some o∧o.cls=.type "StopIteration")→E (.ref e) { s with heap:=h' }) :
  wpAny (model P w) A (Builtin.«dict_keyiterator.__next__» ⟨[.ref it],[]⟩) Qf E s:=by
 obtain ⟨o,e0,ec,ed⟩:=id hi
 obtain ⟨od,eo,ecd,edd⟩:=id hm
 refine wpAny_bind (wpAny_pure (wpAny_bind (wpAny_bind ?_)))
 first | refine wpAny_bind (wpAny_typeNameOfWhole_keyiter hi.typeIs (wpAny_pure (wpAny_bind (wpAny_fieldsOf e0 ed ?_)))) | refine wpAny_bind (wpAny_typeNameOf_keyiter hi.typeIs (wpAny_pure (wpAny_bind (wpAny_fieldsOf e0 ed ?_))))
 simp only [show Builtin.Dict_items.ownsTuple "dict_keyiterator" = false by decide,Bool.false_eq_true,if_false]
 show wpAny _ _ (ite ((Value.ref d==Value.none)=true) _ _) _ _ s
 refine (if_neg (show ¬ (Value.ref d==Value.none)=true from Bool.false_ne_true))▸?_
 refine wpAny_bind (wpAny_pure (wpAny_bind (wpAny_dictEntries eo edd ?_)))
 rw [if_neg (by simp)]
 refine wpAny_bind (wpAny_pure (wpAny_bind (wpAny_dictEpoch eo edd ?_)))
 rw [if_neg (by simp)]
 refine wpAny_pure ?_
 simp only [show ¬ ((i:Int) < 0) from by omega,if_false,Int.toNat_natCast,Array.getElem?_eq_none hge]
 refine wpAny_bind ?_
 first | refine wpAny_bind (wpAny_typeNameOfWhole_keyiter hi.typeIs (wpAny_pure ?_)) | refine wpAny_bind (wpAny_typeNameOf_keyiter hi.typeIs (wpAny_pure ?_))
 refine wpAny_bind (m:=setField (.ref it) 0 .none) (wpAny_setField e0 ed (by simp) (wpAny_bind (m:=newExc (.type "StopIteration") []) ?_))
 simp only [newExc,newTuple,raiseNew]
 refine wpAny_bind (wpAny_newObj_type (wpAny_bind (m:=firstArgMember _ _) (wpAny_of_eq (a:=Value.none) (by first | rfl | (simp only [firstArgMember]; rfl)) (wpAny_newObj_type ?_ (by size_fits)))) (by size_fits))
 refine wpAny_bind (wpAny_handled ?_)
 rw [hh]
 exact wpAny_bind (wpAny_pure (wpAny_throw (q _ _ (((Heap.SameBut.update ..).extBut.push _).push _) ⟨_,Heap.get?_push_size _ rfl,rfl⟩)))
theorem B6 {Q:Option Value→Shared→Prop} (hh:A.handled=none) (hi:s.heap.IsKeyIter it d i es.size ep) (hm:Zc8 s.heap d es ep) (hge:es.size≤i) (q:∀ h',Heap.ExtBut it s.heap h'→Q none { s with heap:=h' }) :
  wpAny (model P w) A (pyNext (.ref it)) Q E s:=by
 unfold pyNext
 refine wpAny_bind (wpAny_attempt (wpAny_callSpecial?_slot (name:=Str.ofString "__next__") hi.typeIs F.slot_dict_keyiterator_next (wpAny_call_entry F.slot_dict_keyiterator_next hi.typeIs F.entry_dict_keyiterator_next ?_ (F.args_dict_keyiterator_next_1 _))))
 refine B7 (A:=A.in1) hh hi hm hge λh' e eb ho=>?_
 refine wpAny_bind (wpAny_isInstance (T:="StopIteration") (b:=true) ho isSubtype_stop ?_)
 exact wpAny_pure (q _ eb)
open AutoSeq1 (wpAny_loadPart') in
end
theorem rawT {P:Program} {w:World} {H:Hp} {h:Heap} {a:Addr} {o:Obj} {kvs:List (List Key × V)} (ok:HOk P w H h) (e:H a=some (.frz o (.dT kvs))) :
  (a==sysModules)=false∧∃ (es:Array DictEntry) (ep:Nat) (bs:List Addr),h.get? a=some o∧o.ExactDict∧o.data=.dict es ep∧es.toList.map (·.key)=bs.map Value.ref∧bs.length=kvs.length∧∀ (i:Nat) b k v,bs[i]? = some b→kvs[i]? = some (k,v)→H b=some (.tup (k.map kV)):=by
 obtain ⟨ho,z,y,xs,r,o',es,ep,h1,h2,h3,h4,h5⟩:=ok a _ e
 rw [ho] at h1
 cases h1
 refine ⟨y,es,ep,xs.map (·.2.1),ho,h2,h3,?_,by rw [List.length_map]; exact (Paired.length r).symm,?_⟩
 ·rw [h4,List.map_map,List.map_map]
  rfl
 ·have key:∀ {l:List (List Key × V)} {m:List (List Key × Addr × Value)},KT H l m→∀ (i:Nat) b k v,(m.map (·.2.1))[i]? = some b→l[i]? = some (k,v)→H b=some (.tup (k.map kV)):=by
   intro l m q
   induction q with
   | nil=>intro i b k v a1 _; simp at a1
   | @cons p q ps qs hq t ih=>
    intro i b k v a1 a2
    cases i with
    | zero=>
     cases a1
     cases a2
     exact hq.2.1
    | succ i=>exact ih i b k v (by simpa using a1) (by simpa using a2)
  exact key r
theorem Zig {es:Array DictEntry} {bs:List Addr} (h:es.toList.map (·.key)=bs.map Value.ref):es.size=bs.length∧∀ (i:Nat) (hi:i < es.size),∃ b,bs[i]? = some b∧es[i].key=.ref b:=by
 have hl:es.size=bs.length:=by
  have:=congrArg List.length h
  rwa [List.length_map,List.length_map,Array.length_toList] at this
 refine ⟨hl,λi hi=>⟨bs[i]'(by omega),List.getElem?_eq_getElem (by omega),?_⟩⟩
 have:=congrArg (λz:List Value=>z[i]?) h
 simp only [List.getElem?_map] at this
 rw [List.getElem?_eq_getElem (by rw [Array.length_toList]; exact hi),List.getElem?_eq_getElem (by omega)] at this
 simpa using this
def Zc9 (a:Addr) (o:Obj) (kvs:List (List Key × V)) (bs:List Addr):It:=
 ⟨λi H=>i < kvs.length∧H a=some (.frz o (.dT kvs)),λi H x H'=>H'=H∧∃ b,bs[i]? = some b∧x=.ref b,λi H=>i=kvs.length∧H a=some (.frz o (.dT kvs))⟩
theorem Za8 {P:Program} {w:World} {K:W.Frag} {tg:Expr} (a it:Addr) (o:Obj) (kvs:List (List Key × V)) (bs:List Addr) (es:Array DictEntry) (ep:Nat) (hx:o.ExactDict) (hd:o.data=.dict es ep) (hk:es.toList.map (·.key)=bs.map Value.ref) (hl:bs.length=kvs.length) :
  Turn P w K tg (Zc9 a o kvs bs) [it] it (λi h=>h.IsKeyIter it a i es.size ep) where
 mem:=by simp
 obj:=λi h st b hb=>by
  have e:b=it:=by simpa using hb
  subst e
  obtain ⟨o,e,c,d⟩:=st
  exact ⟨o,e,λv z=>by rw [d] at z; cases z⟩
 keep:=λi h h' st k=>st.at λo e=>k it (by simp) o e
 item:=by
  intro X hP hw hK hc i pins s σ H E I hf st hg
  subst hP hw hK
  obtain ⟨hi,hq⟩:=hg
  obtain ⟨k1,k2⟩:=Zig hk
  have hi':i < es.size:=by omega
  obtain ⟨b,hb,ek⟩:=k2 i hi'
  obtain ⟨f0,f1,f2,f3,f4,f5⟩:=hf it (by simp)
  refine Dn st ⟨o,(I.hok a _ hq).1,hx,hd⟩ hi' λh' st' sb=>?_
  have I1:Inv X pins σ H { s with heap:=h' }:=I.turned (t':=s.toks) (λb o hb e=>(sb.2 b hb).trans e) f0 f1 f3 f4 f5
  obtain ⟨oi,e,c,d⟩:=id st'
  rw [ek]
  exact ⟨.ref b,rfl,Eg (s:={ s with heap:=h' }) e c d (by decide) ⟨.ref b,H,I1,rfl,⟨rfl,b,hb,rfl⟩,st',λb hb=>(hf b hb).1⟩⟩
 done:=by
  intro X hP hw hK hc i pins s σ H E I hf st hg
  subst hP hw hK
  obtain ⟨hi,hq⟩:=hg
  obtain ⟨k1,_⟩:=Zig hk
  obtain ⟨f0,f1,f2,f3,f4,f5⟩:=hf it (by simp)
  exact B6 (I.ok.hd hc) st ⟨o,(I.hok a _ hq).1,hx,hd⟩ (by omega) λh' eb=>⟨rfl,I.turned (t':=s.toks) (λb o hb e=>eb b o hb e) f0 f1 f3 f4 f5⟩
 self:=λ_ _ _ _ _ st h=>wpAny_pyIter_keyiter st h
def Zj8 (H:Hp) (kvs:List (List Key × V)) (bs:List Addr):Prop:=bs.length=kvs.length∧∀ (i:Nat) b k v,bs[i]? = some b→kvs[i]? = some (k,v)→H b=some (.tup (k.map kV))
section
variable {X:Cx} {tg:Expr}
theorem frzT {pins:List (Addr × Obj)} {σ:St} {H1:Hp} {s1:Shared} {a:Addr} {kvs:List (List Key × V)} (I1:Inv X pins σ H1 s1) (hd:H1 a=some (.dT kvs)):∃ o,Inv X pins σ (upd H1 a (.frz o (.dT kvs))) s1:=by
 obtain ⟨z,y,xs,r,o,es,ep,h1,h2,h3,h4,h5⟩:=I1.hok a _ hd
 refine ⟨o,I1.write (x:=a) (e:=a) (t':=s1.toks) (h':=s1.heap) (by rw [hd]; exact True.intro) (.inl rfl) (λb u _ e=>e) ⟨o,h1⟩ ⟨h1,z,y,xs,?_,o,es,ep,h1,h2,h3,h4,h5⟩⟩
 have key:∀ {l:List (List Key × V)} {m:List (List Key × Addr × Value)},KT H1 l m→KT (upd H1 a (.frz o (.dT kvs))) l m:=by
  intro l m q
  induction q with
  | nil=>exact .nil
  | cons hq t ih=>exact .cons ⟨hq.1,by rw [Zj (Wb hq.2.1 hd λz=>nomatch z)]; exact hq.2.1,hq.2.2⟩ ih
 exact key r
def Zo5 (te:TE):TI:=λσ H R=>te σ H λx H1=>∃ a kvs,x=.ref a∧((H1 a=some (.dT kvs)∧∀ o bs,Zj8 (upd H1 a (.frz o (.dT kvs))) kvs bs→R (Zc9 a o kvs bs) (upd H1 a (.frz o (.dT kvs))))∨∃ o,H1 a=some (.frz o (.dT kvs))∧∀ bs,Zj8 H1 kvs bs→R (Zc9 a o kvs bs) H1)
theorem Zho {e:Expr} {te:TE} (he:PE X e te):PI X tg e (Zo5 te):=by
 intro pins s σ H R I h
 refine thn (he pins s σ H _ I h) λv s1 ⟨x,H1,I1,r1,q1⟩=>?_
 obtain ⟨a,kvs,e,q⟩:=q1
 subst e
 obtain rfl:v=Value.ref a:=r1
 have key:∀ (o:Obj) (H2:Hp),Inv X pins σ H2 s1→H2 a=some (.frz o (.dT kvs))→(∀ bs,Zj8 H2 kvs bs→R (Zc9 a o kvs bs) H2)→wpAny (model X.prog X.w) X.A (pyIter (.ref a)) (PIE X pins σ tg R) X.xe s1:=by
  intro o H2 I2 h2 q2
  obtain ⟨hsm,es,ep,bs,g1,g2,g3,g4,g5,g6⟩:=rawT I2.hok h2
  refine Zkr hsm ⟨o,g1,g2,g3⟩ ?_
  refine ⟨s1.heap.objs.size,[s1.heap.objs.size],_,_,H2,rfl,I2.kept (t':=s1.toks) λb o e=>Heap.get?_push_of_some _ e,Za8 a _ o kvs bs es ep g2 g3 g4 g5,⟨_,Heap.get?_push_size _ rfl,rfl,rfl⟩,λb hb=>?_,q2 bs ⟨g5,g6⟩⟩
  have e:b=s1.heap.objs.size:=by simpa using hb
  subst e
  exact I2.Fb (Nat.le_refl _) (I2.hok.fresh (Nat.le_refl _))
 rcases q with ⟨hd,q⟩ | ⟨o,hd,q⟩
 ·obtain ⟨o,I2⟩:=frzT I1 hd
  exact key o _ I2 Zb (q o)
 ·exact key o H1 I1 hd q
theorem Zfv {a:Addr} {o:Obj} {kvs:List (List Key × V)} {bs:List Addr} {g:TG} {tb:TS} {D:Ends} {σ:St} {H:Hp} (Pv:Nat→St→Hp→Prop) (h0:Pv 0 σ H) (hl:∀ i σ H,i≤kvs.length→Pv i σ H→H a=some (.frz o (.dT kvs)))
  (hs:∀ i b σ H,bs[i]? = some b→Pv i σ H→g (.ref b) σ H λσ2 H2=>tb { D with nx:=Pv (i+1),ct:=Pv (i+1),bk:=D.nx } σ2 H2) (hd:∀ σ H,Pv kvs.length σ H→D.nx σ H) :
  ∃ W:Nat→Nat→St→Hp→Prop,(∃ m,W 0 m σ H)∧∀ i m σ H,W i m σ H→
   ((Zc9 a o kvs bs).stop i H∧D.nx σ H)∨((Zc9 a o kvs bs).go i H∧∃ N:St→Hp→Prop,(∀ σ' H',N σ' H'→∃ m',m' < m∧W (i+1) m' σ' H')∧∀ x H',(Zc9 a o kvs bs).yld i H x H'→g x σ H' λσ2 H2=>tb { D with nx:=N,ct:=N,bk:=D.nx } σ2 H2):=by
 refine ⟨λi m σ H=>m=kvs.length - i∧i≤kvs.length∧Pv i σ H,⟨kvs.length,by simp,Nat.zero_le _,h0⟩,?_⟩
 rintro i m σ H ⟨rfl,hi,p⟩
 have q:=hl i σ H hi p
 by_cases hlt:i < kvs.length
 ·refine .inr ⟨⟨hlt,q⟩,Pv (i+1),λσ' H' p'=>⟨kvs.length - (i+1),by omega,rfl,hlt,p'⟩,λx H' y=>?_⟩
  obtain ⟨e,b,hb,ex⟩:=y
  subst e ex
  exact hs i b σ _ hb p
 ·have e:i=kvs.length:=by omega
  subst e
  exact .inl ⟨⟨rfl,q⟩,hd σ H p⟩
end
section
variable {X:Cx} {ex:List Expr} {n:Nat} {tp:Pos}
end
end L2
namespace L2
open PySem PySem.Spec PyProof.Rows
end L2
namespace L2
open PySem PySem.Spec PyProof.Rows
open AutoSeq1 (wpAny_loadPart') in
open AutoSeq1 (wpAny_loadPart') in
section
variable {X:Cx}
inductive Zhi (x:V) (y:V) (H:Hp) (Q:VK):Prop
 | mk (a b:Addr) (xs ys:List V) (h1:x=.ref a) (h2:y=.ref b) (h3:H a=some (.tup xs)) (h4:H b=some (.tup ys)) (h5:xs.length+ys.length≤1000) (h6:∀ p H',Zo H H'→H' p=some (.tup (xs ++ ys))→Q (.ref p) H'):Zhi x y H Q
def Zq2 (K:W.Frag):R2:=λx y H Q=>Zhi x y H Q
theorem Jb {K:W.Frag} (hK:X.K=K:=by rfl):OpR X (binaryOp .Add) (Zq2 K):=by
 subst hK
 intro pins s σ H x y v u Q I rx ry h
 obtain ⟨a,b,xs,ys,rfl,rfl,ha,hb,hz,q⟩:=h
 by_cases c:xs=[]
 ·obtain rfl:v=Value.ref a:=rx
  obtain rfl:u=Value.ref b:=ry
  obtain ⟨its,r1,p1,_⟩:=I.tuple (SqT.of ha)
  obtain ⟨G7,r2,p2,_⟩:=I.tuple (SqT.of hb)
  obtain ⟨⟨cls,dd,data,sl⟩,ho,hc,n,hd⟩:=id p1
  obtain ⟨⟨Zsk,dd2,data2,sl2⟩,ho2,hc2,n2,hd2⟩:=id p2
  simp only at hc hd hc2 hd2
  subst hc hd hc2 hd2
  refine concat_meets ⟨_,ho,rfl⟩ ⟨_,ho2,rfl⟩ noFill_tuple_add seq_tuple_add PySem.F.slot_tuple_add PySem.F.entry_tuple_add (PySem.F.args_tuple_add_2 _ _) (tuple_addW0 a b its.toArray G7.toArray n n2 dd dd2 sl sl2 (by simpa using r1.Jc.mpr c)) ⟨ho,ho2,.ref b,H,I,rfl,q b H (Zo.refl _) ?_⟩
  rw [c,List.nil_append]
  exact hb
 ·refine Zd0 pins s σ H (.ref a) (.ref b) v u Q I rx ry ⟨a,b,xs,ys,rfl,rfl,SqT.of ha,SqT.of hb,c,by rw [sizeLine_eq]; omega,λe=>q a H (Zo.refl _) ?_,λ_ p hp=>q p _ (Ze hp _) Zb⟩
  rw [e,List.append_nil]
  exact ha
end
end L2
namespace L2
open PySem PySem.Spec PyProof.Rows
section
variable {M:Model} {A:Around} {E:Value→Shared→Prop} {s:Shared} {base:Heap} {env:Env} {outer:List Env} {L e C:Addr} {d:Option Addr}
end
section
variable {X:Cx} {pins:List (Addr × Obj)} {σ:St} {H:Hp} {s:Shared} {a C:Addr} {d:Option Addr} {M:Model} {A:Around} {E':Value→Shared→Prop}
end
section
variable {X:Cx} {E:St→XK}
end
section
variable {X:Cx} {pins pins':List (Addr × Obj)} {σ:St} {H:Hp} {s:Shared} {A:Around} {c:Bool} {pn:List (Addr × Obj)} {xe:Value→Shared→Prop}
end
end L2
namespace L2
open PySem PySem.Spec PyProof.Rows
section
variable {X:Cx} {pins:List (Addr × Obj)} {σ:St} {H:Hp} {s:Shared} {a C:Addr} {fs:List (Str × V)} {A:Around} {E:Value→Shared→Prop}
end
section
variable {P:Program} {w:World} {K:W.Frag} {mg:Str→Option Value} {base:Heap}
end
end L2
namespace L2
open PySem PySem.Spec PyProof.Rows
section
variable {X:Cx} {es:List Expr} {n:Nat} {tp:Pos}
end
end L2
namespace L2
open PySem PySem.Spec PyProof.Rows
section
variable {P:Program} {w:World} {A:Around} {E:Value→Shared→Prop} {s:Shared} {r t:Addr} {items:Array Value}
open AutoSeq1 (wpAny_loadPart') in
end
section
variable {X:Cx}
end
end L2
namespace L2
open PySem PySem.Spec PyProof.Rows
section
variable {X:Cx}
end
end L2
namespace L2
open PySem PySem.Spec PyProof.Rows
end L2
namespace L2
open PySem PySem.Spec PyProof.Rows
section
open PySem.W (kasC kasC_pure kasC_bind kasC_get kasC_modify kasC_lift kasC_nil kasC_cons kasC_range kas_item kas_cmp kas_st)
variable {prog:Program} {w:World} {A:Around} {s:Shared} {α β:Type} {st:SortSt}
variable {κ:SortKind} {it:Array Keyed} {n:Nat} {lt:Nat→Nat→Bool}
end
end L2
namespace L2
open PySem PySem.Spec PyProof.Rows
section
open PySem.W (kas_item)
variable {lt:Nat→Nat→Bool} {a b o:List Nat} {ia ib x:Nat}
variable {n:Nat} {pa pb:Array Nat} {it:Array Keyed}
variable {out:Array Keyed}
end
end L2
namespace L2
open PySem PySem.Spec PyProof.Rows
section
open PySem.W (kas_item)
variable {prog:Program} {w:World} {A:Around} {s:Shared} {st:SortSt} {κ:SortKind} {it:Array Keyed} {n:Nat} {lt:Nat→Nat→Bool} {pa pb:Array Nat}
section
variable {α β:Type} {R:β→SortSt→Prop}
end
end
end L2
namespace L2
open PySem PySem.Spec PyProof.Rows
section
open PySem.W (kas_item)
variable {lt:Nat→Nat→Bool} {a b o:List Nat} {na nb x:Nat}
variable {n:Nat} {pa pb:Array Nat} {it:Array Keyed} {out:Array Keyed}
end
end L2
namespace L2
open PySem PySem.Spec PyProof.Rows
section
open PySem.W (kas_item)
variable {prog:Program} {w:World} {A:Around} {s:Shared} {st:SortSt} {κ:SortKind} {it:Array Keyed} {n:Nat} {lt:Nat→Nat→Bool} {pa pb:Array Nat} {na nb:Nat}
end
end L2
namespace L2
open PySem PySem.Spec PyProof.Rows
section
open PySem.W (kas_item kas_rev kas_swaps_map)
variable {prog:Program} {w:World} {A:Around} {s:Shared} {κ:SortKind} {it:Array Keyed} {n:Nat} {lt:Nat→Nat→Bool} {p:Array Nat} {pd:Array (Nat × Nat × Nat)} {g:Nat}
section
variable {β:Type} {R:β→SortSt→Prop}
end
end
end L2
namespace L2
open PySem PySem.Spec PyProof.Rows
section
open PySem.W (kas_item)
variable {prog:Program} {w:World} {A:Around} {s:Shared} {κ:SortKind} {it:Array Keyed} {n:Nat} {lt:Nat→Nat→Bool} {p:Array Nat} {g:Nat}
end
end L2
namespace L2
open PySem PySem.Spec PyProof.Rows
section
open PySem.W (kas_item kas_st kasC)
variable {prog:Program} {w:World} {A:Around} {s:Shared} {κ:SortKind} {it:Array Keyed} {n:Nat} {lt:Nat→Nat→Bool} {p:Array Nat}
end
end L2
namespace L2
open PySem PySem.Spec PyProof.Rows
section
open PySem.W (kas_ask kas_item kasC)
end
section
variable {X:Cx} {pins:List (Addr × Obj)} {σ:St} {H:Hp} {s:Shared} {x:Str} {k:Nat} {ps:List Str} {sp:Sp}
end
end L2
namespace L2
open PySem PySem.Spec PyProof.Rows
section
variable {P:Program} {w:World} {A:Around} {E:Value→Shared→Prop} {s:Shared}
end
section
variable {X:Cx} {es:List Expr} {n:Nat} {tp:Pos}
end
end L2
namespace L2
open PySem PySem.Spec PyProof.Rows
end L2
namespace L2
open PySem PySem.Spec PyProof.Rows
inductive Cmp (H:Hp):Nat→V→V→Bool→Prop where
 | int (n:Nat) (i j:Int):Cmp H n (.int i) (.int j) (i==j)
 | str (n:Nat) (x y:Str):Cmp H n (.str x) (.str y) (x==y)
 | tup {n:Nat} {a b:Addr} {xs ys:List V} (e:Nat→Bool) (ha:H a=some (.tup xs)) (hb:H b=some (.tup ys)) (hk:∀ (j:Nat) x y,xs[j]? = some x→ys[j]? = some y→Cmp H n x y (e j)):Cmp H (n+1) (.ref a) (.ref b) (xs.length==ys.length && (List.range xs.length).all e)
theorem Cmp.refl {H:Hp} {n:Nat} {x y:V} {b:Bool} (h:Cmp H n x y b):x=y→b=true:=by
 induction h with
 | int n i j=>intro q; cases q; exact beq_self_eq_true _
 | str n x y=>intro q; cases q; exact beq_self_eq_true _
 | tup e ha hb hk ih=>
  intro q
  cases q
  rw [ha] at hb
  cases hb
  rw [beq_self_eq_true,Bool.true_and,List.all_eq_true]
  intro j hj
  have hj':=List.mem_range.mp hj
  exact ih j _ _ (List.getElem?_eq_getElem hj') (List.getElem?_eq_getElem hj') rfl
theorem all_min (n m:Nat) (e:Nat→Bool):((List.range (min n m)).all e && n==m)=(n==m && (List.range n).all e):=by
 by_cases h:n=m
 ·subst h
  rw [Nat.min_self,beq_self_eq_true,Bool.and_true,Bool.true_and]
 ·rw [show (n==m)=false from beq_eq_false_iff_ne.mpr h,Bool.and_false,Bool.false_and]
section
variable {P:Program} {w:World} {H:Hp} {s:Shared}
theorem Zsb {i1:List Value} {j:Nat} {u:Value} (h1:j < i1.toArray.size) (e1:i1[j]? = some u):i1.toArray[j]=u:=by
 have:i1[j]? = some i1.toArray[j]:=by simp at h1 ⊢
 rw [e1] at this
 exact (Option.some.inj this).symm
theorem Em (ok:HOk P w H s.heap) {n:Nat} {A:Around} {xs ys:List V} {i1 i2:List Value} {e:Nat→Bool} (r1:Vals xs i1) (r2:Vals ys i2)
  (hk:∀ (j:Nat) x y,xs[j]? = some x→ys[j]? = some y→∀ u v,RelV x u→RelV y v→SeqAt.EqAt A.in1 s u v (e j)):∀ j (h1:j < i1.toArray.size) (h2:j < i2.toArray.size),SeqAt.EqAt A.in1 s i1.toArray[j] i2.toArray[j] (e j):=λj h1 h2=>by
 have l1:j < xs.length:=by rw [List.size_toArray] at h1; rw [r1.length]; exact h1
 have l2:j < ys.length:=by rw [List.size_toArray] at h2; rw [r2.length]; exact h2
 obtain ⟨u1,e1,q1⟩:=r1.get (List.getElem?_eq_getElem l1)
 obtain ⟨u2,e2,q2⟩:=r2.get (List.getElem?_eq_getElem l2)
 rw [Zsb h1 e1,Zsb h2 e2]
 exact hk j _ _ (List.getElem?_eq_getElem l1) (List.getElem?_eq_getElem l2) _ _ q1 q2
theorem Zi8 (ok:HOk P w H s.heap) {n:Nat} {x y:V} {b:Bool} (h:Cmp H n x y b):∀ (A:Around) (u v:Value),A.units+n < cLine→RelV x u→RelV y v→SeqAt.EqAt A s u v b:=by
 induction h with
 | int n i j=>
  intro A u v hu rx ry
  obtain ⟨t,rfl⟩:=rx
  obtain ⟨t',rfl⟩:=ry
  exact SeqAt.EqAt.int_int (A:=A) (s:=s) i t j t'
 | str n x y=>
  intro A u v hu rx ry
  obtain ⟨t,rfl⟩:=rx
  obtain ⟨t',rfl⟩:=ry
  exact SeqAt.EqAt.str_str (A:=A) (s:=s) x t y t'
 | @tup n a b xs ys e ha hb hk ih=>
  intro A u v hu rx ry
  cases rx
  cases ry
  by_cases q:a=b
  ·have:=(Cmp.tup e ha hb hk).refl (by rw [q])
   rw [this]
   subst q
   exact SeqAt.EqAt.same _
  obtain ⟨i1,r1,p1⟩:=V6 ok ha
  obtain ⟨i2,r2,p2⟩:=V6 ok hb
  have:=SeqAt.RcAt.tuples (A:=A) (e:=e) p1 p2 (by omega) (Em (n:=n) ok r1 r2 λj x y h1 h2 u v q1 q2=>ih j x y h1 h2 A.in1 u v (by show A.units+1+n < cLine; omega) q1 q2)
  have z1:i1.toArray.size=xs.length:=by rw [List.size_toArray]; exact r1.length.symm
  have z2:i2.toArray.size=ys.length:=by rw [List.size_toArray]; exact r2.length.symm
  rw [z1,z2,all_min] at this
  exact SeqAt.EqAt.of_refs q this
end
section
variable {X:Cx}
inductive Zmu (x:V) (y:V) (H:Hp) (Q:VK):Prop
 | mk (a b xs ys e:_) (h1:x=.ref a) (h2:y=.ref b) (h3:H a=some (.tup xs)) (h4:H b=some (.tup ys)) (h5:(∀ (j:Nat) x y,xs[j]? = some x→ys[j]? = some y→Cmp H 20 x y (e j))) (h6:Q (.bl (xs.length==ys.length && (List.range xs.length).all e)) H):Zmu x y H Q
def Zq1:R2:=λx y H Q=>Zmu x y H Q
theorem Zol (hu:X.A.units+160 < cLine):OpR X (compareOp .Eq) Zq1:=by
 intro pins s σ H x y v u Q I rx ry h
 obtain ⟨a,b,xs,ys,e,rfl,rfl,ha,hb,hk,q⟩:=h
 cases rx
 cases ry
 obtain ⟨i1,r1,p1⟩:=V6 I.hok ha
 obtain ⟨i2,r2,p2⟩:=V6 I.hok hb
 have z1:i1.toArray.size=xs.length:=by rw [List.size_toArray]; exact r1.length.symm
 have z2:i2.toArray.size=ys.length:=by rw [List.size_toArray]; exact r2.length.symm
 refine SeqAt.eq_tupleAt p1 p2 (by omega) (e:=e) (Em (n:=20) (A:=X.A) I.hok r1 r2 λj x y h1 h2 u v q1 q2=>Zi8 I.hok (hk j x y h1 h2) X.A.in1 u v (by show X.A.units+1+20 < cLine; omega) q1 q2) ⟨.bl _,H,I,?_,q⟩
 rw [z1,z2,all_min]
 rfl
end
def Cd (a b:Int) (x y:Str):Bool:=if a=b then decide (x.cps.toList < y.cps.toList) else decide (a < b)
section
open PySem.SeqAt
open PySem.AutoSeq1 (wpAny_loadPart')
open PySem.MeetsSeq PySem.MeetsSeq2 PySem.MeetsSeq3
theorem Zg9 (A:Around) (s:Shared) (a:Int) (t:Tok) (c:Int) (u:Tok) (prog:Program) (w:World) (E:Value→Shared→Prop) (Q:Value→Shared→Prop) (h:Q (.bool (decide (a < c))) s) :
  wpAny (model prog w) A (richCompare .Lt (.int a t) (.int c u)) Q E s:=(PyProof.Rows.lt_int h:wpAny (model prog w) A (compareOp .Lt (.int a t) (.int c u)) Q E s)
theorem Zg8 (A:Around) (s:Shared) (x:Str) (t:Tok) (y:Str) (u:Tok) (prog:Program) (w:World) (E:Value→Shared→Prop) (Q:Value→Shared→Prop) (h:Q (.bool (decide (x.cps.toList < y.cps.toList))) s) :
  wpAny (model prog w) A (richCompare .Lt (.str x t) (.str y u)) Q E s:=(PySem.P.lt_str h:wpAny (model prog w) A (compareOp .Lt (.str x t) (.str y u)) Q E s)
theorem Bj (l b:Addr) (a c:Int) (t u t2 u2:Tok) (x y:Str) (n n2:Nat) (dd dd2:Option Addr) (sl sl2:Array (Option Value)) :
  Meets (Builtin.«tuple.__lt__» ⟨[.ref l,.ref b],[]⟩)
   (λ_ R s=>s.heap.get? l=some { cls:=.type "tuple",dict:=dd,data:=.seq #[.int a t,.str x u] n,slots:=sl }∧s.heap.get? b=some { cls:=.type "tuple",dict:=dd2,data:=.seq #[.int c t2,.str y u2] n2,slots:=sl2 }∧
    R (.ok (.ret (.bool (Cd a c x y)))) s):=
 .of_wp λprog w A R s h=>by
  obtain ⟨hp,g,d,tk,os⟩:=s; obtain ⟨hl,hb,h⟩:=h
  have f2:=AutoSeq1.sub_tuple_tuple
  have he1:=EqAt.int_int (A:=A.in1) (s:=⟨hp,g,d,tk,os⟩) a t c t2
  have he2:=EqAt.str_str (A:=A.in1) (s:=⟨hp,g,d,tk,os⟩) x u y u2
  have g1:=Zg9 A.in1 ⟨hp,g,d,tk,os⟩ a t c t2 prog w
  have g2:=Zg8 A.in1 ⟨hp,g,d,tk,os⟩ x u y u2 prog w
  wp_walk using wpAny_loadPart' hl,wpAny_loadPart' hb,wpAny_forIn_list _ (λrest b s'=>b.1=none∧s'=⟨hp,g,d,tk,os⟩∧(rest=[(Value.int a t,Value.int c t2),(Value.str x u,Value.str y u2)]∨(rest=[(Value.str x u,Value.str y u2)]∧a=c)∨(rest=[]∧a=c∧x=y))) _
  case turn=>
   rintro ⟨p,q⟩ rest b s' ⟨hb',rfl,hz | ⟨hz,e1⟩ | ⟨hz,_⟩⟩
   ·injection hz with hpq Zeh
    injection hpq with hp' hq'
    subst hp' hq' Zeh
    refine wpAny_bind (he1 prog w _ _ ?_)
    by_cases e:a=c
    ·rw [show (a==c)=true from beq_iff_eq.mpr e]
     wp_walk
     exact ⟨rfl,rfl,.inr (.inl ⟨rfl,e⟩)⟩
    ·rw [show (a==c)=false from beq_eq_false_iff_ne.mpr e]
     have hR:R (.ok (.ret (.bool (decide (a < c))))) ⟨hp,g,d,tk,os⟩:=by
      unfold Cd at h
      rw [if_neg e] at h
      exact h
     wp_walk using g1
     exact ⟨_,rfl,by simpa using hR⟩
   ·injection hz with hpq Zeh
    injection hpq with hp' hq'
    subst hp' hq' Zeh
    refine wpAny_bind (he2 prog w _ _ ?_)
    by_cases e:x=y
    ·rw [show (x==y)=true from beq_iff_eq.mpr e]
     wp_walk
     exact ⟨rfl,rfl,.inr (.inr ⟨rfl,e1,e⟩)⟩
    ·rw [show (x==y)=false from beq_eq_false_iff_ne.mpr e]
     have hR:R (.ok (.ret (.bool (decide (x.cps.toList < y.cps.toList))))) ⟨hp,g,d,tk,os⟩:=by
      unfold Cd at h
      rw [if_pos e1] at h
      exact h
     wp_walk using g2
     exact ⟨_,rfl,by simpa using hR⟩
   ·cases hz
  case fin=>
   rintro ⟨b1,b2⟩ s' ⟨hb',rfl,hz | ⟨hz,_⟩ | ⟨_,e1,e2⟩⟩
   ·cases hz
   ·cases hz
   ·simp only at hb'
    subst hb'
    have hR:R (.ok (.ret (.bool false))) ⟨hp,g,d,tk,os⟩:=by
     unfold Cd at h
     rw [if_pos e1,e2,Zos] at h
     exact h
    wp_walk
    exact ⟨_,rfl,by simpa [Builtin.Tuple.tupleCompareSizes] using hR⟩
  case h=>
   exact ⟨rfl,rfl,.inl rfl⟩
end
section
variable {X:Cx} {K:W.Frag}
inductive Zhe (K:W.Frag) (v:V) (u:V) (H:Hp) (Q:VK):Prop
 | mk (p q a b x y:_) (h1:v=.ref p) (h2:u=.ref q) (h3:SqT K H p [.int a,.str x]) (h4:SqT K H q [.int b,.str y]) (h5:Q (.bl (Cd a b x y)) H):Zhe K v u H Q
def Zqv (K:W.Frag):R2:=λv u H Q=>Zhe K v u H Q
theorem Zk2 (hu:X.A.units < cLine) (hK:X.K=K:=by rfl):OpR X (compareOp .Lt) (Zqv K):=by
 subst hK
 intro pins s σ H v u v' u' Q I rx ry h
 obtain ⟨p,q,a,b,x,y,rfl,rfl,hp,hq,k⟩:=h
 cases rx
 cases ry
 obtain ⟨i1,r1,p1,_⟩:=I.tuple hp
 obtain ⟨i2,r2,p2,_⟩:=I.tuple hq
 cases r1 with
 | cons ra rr=>
  cases rr with
  | cons rb rr=>
   cases rr
   cases r2 with
   | cons rc rr=>
    cases rr with
    | cons rd rr=>
     cases rr
     obtain ⟨t1,rfl⟩:=ra
     obtain ⟨t2,rfl⟩:=rb
     obtain ⟨t3,rfl⟩:=rc
     obtain ⟨t4,rfl⟩:=rd
     obtain ⟨⟨cls,dd,data,sl⟩,ho,hc,n,hd⟩:=id p1
     obtain ⟨⟨Zsk,dd2,data2,sl2⟩,ho2,hc2,n2,hd2⟩:=id p2
     simp only at hc hd hc2 hd2
     subst hc hd hc2 hd2
     exact richCompare_meets_room (op:=.Lt) ⟨_,ho,rfl⟩ ⟨_,ho2,rfl⟩ PySem.F.slot_tuple_lt PySem.F.entry_tuple_lt (PySem.F.args_tuple_lt_2 _ _) (Bj p q a b t1 t2 t3 t4 x y n n2 dd dd2 sl sl2)
      ⟨ho,ho2,show Value.bool (Cd a b x y)≠Value.notImplemented∧EP X pins σ Q (.bool (Cd a b x y)) s from ⟨(λz=>nomatch z),⟨.bl _,H,I,rfl,k⟩⟩⟩ hu
end
end L2
namespace My
open PySem PySem.Spec PyProof.Rows L2
def top (i:Nat):Stmt:=PySem.Challenge.pw_spreadwords_k22_whole_same_machines.main.body.getD i (.Pass ⟨0,0,0,0⟩)
abbrev Vj:Stmt:=top 6
abbrev V1:Stmt:=top 7
abbrev Wz:Stmt:=top 8
abbrev Wq:Stmt:=top 11
abbrev Wy:Stmt:=top 12
abbrev X4:Stmt:=top 13
abbrev Wc:Stmt:=top 14
abbrev P1:Stmt:=top 15
abbrev Vx:Stmt:=top 16
abbrev Wd:Stmt:=top 17
abbrev Ur:Stmt:=top 19
abbrev Y4:Stmt:=top 20
abbrev Xt:Stmt:=top 22
abbrev Xs:Stmt:=top 23
abbrev V2:Stmt:=top 24
abbrev Y3:Stmt:=top 25
abbrev W9:Stmt:=top 29
abbrev Xj:Stmt:=top 30
abbrev Wo:Stmt:=top 31
abbrev X3:Stmt:=top 32
abbrev Y2:Stmt:=top 33
abbrev X2:Stmt:=top 34
abbrev Xk:Stmt:=top 35
abbrev V0:Stmt:=top 37
abbrev Vz:Stmt:=top 38
abbrev Xw:Stmt:=top 39
abbrev Vc:Stmt:=top 40
abbrev Xc:Stmt:=top 41
abbrev Wn:Stmt:=top 42
abbrev Xf:Stmt:=top 43
abbrev Yk:Stmt:=top 44
abbrev Y5:Stmt:=top 45
abbrev Z4:Stmt:=top 46
abbrev Va:Stmt:=top 47
abbrev Vy:Stmt:=top 48
abbrev Vb:Stmt:=top 49
abbrev Yn:Stmt:=top 50
abbrev Yu:Stmt:=top 51
abbrev N7:Stmt:=top 52
theorem F0:Z0 ["row"] ["row"] (Zf Vj):=⟨rfl,rfl,rfl,by decide +kernel,rfl,by decide +kernel,by decide +kernel⟩
theorem Zbi:Z0 ["text"] ["text"] (Zf V1):=⟨rfl,rfl,rfl,by decide +kernel,rfl,by decide +kernel,by decide +kernel⟩
theorem Gr:Z0 ["text"] ["text"] (Zf Wz):=⟨rfl,rfl,rfl,by decide +kernel,rfl,by decide +kernel,by decide +kernel⟩
theorem Dk:Z0 ["rooms","count"] ["rooms","count"] (Zf Wq):=⟨rfl,rfl,rfl,by decide +kernel,rfl,by decide +kernel,by decide +kernel⟩
theorem Tz:Z0 ["letters","steps","number","row"] ["letters","steps"] (Zf Wy):=⟨rfl,rfl,rfl,by decide +kernel,rfl,by decide +kernel,by decide +kernel⟩
theorem W6:Z0 ["machine","letters","ends","steps"] ["machine"] (Zf X4):=⟨rfl,rfl,rfl,by decide +kernel,rfl,by decide +kernel,by decide +kernel⟩
theorem X0:Z0 ["machine","room","text","letters","steps","behind","letter"] ["machine","room","text"] (Zf Wc):=⟨rfl,rfl,rfl,by decide +kernel,rfl,by decide +kernel,by decide +kernel⟩
theorem Zg3:Z0 ["machine","text"] ["machine","text"] (Zf P1):=⟨rfl,rfl,rfl,by decide +kernel,rfl,by decide +kernel,by decide +kernel⟩
theorem B2:Z0 ["one","other"] ["one","other"] (Zf Vx):=⟨rfl,rfl,rfl,by decide +kernel,rfl,by decide +kernel,by decide +kernel⟩
theorem J3:Z0 ["one","other","pair","letter"] ["one","other","pair","letter"] (Zf Wd):=⟨rfl,rfl,rfl,by decide +kernel,rfl,by decide +kernel,by decide +kernel⟩
theorem Yw:Z0 ["letters","begin","step","texts","level","longer","place","letter","ahead"] ["letters","begin","step"] (Zf Ur):=⟨rfl,rfl,rfl,by decide +kernel,rfl,by decide +kernel,by decide +kernel⟩
theorem Xb:Z0 ["letters","begin","step","is_end","numbers","number","place","ends","steps"] ["letters","begin","step","is_end"] (Zf Y4):=⟨rfl,rfl,rfl,by decide +kernel,rfl,by decide +kernel,by decide +kernel⟩
theorem Sa:Z0 ["rows","firsts"] ["rows"] (Zf Xt):=⟨rfl,rfl,rfl,by decide +kernel,rfl,by decide +kernel,by decide +kernel⟩
theorem Y0:Z0 ["machine","steps","likes","count","rows","room","row"] ["machine"] (Zf Xs):=⟨rfl,rfl,rfl,by decide +kernel,rfl,by decide +kernel,by decide +kernel⟩
theorem J4:Z0 ["machine","likes","step"] ["machine"] (Zf V2):=⟨rfl,rfl,rfl,by decide +kernel,rfl,by decide +kernel,by decide +kernel⟩
theorem W5:Z0 ["one","other","begins","texts","pair"] ["one","other"] (Zf Y3):=⟨rfl,rfl,rfl,by decide +kernel,rfl,by decide +kernel,by decide +kernel⟩
theorem B1:Z0 ["name","numbers"] ["name","numbers"] (Zf W9):=⟨rfl,rfl,rfl,by decide +kernel,rfl,by decide +kernel,by decide +kernel⟩
theorem R0:Z0 ["machine","rows"] ["machine"] (Zf Xj):=⟨rfl,rfl,rfl,by decide +kernel,rfl,by decide +kernel,by decide +kernel⟩
theorem N6:Z0 ["word","figures"] ["word"] (Zf Wo):=⟨rfl,rfl,rfl,by decide +kernel,rfl,by decide +kernel,by decide +kernel⟩
theorem Ub:Z0 ["row","words","letters"] ["row"] (Zf X3):=⟨rfl,rfl,rfl,by decide +kernel,rfl,by decide +kernel,by decide +kernel⟩
theorem R4:Z0 ["rows","at","name","words"] ["rows","at","name"] (Zf Y2):=⟨rfl,rfl,rfl,by decide +kernel,rfl,by decide +kernel,by decide +kernel⟩
theorem R1:Z0 ["rows","at","name","count","numbers"] ["rows","at","name","count"] (Zf X2):=⟨rfl,rfl,rfl,by decide +kernel,rfl,by decide +kernel,by decide +kernel⟩
theorem Xa:Z0 ["text","rows","letters","begin","ends","last","steps"] ["text"] (Zf Xk):=⟨rfl,rfl,rfl,by decide +kernel,rfl,by decide +kernel,by decide +kernel⟩
theorem B3:Z0 ["_law_script"] ["_law_script"] (Zf V0):=⟨rfl,rfl,rfl,by decide +kernel,rfl,by decide +kernel,by decide +kernel⟩
theorem Qk:Z0 ["_law_flow_here","_law_many","_law_cell","_law_digit"] ["_law_flow_here","_law_many"] (Zf Vz):=⟨rfl,rfl,rfl,by decide +kernel,rfl,by decide +kernel,by decide +kernel⟩
theorem Ql:Z0 ["_law_flow_here","_law_many","_law_left"] ["_law_flow_here","_law_many"] (Zf Xw):=⟨rfl,rfl,rfl,by decide +kernel,rfl,by decide +kernel,by decide +kernel⟩
theorem Dj:Z0 ["_law_word"] ["_law_word"] (Zf Vc):=⟨rfl,rfl,rfl,by decide +kernel,rfl,by decide +kernel,by decide +kernel⟩
theorem X1:Z0 ["_law_letters_here","_law_most","_law_found","_law_here","_law_turn"] ["_law_letters_here","_law_most"] (Zf Xc):=⟨rfl,rfl,rfl,by decide +kernel,rfl,by decide +kernel,by decide +kernel⟩
theorem S3:Z0 ["_law_words","_law_letters_here","_law_found","_law_word"] ["_law_words","_law_letters_here"] (Zf Wn):=⟨rfl,rfl,rfl,by decide +kernel,rfl,by decide +kernel,by decide +kernel⟩
theorem Wm:Z0 ["_law_flow_here","_law_letters_here","_law_most","_law_rooms","_law_ends","_law_steps","_law_room"] ["_law_flow_here","_law_letters_here","_law_most"] (Zf Xf):=⟨rfl,rfl,rfl,by decide +kernel,rfl,by decide +kernel,by decide +kernel⟩
theorem Z9:Z0 ["_law_flow_here","_law_letters_here","_law_most","_law_rooms","_law_ends","_law_steps","_law_room","_law_row","_law_letter","_law_stays"] ["_law_flow_here","_law_letters_here","_law_most"] (Zf Yk):=⟨rfl,rfl,rfl,by decide +kernel,rfl,by decide +kernel,by decide +kernel⟩
theorem Z5:Z0 ["_law_machine_here","_law_letters_here","_law_begin","_law_ends","_law_steps","_law_sort","_law_many","_law_rows","_law_known","_law_row","_law_order_here","_law_numbers","_law_at","_law_to","_law_found"] ["_law_machine_here"] (Zf Y5):=⟨rfl,rfl,rfl,by decide +kernel,rfl,by decide +kernel,by decide +kernel⟩
theorem Zp:Z0 ["_law_flow_here","_law_machine_here","_law_most","_law_letters_here","_law_begin","_law_ends","_law_steps","_law_turn","_law_like","_law_row","_law_at","_law_left","_law_order_here","_law_rows"] ["_law_flow_here","_law_machine_here","_law_most"] (Zf Z4):=⟨rfl,rfl,rfl,by decide +kernel,rfl,by decide +kernel,by decide +kernel⟩
theorem Xe:Z0 ["_law_flow_here","_law_machine_here","_law_way","_law_letters_here","_law_begin","_law_ends","_law_steps","_law_other","_law_at","_law_some_here","_law_row"] ["_law_flow_here","_law_machine_here"] (Zf Va):=⟨rfl,rfl,rfl,by decide +kernel,rfl,by decide +kernel,by decide +kernel⟩
theorem Qj:Z0 ["_law_flow_here","_law_rising","_law_letters_here"] ["_law_flow_here"] (Zf Vy):=⟨rfl,rfl,rfl,by decide +kernel,rfl,by decide +kernel,by decide +kernel⟩
theorem Di:Z0 ["_law_one","_law_other","_law_text"] ["_law_one","_law_other","_law_text"] (Zf Vb):=⟨rfl,rfl,rfl,by decide +kernel,rfl,by decide +kernel,by decide +kernel⟩
theorem Uq:Z0 ["_law_one","_law_other","_law_text","_law_ahead_of"] ["_law_one","_law_other","_law_text"] (Zf Yn):=⟨rfl,rfl,rfl,by decide +kernel,rfl,by decide +kernel,by decide +kernel⟩
theorem Up:Z0 ["_law_machine_here","_law_found"] ["_law_machine_here"] (Zf Yu):=⟨rfl,rfl,rfl,by decide +kernel,rfl,by decide +kernel,by decide +kernel⟩
theorem Lc:Z0 ["_law_script","_law_flow_here","_law_one","_law_k","_law_other","_law_text"] ["_law_script"] (Zf N7):=⟨rfl,rfl,rfl,by decide +kernel,rfl,by decide +kernel,by decide +kernel⟩
theorem Lm:(Yr ["_law_k"] ["_law_flow_here","_law_many","_law_left"] [0,2]).Nodup:=by decide +kernel
theorem Ka:(Yr ["n"] ["row"] [0]).Nodup:=by decide +kernel
theorem D6:(Yr ["sign"] ["text"] []).Nodup:=by decide +kernel
theorem Kt:(Yr ["room"] ["machine","steps","likes","count","rows","room","row"] [0]).Nodup:=by decide +kernel
theorem Ks:(Yr ["ahead"] ["machine","steps","likes","count","rows","room","row"] [2]).Nodup:=by decide +kernel
theorem Mg:(Yr ["place"] ["letters","begin","step","is_end","numbers","number","place","ends","steps"] [3,4]).Nodup:=by decide +kernel
theorem Mf:(Yr ["letter"] ["letters","begin","step","is_end","numbers","number","place","ends","steps"] [2,4,6]).Nodup:=by decide +kernel
theorem Ll:(Yr ["_law_room"] ["_law_flow_here","_law_letters_here","_law_most","_law_rooms","_law_ends","_law_steps","_law_room"] [0]).Nodup:=by decide +kernel
theorem Lj:(Yr ["_law_letter"] ["_law_flow_here","_law_letters_here","_law_most","_law_rooms","_law_ends","_law_steps","_law_room"] [0,3]).Nodup:=by decide +kernel
theorem Iq:(Yr ["_law_room"] ["_law_machine_here","_law_letters_here","_law_begin","_law_ends","_law_steps","_law_sort","_law_many","_law_rows","_law_known","_law_row","_law_order_here","_law_numbers","_law_at","_law_to","_law_found"] [3]).Nodup:=by decide +kernel
theorem Ip:(Yr ["_law_room"] ["_law_machine_here","_law_letters_here","_law_begin","_law_ends","_law_steps","_law_sort","_law_many","_law_rows","_law_known","_law_row","_law_order_here","_law_numbers","_law_at","_law_to","_law_found"] [4,5]).Nodup:=by decide +kernel
theorem Io:(Yr ["_law_to"] ["_law_room","_law_steps","_law_sort"] [2]).Nodup:=by decide +kernel
theorem Im:(Yr ["_law_row"] ["_law_machine_here","_law_letters_here","_law_begin","_law_ends","_law_steps","_law_sort","_law_many","_law_rows","_law_known","_law_row","_law_order_here","_law_numbers","_law_at","_law_to","_law_found"] [8]).Nodup:=by decide +kernel
theorem Il:(Yr ["_law_room"] ["_law_machine_here","_law_letters_here","_law_begin","_law_ends","_law_steps","_law_sort","_law_many","_law_rows","_law_known","_law_row","_law_order_here","_law_numbers","_law_at","_law_to","_law_found"] [4,5,11]).Nodup:=by decide +kernel
theorem Ik:(Yr ["_law_to"] ["_law_room","_law_steps","_law_sort","_law_numbers"] [2,3]).Nodup:=by decide +kernel
theorem Qw:(Yr ["_law_at","_law_room"] ["_law_machine_here","_law_letters_here","_law_begin","_law_ends","_law_steps","_law_sort","_law_many","_law_rows","_law_known","_law_row","_law_order_here","_law_numbers","_law_at","_law_to","_law_found"] [3]).Nodup:=by decide +kernel
theorem Sy:(Yr ["_law_room"] ["_law_flow_here","_law_letters_here","_law_most","_law_rooms","_law_ends","_law_steps","_law_room","_law_row","_law_letter","_law_stays"] [0]).Nodup:=by decide +kernel
theorem Sv:(Yr ["_law_row"] ["_law_flow_here","_law_machine_here","_law_most","_law_letters_here","_law_begin","_law_ends","_law_steps","_law_turn","_law_like","_law_row","_law_at","_law_left","_law_order_here","_law_rows"] []).Nodup:=by decide +kernel
theorem Su:(Yr ["_law_room"] ["_law_flow_here","_law_machine_here","_law_most","_law_letters_here","_law_begin","_law_ends","_law_steps","_law_turn","_law_like","_law_row","_law_at","_law_left","_law_order_here","_law_rows"] [0,11]).Nodup:=by decide +kernel
theorem Ss:(Yr ["_law_room"] ["_law_flow_here","_law_machine_here","_law_most","_law_letters_here","_law_begin","_law_ends","_law_steps","_law_turn","_law_like","_law_row","_law_at","_law_left","_law_order_here","_law_rows"] [6,12]).Nodup:=by decide +kernel
theorem Sr:(Yr ["_law_to"] ["_law_room","_law_steps","_law_order_here"] [2]).Nodup:=by decide +kernel
theorem So:(Yr ["_law_room"] ["_law_flow_here","_law_machine_here","_law_most","_law_letters_here","_law_begin","_law_ends","_law_steps","_law_turn","_law_like","_law_row","_law_at","_law_left","_law_order_here","_law_rows"] [12]).Nodup:=by decide +kernel
theorem Gz:(Yr ["_law_room"] ["_law_flow_here","_law_machine_here","_law_way","_law_letters_here","_law_begin","_law_ends","_law_steps","_law_other","_law_at","_law_some_here","_law_row"] [7,8]).Nodup:=by decide +kernel
theorem Gy:(Yr ["number"] ["name","numbers"] []).Nodup:=by decide +kernel
theorem Mb:(Yr ["row"] ["machine","rows"] []).Nodup:=by decide +kernel
theorem Ir:(Yr ["sign"] ["word","figures"] []).Nodup:=by decide +kernel
theorem Md:(Yr ["word"] ["rows","at","name","words"] []).Nodup:=by decide +kernel
theorem Mc:(Yr ["word"] ["rows","at","name","words"] []).Nodup:=by decide +kernel
theorem Me:(Yr ["at"] ["text","rows","letters","begin","ends","last","steps"] [1,2]).Nodup:=by decide +kernel
theorem Iu:(Yr ["room"] ["rooms","count"] [1]).Nodup:=by decide +kernel
theorem Ij:(Yr ["_law_letter"] ["_law_words","_law_letters_here","_law_found","_law_word"] [3]).Nodup:=by decide +kernel
theorem Ux:(Yr ["_law_word","_law_letter"] ["_law_letters_here","_law_most","_law_found","_law_here","_law_turn"] []).Nodup:=by decide +kernel
theorem Qy:(Yr ["_law_word"] ["_law_one","_law_other","_law_text","_law_ahead_of"] [2]).Nodup:=by decide +kernel
theorem Qx:(Yr ["_law_word"] ["_law_one","_law_other","_law_text","_law_ahead_of"] [0,1]).Nodup:=by decide +kernel
theorem Qu:(Yr ["_law_word"] ["_law_machine_here","_law_found"] [0,1]).Nodup:=by decide +kernel
theorem W7:(Yr ["number","row"] ["rows","firsts"] [1]).Nodup:=by decide +kernel
structure Blt (mg:Str→Option Value):Prop where
 all:mg "all" = none
 any:mg "any" = none
 enumerate:mg "enumerate" = none
 int:mg "int" = none
 isinstance:mg "isinstance" = none
 len:mg "len" = none
 list:mg "list" = none
 max:mg "max" = none
 min:mg "min" = none
 range:mg "range" = none
 set:mg "set" = none
 sorted:mg "sorted" = none
 str:mg "str" = none
 tuple:mg "tuple" = none
section
variable {P:Program} {w:World} {K:W.Frag} {mg:Str→Option Value} {base:Heap}
theorem Ut {K:W.Frag} {σ:L2.St} {H:Hp} {Q:VK} {p:Addr} {xs:List V} {i:Int} {v:V} {j:Nat} (h0:σ[j]? = some (some (.ref p))) (hp:H p=some (.lst xs)) (hv:atI xs i=some v) (q:Q v H):tOp (Zoe K) (M7 j) (tC (.int i)) σ H Q:=
 ⟨_,h0,p,xs,i,v,rfl,rfl,SqL.of hp,hv,q⟩
theorem An {f:Addr} {fd:FuncData} (F:Fun K "_law_flow" "_law_flow" V0 f fd) (Z:Blt mg):Yp P w K mg base CX0 1 f fd ["_law_script"] (Zbg K):=by
 refine F.ok B3 (λvs H Q E h=>?_) (λcdv A outer s H vs Q E hr h=>?_)
 ·obtain ⟨a,ns,rfl,_⟩:=h
  rfl
 obtain ⟨a,ns,rfl,hS,k⟩:=h
 refine ⟨_,(Zi (Z1 (X9 (Za (Zu (U5 (K:=K)) (by rfl) Z.list Ro (Za (pv 0) Zc)) (Za Zh (Za Zh (Za Zh (Za Zh Zc)))))))),?_⟩
 refine ⟨_,rfl,a,_,rfl,.inl hS,λl hl=>?_⟩
 refine ⟨(by show 5≤sizeLine; decide),λp hp=>?_⟩
 have e1:Zo H (upd H l (.lst (ns.map V.int))):=Ze hl _
 refine k p l _ (e1.free hp) (e1.trans (Ze hp _)) ⟨⟨_,Zb,0,0,1,0,rfl,by decide,by decide,by decide,by decide,by decide⟩,ns,?_⟩
 rw [Zj (Zg Zb hp)]
 exact Zb
theorem Sk (c:Int) (m:Int) (hm:0 < m):0≤c % m∧c % m < m:=⟨Int.emod_nonneg _ (by omega),Int.emod_lt_of_pos _ hm⟩
theorem Zjx {ns:List Int} {a:Int} (h0:0≤a) (h1:a < ((ns.map V.int).length:Int)):∃ z,atI (ns.map V.int) a=some (.int z):=by
 have hk:a.toNat < ns.length:=by
  rw [List.length_map] at h1
  omega
 have q:atI (ns.map V.int) ((a.toNat:Nat):Int)=some (.int ns[a.toNat]):=Zl (by rw [List.getElem?_map,List.getElem?_eq_getElem hk]; rfl)
 rw [show ((a.toNat:Nat):Int)=a by omega] at q
 exact ⟨_,q⟩
theorem Al {f:Addr} {fd:FuncData} (F:Fun K "_law_pick" "_law_pick" Vz f fd) (Z:Blt mg):Yp P w K mg base CX0 1 f fd ["_law_flow_here","_law_many"] Qh:=by
 refine F.ok Qk (λvs H Q E h=>?_) (λcdv A outer s H vs Q E hr h=>?_)
 ·obtain ⟨p,sc,m,rfl,_⟩:=h
  rfl
 obtain ⟨p,sc,m,rfl,hm0,hm1,FA,k⟩:=h
 obtain ⟨xs,hp,a,b,c,d,rfl,ha,hb,hc0,hc1,hd⟩:=FA.here
 obtain ⟨ns,hs⟩:=FA.cells
 refine ⟨_,(Zdv (Xm (PW.pt (Le (Z7 Ue (Zs (Zz (K:=K)) (pv 0) Zh (λ_ _=>rfl)) Zh (Z8 _)) (P6 (Z7 F5 (Zs (Zz (K:=K)) (pv 0) Zh (λ_ _=>rfl)) (Zn (Z3 (K:=K)) (by rfl) Z.len Ya (Za (Zs (Zz (K:=K)) (pv 0) Zh (λ_ _=>rfl)) Zc)) (Z8 _))))) 
    (Zd (Zm (i:=2) Qk.nd (by rfl) (Or.inl (by rfl)) (Zs (Zz (K:=K)) (Zs (Zz (K:=K)) (pv 0) Zh (λ_ _=>rfl)) (Zs (Zz (K:=K)) (pv 0) Zh (λ_ _=>rfl)) (λ_ _=>rfl))) 
    (Zd (Uv (Yj Wh (Zs (Zz (K:=K)) (pv 0) Zh (λ_ _=>rfl)) Zh) (Qp (pv 0) Zh set_list)) 
    (Zi (Xm (Z7 Zra (pv 2) (Yj Zoi Zh Zh) (Z8 _)) 
     (Zi (Uv (pv 2) (Qp (pv 0) Zh set_list))) 
     (Zi (Uv (Yj O5 (Yj Wh (Yj Wh (Yj Zbq (Zs (Zz (K:=K)) (pv 0) Zh (λ_ _=>rfl)) Zh) (Yj O5 (pv 2) Zh)) Zh) Zh) (Qp (pv 0) Zh set_list))))))) Yh) 
   (Zd (Xm (Z7 Zhw (Zs (Zz (K:=K)) (pv 0) Zh (λ_ _=>rfl)) Zh (Z8 _)) 
    (Zd (Zm (i:=3) Qk.nd (by rfl) (Or.inl (by rfl)) (Yj O5 (Zs (Zz (K:=K)) (pv 0) Zh (λ_ _=>rfl)) (pv 1))) 
    (Zd (Uv (Yj Dv (Zs (Zz (K:=K)) (pv 0) Zh (λ_ _=>rfl)) (pv 1)) (Qp (pv 0) Zh set_list)) 
    (Zi (Z1 (pv 3))))) Yh) 
   (Zd (Uv (Yj Wh (Zs (Zz (K:=K)) (pv 0) Zh (λ_ _=>rfl)) Zh) (Qp (pv 0) Zh set_list)) 
   (Zd (Uv (Yj O5 (Yj Wh (Yj Wh (Yj Zbq (Zs (Zz (K:=K)) (pv 0) Zh (λ_ _=>rfl)) Zh) Zh) (Zs (Zz (K:=K)) (pv 0) Zh (λ_ _=>rfl))) Zh) (Qp (pv 0) Zh set_list)) 
   (Zi (Z1 (Yj O5 (Yj Dv (Yj O5 (Yj Zbq (Yj Wh (Yj O5 (Zs (Zz (K:=K)) (pv 0) Zh (λ_ _=>rfl)) Zh) Zh) (Yj Wh (Yj Dv (Zs (Zz (K:=K)) (pv 0) Zh (λ_ _=>rfl)) Zh) Zh)) Zh) Zh) (pv 1)))))))),?_⟩
 refine (let zz0:TS:=_; let zz1:TS:=Zq _ zz0; let zz2:TS:=Zq _ zz1; let zz3:TS:=_; let zz4:TS:=Zq _ zz3; let zz5:TS:=Zq _ zz4; let zz6:TS:=Zq (Za9 _ zz5 _) zz2; let zz7:TS:=_; let zz8:TS:=Zq _ zz7; let zz9:TS:=Zq _ zz8; (?_:Znw (Za9 _ zz9 _) zz6 _ _ _))
 refine ⟨λσ' H'=>∃ cv xs',σ'=[some (V.ref p),some (V.int m),cv,none]∧H' p=some (.lst xs')∧(∀ o,upd H' p o=upd H p o)∧L4 sc xs',?_,?_⟩
 ·have Jq:∃ cv xs',[some (V.ref p),some (V.int m),none,none]=[some (V.ref p),some (V.int m),cv,none]∧H p=some (.lst xs')∧(∀ o,upd H p o=upd H p o)∧L4 sc xs':=⟨_,_,rfl,hp,λ_=>rfl,a,b,c,d,rfl,ha,hb,hc0,hc1,hd⟩
  refine Ut rfl hp (Zl (j:=2) rfl) ?_
  refine ⟨rfl,_,rfl,?_⟩
  refine V9 (λ_=>?_) (λ_=>Jq)
  refine Ut rfl hp (Zl (j:=1) rfl) ?_
  refine Ut rfl hp (Zl (j:=0) rfl) ?_
  refine ⟨sc,_,rfl,.inl (SqL.of hs),_,_,rfl,rfl,_,rfl,?_⟩
  refine V9 (λlt=>?_) (λ_=>Jq)
  obtain ⟨z,hz⟩:=Zjx (ns:=ns) ha (of_decide_eq_true lt)
  refine Ut rfl hp (Zl (j:=0) rfl) ?_
  refine Ut rfl hp (Zl (j:=1) rfl) ?_
  refine ⟨sc,_,_,_,rfl,rfl,SqL.of hs,hz,?_⟩
  refine Ut rfl hp (Zl (j:=1) rfl) ?_
  refine ⟨_,_,rfl,rfl,_,rfl,p,_,_,1,rfl,rfl,hp,rfl,?_⟩
  have hp1:upd H p (.lst [.ref sc,.int (a+1),.int b,.int c,.int d]) p=some (.lst [.ref sc,.int (a+1),.int b,.int c,.int d]):=Zb
  refine ⟨_,rfl,_,_,rfl,rfl,⟨by decide,by decide,by decide⟩,_,_,rfl,rfl,_,rfl,?_⟩
  refine V9 (λbig=>?_) (λ_=>?_)
  ·have big':(10:Int) ^ 18≤z:=of_decide_eq_true big
   refine ⟨_,rfl,_,rfl,p,_,_,2,rfl,rfl,hp1,rfl,?_⟩
   exact ⟨_,_,rfl,Zb,λo=>by rw [Ny,Ny],a+1,z,c,d,rfl,by omega,by omega,hc0,hc1,hd⟩
  ·refine Ut rfl hp1 (Zl (j:=3) rfl) ?_
   refine ⟨_,_,rfl,rfl,.inl ⟨by omega,by omega⟩,?_⟩
   refine ⟨_,rfl,_,_,rfl,rfl,(by show (0:Int) < 1000003; decide),_,_,rfl,rfl,_,_,rfl,rfl,_,_,rfl,rfl,(by show (0:Int) < 2147483647; decide),?_⟩
   refine ⟨_,rfl,p,_,_,3,rfl,rfl,hp1,rfl,?_⟩
   have q:=Sk (c * 40013+z % 1000003+1) 2147483647 (by decide)
   exact ⟨_,_,rfl,Zb,λo=>by rw [Ny,Ny],a+1,b,_,d,rfl,by omega,hb,q.1,q.2,hd⟩
 ·rintro σ' H' ⟨cv,xs',rfl,hp',hu,a',b',c',d',rfl,ha',hb',hc0',hc1',hd'⟩
  refine Ut rfl hp' (Zl (j:=2) rfl) ?_
  refine ⟨_,_,rfl,rfl,_,rfl,?_⟩
  refine V9 (λpos=>?_) (λ_=>?_)
  ·have pos':0 < b':=of_decide_eq_true pos
   refine Ut rfl hp' (Zl (j:=2) rfl) ?_
   refine ⟨_,rfl,_,_,rfl,rfl,hm0,?_⟩
   refine Ut rfl hp' (Zl (j:=2) rfl) ?_
   refine ⟨_,rfl,_,_,rfl,rfl,⟨hm0,hm1⟩,_,rfl,p,_,_,2,rfl,rfl,hp',rfl,?_⟩
   refine ⟨_,rfl,?_⟩
   have q:=Sk b' m hm0
   have e:=k (b' % m) [.ref sc,.int a',.int (b' / m),.int c',.int d'] q.1 q.2 ⟨a',b' / m,c',d',rfl,ha',Int.ediv_nonneg hb' (by omega),hc0',hc1',hd'⟩
   rw [← hu] at e
   exact e
  ·refine Ut rfl hp' (Zl (j:=4) rfl) ?_
   refine ⟨_,_,rfl,rfl,_,rfl,p,_,_,4,rfl,rfl,hp',rfl,?_⟩
   have hp2:upd H' p (.lst [.ref sc,.int a',.int b',.int c',.int (d'+1)]) p=some (.lst [.ref sc,.int a',.int b',.int c',.int (d'+1)]):=Zb
   refine Ut rfl hp2 (Zl (j:=3) rfl) ?_
   refine ⟨_,_,rfl,rfl,.inl ⟨by omega,by omega⟩,_,_,rfl,rfl,?_⟩
   refine Ut rfl hp2 (Zl (j:=4) rfl) ?_
   refine ⟨_,_,rfl,rfl,_,_,rfl,rfl,(by show (0:Int) < 2147483647; decide),?_⟩
   refine ⟨_,rfl,p,_,_,3,rfl,rfl,hp2,rfl,?_⟩
   have q:=Sk (c' * 48271+12820163+(d'+1)) 2147483647 (by decide)
   have hp3:∀ H3:Hp,upd H3 p (.lst [.ref sc,.int a',.int b',.int ((c' * 48271+12820163+(d'+1)) % 2147483647),.int (d'+1)]) p=some (.lst [.ref sc,.int a',.int b',.int ((c' * 48271+12820163+(d'+1)) % 2147483647),.int (d'+1)]):=λ_=>Zb
   refine Ut rfl (hp3 _) (Zl (j:=3) rfl) ?_
   refine ⟨_,_,rfl,rfl,(by show (0:Int) < 65521; decide),_,_,rfl,rfl,?_⟩
   refine Ut rfl (hp3 _) (Zl (j:=3) rfl) ?_
   have q2:=Sk ((c' * 48271+12820163+(d'+1)) % 2147483647) 65521 (by decide)
   refine ⟨_,_,rfl,rfl,⟨by decide,by decide⟩,_,_,rfl,rfl,_,_,rfl,rfl,.inl ⟨by omega,by omega⟩,_,_,rfl,rfl,(by show (0:Int) < 1000003; decide),_,_,rfl,rfl,⟨by decide,by decide⟩,_,rfl,_,_,rfl,rfl,hm0,?_⟩
   have q3:=Sk (((c' * 48271+12820163+(d'+1)) % 2147483647 % 65521+1) * ((c' * 48271+12820163+(d'+1)) % 2147483647 / 65521+7919) % 1000003 / 7) m hm0
   have e:=k _ [.ref sc,.int a',.int b',.int ((c' * 48271+12820163+(d'+1)) % 2147483647),.int (d'+1)] q3.1 q3.2 ⟨a',b',_,d'+1,rfl,ha',hb',q.1,q.2,by omega⟩
   rw [← hu,← Ny (H:=H') (o:=.lst [.ref sc,.int a',.int b',.int c',.int (d'+1)])] at e
   exact e
def one (c:Nat):Str:=⟨#[c]⟩
theorem Ze3 {ys':List Str} {cs:List Nat} (h:ys'.Perm (cs.map one)):∃ cs':List Nat,cs'.Perm cs∧ys'=cs'.map one:=by
 have e:∀ y∈ys',y=one (y.cps.toList.headD 0):=λy hy=>by
  obtain ⟨c,_,rfl⟩:=List.mem_map.mp (h.mem_iff.mp hy)
  rfl
 have e2:ys'=(ys'.map λy=>y.cps.toList.headD 0).map one:=by
  rw [List.map_map]
  have:∀ (l:List Str),(∀ y∈l,y=one (y.cps.toList.headD 0))→l=l.map (one ∘ λy=>y.cps.toList.headD 0):=by
   intro l
   induction l with
   | nil=>intro _; rfl
   | cons y r ih=>
    intro hl
    rw [List.map_cons,← ih λz hz=>hl z (List.mem_cons_of_mem _ hz)]
    exact congrArg (· :: r) (hl y List.mem_cons_self)
  exact this ys' e
 refine ⟨_,?_,e2⟩
 have p:=h.map λy:Str=>y.cps.toList.headD 0
 rw [List.map_map] at p
 have:(λy:Str=>y.cps.toList.headD 0) ∘ one=id:=rfl
 rw [this,List.map_id] at p
 exact p
theorem Zca (a b:Nat):ltCps (one a).cps.toList (one b).cps.toList=decide (a < b):=by
 rw [ltCps_eq]
 exact Lq a b
theorem L8:∀ (p:Nat) (cs:List Nat),risingS (one p) (cs.map one)=true→∀ c∈cs,p≤c
 | _,[],_,c,hc=>by cases hc
 | p,x :: r,h,c,hc=>by
  have h':(!ltCps (one x).cps.toList (one p).cps.toList && risingS (one x) (r.map one))=true:=h
  rw [Bool.and_eq_true,Zca] at h'
  have h1:p≤x:=by
   have:=h'.1
   simp at this
   exact this
  rcases List.mem_cons.mp hc with e | e
  ·subst e; exact h1
  ·exact Nat.le_trans h1 (L8 x r h'.2 c e)
theorem L7:∀ (cs:List Nat),sortedS (cs.map one)=true→cs.Pairwise (·≤·)
 | [],_=>.nil
 | p :: r,h=>by
  have h':risingS (one p) (r.map one)=true:=h
  refine List.Pairwise.cons (L8 p r h') (L7 r ?_)
  cases r with
  | nil=>rfl
  | cons x r=>
   have h2:(!ltCps (one x).cps.toList (one p).cps.toList && risingS (one x) (r.map one))=true:=h'
   rw [Bool.and_eq_true] at h2
   exact h2.2
theorem Q5:∀ {cs:List Nat},cs.Pairwise (·≤·)→cs.Nodup→cs.Pairwise (· < ·)
 | [],_,_=>.nil
 | p :: r,h,n=>by
  cases h with
  | cons h1 h2=>
   rw [List.nodup_cons] at n
   refine List.Pairwise.cons (λc hc=>?_) (Q5 h2 n.2)
   have:=h1 c hc
   have:p≠c:=λe=>n.1 (e▸hc)
   omega
theorem Ng {α:Type}:∀ {l:List α} {n:Nat} {v:α},l[n]? = some v→(v :: l.eraseIdx n).Perm l
 | [],n,v,h=>by simp at h
 | x :: r,0,v,h=>by
  have e:x=v:=by simpa using h
  subst e
  exact List.Perm.refl _
 | x :: r,n+1,v,h=>by
  have ih:=Ng (l:=r) (n:=n) (v:=v) (by simpa using h)
  rw [List.eraseIdx_cons_succ]
  exact (List.Perm.swap x v _).trans (List.Perm.cons x ih)
theorem Lx {α β:Type} (f:α→β):∀ (l:List α) (i:Nat),(l.map f).eraseIdx i=(l.eraseIdx i).map f
 | [],_=>rfl
 | _ :: _,0=>rfl
 | x :: r,i+1=>by
  rw [List.map_cons,List.eraseIdx_cons_succ,List.eraseIdx_cons_succ,List.map_cons,Lx f r i]
theorem Zfx (cs:List Nat):((cs.map one).map λy=>y.cps.toList).flatten=cs:=by
 induction cs with
 | nil=>rfl
 | cons c r ih=>rw [List.map_cons,List.map_cons,List.flatten_cons,ih]; rfl
theorem Zgu (cs:List Nat):((cs.map one).map (·.length)).sum=cs.length:=by
 induction cs with
 | nil=>rfl
 | cons c r ih=>rw [List.map_cons,List.map_cons,List.sum_cons,ih,List.length_cons,Nat.add_comm]; rfl
def abc:List Nat:=(List.range 26).map (· + 97)
theorem Zp4:(Str.ofString "abcdefghijklmnopqrstuvwxyz").cps.toList=abc:=by decide +kernel
theorem Zgc:abc.Nodup:=by decide +kernel
theorem Zl6 {c:Nat} (h:c∈abc):97≤c∧c≤122:=by
 unfold abc at h
 obtain ⟨i,hi,rfl⟩:=List.mem_map.mp h
 have:=List.mem_range.mp hi
 omega
theorem Zhz (cs:List Nat):cs.map Gs=(cs.map one).map V.str:=by
 rw [List.map_map]
 rfl
theorem Ii {f:Addr} {fd:FuncData} (F:Fun K "_law_letters" "_law_letters" Xw f fd) (Z:Blt mg) (Zr:Cal P w K mg base "_law_pick" 1 ["_law_flow_here","_law_many"] Qh) :
  Yp P w K mg base CX0 2 f fd ["_law_flow_here","_law_many"] Lb:=by
 refine F.ok Ql (λvs H Q E h=>?_) (λcdv A outer s H vs Q E hr h=>?_)
 ·obtain ⟨p,sc,m,rfl,_⟩:=h
  rfl
 obtain ⟨p,sc,m,rfl,hm0,hm1,FA,k⟩:=h
 refine ⟨_,(Zd (Zm (i:=2) Ql.nd (by rfl) (Or.inr (by rfl)) (Zu (Hy (by rfl)) (by rfl) Z.list Ro (Za Y6 Zc))) 
   (Zi (Z1 (Xd (K:=K) PySem.F.plainAttrs_str PySem.F.slot_str_join PySem.F.type_str_join (Iy (K:=K)) Y6 (Za (Zn (Zct (K:=K)) (by rfl) Z.sorted Ep (Za (Yc (sc:=Zf Xw) (Nm:=["_law_flow_here","_law_many","_law_left"]) (own:=["_law_k"]) (fr:=[0,2]) ⟨rfl,by decide +kernel,by decide +kernel,by decide +kernel,by decide +kernel⟩ (by rfl) (Z2 (by decide)) (Yz (by rfl) Z.range (Za (pv 1) Zc)) (λd=>(Zk (i:=0) Lm (by rfl) (Or.inl (by rfl)))) (λd=>Yb) (λd=>(Xd (K:=K) PySem.F.plainAttrs_list PySem.F.slot_list_pop PySem.F.type_list_pop Aq (pv 2) (Za (Yg Zr (hr.mono (by decide)) (Za (pv 1) (Za (Zn (Z3 (K:=K)) (by rfl) Z.len Ya (Za (pv 2) Zc)) Zc))) Zc)))) Zc)) Zc))))),?_⟩
 refine (let zz0:TS:=_; (?_:Zq _ zz0 _ _ _))
 refine ⟨_,rfl,(by decide +kernel),λl hl=>?_⟩
 have e1:Zo H (upd H l (.lst ((Str.ofString "abcdefghijklmnopqrstuvwxyz").cps.toList.map Gs))):=Ze hl _
 have npl:p≠l:=by
  obtain ⟨xs,hp,_⟩:=FA.here
  exact Zg hp hl
 refine ⟨rfl,_,rfl,_,rfl,by omega,by omega,?_⟩
 refine Xy (lo:=0) (k:=m.toNat) (λi acc H2=>∃ ys rem:List Nat,acc=ys.map Gs∧ys.length=i∧H2 l=some (.lst (rem.map Gs))∧(ys ++ rem).Perm abc∧Yf H2 p sc∧Ym H H2 p) (Nat.lt_of_le_of_lt (show m.toNat≤26 by omega) (by decide))
  ⟨[],abc,rfl,rfl,by rw [Zb,Zp4],List.Perm.refl _,FA.same e1,Ym.same e1⟩ (λi acc H2 ⟨ys,rem,e,hl',_⟩=>by rw [e,List.length_map,hl']; exact Nat.le_refl _) (λi acc H2 hi hp=>?_) (λacc H2 hp q hq=>?_)
 ·obtain ⟨ys,rem,rfl,hyl,Zci,Tu,FA2,dr⟩:=hp
  have hlen:ys.length+rem.length=26:=by
   have:=Tu.length_eq
   rw [List.length_append] at this
   exact this
  refine Vg ?_
  refine ⟨_,rfl,.inl ⟨rfl,_,SqL.of Zci⟩,_,rfl,_,rfl,l,_,rfl,.inl (SqL.of Zci),p,sc,_,rfl,?_,?_,FA2,λr xs hr0 hr1 hxs=>?_⟩
  ·rw [List.length_map]; omega
  ·rw [List.length_map]; omega
  ·have hr1':r < (rem.length:Int):=by
    rw [List.length_map] at hr1
    exact hr1
   have hrn:r.toNat < rem.length:=by omega
   have hv:rem[r.toNat]? = some rem[r.toNat]:=List.getElem?_eq_getElem hrn
   have hl2:upd H2 p (.lst xs) l=some (.lst (rem.map Gs)):=by rw [Zj (Ne.symm npl)]; exact Zci
   refine ⟨l,_,r,r.toNat,Gs rem[r.toNat],rfl,rfl,hl2,by omega,by omega,?_,?_,?_⟩
   ·rw [List.length_map]
    exact seqIndex_of hr0 hr1'
   ·rw [List.getElem?_map,hv]
    rfl
   ·refine ⟨ys ++ [rem[r.toNat]],rem.eraseIdx r.toNat,by rw [List.map_append]; rfl,by rw [List.length_append,hyl]; rfl,?_,?_,?_,?_⟩
    ·rw [Zb,Lx]
    ·rw [List.append_assoc]
     exact (List.Perm.append_left ys (Ng hv)).trans Tu
    ·have FA3:=FA2.go hxs
     obtain ⟨xs',h1,h2⟩:=FA3.here
     obtain ⟨ns,h3⟩:=FA3.cells
     refine ⟨⟨xs',by rw [Zj npl]; exact h1,h2⟩,ns,?_⟩
     rw [Zj ?_]
     ·exact h3
     ·obtain ⟨ns0,h0⟩:=FA.cells
      exact Zg h0 hl
    ·intro b o hb hne
     rw [Zj (Zg hb hl),Zj hne]
     exact dr b o hb hne
 ·obtain ⟨ys,rem,rfl,hyl,Zci,Tu,FA2,dr⟩:=hp
  have hn:ys.Nodup:=(List.nodup_append.mp (Tu.nodup_iff.mpr Zgc)).1
  refine ⟨q,ys.map one,rfl,SqL.of (by rw [Zb,Zhz]),by rw [List.length_map]; omega,λys' l2 hp2 hs2 hl2=>?_⟩
  obtain ⟨cs,hc,rfl⟩:=Ze3 hp2
  have hclen:=hc.length_eq
  refine ⟨_,l2,cs.map one,rfl,rfl,SqL.of Zb,?_,?_⟩
  ·rw [Zgu,List.length_map]
   have:(Str.ofString "").length=0:=by decide +kernel
   rw [this]
   omega
  ·have e3:=G6 (cs.map one)
   rw [Zfx] at e3
   refine k _ _ ⟨?_,?_,λc hcm=>?_⟩ ?_ ?_
   ·rw [e3]; omega
   ·rw [e3]
    exact Q5 (L7 cs hs2) (hc.nodup_iff.mpr hn)
   ·rw [e3] at hcm
    exact Zl6 (Tu.mem_iff.mp (List.mem_append_left _ (hc.mem_iff.mp hcm)))
   ·exact dr.trans (Ym.trans (Ym.same (Ze hq _)) (Ym.same (Ze hl2 _)))
   ·exact (FA2.same (Ze hq _)).same (Ze hl2 _)
theorem W8 {H0 H:Hp} {p:Addr} (d:Ym H0 H p) (o:HO):Ym H0 (upd H p o) p:=d.trans (Ym.upd o)
def Drawn (H:Hp) (p sc:Addr) (l:Str) (i:Nat) (acc:List V) (H2:Hp):Prop:=∃ ys:List Nat,acc=ys.map Gs∧ys.length=i∧(∀ c∈ys,c∈l.cps.toList)∧Yf H2 p sc∧Ym H H2 p
theorem Zne {α:Type} {xs:List α} {i:Nat} {v:α} (h:xs[i]? = some v):atI xs (0+(i:Int))=some v:=by
 rw [Int.zero_add]
 exact Zl h
def wB (c:Nat):Bool:=decide (97≤c) && decide (c≤122)
def rB (cs:List Nat) (i:Nat):Bool:=decide (cs.getD i 0 < cs.getD (i+1) 0)
def Zg7 (cs:List Nat):Bool:=((List.range (cs.length - 1)).map (rB cs)).all id
def Bf (cs:List Nat):Bool:=(cs.map wB).all id
inductive Ft (vs:List V) (H:Hp) (Q:VK):Prop
 | mk (z:Str) (h1:vs=[.str z]) (h2:z.length≤1000) (h3:∀ H',Zo H H'→Q (.bl (Zg7 z.cps.toList)) H'):Ft vs H Q
def N0:Sp:=λvs H Q u3_=>Ft vs H Q
inductive Fy (vs:List V) (H:Hp) (Q:VK):Prop
 | mk (z:Str) (h1:vs=[.str z]) (h2:z.length≤1000) (h3:∀ H',Zo H H'→Q (.bl (Bf z.cps.toList)) H'):Fy vs H Q
def N4:Sp:=λvs H Q u3_=>Fy vs H Q
def Zlf (cs:List Nat):Bool:=(decide (1≤cs.length) && decide (cs.length≤3)) && (Bf cs && Zg7 cs)
inductive N5 (vs:List V) (H:Hp) (Q:VK):Prop
 | mk (z:Str) (h1:vs=[.str z]) (h2:z.length≤1000) (h3:∀ H',Zo H H'→Q (.bl (Zlf z.cps.toList)) H'):N5 vs H Q
def Qi:Sp:=λvs H Q u3_=>N5 vs H Q
theorem len_list (z:Str):z.cps.toList.length=z.length:=by simp [Str.length]
theorem Zp5:(Str.ofString "a").cps.toList=[97]:=by decide +kernel
theorem z_list:(Str.ofString "z").cps.toList=[122]:=by decide +kernel
theorem Zjp {σ:L2.St} {H:Hp} {c:Nat} {Q:VK} {j:Nat} (hj:σ[j]? = some (some (.str ⟨#[c]⟩))) (q:Q (.bl (wB c)) H) :
  M8 (λx y H Q=>∃ i j,x=V.str i∧y=V.str j∧Q (.bl (!decide (j.cps.toList < i.cps.toList))) H) (λx y H Q=>∃ i j,x=V.str i∧y=V.str j∧Q (.bl (!decide (j.cps.toList < i.cps.toList))) H) (tC (.str (Str.ofString "a"))) (M7 j) (tC (.str (Str.ofString "z"))) σ H Q:=by
 refine ⟨_,hj,_,_,rfl,rfl,_,rfl,?_⟩
 have e1:decide ((⟨#[c]⟩:Str).cps.toList < (Str.ofString "a").cps.toList)=decide (c < 97):=by rw [Zp5]; exact Lq c 97
 have e2:decide ((Str.ofString "z").cps.toList < (⟨#[c]⟩:Str).cps.toList)=decide (122 < c):=by rw [z_list]; exact Lq 122 c
 rw [e1]
 by_cases h:c < 97
 ·have:wB c=false:=by unfold wB; rw [decide_eq_false (by omega)]; rfl
  rw [decide_eq_true h]
  rw [this] at q
  exact Sb q
 ·rw [decide_eq_false h]
  refine Mo ⟨_,_,rfl,rfl,?_⟩
  rw [e2]
  have:wB c = !decide (122 < c):=by
   unfold wB
   rw [decide_eq_true (show 97≤c by omega),Bool.true_and]
   by_cases h2:122 < c
   ·rw [decide_eq_true h2,decide_eq_false (by omega)]; rfl
   ·rw [decide_eq_false h2,decide_eq_true (by omega)]; rfl
  rw [this] at q
  exact q
def Seen (H:Hp) (f:Nat→Bool) (cs:List Nat) (i:Nat) (acc:List V) (H2:Hp):Prop:=acc=((cs.take i).map f).map V.bl∧i≤cs.length∧Zo H H2
theorem Zg2 {H:Hp} {f:Nat→Bool} {cs:List Nat}:∀ i acc H2,Seen H f cs i acc H2→acc.length≤i:=λi acc H2 ⟨e,_,_⟩=>by
 rw [e,List.length_map,List.length_map,List.length_take]
 exact Nat.min_le_left _ _
theorem Ze6 {H H2:Hp} {f:Nat→Bool} {cs:List Nat} {i:Nat} {acc:List V} {c:Nat} (hc:cs[i]? = some c) (h:Seen H f cs i acc H2):Seen H f cs (i+1) (acc ++ [.bl (f c)]) H2:=by
 obtain ⟨rfl,hi,e⟩:=h
 have hlt:i < cs.length:=(List.getElem?_eq_some_iff.mp hc).1
 refine ⟨?_,hlt,e⟩
 rw [List.take_add_one,hc,List.map_append,List.map_append]
 rfl
theorem Zjq {σ:L2.St} {H:Hp} {z:Str} {Q:VK} {j:Nat} (hj:σ[j]? = some (some (.str z))) (hz:z.length≤1000) (q:Q (.bl (decide (1≤z.cps.toList.length) && decide (z.cps.toList.length≤3))) H) :
  M8 (rI0 λi j=>.bl (decide (i≤j))) (rI0 λi j=>.bl (decide (i≤j))) (tC (.int 1)) (tCB (λxs H Q=>∃ z,xs=[V.str z]∧z.length≤sizeLine∧Q (.int z.length) H) (Zgr (M7 j) Znp)) (tC (.int 3)) σ H Q:=by
 refine ⟨_,hj,z,rfl,Xv hz,_,_,rfl,rfl,_,rfl,?_⟩
 rw [len_list] at q
 by_cases h:(1:Int)≤(z.length:Int)
 ·rw [decide_eq_true h]
  refine Mo ⟨_,_,rfl,rfl,?_⟩
  rw [decide_eq_true (show 1≤z.length by omega),Bool.true_and] at q
  have:decide ((z.length:Int)≤3)=decide (z.length≤3):=by
   rw [Bool.eq_iff_iff,decide_eq_true_eq,decide_eq_true_eq]
   omega
  show Q (.bl (decide ((z.length:Int)≤3))) H
  rw [this]
  exact q
 ·rw [decide_eq_false h]
  rw [decide_eq_false (show ¬ 1≤z.length by omega),Bool.false_and] at q
  exact Sb q
theorem Zjy {cs:List Nat} {i:Nat} (h:i < cs.length):atI cs (0+(i:Int))=some (cs.getD i 0):=by
 rw [List.getD_eq_getElem?_getD,List.getElem?_eq_getElem h]
 exact Zne (List.getElem?_eq_getElem h)
theorem Zl3 {cs:List Nat} {i:Nat} (h:i+1 < cs.length):atI cs (0+(i:Int)+1)=some (cs.getD (i+1) 0):=by
 have:=Zjy h
 rw [show (0:Int)+((i+1:Nat):Int)=0+(i:Int)+1 by omega] at this
 exact this
theorem Zfn {σ:L2.St} {H:Hp} {z:Str} {Q:VK} {i:Nat} {jr jn:Nat} (hz:z.length≤1000) (hi:i+1 < z.cps.toList.length) (hr:σ[jr]? = some (some (.str z))) (hn:σ[jn]? = some (some (.int (0+(i:Int))))) (q:Q (.bl (rB z.cps.toList i)) H) :
  tOp (λx y H Q=>∃ i j,x=V.str i∧y=V.str j∧Q (.bl (decide (i.cps.toList < j.cps.toList))) H) (tOp Zod (M7 jr) (M7 jn)) (tOp Zod (M7 jr) (tOp (rI0 λi j=>.int (i+j)) (M7 jn) (tC (.int 1)))) σ H Q:=by
 refine ⟨_,hr,_,hn,z,_,_,rfl,rfl,Xv hz,Zjy (by omega),_,hr,_,hn,_,_,rfl,rfl,z,_,_,rfl,rfl,Xv hz,Zl3 hi,_,_,rfl,rfl,?_⟩
 have e:decide ((⟨#[z.cps.toList.getD i 0]⟩:Str).cps.toList < (⟨#[z.cps.toList.getD (i+1) 0]⟩:Str).cps.toList)=rB z.cps.toList i:=Lq _ _
 rw [e]
 exact q
def Zex (H:Hp) (cs:List Nat) (i:Nat) (acc:List V) (H2:Hp):Prop:=acc=((List.range i).map (rB cs)).map V.bl∧Zo H H2
theorem Ze7 {H:Hp} {cs:List Nat}:∀ i acc H2,Zex H cs i acc H2→acc.length≤i:=λi acc H2 ⟨e,_⟩=>by
 rw [e,List.length_map,List.length_map,List.length_range]
 exact Nat.le_refl _
theorem Zbh {H H2:Hp} {cs:List Nat} {i:Nat} {acc:List V} (h:Zex H cs i acc H2):Zex H cs (i+1) (acc ++ [.bl (rB cs i)]) H2:=by
 obtain ⟨rfl,e⟩:=h
 refine ⟨?_,e⟩
 rw [List.range_succ,List.map_append,List.map_append]
 rfl
theorem Zfi {f:Addr} {fd:FuncData} (F:Fun K "rising" "rising" Vj f fd) (Z:Blt mg):Yp P w K mg base CX0 1 f fd ["row"] N0:=by
 refine F.ok F0 (λvs H Q E h=>?_) (λcdv A outer s H vs Q E hr h=>?_)
 ·obtain ⟨z,rfl,_⟩:=h
  rfl
 obtain ⟨z,rfl,hz,k⟩:=h
 refine ⟨_,(Zi (Z1 (Zn (Um (K:=K)) (by rfl) Z.all L0 (Za (Yc (sc:=Zf Vj) (Nm:=["row"]) (own:=["n"]) (fr:=[0]) ⟨rfl,by decide +kernel,by decide +kernel,by decide +kernel,by decide +kernel⟩ (by rfl) (Z2 (by decide)) (Yz (by rfl) Z.range (Za (Yj O4 (Zn Wa (by rfl) Z.len Ya (Za (pv 0) Zc)) Zh) Zc)) (λd=>(Zk (i:=0) Ka (by rfl) (Or.inl (by rfl)))) (λd=>Yb) (λd=>(Xu Zff (Zs Zcg (pv 1) (pv 0) (λ_ _=>rfl)) (Zs Zcg (pv 1) (Yj Wh (pv 0) Zh) (λ_ _=>rfl)) (Z8 _)))) Zc)))),?_⟩
 have hl:=len_list z
 refine ⟨_,rfl,z,rfl,Xv hz,_,_,rfl,rfl,_,rfl,by omega,by omega,?_⟩
 refine Xy (lo:=0) (k:=((z.length:Int) - 1).toNat) (Zex H z.cps.toList) (Nat.lt_of_le_of_lt (show ((z.length:Int) - 1).toNat≤1000 by omega) (by decide)) ⟨rfl,Zo.refl _⟩ Ze7
  (λi acc H2 hi hp=>Vg (Zfn hz (by omega) rfl rfl (Zbh hp))) (λacc H2 hp l hl2=>?_)
 obtain ⟨rfl,e⟩:=hp
 refine ⟨l,_,rfl,SqL.of Zb,?_⟩
 have q:=k _ (e.trans (Ze hl2 (.lst (((List.range ((z.length:Int) - 1).toNat).map (rB z.cps.toList)).map V.bl))))
 unfold Zg7 at q
 rw [hl,show z.length - 1=((z.length:Int) - 1).toNat by omega] at q
 exact q
theorem Zbt {f:Addr} {fd:FuncData} (F:Fun K "is_word" "is_word" V1 f fd) (Z:Blt mg):Yp P w K mg base CX0 1 f fd ["text"] N4:=by
 refine F.ok Zbi (λvs H Q E h=>?_) (λcdv A outer s H vs Q E hr h=>?_)
 ·obtain ⟨z,rfl,_⟩:=h
  rfl
 obtain ⟨z,rfl,hz,k⟩:=h
 refine ⟨_,(Zi (Z1 (Zn (Um (K:=K)) (by rfl) Z.all L0 (Za (Yc (sc:=Zf V1) (Nm:=["text"]) (own:=["sign"]) (fr:=[]) ⟨rfl,by decide +kernel,by decide +kernel,by decide +kernel,by decide +kernel⟩ (by rfl) (Z2 (by decide)) (Ra (pv 0)) (λd=>(Zk (i:=0) D6 (by rfl) (Or.inl (by rfl)))) (λd=>Yb) (λd=>(Qq Oe Oe Y6 (pv 0) Y6))) Zc)))),?_⟩
 have hl:=len_list z
 refine ⟨_,rfl,z,rfl,?_⟩
 refine Q9 (cs:=z.cps.toList) (Seen H wB z.cps.toList) (by rw [hl]; exact Zt hz) ⟨rfl,Nat.zero_le _,Zo.refl _⟩ Zg2
  (λi acc H2 c hc hp=>Vg (Zjp rfl (Ze6 hc hp))) (λacc H2 hp l hl2=>?_)
 obtain ⟨rfl,_,e⟩:=hp
 rw [List.take_length]
 exact ⟨l,_,rfl,SqL.of Zb,k _ (e.trans (Ze hl2 _))⟩
theorem Gw {f:Addr} {fd:FuncData} (F:Fun K "is_letters" "is_letters" Wz f fd) (Z:Blt mg) (Uo:Cal P w K mg base "is_word" 1 ["text"] N4) (Ua:Cal P w K mg base "rising" 1 ["row"] N0) :
  Yp P w K mg base CX0 2 f fd ["text"] Qi:=by
 refine F.ok Gr (λvs H Q E h=>?_) (λcdv A outer s H vs Q E hr h=>?_)
 ·obtain ⟨z,rfl,_⟩:=h
  rfl
 obtain ⟨z,rfl,hz,k⟩:=h
 refine ⟨_,(Zi (Z1 (Ds (Qq L9 L9 Zh (Zn Wa (by rfl) Z.len Ya (Za (pv 0) Zc)) Zh) (Ds (Yg Uo (hr.mono (by decide)) (Za (pv 0) Zc)) (Zbo (Yg Ua (hr.mono (by decide)) (Za (pv 0) Zc))))))),?_⟩
 refine Zjq rfl hz ⟨_,rfl,?_⟩
 unfold Zlf at k
 generalize (decide (1≤z.cps.toList.length) && decide (z.cps.toList.length≤3))=b at k ⊢
 cases b with
 | false=>exact Sb (k H (Zo.refl _))
 | true=>
  refine Mo ⟨_,rfl,z,rfl,hz,λH1 e1=>⟨_,rfl,?_⟩⟩
  rw [Bool.true_and] at k
  generalize Bf z.cps.toList=b2 at k ⊢
  cases b2 with
  | false=>exact Sb (k H1 e1)
  | true=>exact Mo ⟨_,rfl,z,rfl,hz,λH2 e2=>k H2 (e1.trans e2)⟩
theorem Ui (es:List Nat):(es.map λn:Nat=>V.int (n:Int)).all Oy=true:=by
 induction es with
 | nil=>rfl
 | cons e r ih=>rw [List.map_cons,List.all_cons,ih]; rfl
def nI (n:Nat):V:=.int (n:Int)
structure Z6 (H:Hp) (m:Addr) (l:Str) (b:Nat) (es:List Nat) (st:List (List Nat)):Prop where
 lay:∃ (e s:Addr) (ras:List Addr),H m=some (.tup [.str l,nI b,.ref e,.ref s])∧H e=some (.tup (es.map nI))∧H s=some (.tup (ras.map V.ref))∧ras.length=st.length∧∀ (i:Nat) a r,ras[i]? = some a→st[i]? = some r→H a=some (.tup (r.map nI))
 few:0 < l.length∧l.length≤3∧st.length≤216
 beg:b < st.length
 rows:∀ r∈st,r.length=l.length∧∀ x∈r,x < st.length
theorem Z6.same {H H':Hp} {m:Addr} {l:Str} {b:Nat} {es:List Nat} {st:List (List Nat)} (h:Z6 H m l b es st) (e:Zo H H'):Z6 H' m l b es st:=by
 obtain ⟨⟨e1,s1,ras,h1,h2,h3,h4,h5⟩,f,g,r⟩:=h
 exact ⟨⟨e1,s1,ras,e _ _ h1,e _ _ h2,e _ _ h3,h4,λi a r q1 q2=>e _ _ (h5 i a r q1 q2)⟩,f,g,r⟩
def stp (l:Str) (st:List (List Nat)) (r c:Nat):Nat:=(st.getD r []).getD (Txt.find l (one c)).toNat 0
def way (l:Str) (st:List (List Nat)) (r:Nat) (t:List Nat):Nat:=t.foldl (stp l st) r
theorem Jg {l:Str} {c:Nat} (h:c∈l.cps.toList):0≤Txt.find l (one c)∧(Txt.find l (one c)).toNat < l.length:=by
 have hl:=len_list l
 obtain ⟨i,hi,e⟩:=List.getElem_of_mem h
 have hD:∀ v:Nat,v < l.length→l.cps.getD v 0=l.cps.toList.getD v 0:=λv hv=>by
  rw [List.getD_eq_getElem?_getD,Array.getElem?_toList,Array.getD_eq_getD_getElem?]
 have hf:Txt.find l (one c)=Txt.find3 l (one c) 0:=by
  unfold Txt.find Txt.find3
  rfl
 rcases StrLaws.find3_spec l c 0 with ⟨_,hn⟩ | ⟨k,hk,_,hlt,_⟩
 ·refine absurd ?_ (hn i ?_ (by omega))
  ·rw [hD i (by omega),List.getD_eq_getElem?_getD,List.getElem?_eq_getElem hi]
   exact e
  ·show _≤i
   unfold PySem.fromIndex
   simp
 ·rw [hf]
  have:Txt.find3 l (one c) 0=(k:Int):=hk
  rw [this]
  omega
theorem getD_mem {α:Type} {l:List α} {i:Nat} {d:α} (h:i < l.length):l.getD i d∈l∧l[i]? = some (l.getD i d):=by
 rw [List.getD_eq_getElem?_getD,List.getElem?_eq_getElem h]
 exact ⟨List.getElem_mem h,rfl⟩
theorem Qg {H:Hp} {m:Addr} {l:Str} {b:Nat} {es:List Nat} {st:List (List Nat)} (M:Z6 H m l b es st) {r c:Nat} (hr:r < st.length) (hc:c∈l.cps.toList):stp l st r c < st.length:=by
 obtain ⟨h1,h2⟩:=M.rows _ (getD_mem (d:=[]) hr).1
 have hf:=Jg hc
 exact h2 _ (getD_mem (l:=st.getD r []) (d:=0) (by rw [h1]; exact hf.2)).1
theorem Za1 {H:Hp} {m:Addr} {l:Str} {b:Nat} {es:List Nat} {st:List (List Nat)} (M:Z6 H m l b es st):∀ (t:List Nat) (r:Nat),r < st.length→(∀ c∈t,c∈l.cps.toList)→way l st r t < st.length
 | [],r,hr,_=>hr
 | c :: t,r,hr,h=>Za1 M t _ (Qg M hr (h c List.mem_cons_self)) λx hx=>h x (List.mem_cons_of_mem _ hx)
inductive Zdh (vs:List V) (H:Hp) (Q:VK):Prop
 | mk (m:Addr) (l:Str) (b:Nat) (es:List Nat) (st:List (List Nat)) (r:Nat) (t:Str) (h1:vs=[.ref m,nI r,.str t]) (h2:Z6 H m l b es st) (h3:r < st.length) (h4:(∀ c∈t.cps.toList,c∈l.cps.toList)) (h5:Q (nI (way l st r t.cps.toList)) H):Zdh vs H Q
def Jt:Sp:=λvs H Q u3_=>Zdh vs H Q
inductive Bm (vs:List V) (H:Hp) (Q:VK):Prop
 | mk (m:Addr) (l:Str) (b:Nat) (es:List Nat) (st:List (List Nat)) (t:Str) (h1:vs=[.ref m,.str t]) (h2:Z6 H m l b es st) (h3:(∀ c∈t.cps.toList,c∈l.cps.toList)) (h4:Q (.bl (inV (nI (way l st b t.cps.toList)) (es.map nI))) H):Bm vs H Q
def E2:Sp:=λvs H Q u3_=>Bm vs H Q
theorem Zkq {K:W.Frag} {H:Hp} {m:Addr} {l:Str} {b:Nat} {es:List Nat} {st:List (List Nat)} (M:Z6 H m l b es st) {r c:Nat} (hr:r < st.length) (hc:c∈l.cps.toList) {Q:VK} (q:Q (nI (stp l st r c)) H) :
  ∃ (e s:Addr) (ras:List Addr) (a:Addr),H m=some (.tup [.str l,nI b,.ref e,.ref s])∧H s=some (.tup (ras.map V.ref))∧atI (ras.map V.ref) (r:Int)=some (.ref a)∧H a=some (.tup ((st.getD r []).map nI))∧0≤Txt.find l ⟨#[c]⟩∧atI ((st.getD r []).map nI) (Txt.find l ⟨#[c]⟩)=some (nI (stp l st r c)):=by
 obtain ⟨e,s,ras,h1,h2,h3,h4,h5⟩:=M.lay
 have hra:r < ras.length:=by omega
 have hf:=Jg hc
 obtain ⟨g1,g2⟩:=getD_mem (l:=st) (d:=[]) hr
 have hlen:=(M.rows _ g1).1
 have g3:=(getD_mem (l:=st.getD r []) (i:=(Txt.find l (one c)).toNat) (d:=0) (by rw [hlen]; exact hf.2)).2
 refine ⟨e,s,ras,ras[r],h1,h3,Zl (by rw [List.getElem?_map,List.getElem?_eq_getElem hra]; rfl),h5 r _ _ (List.getElem?_eq_getElem hra) g2,hf.1,?_⟩
 have z:atI ((st.getD r []).map nI) (((Txt.find l (one c)).toNat:Nat):Int)=some (nI (stp l st r c)):=Zl (by rw [List.getElem?_map,g3]; rfl)
 rw [show (((Txt.find l (one c)).toNat:Nat):Int)=Txt.find l (one c) by omega] at z
 exact z
theorem Zgj (l:Str) (st:List (List Nat)) (r:Nat) (t:List Nat) (i c:Nat) (h:t[i]? = some c):way l st r (t.take (i+1))=stp l st (way l st r (t.take i)) c:=by
 rw [List.take_add_one,h]
 unfold way
 rw [List.foldl_append]
 rfl
theorem take_all {P:Nat→Prop} {t:List Nat} {n:Nat} (h:∀ c∈t,P c):∀ c∈t.take n,P c:=λc hc=>h c (List.mem_of_mem_take hc)
theorem Ie {f:Addr} {fd:FuncData} (F:Fun K "room_behind" "room_behind" Wc f fd) (Z:Blt mg):Yp P w K mg base CX0 1 f fd ["machine","room","text"] Jt:=by
 refine F.ok X0 (λvs H Q E h=>?_) (λcdv A outer s H vs Q E hr h=>?_)
 ·obtain ⟨m,l,b,es,st,r,t,rfl,_⟩:=h
  rfl
 obtain ⟨m,l,b,es,st,r,t,rfl,M,hr0,ht,k⟩:=h
 refine ⟨_,(Zd (Zm (i:=3) X0.nd (by rfl) (Or.inl (by rfl)) (Zs (Zw (K:=K)) (pv 0) Zh (λ_ _=>rfl))) 
   (Zd (Zm (i:=4) X0.nd (by rfl) (Or.inl (by rfl)) (Zs (Zw (K:=K)) (pv 0) Zh (λ_ _=>rfl))) 
   (Zd (Zm (i:=5) X0.nd (by rfl) (Or.inl (by rfl)) (pv 1)) 
   (Zd (Xx PassesOwn.never (by rfl) (Ra (pv 2)) (Zk (i:=6) X0.nd (by rfl) (Or.inl (by rfl))) 
    (Zi (Zm (i:=5) X0.nd (by rfl) (Or.inl (by rfl)) (Zs (Zw (K:=K)) (Zs (Zw (K:=K)) (pv 4) (pv 5) (λ_ _=>rfl)) (Xd (K:=K) PySem.F.plainAttrs_str PySem.F.slot_str_index PySem.F.type_str_index (Zib (by rfl)) (pv 3) (Za (pv 6) Zc)) (λ_ _=>rfl))))) 
   (Zi (Z1 (pv 5))))))),?_⟩
 refine (let zz0:TS:=_; let zz1:TS:=Zq _ zz0; let zz2:TS:=Zq _ zz1; let zz3:TS:=Zq _ zz2; (?_:Zq _ zz3 _ _ _))
 obtain ⟨e,s',ras,h1,h2,h3,h4,h5⟩:=M.lay
 refine ⟨_,rfl,m,_,_,_,rfl,rfl,SqT.of h1,Zl (j:=0) rfl,_,rfl,m,_,_,_,rfl,rfl,SqT.of h1,Zl (j:=3) rfl,_,rfl,?_⟩
 refine ⟨_,rfl,t,rfl,?_⟩
 refine Jf (cs:=t.cps.toList) (λi σ H2=>∃ v,σ=[some (.ref m),some (nI r),some (.str t),some (.str l),some (.ref s'),some (nI (way l st r (t.cps.toList.take i))),v]∧H2=H) ⟨none,rfl,rfl⟩ ?_ ?_
 ·rintro i c σ H2 hc ⟨v,rfl,rfl⟩
  have hcl:c∈l.cps.toList:=ht c (List.mem_of_getElem? hc)
  have hw:=Za1 M (t.cps.toList.take i) r hr0 (take_all ht)
  obtain ⟨e2,s2,Qm,a,q1,q2,q3,q4,q5,q6⟩:=Zkq (K:=K) (Q:=λ_ _=>True) M hw hcl trivial
  rw [h1] at q1
  cases q1
  refine ⟨_,rfl,_,rfl,s',_,_,_,rfl,rfl,SqT.of q2,q3,_,rfl,rfl,_,rfl,l,_,rfl,rfl,q5,a,_,_,_,rfl,rfl,SqT.of q4,q6,?_⟩
  refine ⟨some (.str ⟨#[c]⟩),?_,rfl⟩
  rw [Zgj l st r _ i c hc]
  rfl
 ·rintro σ H2 ⟨v,rfl,rfl⟩
  refine ⟨_,rfl,?_⟩
  rw [List.take_length]
  exact k
def Tk (H H':Hp):Prop:=∀ b ys,H b=some (.tup ys)→H' b=some (.tup ys)
theorem Tk.same {H H':Hp} (e:Zo H H'):Tk H H':=λb ys h=>e b _ h
theorem Tk.trans {H H1 H2:Hp} (a:Tk H H1) (b:Tk H1 H2):Tk H H2:=λc ys h=>b c ys (a c ys h)
theorem Tk.lst {H:Hp} {l:Addr} {xs:List V} (h:H l=some (.lst xs)) (o:HO):Tk H (upd H l o):=λb ys e=>by
 rw [Zj (Wb e h λz=>nomatch z)]
 exact e
theorem Tk.dct {H:Hp} {l:Addr} {xs:List (List Key × V)} (h:H l=some (.dT xs)) (o:HO):Tk H (upd H l o):=λb ys e=>by
 rw [Zj (Wb e h λz=>nomatch z)]
 exact e
theorem map_take {α β:Type} {f:α→β} {l:List α} {i:Nat} {x:α} (h:l[i]? = some x):(l.take (i+1)).map f=(l.take i).map f ++ [f x]:=by
 rw [List.take_add_one,h,List.map_append]
 rfl
theorem none_of {H H':Hp} {p:Addr} (e:Zo H H') (h:H' p=none):H p=none:=by
 cases z:H p with
 | none=>rfl
 | some o=>rw [e _ _ z] at h; cases h
theorem Tk.drew {H H':Hp} {p sc:Addr} (F:Yf H p sc) (d:Ym H H' p):Tk H H':=λb ys h=>by
 obtain ⟨xs,hp,_⟩:=F.here
 exact d _ _ h (Wb h hp λz=>nomatch z)
inductive TR {α:Type} (tv:α→List V) (H:Hp):List V→List α→Prop where
 | nil:TR tv H [] []
 | cons {a:Addr} {r:α} {vs:List V} {rs:List α} (h:H a=some (.tup (tv r))) (t:TR tv H vs rs):TR tv H (.ref a :: vs) (r :: rs)
section
variable {α:Type} {tv:α→List V}
theorem TR.keep {H H':Hp} (e:Tk H H'):∀ {vs:List V} {rs:List α},TR tv H vs rs→TR tv H' vs rs
 | _,_,.nil=>.nil
 | _,_,.cons h t=>.cons (e _ _ h) (t.keep e)
theorem TR.app {H:Hp} {ws:List V} {qs:List α} (h:TR tv H ws qs):∀ {vs:List V} {rs:List α},TR tv H vs rs→TR tv H (vs ++ ws) (rs ++ qs)
 | _,_,.nil=>h
 | _,_,.cons h' t=>.cons h' (TR.app h t)
theorem TR.snoc {H:Hp} {a:Addr} {r:α} {vs:List V} {rs:List α} (h:H a=some (.tup (tv r))) (t:TR tv H vs rs):TR tv H (vs ++ [.ref a]) (rs ++ [r]):=TR.app (.cons h .nil) t
theorem TR.len {H:Hp}:∀ {vs:List V} {rs:List α},TR tv H vs rs→vs.length=rs.length
 | _,_,.nil=>rfl
 | _,_,.cons _ t=>by rw [List.length_cons,List.length_cons,t.len]
theorem TR.at_ {H:Hp}:∀ {vs:List V} {rs:List α} {i:Nat} {x:V},TR tv H vs rs→vs[i]? = some x→∃ a r,x=.ref a∧rs[i]? = some r∧H a=some (.tup (tv r))
 | _,_,i,x,.nil,h=>by simp at h
 | _,_,0,x,.cons (a:=a) (r:=r) h' t,h=>by
  cases h
  exact ⟨a,r,rfl,rfl,h'⟩
 | _,_,i+1,x,.cons h' t,h=>t.at_ (i:=i) (by simpa using h)
end
theorem Yq {H H':Hp} {c:Addr} (e:Zo H H') (h:H c=none) (o:HO):Zo H (upd H' c o):=λb u q=>by
 rw [Zj (Zg q h)]
 exact e b u q
theorem Zjj {K:W.Frag} {x x0 x1:V} {a:Addr} {σ:L2.St} {H:Hp} {te:TE} {Nt:VK} {Nf:Hp→Prop} (hx:x=.ref a) (hq:SqT K H a [x0,x1]) (h:te ((σ.set 0 (some x0)).set 1 (some x1)) H Nt) :
  Zlq K 2 (Zek (Kc 0) (Zek (Kc 1) Zpl)) x σ H λσ4 H4=>Zno σ4 H4 λb H5=>if b=true then te σ4 H5 Nt else Nf H5:=by
 refine ⟨a,_,hx,hq,rfl,_,_,rfl,_,_,rfl,rfl,?_⟩
 show if true=true then te ((σ.set 0 (some x0)).set 1 (some x1)) H Nt else Nf H
 exact Mo h
theorem Cm {α:Type} [BEq α] [LawfulBEq α] {rs:List α} {i:Nat} {r:α} (h:rs[i]? = some r) (hn:r∉rs.take i):rs.idxOf r=i:=by
 have hi:i < rs.length:=(List.getElem?_eq_some_iff.mp h).1
 have e:rs=rs.take i ++ r :: rs.drop (i+1):=by
  obtain ⟨hm,e⟩:=List.getElem?_eq_some_iff.mp h
  rw [← e,← List.drop_eq_getElem_cons hm,List.take_append_drop]
 rw [e,List.idxOf_append,if_neg hn,List.idxOf_cons_self,List.length_take]
 omega
theorem Yt {α:Type} {rs:List α} {i:Nat} {r x:α} (h:rs[i]? = some r):x∈rs.take (i+1)↔x∈rs.take i∨x=r:=by
 rw [List.take_add_one,h,List.mem_append]
 simp
def kkN (r:List Nat):List Key:=r.map λn:Nat=>Sum.inl (n:Int)
theorem Zlg (r:List Nat):(kkN r).map kV=r.map nI:=by
 unfold kkN
 rw [List.map_map]
 rfl
theorem Zd8:∀ {r r':List Nat},kkN r=kkN r'→r=r'
 | [],[],_=>rfl
 | [],_ :: _,h=>by cases h
 | _ :: _,[],h=>by cases h
 | a :: r,b :: r',h=>by
  have h':(Sum.inl ((a:Nat):Int):Key) :: kkN r=Sum.inl ((b:Nat):Int) :: kkN r':=h
  injection h' with h1 h2
  have:((a:Nat):Int)=((b:Nat):Int):=Sum.inl.inj h1
  rw [Zd8 h2,show a=b by omega]
def Ug (H:Hp) (xs:List V) (rs:List (List Nat)):Prop:=xs.length=rs.length∧∀ (i:Nat) x r,xs[i]? = some x→rs[i]? = some r→∃ a,x=.ref a∧H a=some (.tup (r.map nI))
inductive Zmj (vs:List V) (H:Hp) (Q:VK):Prop
 | mk (rp:Addr) (h1:vs=[.ref rp]) (h2:((∃ bs:List Bool,H rp=some (.lst (bs.map V.bl))∧bs.length≤500∧∀ l H',H l=none→Zo H H'→H' l=some (.lst (bs.map λb=>nI (bs.idxOf b)))→Q (.ref l) H')∨(∃ xs rs,H rp=some (.lst xs)∧Ug H xs rs∧rs.length≤500∧∀ l H',H l=none→Zo H H'→H' l=some (.lst (rs.map λr=>nI (rs.idxOf r)))→Q (.ref l) H'))):Zmj vs H Q
def Zn2:Sp:=λvs H Q u3_=>Zmj vs H Q
theorem Gx {f:Addr} {fd:FuncData} (F:Fun K "first_like" "first_like" Xt f fd) (Z:Blt mg):Yp P w K mg base CX0 1 f fd ["rows"] Zn2:=by
 refine F.ok Sa (λvs H Q E h=>?_) (λcdv A outer s H vs Q E hr h=>?_)
 ·obtain ⟨rp,rfl,_⟩:=h
  rfl
 obtain ⟨rp,rfl,⟨bs,hb,hbl,k⟩ | ⟨xs,rs,hx,hR,hrl,k⟩⟩:=h
 ·refine ⟨_,(Zd (Zm (i:=1) Sa.nd (by rfl) (Or.inr (by rfl)) (Zhu (P:=P) (w:=w))) 
   (Zi (Z1 (Yc (sc:=Zf Xt) (Nm:=["rows","firsts"]) (own:=["number","row"]) (fr:=[1]) ⟨rfl,by decide +kernel,by decide +kernel,by decide +kernel,by decide +kernel⟩ (by rfl) (Je (Vd (by decide) (Vd (by decide) Mq))) (N8 (K:=K) (by rfl) Z.enumerate (pv 0)) (λd=>(V5 (K:=K) (n:=2) (by rfl) (Yd (Zk (i:=0) W7 (by rfl) (Or.inl (by rfl))) (Yd (Zk (i:=1) W7 (by rfl) (Or.inl (by rfl))) V4)))) (λd=>Yb) (λd=>(Zhs (P:=P) (w:=w) (pv 2) (pv 1) (pv 0) ⟨rfl,rfl,rfl,rfl⟩)))))),?_⟩
  refine (let zz0:TS:=_; (?_:Zq _ zz0 _ _ _))
  intro fp hfp
  have nf:rp≠fp:=Zg hb hfp
  refine ⟨_,rfl,rp,_,rfl,.inl ⟨SqL.of ((Zj nf).trans hb),?_⟩⟩
  refine Lz (Sq:=λH xs=>SqL K H rp xs) (xs:=bs.map V.bl) (λi acc H2=>∃ (g:Bool→Option V) (n:Nat),acc=(bs.take i).map (λb=>nI (bs.idxOf b))∧H2 fp=some (Zaj P w fp g n)∧n≤i∧(∀ b,g b=if b∈bs.take i then some (nI (bs.idxOf b)) else none)∧Zo H H2)
   (by rw [List.length_map]; exact Zt (by omega)) ⟨λ_=>none,0,rfl,Zb,Nat.le_refl _,λb=>by simp,Ze hfp _⟩ (λi acc H2 ⟨g,n,e,_⟩=>by rw [e,List.length_map,List.length_take]; exact Nat.min_le_left _ _)
   (λi acc H2 ⟨g,n,e,_,_,_,e2⟩=>SqL.of (e2 _ _ hb)) (λi acc H2 x p hxi h hp=>?_) (λacc H2 h y hy=>?_)
  ·obtain ⟨g,n,rfl,h2,hn,hg,e2⟩:=h
   rw [List.getElem?_map] at hxi
   cases hbi:bs[i]? with
   | none=>rw [hbi] at hxi; cases hxi
   | some b=>
    rw [hbi] at hxi
    cases hxi
    have hil:i < bs.length:=(List.getElem?_eq_some_iff.mp hbi).1
    have s3:=Ze hp (.tup [V.int (i:Int),V.bl b])
    have h3:=s3 _ _ h2
    have Zft:=e2.trans s3
    refine Zjj (K:=K) rfl (SqT.of Zb) ?_
    refine ⟨_,rfl,fp,g,n,rfl,h3,_,rfl,_,rfl,b,g,n,h3,rfl,by rw [sizeLine_eq]; omega,λv hv=>?_,λhv=>?_⟩
    ·rw [hg] at hv
     by_cases c:b∈bs.take i
     ·rw [if_pos c] at hv
      cases hv
      refine ⟨g,n,?_,h3,by omega,λx=>?_,Zft⟩
      ·rw [map_take hbi]
      ·rw [hg]
       by_cases c2:x∈bs.take i
       ·rw [if_pos c2,if_pos ((Yt hbi).mpr (.inl c2))]
       ·rw [if_neg c2,if_neg λz=>c2 ((Yt hbi).mp z |>.elim id λz=>z▸c)]
     ·rw [if_neg c] at hv
      cases hv
    ·rw [hg] at hv
     have c:b∉bs.take i:=λc=>by rw [if_pos c] at hv; cases hv
     have hix:=Cm hbi c
     refine ⟨_,n+1,?_,Zb,by omega,λx=>?_,Yq Zft hfp _⟩
     ·rw [map_take hbi,hix]
      rfl
     ·by_cases c2:x=b
      ·subst c2
       rw [if_pos rfl,if_pos ((Yt hbi).mpr (.inr rfl)),hix]
       rfl
      ·rw [if_neg c2,hg]
       by_cases c3:x∈bs.take i
       ·rw [if_pos c3,if_pos ((Yt hbi).mpr (.inl c3))]
       ·rw [if_neg c3,if_neg λz=>((Yt hbi).mp z).elim c3 c2]
  ·obtain ⟨g,n,rfl,h2,hn,hg,e2⟩:=h
   rw [List.length_map,List.take_length]
   exact k y _ (none_of e2 hy) (e2.trans (Ze hy _)) Zb
 ·refine ⟨_,(Zd (Zm (i:=1) Sa.nd (by rfl) (Or.inr (by rfl)) Ag) 
   (Zi (Z1 (Yc (sc:=Zf Xt) (Nm:=["rows","firsts"]) (own:=["number","row"]) (fr:=[1]) ⟨rfl,by decide +kernel,by decide +kernel,by decide +kernel,by decide +kernel⟩ (by rfl) (Je (Vd (by decide) (Vd (by decide) Mq))) (N8 (K:=K) (by rfl) Z.enumerate (pv 0)) (λd=>(V5 (K:=K) (n:=2) (by rfl) (Yd (Zk (i:=0) W7 (by rfl) (Or.inl (by rfl))) (Yd (Zk (i:=1) W7 (by rfl) (Or.inl (by rfl))) V4)))) (λd=>Yb) (λd=>(Af (Vt hr) (pv 2) (pv 1) (pv 0) ⟨rfl,rfl,rfl,rfl⟩)))))),?_⟩
  refine (let zz0:TS:=_; (?_:Zq _ zz0 _ _ _))
  intro fp hfp
  have nf:rp≠fp:=Zg hx hfp
  refine ⟨_,rfl,rp,_,rfl,.inl ⟨SqL.of ((Zj nf).trans hx),?_⟩⟩
  refine Lz (Sq:=λH xs=>SqL K H rp xs) (xs:=xs) (λi acc H2=>∃ kvs:List (List Key × V),acc=(rs.take i).map (λr=>nI (rs.idxOf r))∧H2 fp=some (.dT kvs)∧kvs.length≤i∧(∀ r,X8 kvs (kkN r)=if r∈rs.take i then some (nI (rs.idxOf r)) else none)∧Zo H H2)
   (Zt (by have:=hR.1; omega)) ⟨[],rfl,Zb,Nat.le_refl _,λb=>by simp [Zgm],Ze hfp _⟩ (λi acc H2 ⟨kvs,e,_⟩=>by rw [e,List.length_map,List.length_take]; exact Nat.min_le_left _ _)
   (λi acc H2 ⟨kvs,e,_,_,_,e2⟩=>SqL.of (e2 _ _ hx)) (λi acc H2 x p hxi h hp=>?_) (λacc H2 h y hy=>?_)
  ·obtain ⟨kvs,rfl,h2,hn,hg,e2⟩:=h
   have hil:i < rs.length:=by rw [← hR.1]; exact (List.getElem?_eq_some_iff.mp hxi).1
   have hbi:rs[i]? = some rs[i]:=List.getElem?_eq_getElem hil
   generalize rs[i]=b at hbi
   obtain ⟨a,rfl,ha⟩:=hR.2 i x b hxi hbi
   have s3:=Ze hp (.tup [V.int (i:Int),V.ref a])
   have h3:=s3 _ _ h2
   have Zft:=e2.trans s3
   refine Zjj (K:=K) rfl (SqT.of Zb) ?_
   refine ⟨_,rfl,fp,rfl,.inr ⟨kvs,.inl h3⟩,_,rfl,_,rfl,kvs,kkN b,a,h3,rfl,by rw [Zlg]; exact Zft _ _ ha,by rw [sizeLine_eq]; omega,λv hv=>?_,λhv=>?_⟩
   ·rw [hg] at hv
    by_cases c:b∈rs.take i
    ·rw [if_pos c] at hv
     cases hv
     refine ⟨kvs,?_,h3,by omega,λx=>?_,Zft⟩
     ·rw [map_take hbi]
     ·rw [hg]
      by_cases c2:x∈rs.take i
      ·rw [if_pos c2,if_pos ((Yt hbi).mpr (.inl c2))]
      ·rw [if_neg c2,if_neg λz=>c2 ((Yt hbi).mp z |>.elim id λz=>z▸c)]
    ·rw [if_neg c] at hv
     cases hv
   ·rw [hg] at hv
    have c:b∉rs.take i:=λc=>by rw [if_pos c] at hv; cases hv
    have hix:=Cm hbi c
    refine ⟨_,?_,Zb,Nat.le_trans (V8 _ _ _) (by omega),λx=>?_,Yq Zft hfp _⟩
    ·rw [map_take hbi,hix]
     rfl
    ·rw [Zgl]
     by_cases c2:x=b
     ·subst c2
      rw [if_pos rfl,if_pos ((Yt hbi).mpr (.inr rfl)),hix]
      rfl
     ·rw [if_neg λz=>c2 (Zd8 z),hg]
      by_cases c3:x∈rs.take i
      ·rw [if_pos c3,if_pos ((Yt hbi).mpr (.inl c3))]
      ·rw [if_neg c3,if_neg λz=>((Yt hbi).mp z).elim c3 c2]
  ·obtain ⟨kvs,rfl,h2,hn,hg,e2⟩:=h
   rw [hR.1,List.take_length]
   exact k y _ (none_of e2 hy) (e2.trans (Ze hy _)) Zb
def lk0 (es:List Nat) (n:Nat):List Nat:=let bs:=(List.range n).map λr=>decide (r∈es); bs.map λb=>bs.idxOf b
def lkR (st:List (List Nat)) (L:List Nat):List (List Nat):=(List.range st.length).map λi=>L.getD i 0 :: (st.getD i []).map λx=>L.getD x 0
def lkS (st:List (List Nat)) (L:List Nat):List Nat:=(lkR st L).map λr=>(lkR st L).idxOf r
def lkN (st:List (List Nat)) (es:List Nat):Nat→List Nat
 | 0=>lk0 es st.length
 | k+1=>lkS st (lkN st es k)
def dn (L:List Nat):Nat:=(Uc (L.map λn:Nat=>(n:Int))).length
theorem Rm (i:Nat) (es:List Nat):inV (V.int ((i:Nat):Int)) (es.map nI)=decide (i∈es):=by
 unfold inV
 rw [List.any_map,Bool.eq_iff_iff,List.any_eq_true,decide_eq_true_eq]
 constructor
 ·rintro ⟨x,hx,e⟩
  have:(((x:Nat):Int)==((i:Nat):Int))=true:=e
  have:=eq_of_beq this
  rw [show i=x by omega]
  exact hx
 ·intro h
  refine ⟨i,h,?_⟩
  show (((i:Nat):Int)==((i:Nat):Int))=true
  simp
theorem Ug.keep {H H':Hp} {xs:List V} {rs:List (List Nat)} (h:Ug H xs rs) (k:Tk H H'):Ug H' xs rs:=⟨h.1,λi x r a b=>let ⟨c,e,q⟩:=h.2 i x r a b; ⟨c,e,k _ _ q⟩⟩
theorem Ug.snoc {H:Hp} {xs:List V} {rs:List (List Nat)} (h:Ug H xs rs) {a:Addr} {r:List Nat} (ha:H a=some (.tup (r.map nI))):Ug H (xs ++ [.ref a]) (rs ++ [r]):=by
 refine ⟨by rw [List.length_append,List.length_append,h.1]; rfl,λi x r' q1 q2=>?_⟩
 by_cases c:i < xs.length
 ·rw [List.getElem?_append_left c] at q1
  rw [List.getElem?_append_left (by rw [← h.1]; exact c)] at q2
  exact h.2 i x r' q1 q2
 ·rw [List.getElem?_append_right (by omega)] at q1
  rw [List.getElem?_append_right (by rw [← h.1]; omega),← h.1] at q2
  cases hi:i - xs.length with
  | zero=>
   rw [hi] at q1 q2
   cases q1
   cases q2
   exact ⟨a,rfl,ha⟩
  | succ n=>rw [hi] at q1; simp at q1
inductive Zdk (vs:List V) (H:Hp) (Q:VK):Prop
 | mk (m:Addr) (l:Str) (b:Nat) (es:List Nat) (st:List (List Nat)) (h1:vs=[.ref m]) (h2:Z6 H m l b es st) (h3:es.length≤500) (h4:∀ lp k H',Zo H H'→H' lp=some (.lst ((lkN st es (k+1)).map nI))→dn (lkN st es (k+1))≤dn (lkN st es k)→Q (.ref lp) H'):Zdk vs H Q
def Zbf:Sp:=λvs H Q u3_=>Zdk vs H Q
def lrW (m sA:Addr) (st:List (List Nat)) (es:List Nat) (H:Hp) (mm:Nat) (σ:L2.St) (H5:Hp):Prop:=∃ (k cnt:Nat) (lp:Addr) (v4 v5 v6:Option V),mm=st.length+1 - cnt∧σ=[some (.ref m),some (.ref sA),some (.ref lp),some (nI cnt),v4,v5,v6]∧H5 lp=some (.lst ((lkN st es k).map nI))∧Zo H H5∧((k=0∧cnt=0)∨∃ j,k=j+1∧cnt=dn (lkN st es j))
def lrE (m sA lp rp:Addr) (st:List (List Nat)) (es:List Nat) (k':Nat) (H:Hp) (i:Nat) (σ:L2.St) (H7:Hp):Prop:=∃ (ys:List V) (v5 v6:Option V),σ=[some (.ref m),some (.ref sA),some (.ref lp),some (nI (dn (lkN st es k'))),some (.ref rp),v5,v6]∧H7 rp=some (.lst ys)∧Ug H7 ys ((lkR st (lkN st es k')).take i)∧Zo H H7∧H7 lp=some (.lst ((lkN st es k').map nI))
theorem Gv {f:Addr} {fd:FuncData} (F:Fun K "like_rooms" "like_rooms" Xs f fd) (Z:Blt mg) (Uk:Cal P w K mg base "first_like" 1 ["rows"] Zn2):Yp P w K mg base CX0 2 f fd ["machine"] Zbf:=by
 refine F.ok Y0 (λvs H Q E h=>?_) (λcdv A outer s H vs Q E hr h=>?_)
 ·obtain ⟨m,l,b,es,st,rfl,_⟩:=h
  rfl
 obtain ⟨m,l,b,es,st,rfl,M,hes,k⟩:=h
 refine ⟨_,(Zd (Zm (i:=1) Y0.nd (by rfl) (Or.inl (by rfl)) (Zs (Zw (K:=K)) (pv 0) Zh (λ_ _=>rfl))) 
   (Zd (Zm (i:=2) Y0.nd (by rfl) (Or.inr (by rfl)) (Yg Uk (hr.mono (by decide)) (Za (Yc (sc:=Zf Xs) (Nm:=["machine","steps","likes","count","rows","room","row"]) (own:=["room"]) (fr:=[0]) ⟨rfl,by decide +kernel,by decide +kernel,by decide +kernel,by decide +kernel⟩ (by rfl) (Z2 (by decide)) (Yz (by rfl) Z.range (Za (Zn (Z3 (K:=K)) (by rfl) Z.len Ya (Za (pv 1) Zc)) Zc)) (λd=>(Zk (i:=0) Kt (by rfl) (Or.inl (by rfl)))) (λd=>Yb) (λd=>(Xu (Rc (K:=K)) (pv 0) (Zs (Zw (K:=K)) (pv 1) Zh (λ_ _=>rfl)) (by with_unfolding_all rfl)))) Zc))) 
   (Zd (Zm (i:=3) Y0.nd (by rfl) (Or.inl (by rfl)) Zh) 
   (Zd (Qo PassesOwn.never (Z7 Zhw (Zn Tv (by rfl) Z.len Ya (Za (Zu (Ol (K:=K) (by rfl)) (by rfl) Z.set C3 (Za (pv 2) Zc)) Zc)) (pv 3) (Z8 _)) 
    (Zd (Zm (i:=3) Y0.nd (by rfl) (Or.inl (by rfl)) (Zn Tv (by rfl) Z.len Ya (Za (Zu (Ol (K:=K) (by rfl)) (by rfl) Z.set C3 (Za (pv 2) Zc)) Zc))) 
    (Zd (Zm (i:=4) Y0.nd (by rfl) (Or.inl (by rfl)) (X9 Zc)) 
    (Zd (Xx PassesOwn.never (by rfl) (N8 (K:=K) (by rfl) Z.enumerate (pv 1)) (V5 (K:=K) (n:=2) (by rfl) (Yd (Zk (i:=5) Y0.nd (by rfl) (Or.inl (by rfl))) (Yd (Zk (i:=6) Y0.nd (by rfl) (Or.inl (by rfl))) V4))) 
     (Zi (Xz (Xd (K:=K) PySem.F.plainAttrs_list PySem.F.slot_list_append PySem.F.type_list_append We (pv 4) (Za (Zu (Yi (K:=K)) (by rfl) Z.tuple Yo (Za (Yj Zhy (X9 (Za (Zs (Zz (K:=K)) (pv 2) (pv 5) (λ_ _=>rfl)) Zc)) (Yc (sc:=Zf Xs) (Nm:=["machine","steps","likes","count","rows","room","row"]) (own:=["ahead"]) (fr:=[2]) ⟨rfl,by decide +kernel,by decide +kernel,by decide +kernel,by decide +kernel⟩ (by rfl) (Z2 (by decide)) (V3 (K:=K) (pv 6)) (λd=>(Zk (i:=0) Ks (by rfl) (Or.inl (by rfl)))) (λd=>Yb) (λd=>(Zs (Zz (K:=K)) (pv 1) (pv 0) (λ_ _=>rfl))))) Zc)) Zc))))) 
    (Zi (Zm (i:=2) Y0.nd (by rfl) (Or.inr (by rfl)) (Yg Uk (hr.mono (by decide)) (Za (pv 4) Zc)))))))) 
   (Zi (Z1 (pv 2))))))),?_⟩
 refine (let zz0:TS:=_; let zz1:TS:=_; let zz2:TS:=Zq _ zz1; let zz3:TS:=Zq _ zz2; let zz4:TS:=Zq _ zz3; let zz5:TS:=Zq (M6 _ zz4) zz0; let zz6:TS:=Zq _ zz5; let zz7:TS:=Zq _ zz6; (?_:Zq _ zz7 _ _ _))
 obtain ⟨eA,sA,ras,h1,h2,h3,h4,h5⟩:=M.lay
 have hst:=M.few.2.2
 have Zad:=M.beg
 have hrl:(ras.map V.ref).length=st.length:=by rw [List.length_map,h4]
 refine ⟨_,rfl,m,_,_,_,rfl,rfl,SqT.of h1,Zl (j:=3) rfl,?_⟩
 refine ⟨_,rfl,sA,_,rfl,.inr (SqT.of h3),_,rfl,by omega,by omega,?_⟩
 refine Xy (lo:=0) (k:=((((ras.map V.ref).length:Nat):Int)).toNat) (λi acc H2=>acc=(List.range i).map (λr=>V.bl (decide (r∈es)))∧Zo H H2) (Nat.lt_of_le_of_lt (show _≤216 by omega) (by decide)) ⟨rfl,Zo.refl _⟩
  (λi acc H2 p=>by rw [p.1,List.length_map,List.length_range]; exact Nat.le_refl _) (λi acc H2 hi p=>Vg ?_) (λacc H2 p y hy=>?_)
 ·obtain ⟨rfl,e2⟩:=p
  refine ⟨_,rfl,_,rfl,m,_,_,_,rfl,rfl,SqT.of (e2 _ _ h1),Zl (j:=2) rfl,eA,_,rfl,.inr (SqT.of (e2 _ _ h2)),rfl,Ui es,?_,e2⟩
  rw [List.range_succ,List.map_append]
  have:inV (V.int (0+(i:Int))) (es.map nI)=decide (i∈es):=by
   rw [show (0:Int)+(i:Int)=((i:Nat):Int) by omega]
   exact Rm i es
  show _ ++ [V.bl (inV (V.int (0+(i:Int))) (es.map nI))]=_
  rw [this]
  rfl
 obtain ⟨rfl,e2⟩:=p
 have hk0:((((ras.map V.ref).length:Nat):Int)).toNat=st.length:=by omega
 rw [hk0]
 have hbs:(List.range st.length).map (λr=>V.bl (decide (r∈es)))=((List.range st.length).map λr=>decide (r∈es)).map V.bl:=by rw [List.map_map]; rfl
 have e3:=e2.trans (Ze hy (.lst ((List.range st.length).map λr=>V.bl (decide (r∈es)))))
 refine ⟨y,rfl,.inl ⟨(List.range st.length).map λr=>decide (r∈es),by rw [Zb,hbs],by rw [List.length_map,List.length_range]; omega,λlp H4 hlp e4 h4l=>?_⟩⟩
 have e04:=e3.trans e4
 have Zr0:H4 lp=some (.lst ((lkN st es 0).map nI)):=by
  rw [h4l]
  refine congrArg (λz=>some (HO.lst z)) ?_
  show _=List.map nI (List.map (λb=>List.idxOf b (List.map (λr=>decide (r∈es)) (List.range st.length))) (List.map (λr=>decide (r∈es)) (List.range st.length)))
  rw [List.map_map (g:=nI)]
  rfl
 have lkl:∀ k,(lkN st es k).length=st.length:=λk=>by
  cases k with
  | zero=>unfold lkN lk0; rw [List.length_map,List.length_map,List.length_range]
  | succ k=>unfold lkN lkS lkR; rw [List.length_map,List.length_map,List.length_range]
 have dnl:∀ k,dn (lkN st es k)≤st.length:=λk=>by
  have:=firstMet_length_le (λi=>((lkN st es k).map λn:Nat=>(n:Int)).getD i 0) ((lkN st es k).map λn:Nat=>(n:Int)).length
  rw [List.length_map,lkl] at this
  unfold dn Uc
  rw [List.length_map,lkl]
  exact this
 have dn1:∀ k,0 < dn (lkN st es k):=λk=>by
  have h:=firstMet_any (λi=>((lkN st es k).map λn:Nat=>(n:Int)).getD i 0) ((lkN st es k).map λn:Nat=>(n:Int)).length (((lkN st es k).map λn:Nat=>(n:Int)).getD 0 0)
  have hin:((List.range ((lkN st es k).map λn:Nat=>(n:Int)).length).map λi=>((lkN st es k).map λn:Nat=>(n:Int)).getD i 0).any (· == ((lkN st es k).map λn:Nat=>(n:Int)).getD 0 0)=true:=by
   rw [List.any_eq_true]
   exact ⟨_,List.mem_map.mpr ⟨0,List.mem_range.mpr (by rw [List.length_map,lkl]; omega),rfl⟩,by simp⟩
  rw [hin] at h
  unfold dn Uc
  cases hc:firstMet (λi=>((lkN st es k).map λn:Nat=>(n:Int)).getD i 0) ((lkN st es k).map λn:Nat=>(n:Int)).length with
  | nil=>rw [hc] at h; cases h
  | cons=>exact Nat.succ_pos _
 refine ⟨lrW m sA st es H,
  ⟨_,0,0,lp,none,none,none,rfl,rfl,Zr0,e04,.inl ⟨rfl,rfl⟩⟩,?_⟩
 clear h4l Zr0 hlp e4 e04 lp
 rintro mm σ H5 ⟨k',cnt,lp,v4,v5,v6,rfl,rfl,h5l,e5,Zpe⟩
 have hns:(lkN st es k').map nI=((lkN st es k').map λn:Nat=>(n:Int)).map V.int:=by rw [List.map_map]; rfl
 have Zab:((lkN st es k').map λn:Nat=>(n:Int)).length+1 < scanBound:=by
  rw [List.length_map,lkl]
  exact Nat.lt_of_le_of_lt (show st.length+1≤217 by omega) (by decide)
 refine ⟨_,rfl,lp,_,rfl,SqL.of (by rw [← hns]; exact h5l),Zab,λq hq=>⟨q,_,_,rfl,Zb,_,rfl,_,_,rfl,rfl,_,rfl,?_⟩⟩
 have s6:=Ze hq (.set (λk=>(Uc ((lkN st es k').map λn:Nat=>(n:Int))).any (· == k)) (Uc ((lkN st es k').map λn:Nat=>(n:Int))).length)
 have h6l:=s6 _ _ h5l
 have e6:=e5.trans s6
 refine V9 (λc1=>?_) (λc1=>?_)
 ·have c2:((cnt:Nat):Int) < ((dn (lkN st es k'):Nat):Int):=of_decide_eq_true c1
  refine ⟨λσ' H'=>∃ m',m' < st.length+1 - cnt∧_,λ_ _ z=>z,?_⟩
  refine ⟨_,rfl,lp,_,rfl,SqL.of (by rw [← hns]; exact h6l),Zab,λq2 hq2=>⟨q2,_,_,rfl,Zb,?_⟩⟩
  refine ⟨(by show 0≤sizeLine; decide),λrp hrp=>?_⟩
  have s7:=Ze hq2 (.set (λk=>(Uc ((lkN st es k').map λn:Nat=>(n:Int))).any (· == k)) (Uc ((lkN st es k').map λn:Nat=>(n:Int))).length)
  have s8:=Ze hrp (.lst [])
  have h8l:=s8 _ _ (s7 _ _ h6l)
  have e8:=(e6.trans s7).trans s8
  have Cp:=none_of (e6.trans s7) hrp
  have nlr:lp≠rp:=Zg (s7 _ _ h6l) hrp
  refine ⟨_,rfl,sA,ras.map V.ref,rfl,.inr ⟨SqT.of (e8 _ _ h3),?_⟩⟩
  refine Hs (Sq:=λH xs=>SqT K H sA xs) (xs:=ras.map V.ref) (lrE m sA lp rp st es k' H)
   ⟨[],v5,v6,rfl,Zb,⟨rfl,λi x r a=>by simp at a⟩,e8,h8l⟩ (λi σ H7 _ h=>?_) ?_ ?_
  ·obtain ⟨ys,v5,v6,rfl,_,_,e7,_⟩:=h
   exact SqT.of (e7 _ _ h3)
  ·rintro i x σ H7 p hx ⟨ys,v5,v6,rfl,h7r,R7,e7,h7l⟩ hp
   rw [List.getElem?_map] at hx
   cases hai:ras[i]? with
   | none=>rw [hai] at hx; cases hx
   | some a=>
    rw [hai] at hx
    cases hx
    have hil:i < st.length:=by rw [← h4]; exact (List.getElem?_eq_some_iff.mp hai).1
    obtain ⟨hrm,hri⟩:=getD_mem (l:=st) (i:=i) (d:=[]) hil
    have hrr:st.getD i []=st.getD i []:=rfl
    generalize hr0:st.getD i []=r at hrm hri hrr
    have ha:=h5 i a r hai hri
    obtain ⟨Zeg,hrlt⟩:=M.rows r hrm
    have hll:=M.few.2.1
    have atL:∀ j,j < st.length→atI ((lkN st es k').map nI) ((j:Nat):Int)=some (nI ((lkN st es k').getD j 0)):=λj hj=>Zl (by rw [List.getElem?_map,(getD_mem (l:=lkN st es k') (d:=0) (by rw [lkl]; exact hj)).2]; rfl)
    have s9:=Ze hp (.tup [V.int (i:Int),V.ref a])
    refine ⟨p,_,rfl,SqT.of Zb,rfl,_,_,rfl,_,_,rfl,rfl,?_⟩
    have h9r:=s9 _ _ h7r
    have h9l:=s9 _ _ h7l
    have e9:=e7.trans s9
    have R9:=R7.keep (Tk.same s9)
    generalize upd H7 p (.tup [V.int (i:Int),V.ref a])=H9 at s9 h9r h9l e9 R9 ⊢
    refine ⟨_,rfl,.inl ⟨rfl,_,SqL.of h9r⟩,_,rfl,_,rfl,lp,_,_,_,rfl,rfl,SqL.of h9l,atL i hil,(by show 1≤sizeLine; decide),λl1 hl1=>?_⟩
    have t1:=Ze hl1 (.lst [nI ((lkN st es k').getD i 0)])
    have G9:=t1 _ _ h9l
    have Zsa:upd H9 l1 (.lst [nI ((lkN st es k').getD i 0)]) l1=some (.lst [nI ((lkN st es k').getD i 0)]):=Zb
    generalize upd H9 l1 (.lst [nI ((lkN st es k').getD i 0)])=H10 at t1 G9 Zsa ⊢
    have e10:=e9.trans t1
    refine ⟨_,rfl,a,rfl,⟨_,SqT.of (e10 _ _ ha)⟩,?_⟩
    refine U2 (K:=K) (a:=a) (xs:=r.map nI) (λj acc H11=>acc=(r.take j).map (λx=>nI ((lkN st es k').getD x 0))∧Zo H10 H11) (by rw [List.length_map]; exact Zt (by omega)) ⟨rfl,Zo.refl _⟩ (λj acc H11 q=>by rw [q.1,List.length_map,List.length_take]; exact Nat.min_le_left _ _)
     (λj acc H11 q=>SqT.of (q.2 _ _ (e10 _ _ ha))) (λj acc H11 x hxj q=>?_) (λacc H11 q y hy=>?_)
    ·obtain ⟨rfl,e11⟩:=q
     rw [List.getElem?_map] at hxj
     cases hc:r[j]? with
     | none=>rw [hc] at hxj; cases hxj
     | some c=>
      rw [hc] at hxj
      cases hxj
      refine Vg ⟨_,rfl,_,rfl,lp,_,_,_,rfl,rfl,SqL.of (e11 _ _ G9),atL c (hrlt c (List.mem_of_getElem? hc)),?_,e11⟩
      rw [map_take hc]
    obtain ⟨rfl,e11⟩:=q
    rw [List.length_map,List.take_length]
    have t2:=Ze hy (.lst (r.map λx=>nI ((lkN st es k').getD x 0)))
    refine ⟨l1,y,_,_,rfl,rfl,t2 _ _ (e11 _ _ Zsa),Zb,by rw [List.length_map]; exact Xv (by show 1+_≤1000; omega),λc hc=>?_⟩
    have t3:=Ze hc (.lst ([nI ((lkN st es k').getD i 0)] ++ r.map λx=>nI ((lkN st es k').getD x 0)))
    refine ⟨c,_,rfl,.inl ⟨SqL.of Zb,λz hz=>?_⟩⟩
    have t4:=Ze hz (.tup ([nI ((lkN st es k').getD i 0)] ++ r.map λx=>nI ((lkN st es k').getD x 0)))
    have t04:=(((t1.trans e11).trans t2).trans t3).trans t4
    have hyl:ys.length≤216:=by
     rw [R9.1,List.length_take]
     unfold lkR
     rw [List.length_map,List.length_range]
     omega
    have X5:(lkR st (lkN st es k'))[i]? = some ((lkN st es k').getD i 0 :: r.map λx=>(lkN st es k').getD x 0):=by
     unfold lkR
     rw [List.getElem?_map,List.getElem?_range hil,← hr0]
     rfl
    refine ⟨rp,_,_,rfl,rfl,t04 _ _ h9r,Zt (by omega),ys ++ [.ref z],_,_,rfl,Zb,?_,Yq (e9.trans t04) Cp _,(Zj nlr).trans (t04 _ _ h9l)⟩
    rw [List.take_add_one,X5]
    refine ((R9.keep (Tk.same t04)).keep (Tk.lst (t04 _ _ h9r) _)).snoc ?_
    rw [Zj (Wb Zb (t04 _ _ h9r) λz=>nomatch z)]
    refine Zb.trans ?_
    rw [List.map_cons,List.map_map]
    rfl
  ·rintro σ H7 ⟨ys,v5,v6,rfl,h7r,R7,e7,h7l⟩
   have hRl:(lkR st (lkN st es k')).length=st.length:=by unfold lkR; rw [List.length_map,List.length_range]
   rw [hrl,← hRl,List.take_length] at R7
   refine ⟨_,rfl,rp,rfl,.inr ⟨ys,_,h7r,R7,by omega,λlp2 H9 hlp2 e9 h9=>?_⟩⟩
   have hdl:=dnl k'
   refine ⟨st.length+1 - dn (lkN st es k'),by omega,k'+1,dn (lkN st es k'),lp2,_,_,_,rfl,rfl,?_,e7.trans e9,.inr ⟨k',rfl,rfl⟩⟩
   rw [h9]
   refine congrArg (λz=>some (HO.lst z)) ?_
   show _=List.map nI (List.map (λr=>(lkR st (lkN st es k')).idxOf r) (lkR st (lkN st es k')))
   rw [List.map_map]
   rfl
 ·have c2:¬ ((cnt:Nat):Int) < ((dn (lkN st es k'):Nat):Int):=λz=>c1 (decide_eq_true z)
  rcases Zpe with ⟨rfl,rfl⟩ | ⟨j,rfl,rfl⟩
  ·have:=dn1 0
   omega
  ·exact ⟨_,rfl,k lp j _ e6 h6l (by omega)⟩
def Canon {α:Type} [BEq α] (rs:List α) (L:List Nat):Prop:=L=rs.map λr=>rs.idxOf r
theorem Pb {α:Type} [BEq α] [LawfulBEq α] {rs:List α} {L:List Nat} (h:Canon rs L) {i:Nat} {r:α} (hi:rs[i]? = some r):L.getD i 0=rs.idxOf r:=by
 rw [h,List.getD_eq_getElem?_getD,List.getElem?_map,hi]
 rfl
theorem Nb {α:Type} [BEq α] [LawfulBEq α] {rs:List α} {r:α} (h:r∈rs):rs[rs.idxOf r]? = some r:=by
 rw [List.getElem?_eq_getElem (List.idxOf_lt_length_of_mem h)]
 exact congrArg some (List.getElem_idxOf _)
theorem Zam {α:Type} [BEq α] [LawfulBEq α] {rs:List α} {L:List Nat} (h:Canon rs L) {i j:Nat} {r r':α} (hi:rs[i]? = some r) (hj:rs[j]? = some r'):L.getD i 0=L.getD j 0↔r=r':=by
 rw [Pb h hi,Pb h hj]
 refine ⟨λe=>?_,λe=>by rw [e]⟩
 have a:=Nb (List.mem_of_getElem? hi)
 have b:=Nb (List.mem_of_getElem? hj)
 rw [e,b] at a
 exact (Option.some.inj a).symm
structure Gk (L:List Nat):Prop where
 le:∀ i,i < L.length→L.getD i 0≤i
 own:∀ i,i < L.length→L.getD (L.getD i 0) 0=L.getD i 0
 low:∀ i j,i < L.length→j < L.length→L.getD i 0=L.getD j 0→L.getD i 0≤j
theorem Canon.Zi4 {α:Type} [BEq α] [LawfulBEq α] {rs:List α} {L:List Nat} (h:Canon rs L):Gk L:=by
 have hl:L.length=rs.length:=by rw [h,List.length_map]
 have at_:∀ i,i < L.length→∃ r,rs[i]? = some r:=λi hi=>⟨rs[i]'(by omega),List.getElem?_eq_getElem (by omega)⟩
 have le:∀ i,i < L.length→L.getD i 0≤i:=λi hi=>by
  obtain ⟨r,hr⟩:=at_ i hi
  rw [Pb h hr]
  by_cases c:r∈rs.take i
  ·have e:rs.idxOf r=(rs.take i).idxOf r:=by
    conv=>lhs; rw [← List.take_append_drop i rs]
    rw [List.idxOf_append,if_pos c]
   have:=List.idxOf_lt_length_of_mem c
   rw [List.length_take] at this
   omega
  ·exact Nat.le_of_eq (Cm hr c)
 refine ⟨le,λi hi=>?_,λi j hi hj e=>?_⟩
 ·obtain ⟨r,hr⟩:=at_ i hi
  have:=le i hi
  rw [Pb h hr]
  exact Pb h (Nb (List.mem_of_getElem? hr))
 ·rw [e]
  exact le j hj
def cnt (L:List Nat):Nat→Nat
 | 0=>0
 | i+1=>cnt L i+if L.getD i 0=i then 1 else 0
theorem Zjm {L L':List Nat}:∀ n,(∀ i,i < n→L.getD i 0=i→L'.getD i 0=i)→cnt L n≤cnt L' n
 | 0,_=>Nat.le_refl _
 | n+1,h=>by
  have ih:=Zjm n λi hi=>h i (by omega)
  unfold cnt
  by_cases c:L.getD n 0=n
  ·rw [if_pos c,if_pos (h n (Nat.lt_succ_self _) c)]
   omega
  ·rw [if_neg c]
   omega
theorem Zcs {L L':List Nat}:∀ n,(∀ i,i < n→L.getD i 0=i→L'.getD i 0=i)→cnt L' n≤cnt L n→∀ i,i < n→L'.getD i 0=i→L.getD i 0=i
 | 0,_,_,i,hi,_=>absurd hi (Nat.not_lt_zero _)
 | n+1,h,e,i,hi,q=>by
  have le:=Zjm n λi hi=>h i (by omega)
  unfold cnt at e
  by_cases c:L.getD n 0=n
  ·rw [if_pos c,if_pos (h n (Nat.lt_succ_self _) c)] at e
   rcases Nat.lt_or_ge i n with z | z
   ·exact Zcs n (λi hi=>h i (by omega)) (by omega) i z q
   ·rw [show i=n by omega]
    exact c
  ·rw [if_neg c] at e
   rcases Nat.lt_or_ge i n with z | z
   ·exact Zcs n (λi hi=>h i (by omega)) (by omega) i z q
   ·have hin:i=n:=by omega
    subst hin
    rw [if_pos q] at e
    omega
theorem Zjf {L:List Nat} (F:Gk L):dn L=cnt L L.length:=by
 have key:∀ n,n≤L.length→(firstMet (λi=>(L.map λn:Nat=>(n:Int)).getD i 0) n).length=cnt L n:=λn=>by
  induction n with
  | zero=>intro _; rfl
  | succ n ih=>
   intro hn
   have hv:∀ i,i < L.length→(L.map λn:Nat=>(n:Int)).getD i 0=((L.getD i 0:Nat):Int):=λi hi=>by
    rw [List.getD_eq_getElem?_getD,List.getElem?_map,List.getElem?_eq_getElem hi,List.getD_eq_getElem?_getD,List.getElem?_eq_getElem hi]
    rfl
   rw [firstMet_succ,step_length,ih (by omega),firstMet_any,hv n (by omega)]
   show _=cnt L n+if L.getD n 0=n then 1 else 0
   by_cases c:L.getD n 0=n
   ·rw [if_pos c,if_neg]
    intro z
    obtain ⟨x,hx,e⟩:=List.any_eq_true.mp z
    obtain ⟨j,hj,rfl⟩:=List.mem_map.mp hx
    have hj':=List.mem_range.mp hj
    have e2:=eq_of_beq e
    rw [hv j (by omega)] at e2
    have:=F.le j (by omega)
    omega
   ·rw [if_neg c,if_pos,Nat.add_zero]
    have l1:=F.le n (by omega)
    refine List.any_eq_true.mpr ⟨_,List.mem_map.mpr ⟨L.getD n 0,List.mem_range.mpr (by omega),rfl⟩,?_⟩
    rw [hv (L.getD n 0) (by omega),F.own n (by omega)]
    simp
 unfold dn Uc
 rw [List.length_map]
 exact key _ (Nat.le_refl _)
theorem Zbk {L L':List Nat} (F:Gk L) (F':Gk L') (hl:L'.length=L.length) (Zpn:∀ i j,i < L.length→j < L.length→L'.getD i 0=L'.getD j 0→L.getD i 0=L.getD j 0) (few:dn L'≤dn L) :
  ∀ i j,i < L.length→j < L.length→L.getD i 0=L.getD j 0→L'.getD i 0=L'.getD j 0:=by
 have up:∀ i,i < L.length→L.getD i 0=i→L'.getD i 0=i:=λi hi e=>by
  have h1:=F'.le i (by omega)
  have h2:=Zpn (L'.getD i 0) i (by omega) hi (F'.own i (by omega))
  have h3:=F.low i (L'.getD i 0) hi (by omega) h2.symm
  omega
 rw [Zjf F,Zjf F',hl] at few
 have dnw:=Zcs L.length up few
 intro i j hi hj e
 have a1:=F'.le i (by omega)
 have b1:=F'.le j (by omega)
 have a2:=dnw (L'.getD i 0) (by omega) (F'.own i (by omega))
 have b2:=dnw (L'.getD j 0) (by omega) (F'.own j (by omega))
 have a3:=Zpn (L'.getD i 0) i (by omega) hi (F'.own i (by omega))
 have b3:=Zpn (L'.getD j 0) j (by omega) hj (F'.own j (by omega))
 omega
def stN (st:List (List Nat)) (i c:Nat):Nat:=(st.getD i []).getD c 0
def Oz (st:List (List Nat)) (i:Nat) (cs:List Nat):Nat:=cs.foldl (stN st) i
def Fut (st:List (List Nat)) (es:List Nat) (w i j:Nat):Prop:=∀ cs:List Nat,(∀ c∈cs,c < w)→(Oz st i cs∈es↔Oz st j cs∈es)
def Rp (st:List (List Nat)) (w:Nat):Prop:=∀ r∈st,r.length=w∧∀ x∈r,x < st.length
theorem getD_in {α:Type} {l:List α} {i:Nat} {d:α} (h:i < l.length):l.getD i d∈l∧l[i]? = some (l.getD i d):=by
 rw [List.getD_eq_getElem?_getD,List.getElem?_eq_getElem h]
 exact ⟨List.getElem_mem h,rfl⟩
theorem Vv {st:List (List Nat)} {w i c:Nat} (R:Rp st w) (hi:i < st.length) (hc:c < w):stN st i c < st.length:=by
 obtain ⟨h1,_⟩:=getD_in (l:=st) (d:=[]) hi
 obtain ⟨h2,h3⟩:=R _ h1
 exact h3 _ (getD_in (l:=st.getD i []) (d:=0) (by omega)).1
theorem Of (st:List (List Nat)) (es:List Nat):∀ k,(lkN st es k).length=st.length
 | 0=>by unfold lkN lk0; rw [List.length_map,List.length_map,List.length_range]
 | k+1=>by unfold lkN lkS lkR; rw [List.length_map,List.length_map,List.length_range]
theorem O9 {st:List (List Nat)} {L:List Nat} {i:Nat} (hi:i < st.length):(lkR st L)[i]? = some (L.getD i 0 :: (st.getD i []).map λx=>L.getD x 0):=by
 unfold lkR
 rw [List.getElem?_map,List.getElem?_range hi]
 rfl
theorem Zcd {es:List Nat} {n i j:Nat} (hi:i < n) (hj:j < n):(lk0 es n).getD i 0=(lk0 es n).getD j 0↔(i∈es↔j∈es):=by
 have c:Canon ((List.range n).map λr=>decide (r∈es)) (lk0 es n):=rfl
 have at_:∀ i,i < n→((List.range n).map λr=>decide (r∈es))[i]? = some (decide (i∈es)):=λi hi=>by rw [List.getElem?_map,List.getElem?_range hi]; rfl
 rw [Zam c (at_ i hi) (at_ j hj)]
 constructor
 ·intro e
  rw [Bool.eq_iff_iff,decide_eq_true_eq,decide_eq_true_eq] at e
  exact e
 ·intro e
  rw [Bool.eq_iff_iff,decide_eq_true_eq,decide_eq_true_eq]
  exact e
theorem Hh {st:List (List Nat)} {L:List Nat} {w i j:Nat} (R:Rp st w) (hi:i < st.length) (hj:j < st.length):(lkS st L).getD i 0=(lkS st L).getD j 0↔(L.getD i 0=L.getD j 0∧∀ c,c < w→L.getD (stN st i c) 0=L.getD (stN st j c) 0):=by
 have cn:Canon (lkR st L) (lkS st L):=rfl
 rw [Zam cn (O9 hi) (O9 hj),List.cons.injEq]
 have li:=(R _ (getD_in (l:=st) (d:=[]) hi).1).1
 have lj:=(R _ (getD_in (l:=st) (d:=[]) hj).1).1
 refine and_congr_right λ_=>⟨λe c hc=>?_,λh=>?_⟩
 ·have a:=congrArg (λz:List Nat=>z[c]?) e
  simp only [List.getElem?_map] at a
  rw [(getD_in (l:=st.getD i []) (d:=0) (show c < _ by omega)).2,(getD_in (l:=st.getD j []) (d:=0) (show c < _ by omega)).2] at a
  exact Option.some.inj a
 ·refine List.ext_getElem? λc=>?_
  rw [List.getElem?_map,List.getElem?_map]
  rcases Nat.lt_or_ge c w with z | z
  ·rw [(getD_in (l:=st.getD i []) (d:=0) (show c < _ by omega)).2,(getD_in (l:=st.getD j []) (d:=0) (show c < _ by omega)).2]
   exact congrArg some (h c z)
  ·rw [List.getElem?_eq_none (by omega),List.getElem?_eq_none (by omega)]
theorem Uz (st:List (List Nat)) (es:List Nat):∀ k,Gk (lkN st es k)
 | 0=>Canon.Zi4 (rs:=(List.range st.length).map λr=>decide (r∈es)) rfl
 | k+1=>Canon.Zi4 (rs:=lkR st (lkN st es k)) rfl
theorem A4 {st:List (List Nat)} {es:List Nat} {w:Nat} (R:Rp st w):∀ k i j,i < st.length→j < st.length→(lkN st es k).getD i 0=(lkN st es k).getD j 0→(i∈es↔j∈es)
 | 0,i,j,hi,hj,e=>(Zcd hi hj).mp e
 | k+1,i,j,hi,hj,e=>A4 R k i j hi hj ((Hh R hi hj).mp e).1
theorem Ce {st:List (List Nat)} {es:List Nat} {w:Nat} (R:Rp st w):∀ k i j,i < st.length→j < st.length→Fut st es w i j→(lkN st es k).getD i 0=(lkN st es k).getD j 0
 | 0,i,j,hi,hj,f=>(Zcd hi hj).mpr (f [] λc hc=>by cases hc)
 | k+1,i,j,hi,hj,f=>(Hh R hi hj).mpr ⟨Ce R k i j hi hj f,λc hc=>Ce R k _ _ (Vv R hi hc) (Vv R hj hc) λcs hcs=>f (c :: cs) λd hd=>by
   rcases List.mem_cons.mp hd with z | z
   ·rw [z]; exact hc
   ·exact hcs d z⟩
theorem Zcc {st:List (List Nat)} {es:List Nat} {w k:Nat} (R:Rp st w) (few:dn (lkN st es (k+1))≤dn (lkN st es k)) {i j:Nat} (hi:i < st.length) (hj:j < st.length) :
  (lkN st es (k+1)).getD i 0=(lkN st es (k+1)).getD j 0↔Fut st es w i j:=by
 refine ⟨λe=>?_,Ce R (k+1) i j hi hj⟩
 have l0:=Of st es k
 have l1:=Of st es (k+1)
 have sk:=Zbk (Uz st es k) (Uz st es (k+1)) (by rw [l1,l0]) (λi j hi hj e=>((Hh R (by omega) (by omega)).mp e).1) few
 have walk:∀ (cs:List Nat) (i j:Nat),i < st.length→j < st.length→(∀ c∈cs,c < w)→(lkN st es (k+1)).getD i 0=(lkN st es (k+1)).getD j 0→(Oz st i cs∈es↔Oz st j cs∈es):=by
  intro cs
  induction cs with
  | nil=>exact λi j hi hj _ e=>A4 R (k+1) i j hi hj e
  | cons c cs ih=>
   intro i j hi hj hc e
   have h1:=((Hh R hi hj).mp e).2 c (hc c List.mem_cons_self)
   have a:=Vv R hi (hc c List.mem_cons_self)
   have b:=Vv R hj (hc c List.mem_cons_self)
   exact ih _ _ a b (λd hd=>hc d (List.mem_cons_of_mem _ hd)) (sk _ _ (by omega) (by omega) h1)
 exact λcs hcs=>walk cs i j hi hj hcs e
theorem Sn:∀ (n:Nat) (l:List Nat),l.Nodup→(∀ x∈l,x < n)→l.length≤n
 | 0,[],_,_=>Nat.le_refl _
 | 0,x :: _,_,h=>absurd (h x List.mem_cons_self) (Nat.not_lt_zero _)
 | n+1,l,nd,h=>by
  have ih:=Sn n (l.filter (· != n)) (nd.filter _) λx hx=>by
   obtain ⟨h1,h2⟩:=List.mem_filter.mp hx
   have:=h x h1
   have h3:x≠n:=by simpa using h2
   omega
  have key:∀ (l:List Nat),l.Nodup→l.length≤(l.filter (· != n)).length+1:=by
   intro l
   induction l with
   | nil=>intro _; exact Nat.zero_le _
   | cons a t iht=>
    intro nd
    obtain ⟨na,nt⟩:=List.nodup_cons.mp nd
    rw [List.filter_cons]
    by_cases c:a=n
    ·subst c
     rw [if_neg (by simp)]
     have:t.filter (· != a)=t:=List.filter_eq_self.mpr λx hx=>by
      have:x≠a:=λz=>na (z▸hx)
      simpa using this
     rw [this]
     exact Nat.le_refl _
    ·rw [if_pos (by simpa using c)]
     have:=iht nt
     simp only [List.length_cons]
     omega
  have:=key l nd
  omega
inductive Pw (R:Nat→Nat→Prop):List Nat→List Nat→Prop
 | nil:Pw R [] []
 | cons {a b:Nat} {l m:List Nat}:R a b→Pw R l m→Pw R (a :: l) (b :: m)
variable {R:Nat→Nat→Prop} {k1 k2:Nat→Nat}
theorem Pw.len {l m:List Nat} (h:Pw R l m):l.length=m.length:=by
 induction h with
 | nil=>rfl
 | cons _ _ ih=>rw [List.length_cons,List.length_cons,ih]
theorem Pw.snoc {l m:List Nat} (h:Pw R l m) {a b:Nat} (r:R a b):Pw R (l ++ [a]) (m ++ [b]):=by
 induction h with
 | nil=>exact .cons r .nil
 | cons q _ ih=>exact .cons q ih
theorem Pw.get {l m:List Nat} (h:Pw R l m):∀ {i:Nat} {x:Nat},l[i]? = some x→∃ y,m[i]? = some y∧R x y:=by
 induction h with
 | nil=>intro i x e; simp at e
 | cons q _ ih=>
  intro i x e
  cases i with
  | zero=>cases e; exact ⟨_,rfl,q⟩
  | succ i=>exact ih (by simpa using e)
theorem Pw.of:∀ {l m:List Nat},l.length=m.length→(∀ (i:Nat) x y,l[i]? = some x→m[i]? = some y→R x y)→Pw R l m
 | [],[],_,_=>.nil
 | [],_ :: _,h,_=>nomatch h
 | _ :: _,[],h,_=>nomatch h
 | a :: l,b :: m,h,q=>.cons (q 0 a b rfl rfl) (Pw.of (by simpa using h) λi x y e1 e2=>q (i+1) x y (by simpa using e1) (by simpa using e2))
def KR (R:Nat→Nat→Prop) (k1 k2:Nat→Nat):Prop:=∀ x y x' y',R x y→R x' y'→(k1 x=k1 x'↔k2 y=k2 y')
theorem Pw.mem (kr:KR R k1 k2) {l m:List Nat} (h:Pw R l m) {x y:Nat} (r:R x y):k1 x∈l.map k1↔k2 y∈m.map k2:=by
 induction h with
 | nil=>exact ⟨λz=>(List.not_mem_nil z).elim,λz=>(List.not_mem_nil z).elim⟩
 | cons q _ ih=>rw [List.map_cons,List.map_cons,List.mem_cons,List.mem_cons,ih,kr _ _ _ _ r q]
theorem Pw.idx (kr:KR R k1 k2) {l m:List Nat} (h:Pw R l m) {x y:Nat} (r:R x y):(l.map k1).idxOf (k1 x)=(m.map k2).idxOf (k2 y):=by
 induction h with
 | nil=>rfl
 | @cons a b _ _ q _ ih=>
  rw [List.map_cons,List.map_cons,List.idxOf_cons,List.idxOf_cons,ih]
  have e:=kr _ _ _ _ q r
  by_cases c:k1 a=k1 x
  ·rw [beq_iff_eq.mpr c,beq_iff_eq.mpr (e.mp c)]
  ·rw [beq_eq_false_iff_ne.mpr c,beq_eq_false_iff_ne.mpr λz=>c (e.mpr z)]
def Xn (k:Nat→Nat) (o:List Nat) (x:Nat):List Nat:=if k x∈o.map k then o else o ++ [x]
def Zv (k:Nat→Nat) (T:Nat→List Nat) (b:Nat):Nat→List Nat
 | 0=>[b]
 | i+1=>match (Zv k T b i)[i]? with
  | some x=>(T x).foldl (Xn k) (Zv k T b i)
  | none=>Zv k T b i
theorem W0 {k:Nat→Nat} {T:Nat→List Nat} {b i x:Nat} (h:(Zv k T b i)[i]? = some x):Zv k T b (i+1)=(T x).foldl (Xn k) (Zv k T b i):=by
 show (match (Zv k T b i)[i]? with | some x=>(T x).foldl (Xn k) (Zv k T b i) | none=>Zv k T b i)=_
 rw [h]
theorem W3 {k:Nat→Nat} {T:Nat→List Nat} {b i:Nat} (h:(Zv k T b i).length≤i):∀ j,i≤j→Zv k T b j=Zv k T b i
 | 0,hj=>by rw [Nat.le_zero.mp hj]
 | j+1,hj=>by
  rcases Nat.lt_or_ge i (j+1) with z | z
  ·have ih:=W3 h j (by omega)
   show (match (Zv k T b j)[j]? with | some x=>(T x).foldl (Xn k) (Zv k T b j) | none=>Zv k T b j)=_
   rw [ih,List.getElem?_eq_none (by omega)]
  ·rw [show i=j+1 by omega]
theorem Pw.fold (kr:KR R k1 k2) {t u:List Nat} (h:Pw R t u):∀ {l m:List Nat},Pw R l m→Pw R (t.foldl (Xn k1) l) (u.foldl (Xn k2) m):=by
 induction h with
 | nil=>exact λh=>h
 | @cons a b _ _ q _ ih=>
  intro l m h
  refine ih ?_
  unfold Xn
  by_cases c:k1 a∈l.map k1
  ·rw [if_pos c,if_pos ((h.mem kr q).mp c)]
   exact h
  ·rw [if_neg c,if_neg λz=>c ((h.mem kr q).mpr z)]
   exact h.snoc q
theorem Pw.ord (kr:KR R k1 k2) {T1 T2:Nat→List Nat} (ht:∀ x y,R x y→Pw R (T1 x) (T2 y)) {b1 b2:Nat} (hb:R b1 b2):∀ i,Pw R (Zv k1 T1 b1 i) (Zv k2 T2 b2 i)
 | 0=>.cons hb .nil
 | i+1=>by
  have ih:=Pw.ord kr ht hb i
  cases e:(Zv k1 T1 b1 i)[i]? with
  | none=>
   have l1:=List.getElem?_eq_none_iff.mp e
   rw [W3 l1 _ (Nat.le_succ _),W3 (by rw [← ih.len]; exact l1) _ (Nat.le_succ _)]
   exact ih
  | some x=>
   obtain ⟨y,hy,r⟩:=ih.get e
   rw [W0 e,W0 hy]
   exact Pw.fold kr (ht x y r) ih
theorem Zj5 {k:Nat→Nat} {P:Nat→Prop} {o:List Nat} {x:Nat} (h:∀ y∈o,P y) (hx:P x):∀ y∈Xn k o x,P y:=by
 unfold Xn
 intro y hy
 by_cases c:k x∈o.map k
 ·rw [if_pos c] at hy
  exact h y hy
 ·rw [if_neg c] at hy
  rcases List.mem_append.mp hy with z | z
  ·exact h y z
  ·rw [List.mem_singleton.mp z]
   exact hx
theorem Zl5 {k:Nat→Nat} {o:List Nat} {x:Nat} (h:(o.map k).Nodup):((Xn k o x).map k).Nodup:=by
 unfold Xn
 by_cases c:k x∈o.map k
 ·rw [if_pos c]; exact h
 ·rw [if_neg c,List.map_append,List.nodup_append]
  refine ⟨h,by simp,?_⟩
  intro a ha b hb e
  have:b=k x:=by simpa using hb
  rw [e,this] at ha
  exact c ha
theorem Zj3 {k:Nat→Nat} {o:List Nat} {x:Nat}:o <+: Xn k o x:=by
 unfold Xn
 by_cases c:k x∈o.map k
 ·rw [if_pos c]; exact List.prefix_rfl
 ·rw [if_neg c]; exact List.prefix_append _ _
theorem Zj4 {k:Nat→Nat} {o:List Nat} {x:Nat}:k x∈(Xn k o x).map k:=by
 unfold Xn
 by_cases c:k x∈o.map k
 ·rw [if_pos c]; exact c
 ·rw [if_neg c,List.map_append]
  simp
theorem S0 {k:Nat→Nat}:∀ (t o:List Nat),o <+: t.foldl (Xn k) o
 | [],_=>List.prefix_rfl
 | _ :: t,o=>Zj3.trans (S0 t _)
theorem fold_all {k:Nat→Nat} {P:Nat→Prop}:∀ (t o:List Nat),(∀ y∈o,P y)→(∀ y∈t,P y)→∀ y∈t.foldl (Xn k) o,P y
 | [],_,h,_=>h
 | a :: t,o,h,ht=>fold_all t _ (Zj5 h (ht a List.mem_cons_self)) λy hy=>ht y (List.mem_cons_of_mem _ hy)
theorem Ms {k:Nat→Nat}:∀ (t o:List Nat),(o.map k).Nodup→((t.foldl (Xn k) o).map k).Nodup
 | [],_,h=>h
 | _ :: t,o,h=>Ms t _ (Zl5 h)
theorem Zae {k:Nat→Nat}:∀ (t o:List Nat) (x:Nat),x∈t→k x∈(t.foldl (Xn k) o).map k
 | a :: t,o,x,h=>by
  rcases List.mem_cons.mp h with z | z
  ·subst z
   exact (List.IsPrefix.map k (S0 t (Xn k o x))).subset Zj4
  ·exact Zae t _ x z
theorem Zfe {k:Nat→Nat} {T:Nat→List Nat} {b:Nat} (i:Nat):Zv k T b i <+: Zv k T b (i+1):=by
 cases e:(Zv k T b i)[i]? with
 | none=>rw [W3 (List.getElem?_eq_none_iff.mp e) _ (Nat.le_succ _)]; exact List.prefix_rfl
 | some x=>rw [W0 e]; exact S0 _ _
theorem W4 {k:Nat→Nat} {T:Nat→List Nat} {b i:Nat}:∀ j,i≤j→Zv k T b i <+: Zv k T b j
 | 0,hj=>by rw [Nat.le_zero.mp hj]; exact List.prefix_rfl
 | j+1,hj=>by
  rcases Nat.lt_or_ge i (j+1) with z | z
  ·exact (W4 j (by omega)).trans (Zfe j)
  ·rw [show i=j+1 by omega]; exact List.prefix_rfl
theorem Uw {k:Nat→Nat} {T:Nat→List Nat} {b:Nat} {P:Nat→Prop} (hb:P b) (ht:∀ x,P x→∀ y∈T x,P y):∀ i,∀ y∈Zv k T b i,P y
 | 0,y,hy=>by rw [List.mem_singleton.mp hy]; exact hb
 | i+1,y,hy=>by
  have ih:=Uw hb ht (k:=k) i
  cases e:(Zv k T b i)[i]? with
  | none=>rw [W3 (List.getElem?_eq_none_iff.mp e) _ (Nat.le_succ _)] at hy; exact ih y hy
  | some x=>rw [W0 e] at hy; exact fold_all _ _ ih (ht x (ih x (List.mem_of_getElem? e))) y hy
theorem Tt {k:Nat→Nat} {T:Nat→List Nat} {b:Nat}:∀ i,((Zv k T b i).map k).Nodup
 | 0=>by show ([b].map k).Nodup; simp
 | i+1=>by
  cases e:(Zv k T b i)[i]? with
  | none=>rw [W3 (List.getElem?_eq_none_iff.mp e) _ (Nat.le_succ _)]; exact Tt i
  | some x=>rw [W0 e]; exact Ms _ _ (Tt i)
theorem Ah {k:Nat→Nat} {T:Nat→List Nat} {b:Nat} (i:Nat):0 < (Zv k T b i).length∧(Zv k T b i)[0]? = some b:=by
 have h:=W4 (k:=k) (T:=T) (b:=b) i (Nat.zero_le i)
 obtain ⟨t,e⟩:=h
 rw [← e]
 exact ⟨by show 0 < ([b] ++ t).length; simp,rfl⟩
theorem Qs {k:Nat→Nat} {T:Nat→List Nat} {b n:Nat} {P:Nat→Prop} (hb:P b) (ht:∀ x,P x→∀ y∈T x,P y) (hk:∀ x,P x→k x < n) (i:Nat):(Zv k T b i).length≤n:=by
 have:=Sn n _ (Tt (k:=k) (T:=T) (b:=b) i) λx hx=>by
  obtain ⟨y,hy,e⟩:=List.mem_map.mp hx
  rw [← e]
  exact hk y (Uw hb ht i y hy)
 rwa [List.length_map] at this
theorem Ma {k:Nat→Nat} {T:Nat→List Nat} {b n:Nat} {j x y:Nat} (hj:(Zv k T b n)[j]? = some x) (hn:j < n) (hy:y∈T x):k y∈(Zv k T b n).map k:=by
 have p1:=W4 (k:=k) (T:=T) (b:=b) (i:=j) n (by omega)
 have p2:=W4 (k:=k) (T:=T) (b:=b) (i:=j+1) n hn
 rcases Nat.lt_or_ge j (Zv k T b j).length with z | z
 ·have e:(Zv k T b j)[j]? = some x:=by
   obtain ⟨t,e⟩:=p1
   rw [← e,List.getElem?_append_left z] at hj
   exact hj
  refine (List.IsPrefix.map k p2).subset ?_
  rw [W0 e]
  exact Zae _ _ y hy
 ·have:=W3 z n (by omega)
  rw [this,List.getElem?_eq_none z] at hj
  cases hj
def Xl (k:Nat→Nat) (T:Nat→List Nat) (o:List Nat):List (List Nat):=o.map λx=>(T x).map λt=>(o.map k).idxOf (k t)
def Ws (o:List Nat) (e:Nat→Bool):List Nat:=(List.range o.length).filter λi=>e (o.getD i 0)
theorem Pw.rows (kr:KR R k1 k2) {T1 T2:Nat→List Nat} (ht:∀ x y,R x y→Pw R (T1 x) (T2 y)) {o p:List Nat} (h:Pw R o p):Xl k1 T1 o=Xl k2 T2 p:=by
 have inner:∀ {t u:List Nat},Pw R t u→(t.map λx=>(o.map k1).idxOf (k1 x))=u.map λx=>(p.map k2).idxOf (k2 x):=by
  intro t u hu
  induction hu with
  | nil=>rfl
  | cons q _ ih=>rw [List.map_cons,List.map_cons,ih,h.idx kr q]
 have outer:∀ {o' p':List Nat},Pw R o' p'→(o'.map λx=>(T1 x).map λt=>(o.map k1).idxOf (k1 t))=p'.map λx=>(T2 x).map λt=>(p.map k2).idxOf (k2 t):=by
  intro o' p' hu
  induction hu with
  | nil=>rfl
  | cons q _ ih=>rw [List.map_cons,List.map_cons,ih,inner (ht _ _ q)]
 exact outer h
theorem Pw.ends {o p:List Nat} (h:Pw R o p) {e1 e2:Nat→Bool} (he:∀ x y,R x y→e1 x=e2 y):Ws o e1=Ws p e2:=by
 unfold Ws
 rw [h.len]
 refine List.filter_congr λi hi=>?_
 have hi':=List.mem_range.mp hi
 have hi2:i < o.length:=by rw [h.len]; exact hi'
 obtain ⟨y,hy,r⟩:=h.get (List.getElem?_eq_getElem hi2)
 rw [List.getD_eq_getElem?_getD,List.getElem?_eq_getElem hi2,List.getD_eq_getElem?_getD,hy]
 exact he _ _ r
inductive Lw:List Nat→List Nat→Prop where
 | hd {a b:Nat} {x y:List Nat} (h:a < b):Lw (a :: x) (b :: y)
 | tl {a:Nat} {x y:List Nat} (h:Lw x y):Lw (a :: x) (a :: y)
theorem Lw.app {x y:List Nat} (h:Lw x y) (z z':List Nat):Lw (x ++ z) (y ++ z'):=by
 induction h with
 | hd h=>exact .hd h
 | tl _ ih=>exact .tl ih
theorem Lw.snoc {c d:Nat} (h:c < d):∀ x:List Nat,Lw (x ++ [c]) (x ++ [d])
 | []=>.hd h
 | _ :: x=>.tl (Lw.snoc h x)
theorem Lw.trans:∀ {x y z:List Nat},Lw x y→Lw y z→Lw x z
 | _,_,_,.hd h,.hd k=>.hd (Nat.lt_trans h k)
 | _,_,_,.hd h,.tl _=>.hd h
 | _,_,_,.tl _,.hd k=>.hd k
 | _,_,_,.tl h,.tl k=>.tl (h.trans k)
def Sw (u v:List Nat):Prop:=u.length < v.length∨(u.length=v.length∧Lw u v)
def Sl (u v:List Nat):Prop:=u=v∨Sw u v
theorem Sw.trans {x y z:List Nat} (h:Sw x y) (k:Sw y z):Sw x z:=by
 rcases h with h | ⟨h1,h2⟩ <;> rcases k with k | ⟨k1,k2⟩
 ·exact .inl (Nat.lt_trans h k)
 ·exact .inl (by omega)
 ·exact .inl (by omega)
 ·exact .inr ⟨h1.trans k1,h2.trans k2⟩
theorem Sw.snoc {u v:List Nat} (h:Sw u v) (c d:Nat):Sw (u ++ [c]) (v ++ [d]):=by
 rcases h with h | ⟨h1,h2⟩
 ·exact .inl (by simp only [List.length_append,List.length_singleton]; omega)
 ·exact .inr ⟨by simp only [List.length_append,List.length_singleton]; omega,h2.app _ _⟩
theorem Sw.last {c d:Nat} (h:c < d) (u:List Nat):Sw (u ++ [c]) (u ++ [d]):=.inr ⟨by simp only [List.length_append,List.length_singleton],Lw.snoc h u⟩
theorem Sw.nil (u:List Nat) (c:Nat):Sw [] (u ++ [c]):=.inl (by simp only [List.length_append,List.length_singleton,List.length_nil]; omega)
theorem Sw.more (u:List Nat) (c:Nat):Sw u (u ++ [c]):=.inl (by simp only [List.length_append,List.length_singleton]; omega)
theorem Sl.trans {x y z:List Nat} (h:Sl x y) (k:Sl y z):Sl x z:=by
 rcases h with rfl | h
 ·exact k
 ·rcases k with rfl | k
  ·exact .inr h
  ·exact .inr (h.trans k)
structure BI (L:List Nat) (g:Nat→Nat→Nat) (b i m:Nat) (O:List Nat) (T:List (List Nat)):Prop where
 len:T.length=O.length
 zero:O[0]? = some b∧T[0]? = some []
 way:∀ (j:Nat) x t,O[j]? = some x→T[j]? = some t→t.foldl g b=x∧(∀ c∈t,c∈L)∧t.length≤j
 inc:∀ (j k:Nat) t u,j < k→T[j]? = some t→T[k]? = some u→Sw t u
 par:∀ (j:Nat) t,T[j]? = some t→t=[]∨∃ (j':Nat) (t':List Nat) (n c:Nat),T[j']? = some t'∧L[n]? = some c∧t=t' ++ [c]∧(j' < i∨(j'=i∧n < m))
 done:∀ (j:Nat) x t (n:Nat) c,O[j]? = some x→T[j]? = some t→L[n]? = some c→(j < i∨(j=i∧n < m))→∃ (k:Nat) (u:List Nat),O[k]? = some (g x c)∧T[k]? = some u∧Sl u (t ++ [c])
def Zgd (L:List Nat):Prop:=∀ (n n':Nat) c c',n < n'→L[n]? = some c→L[n']? = some c'→c < c'
theorem BI.start {L:List Nat} {g:Nat→Nat→Nat} {b:Nat}:BI L g b 0 0 [b] [[]]:=by
 have one:∀ {α:Type} {a x:α} {j:Nat},[a][j]? = some x→j=0∧x=a:=λ{α a x j} h=>by
  cases j with
  | zero=>exact ⟨rfl,(Option.some.inj h).symm⟩
  | succ j=>simp at h
 refine ⟨rfl,⟨rfl,rfl⟩,λj x t h1 h2=>?_,λj k t u hk h1 h2=>?_,λj t h=>?_,λj x t n c h1 h2 h3 h4=>?_⟩
 ·obtain ⟨rfl,rfl⟩:=one h1
  obtain ⟨_,rfl⟩:=one h2
  exact ⟨rfl,λc hc=>(List.not_mem_nil hc).elim,Nat.le_refl _⟩
 ·obtain ⟨rfl,_⟩:=one h1
  obtain ⟨rfl,_⟩:=one h2
  omega
 ·exact .inl (one h).2
 ·omega
section
variable {L:List Nat} {g:Nat→Nat→Nat} {b i m:Nat} {O:List Nat} {T:List (List Nat)}
theorem BI.at (B:BI L g b i m O T) {j x:Nat} (h:O[j]? = some x):∃ t,T[j]? = some t:=
 ⟨_,List.getElem?_eq_getElem (by rw [B.len]; exact (List.getElem?_eq_some_iff.mp h).1)⟩
theorem BI.ahead (B:BI L g b i m O T) (hL:Zgd L) {t:List Nat} {c:Nat} (ht:T[i]? = some t) (hc:L[m]? = some c):∀ (j:Nat) u,T[j]? = some u→Sw u (t ++ [c]):=λj u h=>by
 rcases B.par j u h with rfl | ⟨j',t',n,d,h1,h2,rfl,h3 | ⟨rfl,h3⟩⟩
 ·exact Sw.nil t c
 ·exact (B.inc j' i t' t h3 h1 ht).snoc d c
 ·rw [ht] at h1
  cases h1
  exact Sw.last (hL n m d c h3 h2 hc) t
theorem BI.old (B:BI L g b i m O T) (hL:Zgd L) {y:Nat} {t:List Nat} {c:Nat} (hy:O[i]? = some y) (ht:T[i]? = some t) (hc:L[m]? = some c) (hin:g y c∈O):BI L g b i (m+1) O T:=by
 refine ⟨B.len,B.zero,B.way,B.inc,λj u h=>?_,λj x u n d h1 h2 h3 h4=>?_⟩
 ·rcases B.par j u h with z | ⟨j',t',n,d,h1,h2,h3,h4⟩
  ·exact .inl z
  ·exact .inr ⟨j',t',n,d,h1,h2,h3,h4.imp id λz=>⟨z.1,by omega⟩⟩
 ·by_cases z:j < i∨(j=i∧n < m)
  ·exact B.done j x u n d h1 h2 h3 z
  ·obtain ⟨rfl,hn⟩:j=i∧n=m:=by omega
   subst hn
   rw [hy] at h1
   rw [ht] at h2
   rw [hc] at h3
   cases h1
   cases h2
   cases h3
   obtain ⟨k,hk,e⟩:=List.mem_iff_getElem.mp hin
   have e':O[k]? = some (g y c):=by rw [List.getElem?_eq_getElem hk,e]
   obtain ⟨u,hu⟩:=B.at e'
   exact ⟨k,u,e',hu,.inr (B.ahead hL ht hc k u hu)⟩
theorem BI.new (B:BI L g b i m O T) (hL:Zgd L) {y:Nat} {t:List Nat} {c:Nat} (hy:O[i]? = some y) (ht:T[i]? = some t) (hc:L[m]? = some c):BI L g b i (m+1) (O ++ [g y c]) (T ++ [t ++ [c]]):=by
 have hil:=(List.getElem?_eq_some_iff.mp hy).1
 have back:∀ {α:Type} {l:List α} {a x:α} {j:Nat},(l ++ [a])[j]? = some x→l[j]? = some x∨(j=l.length∧x=a):=λ{α l a x j} h=>by
  rcases Nat.lt_or_ge j l.length with z | z
  ·rw [List.getElem?_append_left z] at h
   exact .inl h
  ·rw [List.getElem?_append_right z] at h
   have:j - l.length=0:=by
    rcases Nat.eq_zero_or_pos (j - l.length) with q | q
    ·exact q
    ·rw [List.getElem?_eq_none (by simp only [List.length_singleton]; omega)] at h
     cases h
   rw [this] at h
   exact .inr ⟨by omega,(Option.some.inj h).symm⟩
 have Eh:∀ {α:Type} {l:List α} {a x:α} {j:Nat},l[j]? = some x→(l ++ [a])[j]? = some x:=λ{α l a x j} h=>by
  rw [List.getElem?_append_left (List.getElem?_eq_some_iff.mp h).1]
  exact h
 have Zm3:∀ {α:Type} (l:List α) (a:α),(l ++ [a])[l.length]? = some a:=λl a=>by rw [List.getElem?_append_right (Nat.le_refl _),Nat.sub_self]; rfl
 refine ⟨by rw [List.length_append,List.length_append,B.len]; rfl,⟨Eh B.zero.1,Eh B.zero.2⟩,λj x u h1 h2=>?_,λj k u v hk h1 h2=>?_,λj u h=>?_,λj x u n d h1 h2 h3 h4=>?_⟩
 ·rcases back h1 with z1 | ⟨z1,rfl⟩
  ·rcases back h2 with z2 | ⟨z2,_⟩
   ·exact B.way j x u z1 z2
   ·have:=(List.getElem?_eq_some_iff.mp z1).1
    rw [B.len] at z2
    omega
  ·rcases back h2 with z2 | ⟨_,rfl⟩
   ·have:=(List.getElem?_eq_some_iff.mp z2).1
    rw [B.len] at this
    omega
   ·obtain ⟨a1,a2,a3⟩:=B.way i y t hy ht
    refine ⟨by rw [List.foldl_append,a1]; rfl,λd hd=>?_,by simp only [List.length_append,List.length_singleton]; omega⟩
    rcases List.mem_append.mp hd with q | q
    ·exact a2 d q
    ·rw [List.mem_singleton.mp q]
     exact List.mem_of_getElem? hc
 ·rcases back h2 with z2 | ⟨z2,rfl⟩
  ·rcases back h1 with z1 | ⟨z1,_⟩
   ·exact B.inc j k u v hk z1 z2
   ·have:=(List.getElem?_eq_some_iff.mp z2).1
    omega
  ·rcases back h1 with z1 | ⟨z1,_⟩
   ·exact B.ahead hL ht hc j u z1
   ·omega
 ·rcases back h with z | ⟨_,rfl⟩
  ·rcases B.par j u z with q | ⟨j',t',n,d,h1,h2,h3,h4⟩
   ·exact .inl q
   ·exact .inr ⟨j',t',n,d,Eh h1,h2,h3,h4.imp id λz=>⟨z.1,by omega⟩⟩
  ·exact .inr ⟨i,t,m,c,Eh ht,hc,rfl,.inr ⟨rfl,Nat.lt_succ_self _⟩⟩
 ·have hj:j < O.length:=by omega
  rcases back h1 with z1 | ⟨z1,_⟩
  ·rcases back h2 with z2 | ⟨z2,_⟩
   ·by_cases z:j < i∨(j=i∧n < m)
    ·obtain ⟨k,v,e1,e2,e3⟩:=B.done j x u n d z1 z2 h3 z
     exact ⟨k,v,Eh e1,Eh e2,e3⟩
    ·obtain ⟨rfl,hn⟩:j=i∧n=m:=by omega
     subst hn
     rw [hy] at z1
     rw [ht] at z2
     rw [hc] at h3
     cases z1
     cases z2
     cases h3
     exact ⟨O.length,t ++ [c],Zm3 _ _,by rw [← B.len]; exact Zm3 _ _,.inl rfl⟩
   ·rw [B.len] at z2; omega
  ·omega
theorem BI.next (B:BI L g b i m O T) (hm:L.length≤m):BI L g b (i+1) 0 O T:=by
 refine ⟨B.len,B.zero,B.way,B.inc,λj u h=>?_,λj x u n d h1 h2 h3 h4=>?_⟩
 ·rcases B.par j u h with z | ⟨j',t',n,d,h1,h2,h3,h4⟩
  ·exact .inl z
  ·exact .inr ⟨j',t',n,d,h1,h2,h3,.inl (by omega)⟩
 ·have:=(List.getElem?_eq_some_iff.mp h3).1
  exact B.done j x u n d h1 h2 h3 (by omega)
theorem BI.reach (B:BI L g b i 0 O T):∀ (n:Nat) (w:List Nat),w.length=n→(∀ c∈w,c∈L)→(∃ (k:Nat) (u:List Nat),O[k]? = some (w.foldl g b)∧T[k]? = some u∧Sl u w)∨∃ t,T[i]? = some t∧Sl t w
 | 0,w,hw,_=>by
  rw [List.eq_nil_of_length_eq_zero hw]
  exact .inl ⟨0,[],B.zero.1,B.zero.2,.inl rfl⟩
 | n+1,w,hw,hc=>by
  rcases List.eq_nil_or_concat w with rfl | ⟨v,c,rfl⟩
  ·simp at hw
  ·rw [List.concat_eq_append] at hw hc ⊢
   simp only [List.length_append,List.length_singleton] at hw
   rcases B.reach n v (by omega) λd hd=>hc d (List.mem_append_left _ hd) with ⟨k,u,h1,h2,h3⟩ | ⟨t,h1,h2⟩
   ·by_cases hk:k < i
    ·obtain ⟨m,hm,e⟩:=List.mem_iff_getElem.mp (hc c (List.mem_append_right _ List.mem_cons_self))
     obtain ⟨k',u',e1,e2,e3⟩:=B.done k _ u m c h1 h2 (by rw [List.getElem?_eq_getElem hm,e]) (.inl hk)
     refine .inl ⟨k',u',by rw [List.foldl_append]; exact e1,e2,e3.trans ?_⟩
     rcases h3 with rfl | h3
     ·exact .inl rfl
     ·exact .inr (h3.snoc c c)
    ·have hkl:=(List.getElem?_eq_some_iff.mp h2).1
     have hti:T[i]? = some (T[i]'(by omega)):=List.getElem?_eq_getElem (by omega)
     refine .inr ⟨_,hti,?_⟩
     have q:Sl (T[i]'(by omega)) u:=by
      by_cases z:i=k
      ·subst z
       rw [hti] at h2
       exact .inl (Option.some.inj h2)
      ·exact .inr (B.inc i k _ _ (by omega) hti h2)
     exact (q.trans h3).trans (.inr (Sw.more v c))
   ·exact .inr ⟨t,h1,h2.trans (.inr (Sw.more v c))⟩
theorem BI.first (B:BI L g b i 0 O T) {j:Nat} {t:List Nat} {p:Nat→Prop} (hj:j≤i∨O.length≤i) (ht:T[j]? = some t) (hn:∀ (k x:Nat),k < j→O[k]? = some x→¬ p x) (w:List Nat) (hw:∀ c∈w,c∈L) (hp:p (w.foldl g b)):Sl t w:=by
 have lt:∀ (k:Nat) u,T[k]? = some u→j≤k→Sl t u:=λk u hu hk=>by
  by_cases z:j=k
  ·subst z
   rw [ht] at hu
   exact .inl (Option.some.inj hu)
  ·exact .inr (B.inc j k _ _ (by omega) ht hu)
 rcases B.reach _ w rfl hw with ⟨k,u,h1,h2,h3⟩ | ⟨u,h1,h2⟩
 ·refine (lt k u h2 ?_).trans h3
  rcases Nat.lt_or_ge k j with z | z
  ·exact absurd hp (hn k _ z h1)
  ·exact z
 ·refine (lt i u h1 ?_).trans h2
  have:=(List.getElem?_eq_some_iff.mp h1).1
  rw [B.len] at this
  omega
theorem BI.never (B:BI L g b i 0 O T) {p:Nat→Prop} (hl:O.length≤i) (hn:∀ x∈O,¬ p x) (w:List Nat) (hw:∀ c∈w,c∈L):¬ p (w.foldl g b):=by
 rcases B.reach _ w rfl hw with ⟨k,u,h1,_⟩ | ⟨u,h1,_⟩
 ·exact hn _ (List.mem_of_getElem? h1)
 ·have:=(List.getElem?_eq_some_iff.mp h1).1
  rw [B.len] at this
  omega
end
theorem ifN {c:Bool} {A B:Prop} (h:c=false) (b:B):if c=true then A else B:=by rw [h]; exact b
theorem ifY {c:Bool} {A B:Prop} (h:c=true) (a:A):if c=true then A else B:=by rw [if_pos h]; exact a
inductive Zmh (f:Addr) (fd:FuncData) (l:Str) (g:Nat→Nat→Nat) (pl:Nat→Prop) (G:Hp→Prop) (vs:List V) (H:Hp) (Q:VK):Prop
 | mk (x c:_) (h1:vs=[nI x,.str (one c)]) (h2:pl x) (h3:c∈l.cps.toList) (h4:H f=some (FnO f fd)) (h5:G H) (h6:∀ H',Zo H H'→Q (nI (g x c)) H'):Zmh f fd l g pl G vs H Q
def Zqn (f:Addr) (fd:FuncData) (l:Str) (g:Nat→Nat→Nat) (pl:Nat→Prop) (G:Hp→Prop):Sp:=λvs H Q u3_=>Zmh f fd l g pl G vs H Q
def TL (l:Str) (g:Nat→Nat→Nat) (x:Nat):List Nat:=l.cps.toList.map (g x)
def kI (x:Nat):Key:=Sum.inl ((x:Nat):Int)
theorem Rk {x y:Nat} (h:kI x=kI y):x=y:=by
 have:((x:Nat):Int)=y:=Sum.inl.inj h
 omega
def TxD (H:Hp) (d:Addr) (o:List Nat) (n:Nat):Prop:=∃ kvs:List (Key × V),H d=some (.dK kvs)∧kvs.map (·.1)=o.map kI∧∀ p∈kvs,∃ z:Str,p.2=.str z∧z.length≤n
theorem Cj:∀ {kvs:List (Key × V)} {o:List Nat} {x:Nat},kvs.map (·.1)=o.map kI→x∉o→X8 kvs (kI x)=none
 | [],_,_,_,_=>rfl
 | _ :: _,[],_,h,_=>nomatch h
 | p :: kvs,a :: o,x,h,hx=>by
  rw [List.map_cons,List.map_cons,List.cons.injEq] at h
  rw [Y1 (λz=>hx (by rw [Rk (h.1.symm.trans z)]; exact List.mem_cons_self))]
  exact Cj h.2 λz=>hx (List.mem_cons_of_mem _ z)
theorem Mm:∀ {kvs:List (Key × V)} {o:List Nat} {x:Nat},kvs.map (·.1)=o.map kI→x∈o→∃ p∈kvs,X8 kvs (kI x)=some p.2∧p.1=kI x
 | [],[],_,_,hx=>nomatch hx
 | [],_ :: _,_,h,_=>nomatch h
 | _ :: _,[],_,h,_=>nomatch h
 | p :: kvs,a :: o,x,h,hx=>by
  rw [List.map_cons,List.map_cons,List.cons.injEq] at h
  by_cases c:a=x
  ·exact ⟨p,List.mem_cons_self,Xq (by rw [h.1,c]),by rw [h.1,c]⟩
  ·rw [Y1 (λz=>c (Rk (h.1.symm.trans z)))]
   obtain ⟨q,hq,e⟩:=Mm h.2 ((List.mem_cons.mp hx).resolve_left λz=>c z.symm)
   exact ⟨q,List.mem_cons_of_mem _ hq,e⟩
theorem Zkh (z:Str) (c:Nat):(z ++ (⟨#[c]⟩:Str)).length=z.length+1:=by
 show (z.cps ++ #[c]).size=z.cps.size+1
 simp
theorem Zew (o:List Nat) (x:Nat):Xn id o x=if x∈o then o else o ++ [x]:=by
 unfold Xn
 rw [List.map_id]
 rfl
theorem TxD.same {H H':Hp} {d:Addr} {o:List Nat} {n:Nat} (h:TxD H d o n) (e:Zo H H'):TxD H' d o n:=let ⟨kvs,a,b⟩:=h; ⟨kvs,e _ _ a,b⟩
inductive Zmg (P:Program) (w:World) (K:W.Frag) (mg:Str→Option Value) (base:Heap) (n:Nat) (vs:List V) (H:Hp) (Q:VK):Prop
 | mk (f:Addr) (fd:FuncData) (ps:List Str) (l:Str) (b:Nat) (g:Nat→Nat→Nat) (pl:Nat→Prop) (G:Hp→Prop) (h1:Yp P w K mg base CX0 n f fd ps (Zqn f fd l g pl G)) (h2:Binds K fd ps []) (h3:(∀ H1 H2,Zo H1 H2→G H1→G H2)) (h4:vs=[.str l,nI b,.ref f]) (h5:pl b) (h6:(∀ x,pl x→x < 216∧∀ c∈l.cps.toList,pl (g x c))) (h7:H f=some (FnO f fd)) (h8:G H) (h9:∀ d H' N,H d=none→Zo H H'→TxD H' d (Zv id (TL l g) b N) 300→(Zv id (TL l g) b N).length≤N→Q (.ref d) H'):Zmg P w K mg base n vs H Q
def Zn0 (P:Program) (w:World) (K:W.Frag) (mg:Str→Option Value) (base:Heap) (n:Nat):Sp:=λvs H Q u3_=>Zmg P w K mg base n vs H Q
def woW (l:Str) (fv d:Addr) (g:Nat→Nat→Nat) (b:Nat) (H:Hp) (mm:Nat) (σ:L2.St) (H5:Hp):Prop:=∃ (i:Nat) (lv:Addr) (v5 v6 v7 v8:Option V),mm=217 - i∧i≤(Zv id (TL l g) b i).length∧σ=[some (.str l),some (nI b),some (.ref fv),some (.ref d),some (.ref lv),v5,v6,v7,v8]∧H lv=none∧H5 lv=some (.lst (((Zv id (TL l g) b i).drop i).map nI))∧TxD H5 d (Zv id (TL l g) b i) (Zv id (TL l g) b i).length∧Zo H H5
def woL (l:Str) (fv d:Addr) (g:Nat→Nat→Nat) (b:Nat) (H:Hp) (lv rp:Addr) (i:Nat) (L:List Nat) (j:Nat) (σ:L2.St) (H7:Hp):Prop:=∃ (v6 v7 v8:Option V),σ=[some (.str l),some (nI b),some (.ref fv),some (.ref d),some (.ref lv),some (.ref rp),v6,v7,v8]∧H7 lv=some (.lst ((L.drop i).map nI))∧H7 rp=some (.lst (((Zv id (TL l g) b (i+j)).drop L.length).map nI))∧TxD H7 d (Zv id (TL l g) b (i+j)) (Zv id (TL l g) b (i+j)).length∧Zo H H7
theorem Zfh {n:Nat} {f:Addr} {fd:FuncData} (F:Fun K "walked" "walked" Ur f fd) (Z:Blt mg):Yp P w K mg base CX0 (n+1) f fd ["letters","begin","step"] (Zn0 P w K mg base n):=by
 refine F.ok Yw (λvs H Q E h=>?_) (λcdv A outer s H vs Q E hr h=>?_)
 ·obtain ⟨f,fd,ps,l,b,g,pl,G,_,_,_,rfl,_⟩:=h
  rfl
 obtain ⟨fv,fdv,ps,l,b,g,pl,G,Ot,Om,hG,rfl,hb,hpl,hf,hGH,k⟩:=h
 refine ⟨_,(Zd (Zm (i:=3) Yw.nd (by rfl) (Or.inl (by rfl)) (Zdy (Ib (pv 1) Y6 Dq) (by rfl) (by rfl) (by intro h; cases h) (by show 1≤15; decide))) 
   (Zd (Zm (i:=4) Yw.nd (by rfl) (Or.inl (by rfl)) (X9 (Za (pv 1) Zc))) 
   (Zd (Qo PassesOwn.never (Yy (K:=K) (pv 4) (λ_=>rfl)) 
    (Zd (Zm (i:=5) Yw.nd (by rfl) (Or.inl (by rfl)) (X9 Zc)) 
    (Zd (Xx PassesOwn.never (by rfl) (Yv (K:=K) (pv 4)) (Zk (i:=6) Yw.nd (by rfl) (Or.inl (by rfl))) 
     (Zi (Xx PassesOwn.never (by rfl) (Ra (pv 0)) (Zk (i:=7) Yw.nd (by rfl) (Or.inl (by rfl))) 
      (Zd (Zm (i:=8) Yw.nd (by rfl) (Or.inl (by rfl)) (N9 (i:=2) Ot (hr.mono (by omega)) Om (Za (pv 6) (Za (pv 7) Zc)))) 
      (Zi (Xm (Zbm (Lg (Vt hr) (pv 8) (pv 3))) 
       (Zd (K8 (Vt hr) (pv 3) (pv 8) (Yj Rf (Rb (Vt hr) (pv 3) (pv 6) (λ_ _=>rfl)) (pv 7)) rfl) 
       (Zi (Xz (Xd (K:=K) PySem.F.plainAttrs_list PySem.F.slot_list_append PySem.F.type_list_append We (pv 5) (Za (pv 8) Zc))))) Yh)))))) 
    (Zi (Zm (i:=4) Yw.nd (by rfl) (Or.inl (by rfl)) (pv 5)))))) 
   (Zi (Z1 (pv 3)))))),?_⟩
 refine (let zz0:TS:=_; let zz1:TS:=_; let zz2:TS:=_; let zz3:TS:=Zq _ zz2; let zz4:TS:=(Za9 _ zz3 _); let zz5:TS:=Zq _ zz4; let zz6:TS:=(Jn _ _ zz5); let zz7:TS:=Zq (Jn _ _ zz6) zz1; let zz8:TS:=Zq _ zz7; let zz9:TS:=Zq (M6 _ zz8) zz0; let Ew:TS:=Zq _ zz9; (?_:Zq _ Ew _ _ _))
 have hT:∀ x,pl x→∀ y∈TL l g x,pl y:=λx hx y hy=>by
  obtain ⟨c,hc,e⟩:=List.mem_map.mp hy
  rw [← e]
  exact (hpl x hx).2 c hc
 have oL:∀ i,(Zv id (TL l g) b i).length≤216:=λi=>Qs hb hT (λx hx=>(hpl x hx).1) i
 have oP:∀ i,∀ y∈Zv id (TL l g) b i,pl y:=λi=>Uw hb hT i
 refine λd hd=>⟨_,rfl,Zb,[(kI b,.str "")],rfl,by show 1≤15; decide,?_⟩
 have h1d:upd (upd H d (.dK [])) d (.dK (Uy [] [(kI b,V.str "")])) d=some (.dK [(kI b,V.str "")]):=Zb
 have e1:Zo H (upd (upd H d (.dK [])) d (.dK (Uy [] [(kI b,V.str "")]))):=Yq (Ze hd _) hd _
 generalize upd (upd H d (.dK [])) d (.dK (Uy [] [(kI b,V.str "")]))=H1 at h1d e1
 refine ⟨_,rfl,(by show 1≤sizeLine; decide),λlv hlv=>?_⟩
 have s2:=Ze hlv (.lst [nI b])
 have h2l:upd H1 lv (.lst [nI b]) lv=some (.lst [nI b]):=Zb
 generalize upd H1 lv (.lst [nI b])=H2 at s2 h2l
 refine ⟨woW l fv d g b H,
  ⟨_,0,lv,none,none,none,none,rfl,Nat.zero_le _,rfl,none_of e1 hlv,h2l,⟨_,s2 _ _ h1d,rfl,λp hp=>?_⟩,e1.trans s2⟩,?_⟩
 ·rw [List.mem_singleton.mp hp]
  exact ⟨_,rfl,Nat.zero_le _⟩
 clear h2l s2 hlv lv h1d e1
 rintro mm σ H5 ⟨i,lv,v5,v6,v7,v8,rfl,hi,rfl,hlv0,h5l,T5,e5⟩
 have hD:∀ {H:Hp} {a:Addr} {xs:List V} {o:List Nat} {n:Nat},H a=some (.lst xs)→TxD H d o n→a≠d:=λha ⟨_,hk,_⟩=>Wb ha hk λz=>nomatch z
 generalize hL:Zv id (TL l g) b i=L at hi h5l T5
 have hLl:=oL i
 rw [hL] at hLl
 refine ⟨_,rfl,_,.inl ⟨_,SqL.of h5l,rfl⟩,?_⟩
 refine V9 (λc1=>?_) (λc1=>?_)
 ·have hlt:i < L.length:=by
   rcases Nat.lt_or_ge i L.length with z | z
   ·exact z
   ·rw [List.drop_eq_nil_of_le z] at c1
    cases c1
  refine ⟨λσ' H'=>∃ m',m' < 217 - i∧_,λ_ _ z=>z,?_⟩
  refine ⟨(by show 0≤sizeLine; decide),λrp hrp=>?_⟩
  have s6:=Ze hrp (.lst [])
  have h6r:upd H5 rp (.lst []) rp=some (.lst []):=Zb
  have Cp:=none_of e5 hrp
  have nlr:lv≠rp:=Zg h5l hrp
  generalize upd H5 rp (.lst [])=H6 at s6 h6r
  refine ⟨_,rfl,lv,rfl,⟨_,SqL.of (s6 _ _ h5l)⟩,?_⟩
  refine Q7 (K:=K) (a:=lv) (xs:=(L.drop i).map nI) (woL l fv d g b H lv rp i L)
   ⟨v6,v7,v8,rfl,s6 _ _ h5l,by rw [h6r,Nat.add_zero,hL,List.drop_length]; rfl,by rw [Nat.add_zero,hL]; exact T5.same s6,e5.trans s6⟩ (λj σ H7 _ h=>?_) ?_ ?_
  ·obtain ⟨_,_,_,_,h7,_⟩:=h
   exact SqL.of h7
  ·rintro j x σ H7 hx ⟨v6,v7,v8,rfl,h7l,h7r,T7,e7⟩
   rw [List.getElem?_map,List.getElem?_drop] at hx
   cases hxx:L[i+j]? with
   | none=>rw [hxx] at hx; cases hx
   | some y=>
    rw [hxx] at hx
    cases hx
    have hoj:(Zv id (TL l g) b (i+j))[i+j]? = some y:=by
     obtain ⟨t,e⟩:=W4 (k:=id) (T:=TL l g) (b:=b) (i:=i) (i+j) (by omega)
     rw [← e,hL,List.getElem?_append_left (List.getElem?_eq_some_iff.mp hxx).1]
     exact hxx
    have Cr:L.length≤(Zv id (TL l g) b (i+j)).length:=by
     rw [← hL]
     exact (W4 (k:=id) (T:=TL l g) (b:=b) (i:=i) (i+j) (by omega)).length_le
    have Kb:=W0 hoj
    have Zck:=oP (i+j) y (List.mem_of_getElem? hoj)
    have hnd:=Tt (k:=id) (T:=TL l g) (b:=b) (i+j)
    generalize hO:Zv id (TL l g) b (i+j)=O at hoj Cr Kb hnd h7r T7
    have Kx:∀ z∈O,pl z:=by rw [← hO]; exact oP (i+j)
    refine ⟨_,rfl,l,rfl,?_⟩
    refine Jf (cs:=l.cps.toList) (λm σ H8=>∃ (v7 v8:Option V),σ=[some (.str l),some (nI b),some (.ref fv),some (.ref d),some (.ref lv),some (.ref rp),some (nI y),v7,v8]∧H8 lv=some (.lst ((L.drop i).map nI))∧H8 rp=some (.lst (((((TL l g y).take m).foldl (Xn id) O).drop L.length).map nI))∧TxD H8 d (((TL l g y).take m).foldl (Xn id) O) (((TL l g y).take m).foldl (Xn id) O).length∧Zo H H8)
     ⟨v7,v8,rfl,h7l,h7r,T7,e7⟩ ?_ ?_
    ·rintro m c σ H8 hc ⟨v7,v8,rfl,h8l,h8r,T8,e8⟩
     have hcl:c∈l.cps.toList:=List.mem_of_getElem? hc
     have hTm:(TL l g y)[m]? = some (g y c):=by unfold TL; rw [List.getElem?_map,hc]; rfl
     have htk:((TL l g y).take (m+1)).foldl (Xn id) O=Xn id (((TL l g y).take m).foldl (Xn id) O) (g y c):=by
      rw [List.take_add_one,hTm,List.foldl_append]
      rfl
     have Kw:=S0 (k:=id) ((TL l g y).take m) O
     have Cq:=Ms (k:=id) ((TL l g y).take m) O hnd
     have Ho:=fold_all (k:=id) (P:=pl) ((TL l g y).take m) O Kx λz hz=>hT y Zck z (List.mem_of_mem_take hz)
     have hy8:y∈((TL l g y).take m).foldl (Xn id) O:=Kw.subset (List.mem_of_getElem? hoj)
     have hLO:L.length≤(((TL l g y).take m).foldl (Xn id) O).length:=Nat.le_trans Cr Kw.length_le
     rw [htk]
     generalize ((TL l g y).take m).foldl (Xn id) O=O8 at h8r T8 Kw Cq Ho hy8 hLO
     have hO8:O8.length≤216:=by
      have:=Sn 216 _ Cq λz hz=>by
       rw [List.map_id] at hz
       exact (hpl z (Ho z hz)).1
      rwa [List.length_map] at this
     refine ⟨rfl,e8 _ _ hf,_,rfl,_,rfl,e8 _ _ hf,y,c,rfl,Zck,hcl,e8 _ _ hf,hG _ _ e8 hGH,λH9 e9=>?_⟩
     have T9:=T8.same e9
     have h9l:=e9 _ _ h8l
     have h9r:=e9 _ _ h8r
     have e09:=e8.trans e9
     obtain ⟨kvs,h9d,hk,hv⟩:=T9
     have hkl:kvs.length=O8.length:=by
      have:=congrArg List.length hk
      rwa [List.length_map,List.length_map] at this
     refine ⟨_,rfl,_,rfl,d,_,rfl,Pr.k (k:=kI (g y c)) h9d,_,rfl,?_⟩
     rw [Zew]
     by_cases hin:g y c∈O8
     ·obtain ⟨p,_,hp,_⟩:=Mm hk hin
      rw [hp,if_pos hin]
      refine ifN rfl ⟨_,_,rfl,h9l,h9r,⟨kvs,h9d,hk,hv⟩,e09⟩
     ·have hno:=Cj hk hin
      rw [hno,if_neg hin]
      obtain ⟨p,hpk,hp,_⟩:=Mm hk hy8
      obtain ⟨z,hz,hzl⟩:=hv p hpk
      rw [hz] at hp
      refine ifY rfl ⟨_,rfl,_,rfl,d,_,rfl,hp▸Pr.k (k:=kI y) h9d,_,rfl,z,_,rfl,rfl,(by show z.length+1≤sizeLine; rw [sizeLine_eq]; omega),_,rfl,_,rfl,d,_,rfl,Fj.k (k:=kI (g y c)) h9d (by rw [sizeLine_eq]; omega),?_⟩
      rw [Qn _ hno]
      have nrd:=hD h9r ⟨kvs,h9d,hk,hv⟩
      have nld:=hD h9l ⟨kvs,h9d,hk,hv⟩
      have Nd:=(Zj (H:=H9) (o:=.dK (kvs ++ [(kI (g y c),V.str (z ++ ⟨#[c]⟩))])) nrd).trans h9r
      have G9:=(Zj (H:=H9) (o:=.dK (kvs ++ [(kI (g y c),V.str (z ++ ⟨#[c]⟩))])) nld).trans h9l
      have Lu:upd H9 d (.dK (kvs ++ [(kI (g y c),V.str (z ++ ⟨#[c]⟩))])) d=some (.dK (kvs ++ [(kI (g y c),V.str (z ++ ⟨#[c]⟩))])):=Zb
      have e10:=Yq e09 hd (.dK (kvs ++ [(kI (g y c),V.str (z ++ ⟨#[c]⟩))]))
      generalize upd H9 d (.dK (kvs ++ [(kI (g y c),V.str (z ++ ⟨#[c]⟩))]))=H10 at Nd G9 Lu e10
      refine ⟨_,rfl,.inl ⟨rfl,_,SqL.of Nd⟩,_,rfl,rp,_,_,rfl,rfl,Nd,(by rw [List.length_map,List.length_drop,sizeLine_eq]; omega),?_⟩
      refine ⟨_,_,rfl,(Zj nlr).trans G9,?_,⟨kvs ++ [(kI (g y c),V.str (z ++ ⟨#[c]⟩))],(Zj nrd.symm).trans Lu,?_,?_⟩,Yq e10 Cp _⟩
      ·rw [List.drop_append_of_le_length hLO,List.map_append]
       exact Zb
      ·rw [List.map_append,List.map_append,hk]
       rfl
      ·intro q hq
       rcases List.mem_append.mp hq with a | a
       ·obtain ⟨z',h1,h2⟩:=hv q a
        exact ⟨z',h1,by rw [List.length_append]; omega⟩
       ·rw [List.mem_singleton.mp a]
        refine ⟨_,rfl,?_⟩
        rw [List.length_append]
        show (z ++ ⟨#[c]⟩).length≤O8.length+1
        have:(z ++ ⟨#[c]⟩).length=z.length+1:=Zkh z c
        omega
    ·rintro σ H8 ⟨v7,v8,rfl,h8l,h8r,T8,e8⟩
     rw [List.take_of_length_le (by unfold TL; rw [List.length_map]; exact Nat.le_refl _),← Kb] at h8r T8
     exact ⟨_,_,_,rfl,h8l,h8r,T8,e8⟩
  ·rintro σ H7 ⟨v6,v7,v8,rfl,h7l,h7r,T7,e7⟩
   have hij:i+((L.drop i).map nI).length=L.length:=by rw [List.length_map,List.length_drop]; omega
   rw [hij] at h7r T7
   have Cr:L.length≤(Zv id (TL l g) b L.length).length:=by
    rw [← hL]
    exact (W4 (k:=id) (T:=TL l g) (b:=b) (i:=i) (Zv id (TL l g) b i).length (by rw [hL]; omega)).length_le
   exact ⟨_,rfl,217 - L.length,by omega,L.length,rp,_,_,_,_,rfl,Cr,rfl,Cp,h7r,T7,e7⟩
 ·have hge:L.length≤i:=by
   rcases Nat.lt_or_ge i L.length with z | z
   ·refine absurd ?_ c1
    cases hdr:L.drop i with
    | nil=>
     have:=congrArg List.length hdr
     rw [List.length_drop] at this
     have h0:([]:List Nat).length=0:=rfl
     omega
    | cons=>rfl
   ·exact z
  obtain ⟨kvs,h5d,hk,hv⟩:=T5
  refine ⟨_,rfl,k d H5 i hd e5 ⟨kvs,h5d,by rw [hL]; exact hk,λp hp=>let ⟨z,a,b⟩:=hv p hp; ⟨z,a,by omega⟩⟩ (by rw [hL]; exact hge)⟩
def PlT (key:Nat→List Key) (H:Hp) (xs:List V) (o:List Nat):Prop:=xs.length=o.length∧∀ (i:Nat) x c,xs[i]? = some x→o[i]? = some c→∃ a,x=.ref a∧H a=some (.tup ((key c).map kV))
theorem PlT.keep {key:Nat→List Key} {H H':Hp} {xs:List V} {o:List Nat} (h:PlT key H xs o) (k:Tk H H'):PlT key H' xs o:=⟨h.1,λi x c a b=>let ⟨d,e,q⟩:=h.2 i x c a b; ⟨d,e,k _ _ q⟩⟩
theorem PlT.snoc {key:Nat→List Key} {H:Hp} {xs:List V} {o:List Nat} (h:PlT key H xs o) {a:Addr} {c:Nat} (ha:H a=some (.tup ((key c).map kV))):PlT key H (xs ++ [.ref a]) (o ++ [c]):=by
 refine ⟨by rw [List.length_append,List.length_append,h.1]; rfl,λi x r' q1 q2=>?_⟩
 by_cases z:i < xs.length
 ·rw [List.getElem?_append_left z] at q1
  rw [List.getElem?_append_left (by rw [← h.1]; exact z)] at q2
  exact h.2 i x r' q1 q2
 ·rw [List.getElem?_append_right (by omega)] at q1
  rw [List.getElem?_append_right (by rw [← h.1]; omega),← h.1] at q2
  cases hi:i - xs.length with
  | zero=>
   rw [hi] at q1 q2
   cases q1
   cases q2
   exact ⟨a,rfl,ha⟩
  | succ n=>rw [hi] at q1; simp at q1
inductive Zgy (f:Addr) (fd:FuncData) (l:Str) (g:Nat→Nat→Nat) (key:Nat→List Key) (pl:Nat→Prop) (G:Hp→Prop) (vs:List V) (H:Hp) (Q:VK):Prop
 | mk (a x c:_) (h1:vs=[.ref a,.str (one c)]) (h2:H a=some (.tup ((key x).map kV))) (h3:pl x) (h4:c∈l.cps.toList) (h5:H f=some (FnO f fd)) (h6:G H) (h7:∀ r H',Zo H H'→H' r=some (.tup ((key (g x c)).map kV))→Q (.ref r) H'):Zgy f fd l g key pl G vs H Q
def Zqm (f:Addr) (fd:FuncData) (l:Str) (g:Nat→Nat→Nat) (key:Nat→List Key) (pl:Nat→Prop) (G:Hp→Prop):Sp:=λvs H Q u3_=>Zgy f fd l g key pl G vs H Q
abbrev sOf (t:List Nat):Str:=⟨t.toArray⟩
theorem Zg4 (t:List Nat) (c:Nat):sOf t ++ (⟨#[c]⟩:Str)=sOf (t ++ [c]):=by
 show (⟨t.toArray ++ #[c]⟩:Str)=⟨(t ++ [c]).toArray⟩
 simp
def TxB (key:Nat→List Key) (g:Nat→Nat→Nat) (b:Nat) (l:Str) (H:Hp) (d:Addr) (o:List Nat) (i m:Nat):Prop:=∃ (kvs:List (List Key × V)) (T:List (List Nat)),H d=some (.dT kvs)∧kvs.map (·.1)=o.map key∧kvs.map (·.2)=T.map (λt=>V.str (sOf t))∧BI l.cps.toList g b i m o T
theorem TxB.same {key:Nat→List Key} {g:Nat→Nat→Nat} {b:Nat} {l:Str} {H H':Hp} {d:Addr} {o:List Nat} {i m:Nat} (h:TxB key g b l H d o i m) (e:Zo H H'):TxB key g b l H' d o i m:=let ⟨kvs,T,a,r⟩:=h; ⟨kvs,T,e _ _ a,r⟩
theorem Zdz {α:Type} {kvs:List (α × V)} {T:List (List Nat)} (h:kvs.map (·.2)=T.map λt=>V.str (sOf t)) {i:Nat} {k:α} {v:V} (q:kvs[i]? = some (k,v)):∃ t,T[i]? = some t∧v=.str (sOf t):=by
 have e:(kvs.map (·.2))[i]? = some v:=by rw [List.getElem?_map,q]; rfl
 rw [h,List.getElem?_map] at e
 cases ht:T[i]? with
 | none=>rw [ht] at e; cases e
 | some t=>rw [ht] at e; exact ⟨t,rfl,(Option.some.inj e).symm⟩
theorem Zre {O:List Nat} (nd:O.Nodup) {i j:Nat} {x:Nat} (h1:O[i]? = some x) (h2:O[j]? = some x):i=j:=by
 obtain ⟨a1,e1⟩:=List.getElem?_eq_some_iff.mp h1
 obtain ⟨a2,e2⟩:=List.getElem?_eq_some_iff.mp h2
 have j1:=List.Nodup.idxOf_getElem nd i a1
 have j2:=List.Nodup.idxOf_getElem nd j a2
 rw [e1] at j1
 rw [e2] at j2
 omega
theorem A8 {key:Nat→List Key} {pl:Nat→Prop} (inj:∀ x y,pl x→pl y→key x=key y→x=y) {x:Nat} (px:pl x):∀ {kvs:List (List Key × V)} {o:List Nat},kvs.map (·.1)=o.map key→(∀ y∈o,pl y)→x∉o→X8 kvs (key x)=none
 | [],_,_,_,_=>rfl
 | _ :: _,[],h,_,_=>nomatch h
 | p :: kvs,a :: o,h,ho,hx=>by
  rw [List.map_cons,List.map_cons,List.cons.injEq] at h
  rw [Y1 (λz=>hx (by rw [inj x a px (ho a List.mem_cons_self) (z.symm.trans h.1)]; exact List.mem_cons_self))]
  exact A8 inj px h.2 (λy hy=>ho y (List.mem_cons_of_mem _ hy)) λz=>hx (List.mem_cons_of_mem _ z)
theorem Og {key:Nat→List Key} {pl:Nat→Prop} (inj:∀ x y,pl x→pl y→key x=key y→x=y) {x:Nat} (px:pl x):∀ {kvs:List (List Key × V)} {o:List Nat},kvs.map (·.1)=o.map key→(∀ y∈o,pl y)→x∈o→∃ (i:Nat) (v:V),kvs[i]? = some (key x,v)∧o[i]? = some x∧X8 kvs (key x)=some v
 | [],[],_,_,hx=>nomatch hx
 | [],_ :: _,h,_,_=>nomatch h
 | _ :: _,[],h,_,_=>nomatch h
 | p :: kvs,a :: o,h,ho,hx=>by
  rw [List.map_cons,List.map_cons,List.cons.injEq] at h
  by_cases c:a=x
  ·subst c
   refine ⟨0,p.2,?_,rfl,Xq h.1⟩
   rw [← h.1]
   rfl
  ·rw [Y1 (λz=>c (inj a x (ho a List.mem_cons_self) px (h.1.symm.trans z)))]
   obtain ⟨i,v,e1,e2,e3⟩:=Og inj px h.2 (λy hy=>ho y (List.mem_cons_of_mem _ hy)) ((List.mem_cons.mp hx).resolve_left λz=>c z.symm)
   exact ⟨i+1,v,by simpa using e1,by simpa using e2,e3⟩
inductive Zgw (P:Program) (w:World) (K:W.Frag) (mg:Str→Option Value) (base:Heap) (n:Nat) (vs:List V) (H:Hp) (Q:VK):Prop
 | mk (f:Addr) (fd:FuncData) (ps:List Str) (l:Str) (a0:Addr) (b:Nat) (g:Nat→Nat→Nat) (key:Nat→List Key) (pl:Nat→Prop) (G:Hp→Prop) (h1:Yp P w K mg base CX0 n f fd ps (Zqm f fd l g key pl G)) (h2:Binds K fd ps []) (h3:(∀ H1 H2,Zo H1 H2→G H1→G H2)) (h4:vs=[.str l,.ref a0,.ref f]) (h5:H a0=some (.tup ((key b).map kV))) (h6:pl b) (h7:(∀ x,pl x→x < 216∧∀ c∈l.cps.toList,pl (g x c))) (h8:(∀ x y,pl x→pl y→key x=key y→x=y)) (h9:H f=some (FnO f fd)) (h10:G H) (h11:Zgd l.cps.toList) (h12:∀ d H' N,H d=none→Zo H H'→TxB key g b l H' d (Zv id (TL l g) b N) N 0→(Zv id (TL l g) b N).length≤N→Q (.ref d) H'):Zgw P w K mg base n vs H Q
def Zgx (P:Program) (w:World) (K:W.Frag) (mg:Str→Option Value) (base:Heap) (n:Nat):Sp:=λvs H Q u3_=>Zgw P w K mg base n vs H Q
def wkW (l:Str) (a0 fv d:Addr) (key:Nat→List Key) (g:Nat→Nat→Nat) (b:Nat) (H:Hp) (mm:Nat) (σ:L2.St) (H5:Hp):Prop:=∃ (i:Nat) (lv:Addr) (xs:List V) (v5 v6 v7 v8:Option V),mm=217 - i∧i≤(Zv id (TL l g) b i).length∧σ=[some (.str l),some (.ref a0),some (.ref fv),some (.ref d),some (.ref lv),v5,v6,v7,v8]∧H lv=none∧H5 lv=some (.lst xs)∧PlT key H5 xs ((Zv id (TL l g) b i).drop i)∧TxB key g b l H5 d (Zv id (TL l g) b i) i 0∧Zo H H5
def wkL (l:Str) (a0 fv d:Addr) (key:Nat→List Key) (g:Nat→Nat→Nat) (b:Nat) (H:Hp) (lv rp:Addr) (i:Nat) (L:List Nat) (xs:List V) (j:Nat) (σ:L2.St) (H7:Hp):Prop:=∃ (ys:List V) (v6 v7 v8:Option V),σ=[some (.str l),some (.ref a0),some (.ref fv),some (.ref d),some (.ref lv),some (.ref rp),v6,v7,v8]∧H7 lv=some (.lst xs)∧PlT key H7 xs (L.drop i)∧H7 rp=some (.lst ys)∧PlT key H7 ys ((Zv id (TL l g) b (i+j)).drop L.length)∧TxB key g b l H7 d (Zv id (TL l g) b (i+j)) (i+j) 0∧Zo H H7
theorem Zbr {n:Nat} {f:Addr} {fd:FuncData} (F:Fun K "walked" "walked" Ur f fd) (Z:Blt mg):Yp P w K mg base CX0 (n+1) f fd ["letters","begin","step"] (Zgx P w K mg base n):=by
 refine F.ok Yw (λvs H Q E h=>?_) (λcdv A outer s H vs Q E hr h=>?_)
 ·obtain ⟨f,fd,ps,l,a0,b,g,key,pl,G,_,_,_,rfl,_⟩:=h
  rfl
 obtain ⟨fv,fdv,ps,l,a0,b,g,key,pl,G,Ot,Om,hG,rfl,ha0,hb,hpl,inj,hf,hGH,hR,k⟩:=h
 refine ⟨_,(Zd (Zm (i:=3) Yw.nd (by rfl) (Or.inl (by rfl)) (Zhv (Vt hr) (pv 1) Y6)) 
   (Zd (Zm (i:=4) Yw.nd (by rfl) (Or.inl (by rfl)) (X9 (Za (pv 1) Zc))) 
   (Zd (Qo PassesOwn.never (Yy (K:=K) (pv 4) (λ_=>rfl)) 
    (Zd (Zm (i:=5) Yw.nd (by rfl) (Or.inl (by rfl)) (X9 Zc)) 
    (Zd (Xx PassesOwn.never (by rfl) (Yv (K:=K) (pv 4)) (Zk (i:=6) Yw.nd (by rfl) (Or.inl (by rfl))) 
     (Zi (Xx PassesOwn.never (by rfl) (Ra (pv 0)) (Zk (i:=7) Yw.nd (by rfl) (Or.inl (by rfl))) 
      (Zd (Zm (i:=8) Yw.nd (by rfl) (Or.inl (by rfl)) (N9 (i:=2) Ot (hr.mono (by omega)) Om (Za (pv 6) (Za (pv 7) Zc)))) 
      (Zi (Xm (Zbm (Lg (Vt hr) (pv 8) (pv 3))) 
       (Zd (K8 (Vt hr) (pv 3) (pv 8) (Yj Rf (Rb (Vt hr) (pv 3) (pv 6) (λ_ _=>rfl)) (pv 7)) rfl) 
       (Zi (Xz (Xd (K:=K) PySem.F.plainAttrs_list PySem.F.slot_list_append PySem.F.type_list_append We (pv 5) (Za (pv 8) Zc))))) Yh)))))) 
    (Zi (Zm (i:=4) Yw.nd (by rfl) (Or.inl (by rfl)) (pv 5)))))) 
   (Zi (Z1 (pv 3)))))),?_⟩
 refine (let zz0:TS:=_; let zz1:TS:=_; let zz2:TS:=_; let zz3:TS:=Zq _ zz2; let zz4:TS:=(Za9 _ zz3 _); let zz5:TS:=Zq _ zz4; let zz6:TS:=(Jn _ _ zz5); let zz7:TS:=Zq (Jn _ _ zz6) zz1; let zz8:TS:=Zq _ zz7; let zz9:TS:=Zq (M6 _ zz8) zz0; let Ew:TS:=Zq _ zz9; (?_:Zq _ Ew _ _ _))
 have hT:∀ x,pl x→∀ y∈TL l g x,pl y:=λx hx y hy=>by
  obtain ⟨c,hc,e⟩:=List.mem_map.mp hy
  rw [← e]
  exact (hpl x hx).2 c hc
 have oL:∀ i,(Zv id (TL l g) b i).length≤216:=λi=>Qs hb hT (λx hx=>(hpl x hx).1) i
 have oP:∀ i,∀ y∈Zv id (TL l g) b i,pl y:=λi=>Uw hb hT i
 refine λd hd=>⟨_,rfl,_,_,rfl,Zb,a0,key b,rfl,(Ze hd _) _ _ ha0,?_⟩
 have h1d:upd (upd H d (.dT [])) d (.dT [(key b,V.str "")]) d=some (.dT [(key b,V.str "")]):=Zb
 have e1:Zo H (upd (upd H d (.dT [])) d (.dT [(key b,V.str "")])):=Yq (Ze hd _) hd _
 generalize upd (upd H d (.dT [])) d (.dT [(key b,V.str "")])=H1 at h1d e1
 refine ⟨_,rfl,(by show 1≤sizeLine; decide),λlv hlv=>?_⟩
 have s2:=Ze hlv (.lst [V.ref a0])
 have h2l:upd H1 lv (.lst [V.ref a0]) lv=some (.lst [V.ref a0]):=Zb
 generalize upd H1 lv (.lst [V.ref a0])=H2 at s2 h2l
 refine ⟨wkW l a0 fv d key g b H,
  ⟨_,0,lv,_,none,none,none,none,rfl,Nat.zero_le _,rfl,none_of e1 hlv,h2l,⟨rfl,λi x c q1 q2=>?_⟩,⟨_,[[]],s2 _ _ h1d,rfl,by rw [List.map_cons,List.map_nil,List.map_cons,List.map_nil,show sOf []=("" : Str) from by decide +kernel],BI.start⟩,e1.trans s2⟩,?_⟩
 ·cases i with
  | zero=>cases q1; cases q2; exact ⟨a0,rfl,s2 _ _ (e1 _ _ ha0)⟩
  | succ i=>simp at q1
 clear h2l s2 hlv lv h1d e1
 rintro mm σ H5 ⟨i,lv,xs,v5,v6,v7,v8,rfl,hi,rfl,hlv0,h5l,P5,T5,e5⟩
 have hD:∀ {H:Hp} {a:Addr} {xs:List V} {o:List Nat} {i m:Nat},H a=some (.lst xs)→TxB key g b l H d o i m→a≠d:=λha ⟨_,_,hk,_⟩=>Wb ha hk λz=>nomatch z
 generalize hL:Zv id (TL l g) b i=L at hi P5 T5
 have hLl:=oL i
 rw [hL] at hLl
 have hxl:=P5.1
 rw [List.length_drop] at hxl
 refine ⟨_,rfl,_,.inl ⟨_,SqL.of h5l,rfl⟩,?_⟩
 refine V9 (λc1=>?_) (λc1=>?_)
 ·have hlt:i < L.length:=by
   rcases Nat.lt_or_ge i L.length with z | z
   ·exact z
   ·rw [List.eq_nil_of_length_eq_zero (show xs.length=0 by omega)] at c1
    cases c1
  refine ⟨λσ' H'=>∃ m',m' < 217 - i∧_,λ_ _ z=>z,?_⟩
  refine ⟨(by show 0≤sizeLine; decide),λrp hrp=>?_⟩
  have s6:=Ze hrp (.lst [])
  have h6r:upd H5 rp (.lst []) rp=some (.lst []):=Zb
  have Cp:=none_of e5 hrp
  have nlr:lv≠rp:=Zg h5l hrp
  generalize upd H5 rp (.lst [])=H6 at s6 h6r
  refine ⟨_,rfl,lv,rfl,⟨_,SqL.of (s6 _ _ h5l)⟩,?_⟩
  refine Q7 (K:=K) (a:=lv) (xs:=xs) (wkL l a0 fv d key g b H lv rp i L xs)
   ⟨[],v6,v7,v8,rfl,s6 _ _ h5l,P5.keep (Tk.same s6),h6r,by rw [Nat.add_zero,hL,List.drop_length]; exact ⟨rfl,λi x c q=>by simp at q⟩,by rw [Nat.add_zero,hL]; exact T5.same s6,e5.trans s6⟩ (λj σ H7 _ h=>?_) ?_ ?_
  ·obtain ⟨_,_,_,_,_,h7,_⟩:=h
   exact SqL.of h7
  ·rintro j x σ H7 hx ⟨ys,v6,v7,v8,rfl,h7l,P7,h7r,Y7,T7,e7⟩
   have hjl:=(List.getElem?_eq_some_iff.mp hx).1
   have hxx:L[i+j]? = some (L[i+j]'(by omega)):=List.getElem?_eq_getElem (by omega)
   generalize L[i+j]'(by omega)=y at hxx
   obtain ⟨ya,rfl,hya⟩:=P7.2 j x y hx (by rw [List.getElem?_drop]; exact hxx)
   have hoj:(Zv id (TL l g) b (i+j))[i+j]? = some y:=by
    obtain ⟨t,e⟩:=W4 (k:=id) (T:=TL l g) (b:=b) (i:=i) (i+j) (by omega)
    rw [← e,hL,List.getElem?_append_left (List.getElem?_eq_some_iff.mp hxx).1]
    exact hxx
   have Cr:L.length≤(Zv id (TL l g) b (i+j)).length:=by
    rw [← hL]
    exact (W4 (k:=id) (T:=TL l g) (b:=b) (i:=i) (i+j) (by omega)).length_le
   have Kb:=W0 hoj
   have Zck:=oP (i+j) y (List.mem_of_getElem? hoj)
   have hnd:=Tt (k:=id) (T:=TL l g) (b:=b) (i+j)
   generalize hO:Zv id (TL l g) b (i+j)=O at hoj Cr Kb hnd Y7 T7
   have Kx:∀ z∈O,pl z:=by rw [← hO]; exact oP (i+j)
   refine ⟨_,rfl,l,rfl,?_⟩
   refine Jf (cs:=l.cps.toList) (λm σ H8=>∃ (ys:List V) (v7 v8:Option V),σ=[some (.str l),some (.ref a0),some (.ref fv),some (.ref d),some (.ref lv),some (.ref rp),some (.ref ya),v7,v8]∧H8 lv=some (.lst xs)∧PlT key H8 xs (L.drop i)∧H8 rp=some (.lst ys)∧PlT key H8 ys ((((TL l g y).take m).foldl (Xn id) O).drop L.length)∧TxB key g b l H8 d (((TL l g y).take m).foldl (Xn id) O) (i+j) m∧Zo H H8∧H8 ya=some (.tup ((key y).map kV)))
    ⟨ys,v7,v8,rfl,h7l,P7,h7r,Y7,T7,e7,hya⟩ ?_ ?_
   ·rintro m c σ H8 hc ⟨ys,v7,v8,rfl,h8l,P8,h8r,Y8,T8,e8,h8y⟩
    have hcl:c∈l.cps.toList:=List.mem_of_getElem? hc
    have hTm:(TL l g y)[m]? = some (g y c):=by unfold TL; rw [List.getElem?_map,hc]; rfl
    have htk:((TL l g y).take (m+1)).foldl (Xn id) O=Xn id (((TL l g y).take m).foldl (Xn id) O) (g y c):=by
     rw [List.take_add_one,hTm,List.foldl_append]
     rfl
    have Kw:=S0 (k:=id) ((TL l g y).take m) O
    have Cq:=Ms (k:=id) ((TL l g y).take m) O hnd
    have Ho:=fold_all (k:=id) (P:=pl) ((TL l g y).take m) O Kx λz hz=>hT y Zck z (List.mem_of_mem_take hz)
    have hy8:(((TL l g y).take m).foldl (Xn id) O)[i+j]? = some y:=by
     obtain ⟨t,e⟩:=Kw
     rw [← e,List.getElem?_append_left (List.getElem?_eq_some_iff.mp hoj).1]
     exact hoj
    have hLO:L.length≤(((TL l g y).take m).foldl (Xn id) O).length:=Nat.le_trans Cr Kw.length_le
    rw [htk]
    generalize ((TL l g y).take m).foldl (Xn id) O=O8 at Y8 T8 Kw Cq Ho hy8 hLO
    have hO8:O8.length≤216:=by
     have:=Sn 216 _ Cq λz hz=>by
      rw [List.map_id] at hz
      exact (hpl z (Ho z hz)).1
     rwa [List.length_map] at this
    have pgc:=(hpl y Zck).2 c hcl
    refine ⟨rfl,e8 _ _ hf,_,rfl,_,rfl,e8 _ _ hf,ya,y,c,rfl,h8y,Zck,hcl,e8 _ _ hf,hG _ _ e8 hGH,λr H9 e9 h9a=>?_⟩
    have T9:=T8.same e9
    have P9:=P8.keep (Tk.same e9)
    have Y9:=Y8.keep (Tk.same e9)
    have h9l:=e9 _ _ h8l
    have h9r:=e9 _ _ h8r
    have h9y:=e9 _ _ h8y
    have e09:=e8.trans e9
    obtain ⟨kvs,T,h9d,hk,hv,B9⟩:=T9
    have hkl:kvs.length=O8.length:=by
     have:=congrArg List.length hk
     rwa [List.length_map,List.length_map] at this
    have hyl:=Y9.1
    rw [List.length_drop] at hyl
    refine ⟨_,rfl,_,rfl,d,_,rfl,Pr.t (k:=key (g y c)) h9d h9a,_,rfl,?_⟩
    rw [Zew]
    by_cases hin:g y c∈O8
    ·obtain ⟨_,v,_,_,hp⟩:=Og inj pgc hk Ho hin
     obtain ⟨t,ht⟩:=B9.at hy8
     rw [hp,if_pos hin]
     exact ifN rfl ⟨_,_,_,rfl,h9l,P9,h9r,Y9,⟨kvs,T,h9d,hk,hv,B9.old hR hy8 ht hc hin⟩,e09,h9y⟩
    ·have hno:=A8 inj pgc hk Ho hin
     rw [hno,if_neg hin]
     obtain ⟨iy,v,g1,g2,hp⟩:=Og inj Zck hk Ho (List.mem_of_getElem? hy8)
     obtain rfl:=Zre (by rwa [List.map_id] at Cq) g2 hy8
     obtain ⟨t,ht,rfl⟩:=Zdz hv g1
     have hzl:(sOf t).length≤216:=by
      have h1:=(B9.way _ _ _ hy8 ht).2.2
      have h2:=(List.getElem?_eq_some_iff.mp hy8).1
      show t.toArray.size≤216
      rw [List.size_toArray]
      omega
     refine ifY rfl ⟨_,rfl,_,rfl,d,_,rfl,hp▸Pr.t (k:=key y) h9d h9y,_,rfl,sOf t,_,rfl,rfl,(by show (sOf t).length+1≤sizeLine; rw [sizeLine_eq]; omega),_,rfl,_,rfl,d,_,rfl,Fj.t (k:=key (g y c)) h9d h9a (by rw [sizeLine_eq]; omega),?_⟩
     rw [Qn _ hno,Zg4]
     have nrd:=hD h9r ⟨kvs,T,h9d,hk,hv,B9⟩
     have nld:=hD h9l ⟨kvs,T,h9d,hk,hv,B9⟩
     have tkd:=Tk.dct h9d (.dT (kvs ++ [(key (g y c),V.str (sOf (t ++ [c])))]))
     have Nd:=(Zj (H:=H9) (o:=.dT (kvs ++ [(key (g y c),V.str (sOf (t ++ [c])))])) nrd).trans h9r
     have G9:=(Zj (H:=H9) (o:=.dT (kvs ++ [(key (g y c),V.str (sOf (t ++ [c])))])) nld).trans h9l
     have Lu:upd H9 d (.dT (kvs ++ [(key (g y c),V.str (sOf (t ++ [c])))])) d=some (.dT (kvs ++ [(key (g y c),V.str (sOf (t ++ [c])))])):=Zb
     have e10:=Yq e09 hd (.dT (kvs ++ [(key (g y c),V.str (sOf (t ++ [c])))]))
     have Zr9:=tkd _ _ h9a
     have P10:=P9.keep tkd
     have Y10:=Y9.keep tkd
     have Zfu:=tkd _ _ h9y
     generalize upd H9 d (.dT (kvs ++ [(key (g y c),V.str (sOf (t ++ [c])))]))=H10 at Nd G9 Lu e10 Zr9 P10 Y10 Zfu
     have tkr:=Tk.lst Nd (.lst (ys ++ [V.ref r]))
     refine ⟨_,rfl,.inl ⟨rfl,_,SqL.of Nd⟩,_,rfl,rp,_,_,rfl,rfl,Nd,(by rw [sizeLine_eq]; omega),?_⟩
     refine ⟨ys ++ [V.ref r],_,_,rfl,(Zj nlr).trans G9,P10.keep tkr,Zb,?_,⟨kvs ++ [(key (g y c),V.str (sOf (t ++ [c])))],T ++ [t ++ [c]],(Zj nrd.symm).trans Lu,?_,?_,B9.new hR hy8 ht hc⟩,Yq e10 Cp _,tkr _ _ Zfu⟩
     ·rw [List.drop_append_of_le_length hLO]
      exact (Y10.keep tkr).snoc (tkr _ _ Zr9)
     ·rw [List.map_append,List.map_append,hk]
      rfl
     ·rw [List.map_append,List.map_append,hv]
      rfl
   ·rintro σ H8 ⟨ys,v7,v8,rfl,h8l,P8,h8r,Y8,T8,e8,_⟩
    rw [List.take_of_length_le (by unfold TL; rw [List.length_map]; exact Nat.le_refl _),← Kb] at Y8 T8
    obtain ⟨kvs,T,a1,a2,a3,B8⟩:=T8
    exact ⟨_,_,_,_,rfl,h8l,P8,h8r,Y8,⟨kvs,T,a1,a2,a3,B8.next (Nat.le_refl _)⟩,e8⟩
  ·rintro σ H7 ⟨ys,v6,v7,v8,rfl,h7l,P7,h7r,Y7,T7,e7⟩
   have hij:i+xs.length=L.length:=by omega
   rw [hij] at Y7 T7
   have Cr:L.length≤(Zv id (TL l g) b L.length).length:=by
    rw [← hL]
    exact (W4 (k:=id) (T:=TL l g) (b:=b) (i:=i) (Zv id (TL l g) b i).length (by rw [hL]; omega)).length_le
   exact ⟨_,rfl,217 - L.length,by omega,L.length,rp,ys,_,_,_,_,rfl,Cr,rfl,Cp,h7r,Y7,T7,e7⟩
 ·have hge:L.length≤i:=by
   rcases Nat.lt_or_ge i L.length with z | z
   ·refine absurd ?_ c1
    cases hdr:xs with
    | nil=>
     rw [hdr] at hxl
     have h0:([]:List V).length=0:=rfl
     omega
    | cons=>rfl
   ·exact z
  refine ⟨_,rfl,k d H5 i hd e5 (by rw [hL]; exact T5) (by rw [hL]; exact hge)⟩
inductive Zmk (f:Addr) (fd:FuncData) (pl:Nat→Prop) (e:Nat→Bool) (G:Hp→Prop) (vs:List V) (H:Hp) (Q:VK):Prop
 | mk (x:_) (h1:vs=[nI x]) (h2:pl x) (h3:H f=some (FnO f fd)) (h4:G H) (h5:∀ H',Zo H H'→Q (.bl (e x)) H'):Zmk f fd pl e G vs H Q
def spEd (f:Addr) (fd:FuncData) (pl:Nat→Prop) (e:Nat→Bool) (G:Hp→Prop):Sp:=λvs H Q u3_=>Zmk f fd pl e G vs H Q
def Pe (H:Hp) (m:Addr) (l:Str) (b:Nat) (es:List Nat) (st:List (List Nat)):Prop:=∃ (e s:Addr) (ras:List Addr),H m=some (.tup [.str l,nI b,.ref e,.ref s])∧H e=some (.tup (es.map nI))∧H s=some (.tup (ras.map V.ref))∧ras.length=st.length∧∀ (i:Nat) a r,ras[i]? = some a→st[i]? = some r→H a=some (.tup (r.map nI))
theorem Ug.ras {H:Hp}:∀ {xs:List V} {rs:List (List Nat)},Ug H xs rs→∃ ras:List Addr,xs=ras.map V.ref∧ras.length=rs.length∧∀ (i:Nat) a r,ras[i]? = some a→rs[i]? = some r→H a=some (.tup (r.map nI))
 | [],[],_=>⟨[],rfl,rfl,λi a r h=>by simp at h⟩
 | [],_ :: _,h=>nomatch h.1
 | _ :: _,[],h=>nomatch h.1
 | x :: xs,r :: rs,h=>by
  obtain ⟨c,e,q⟩:=h.2 0 x r rfl rfl
  obtain ⟨ras,e1,e2,e3⟩:=Ug.ras (H:=H) (xs:=xs) (rs:=rs) ⟨by simpa using h.1,λi y t a b=>h.2 (i+1) y t (by simpa using a) (by simpa using b)⟩
  refine ⟨c :: ras,by rw [e,e1]; rfl,by rw [List.length_cons,List.length_cons,e2],λi a t p1 p2=>?_⟩
  cases i with
  | zero=>cases p1; cases p2; exact q
  | succ i=>exact e3 i a t (by simpa using p1) (by simpa using p2)
def nbK (o:List Nat) (i:Nat):List (Key × V):=(List.range i).map λj=>(kI (o.getD j 0),nI j)
theorem Ap (o:List Nat):(nbK o o.length).map (·.1)=o.map kI:=by
 unfold nbK
 rw [List.map_map]
 refine List.ext_getElem? λj=>?_
 rw [List.getElem?_map,List.getElem?_map]
 rcases Nat.lt_or_ge j o.length with z | z
 ·rw [List.getElem?_range z,List.getElem?_eq_getElem z]
  show some (kI (o.getD j 0))=some (kI o[j])
  rw [List.getD_eq_getElem?_getD,List.getElem?_eq_getElem z]
  rfl
 ·rw [List.getElem?_eq_none (by rw [List.length_range]; exact z),List.getElem?_eq_none z]
  rfl
theorem Zk8 {o:List Nat} (nd:o.Nodup) {x:Nat} (hx:x∈o):X8 (nbK o o.length) (kI x)=some (nI (o.idxOf x)):=by
 obtain ⟨p,hp,e,ek⟩:=Mm (Ap o) hx
 rw [e]
 obtain ⟨j,hj,rfl⟩:=List.mem_map.mp hp
 have hj':=List.mem_range.mp hj
 have ex:o.getD j 0=x:=Rk ek
 rw [List.getD_eq_getElem?_getD,List.getElem?_eq_getElem hj'] at ex
 have ex':o[j]=x:=ex
 rw [← ex',List.Nodup.idxOf_getElem nd j hj']
theorem Zk9 {o:List Nat} (nd:o.Nodup) {i:Nat} (hi:i < o.length):X8 (nbK o i) (kI (o.getD i 0))=none:=by
 have hk:(nbK o i).map (·.1)=(o.take i).map kI:=by
  unfold nbK
  rw [List.map_map]
  refine List.ext_getElem? λj=>?_
  rw [List.getElem?_map,List.getElem?_map]
  rcases Nat.lt_or_ge j i with z | z
  ·rw [List.getElem?_range z,List.getElem?_take_of_lt z,List.getElem?_eq_getElem (by omega)]
   show some (kI (o.getD j 0))=some (kI o[j])
   rw [List.getD_eq_getElem?_getD,List.getElem?_eq_getElem (by omega)]
   rfl
  ·rw [List.getElem?_eq_none (by rw [List.length_range]; exact z),List.getElem?_eq_none (by rw [List.length_take]; omega)]
   rfl
 refine Cj hk λz=>?_
 rw [List.getD_eq_getElem?_getD,List.getElem?_eq_getElem hi] at z
 obtain ⟨j,hj,e⟩:=List.getElem_of_mem z
 rw [List.length_take] at hj
 rw [List.getElem_take] at e
 have e':o[j]'(by omega)=o[i]:=e
 have h1:=List.Nodup.idxOf_getElem nd j (by omega)
 have h2:=List.Nodup.idxOf_getElem nd i hi
 rw [e',h2] at h1
 omega
inductive Zmi (P:Program) (w:World) (K:W.Frag) (mg:Str→Option Value) (base:Heap) (n:Nat) (vs:List V) (H:Hp) (Q:VK):Prop
 | mk (f:Addr) (fd:FuncData) (ps:List Str) (f2:Addr) (fd2:FuncData) (ps2:List Str) (l:Str) (b:Nat) (g:Nat→Nat→Nat) (e:Nat→Bool) (pl:Nat→Prop) (G:Hp→Prop) (h1:Yp P w K mg base CX0 n f fd ps (Zqn f fd l g pl G)) (h2:Binds K fd ps []) (h3:Yp P w K mg base CX0 n f2 fd2 ps2 (spEd f2 fd2 pl e G)) (h4:Binds K fd2 ps2 []) (h5:(∀ H1 H2,Zo H1 H2→G H1→G H2)) (h6:vs=[.str l,nI b,.ref f,.ref f2]) (h7:pl b) (h8:(∀ x,pl x→x < 216∧∀ c∈l.cps.toList,pl (g x c))) (h9:l.length≤3) (h10:H f=some (FnO f fd)) (h11:H f2=some (FnO f2 fd2)) (h12:G H) (h13:∀ m H' N,Zo H H'→(Zv id (TL l g) b N).length≤N→Pe H' m l 0 (Ws (Zv id (TL l g) b N) e) (Xl id (TL l g) (Zv id (TL l g) b N))→Q (.ref m) H'):Zmi P w K mg base n vs H Q
def Zn1 (P:Program) (w:World) (K:W.Frag) (mg:Str→Option Value) (base:Heap) (n:Nat):Sp:=λvs H Q u3_=>Zmi P w K mg base n vs H Q
def mfD (l:Str) (b:Nat) (fv fe nd ep rp:Addr) (v5:Option V) (g:Nat→Nat→Nat) (o:List Nat) (e:Nat→Bool) (H5:Hp) (i:Nat) (σ:L2.St) (H10:Hp):Prop:=∃ (v6:Option V) (ys:List V),σ=[some (.str l),some (nI b),some (.ref fv),some (.ref fe),some (.ref nd),v5,v6,some (.ref ep),some (.ref rp)]∧H10 rp=some (.lst ys)∧Ug H10 ys ((Xl id (TL l g) o).take i)∧H10 ep=some (.tup ((Ws o e).map nI))∧Zo H5 H10
theorem Ko {n:Nat} {f:Addr} {fd:FuncData} (F:Fun K "machine_from" "machine_from" Y4 f fd) (Z:Blt mg) (Pu:Cal P w K mg base "walked" (n+1) ["letters","begin","step"] (Zn0 P w K mg base n)):Yp P w K mg base CX0 (n+2) f fd ["letters","begin","step","is_end"] (Zn1 P w K mg base n):=by
 refine F.ok Xb (λvs H Q E h=>?_) (λcdv A outer s H vs Q E hr h=>?_)
 ·obtain ⟨f,fd,ps,f2,fd2,ps2,l,b,g,e,pl,G,_,_,_,_,_,rfl,_⟩:=h
  rfl
 obtain ⟨fv,fdv,ps,fe,fde,ps2,l,b,g,e,pl,G,Ot,Om,Zgf,Zf8,hG,rfl,hb,hpl,hl,hf,hf2,hGH,k⟩:=h
 refine ⟨_,(Zd (Zm (i:=4) Xb.nd (by rfl) (Or.inr (by rfl)) Zht) 
   (Zd (Xx PassesOwn.never (by rfl) (Zhn (by rfl) Z.enumerate (Yg Pu (hr.mono (by omega)) (Za (pv 0) (Za (pv 1) (Za (pv 2) Zc))))) (V5 (K:=K) (n:=2) (by rfl) (Yd (Zk (i:=5) Xb.nd (by rfl) (Or.inl (by rfl))) (Yd (Zk (i:=6) Xb.nd (by rfl) (Or.inr (by rfl))) V4))) 
    (Zi (K8 (Vt hr) (pv 4) (pv 6) (pv 5) rfl))) 
   (Zd (Zm (i:=7) Xb.nd (by rfl) (Or.inl (by rfl)) (Zu (Yi (K:=K)) (by rfl) Z.tuple Yo (Za (Yc (sc:=Zf Y4) (Nm:=["letters","begin","step","is_end","numbers","number","place","ends","steps"]) (own:=["place"]) (fr:=[3,4]) ⟨rfl,by decide +kernel,by decide +kernel,by decide +kernel,by decide +kernel⟩ (by rfl) (Z2 (by decide)) (Zdx (pv 4)) (λd=>(Zk (i:=0) Mg (by rfl) (Or.inl (by rfl)))) (λd=>(Oa (Yy (K:=K) (N9 (i:=1) Zgf (hr.mono (by omega)) Zf8 (Za (pv 0) Zc)) (λ_=>rfl)))) (λd=>(Rb (Vt hr) (pv 2) (pv 0) (λ_ _=>rfl)))) Zc))) 
   (Zd (Zm (i:=8) Xb.nd (by rfl) (Or.inl (by rfl)) (X9 Zc)) 
   (Zd (Xx PassesOwn.never (by rfl) (Zdx (pv 4)) (Zk (i:=6) Xb.nd (by rfl) (Or.inr (by rfl))) 
    (Zi (Xz (Xd (K:=K) PySem.F.plainAttrs_list PySem.F.slot_list_append PySem.F.type_list_append We (pv 8) (Za (Zu (Yi (K:=K)) (by rfl) Z.tuple Yo (Za (Yc (sc:=Zf Y4) (Nm:=["letters","begin","step","is_end","numbers","number","place","ends","steps"]) (own:=["letter"]) (fr:=[2,4,6]) ⟨rfl,by decide +kernel,by decide +kernel,by decide +kernel,by decide +kernel⟩ (by rfl) (Z2 (by decide)) (Ra (pv 0)) (λd=>(Zk (i:=0) Mf (by rfl) (Or.inl (by rfl)))) (λd=>Yb) (λd=>(Rb (Vt hr) (pv 2) (N9 (i:=1) Ot (hr.mono (by omega)) Om (Za (pv 3) (Za (pv 0) Zc))) (λ_ _=>rfl)))) Zc)) Zc))))) 
   (Zi (Z1 (Vl (Za (pv 0) (Za Zh (Za (pv 7) (Za (Zu (Yi (K:=K)) (by rfl) Z.tuple Yo (Za (pv 8) Zc)) Zc)))))))))))),?_⟩
 refine (let zz0:TS:=_; let zz1:TS:=Zq _ zz0; let zz2:TS:=Zq _ zz1; let zz3:TS:=Zq _ zz2; let zz4:TS:=Zq _ zz3; (?_:Zq _ zz4 _ _ _))
 have hT:∀ x,pl x→∀ y∈TL l g x,pl y:=λx hx y hy=>by
  obtain ⟨c,hc,e⟩:=List.mem_map.mp hy
  rw [← e]
  exact (hpl x hx).2 c hc
 refine λnd hnd=>?_
 have s1:=Ze hnd (.dK [])
 have h1n:upd H nd (.dK []) nd=some (.dK []):=Zb
 generalize upd H nd (.dK [])=H1 at s1 h1n
 refine ⟨_,rfl,_,rfl,_,rfl,fv,fdv,ps,l,b,g,pl,G,Ot,Om,hG,rfl,hb,hpl,s1 _ _ hf,hG _ _ s1 hGH,λd H2 N hd e2 T2 hN=>?_⟩
 have oL:(Zv id (TL l g) b N).length≤216:=Qs hb hT (λx hx=>(hpl x hx).1) N
 have oP:∀ y∈Zv id (TL l g) b N,pl y:=Uw hb hT N
 have oN:(Zv id (TL l g) b N).Nodup:=by
  have:=Tt (k:=id) (T:=TL l g) (b:=b) N
  rwa [List.map_id] at this
 have oM:∀ x∈Zv id (TL l g) b N,∀ c∈l.cps.toList,g x c∈Zv id (TL l g) b N:=λx hx c hc=>by
  obtain ⟨j,hj,ej⟩:=List.getElem_of_mem hx
  have:=Ma (k:=id) (T:=TL l g) (b:=b) (n:=N) (j:=j) (x:=x) (y:=g x c) (by rw [List.getElem?_eq_getElem hj,ej]) (by omega) (List.mem_map.mpr ⟨c,hc,rfl⟩)
  rw [List.map_id] at this
  exact this
 replace k:=λm H'=>k m H' N
 generalize Zv id (TL l g) b N=o at k hN T2 oL oP oN oM
 have hd0:=none_of s1 hd
 obtain ⟨kvs,h2d,hkk,hkv⟩:=T2
 have nnd:nd≠d:=Zg h1n hd
 refine ⟨d,kvs,rfl,.inl ⟨h2d,λob=>?_⟩⟩
 have h3n:upd H2 d (.frz ob (.dK kvs)) nd=some (.dK []):=(Zj nnd).trans (e2 _ _ h1n)
 have e3:Zo H (upd H2 d (.frz ob (.dK kvs))):=Yq (s1.trans e2) hd0 _
 have h3d:upd H2 d (.frz ob (.dK kvs)) d=some (.frz ob (.dK kvs)):=Zb
 generalize upd H2 d (.frz ob (.dK kvs))=H3 at h3n e3 h3d
 have hkx:(kvs.map λp=>kV p.1)=o.map nI:=by
  have:(kvs.map λp=>kV p.1)=(kvs.map (·.1)).map kV:=by rw [List.map_map]; rfl
  rw [this,hkk,List.map_map]
  rfl
 refine Hs (Sq:=λH xs=>H d=some (.frz ob (.dK kvs))∧xs=kvs.map λp=>kV p.1) (xs:=o.map nI) (λi σ H4=>∃ (v5 v6:Option V),σ=[some (.str l),some (nI b),some (.ref fv),some (.ref fe),some (.ref nd),v5,v6,none,none]∧H4 nd=some (.dK (nbK o i))∧H4 d=some (.frz ob (.dK kvs))∧Zo H H4)
  ⟨none,none,rfl,h3n,h3d,e3⟩ (λi σ H4 _ h=>?_) ?_ ?_
 ·obtain ⟨_,_,_,_,h4,_⟩:=h
  exact ⟨h4,hkx.symm⟩
 ·rintro i x σ H4 p hx ⟨v5,v6,rfl,h4n,h4d,e4⟩ hp
  rw [List.getElem?_map] at hx
  cases hxx:o[i]? with
  | none=>rw [hxx] at hx; cases hx
  | some y=>
   rw [hxx] at hx
   cases hx
   have hil:=(List.getElem?_eq_some_iff.mp hxx).1
   have hyD:o.getD i 0=y:=by rw [List.getD_eq_getElem?_getD,hxx]; rfl
   have s5:=Ze hp (.tup [V.int (i:Int),nI y])
   have h5p:upd H4 p (.tup [V.int (i:Int),nI y]) p=some (.tup [V.int (i:Int),nI y]):=Zb
   generalize upd H4 p (.tup [V.int (i:Int),nI y])=H5 at s5 h5p
   have Zrt:=Zk9 oN hil
   rw [hyD] at Zrt
   refine ⟨p,_,rfl,SqT.of h5p,rfl,_,_,rfl,_,_,rfl,rfl,?_⟩
   refine ⟨_,rfl,_,rfl,_,rfl,nd,_,rfl,Fj.k (k:=kI y) (s5 _ _ h4n) (by unfold nbK; rw [List.length_map,List.length_range,sizeLine_eq]; omega),?_⟩
   rw [Qn _ Zrt]
   refine ⟨_,_,rfl,?_,(Zj nnd.symm).trans (s5 _ _ h4d),Yq (e4.trans s5) hnd _⟩
   refine Zb.trans ?_
   unfold nbK
   rw [List.range_succ,List.map_append]
   show _=some (HO.dK (_ ++ [(kI (o.getD i 0),nI i)]))
   rw [hyD]
   rfl
 rintro σ H4 ⟨v5,v6,rfl,h4n,_,e4⟩
 rw [List.length_map] at h4n
 have kat:∀ {i:Nat} {q:Key} {v:V},(nbK o o.length)[i]? = some (q,v)→∃ y,o[i]? = some y∧q=kI y:=λ{i q v} h=>by
  have h1:((nbK o o.length).map (·.1))[i]? = some q:=by rw [List.getElem?_map,h]; rfl
  rw [Ap,List.getElem?_map] at h1
  cases hc:o[i]? with
  | none=>rw [hc] at h1; cases h1
  | some y=>rw [hc] at h1; exact ⟨y,rfl,(Option.some.inj h1).symm⟩
 have nbl:(nbK o o.length).length=o.length:=by unfold nbK; rw [List.length_map,List.length_range]
 refine ⟨_,rfl,nd,_,rfl,.inl ⟨h4n,λon=>?_⟩⟩
 have e5:Zo H (upd H4 nd (.frz on (.dK (nbK o o.length)))):=Yq e4 hnd _
 have h5n:upd H4 nd (.frz on (.dK (nbK o o.length))) nd=some (.frz on (.dK (nbK o o.length))):=Zb
 generalize upd H4 nd (.frz on (.dK (nbK o o.length)))=H5 at e5 h5n
 have Zsg:∀ {H6:Hp} {x:Nat},Zo H5 H6→x∈o→Pr H6 nd (nI x) (some (nI (o.idxOf x))):=λ{H6 x} e6 hx=>by
  rw [← Zk8 oN hx]
  exact .inl ⟨_,kI x,.inr ⟨on,e6 _ _ h5n⟩,rfl,rfl⟩
 refine Zf5 (a:=nd) (o:=on) (kvs:=nbK o o.length) (λi acc H6=>acc=(((List.range i).filter λj=>e (o.getD j 0)).map nI)∧Zo H5 H6) (Zt (by omega)) ⟨rfl,Zo.refl _⟩
  (λi acc H6 q=>by rw [q.1,List.length_map]; exact Nat.le_trans (List.length_filter_le _ _) (by rw [List.length_range]; exact Nat.le_refl _)) (λi acc H6 q=>q.2 _ _ h5n) (λi acc H6 q v hq p=>?_) (λacc H6 p y hy=>?_)
 ·obtain ⟨rfl,e6⟩:=p
  obtain ⟨y,hy,rfl⟩:=kat hq
  have hyD:o.getD i 0=y:=by rw [List.getD_eq_getElem?_getD,hy]; rfl
  have hym:=List.mem_of_getElem? hy
  have e06:=e5.trans e6
  refine ⟨rfl,e06 _ _ hf2,_,rfl,e06 _ _ hf2,y,rfl,oP y hym,e06 _ _ hf2,hG _ _ e06 hGH,λH7 e7=>⟨_,rfl,?_⟩⟩
  have hfl:((List.range (i+1)).filter λj=>e (o.getD j 0))=((List.range i).filter λj=>e (o.getD j 0)) ++ if e y=true then [i] else []:=by
   rw [List.range_succ,List.filter_append,List.filter_cons,hyD]
   rfl
  rw [hfl,List.map_append]
  refine V9 (λc=>?_) (λc=>?_)
  ·rw [if_pos c]
   refine ⟨_,rfl,_,rfl,nd,_,rfl,Zsg (e6.trans e7) hym,?_,e6.trans e7⟩
   have:o.idxOf y=i:=by
    have h1:=List.Nodup.idxOf_getElem oN i (List.getElem?_eq_some_iff.mp hy).1
    rw [(List.getElem?_eq_some_iff.mp hy).2] at h1
    exact h1
   rw [this]
   rfl
  ·rw [if_neg c]
   exact ⟨by rw [List.map_nil,List.append_nil],e6.trans e7⟩
 obtain ⟨rfl,e6⟩:=p
 rw [nbl]
 have t7:=Ze hy (.lst (((List.range o.length).filter λj=>e (o.getD j 0)).map nI))
 have h7y:upd H6 y (.lst (((List.range o.length).filter λj=>e (o.getD j 0)).map nI)) y=some (.lst (((List.range o.length).filter λj=>e (o.getD j 0)).map nI)):=Zb
 generalize upd H6 y (.lst (((List.range o.length).filter λj=>e (o.getD j 0)).map nI))=H7 at t7 h7y
 refine ⟨y,_,rfl,.inl ⟨SqL.of h7y,λep hep=>?_⟩⟩
 have t8:=Ze hep (.tup (((List.range o.length).filter λj=>e (o.getD j 0)).map nI))
 have h8e:upd H7 ep (.tup (((List.range o.length).filter λj=>e (o.getD j 0)).map nI)) ep=some (.tup ((Ws o e).map nI)):=Zb
 generalize upd H7 ep (.tup (((List.range o.length).filter λj=>e (o.getD j 0)).map nI))=H8 at t8 h8e
 refine ⟨(by show 0≤sizeLine; decide),λrp hrp=>?_⟩
 have t9:=Ze hrp (.lst [])
 have h9r:upd H8 rp (.lst []) rp=some (.lst []):=Zb
 generalize upd H8 rp (.lst [])=H9 at t9 h9r
 have e59:=((e6.trans t7).trans t8).trans t9
 have hrp5:=none_of ((e6.trans t7).trans t8) hrp
 have ner:ep≠rp:=Zg h8e hrp
 have hRl:(Xl id (TL l g) o).length=o.length:=by unfold Xl; rw [List.length_map]
 refine ⟨_,rfl,nd,_,rfl,.inr ⟨on,e59 _ _ h5n,?_⟩⟩
 refine Zi3 (a:=nd) (o:=on) (kvs:=nbK o o.length) (mfD l b fv fe nd ep rp v5 g o e H5)
  ⟨v6,[],rfl,h9r,⟨rfl,λi x r a=>by simp at a⟩,t9 _ _ h8e,e59⟩ (λi σ H10 _ h=>?_) ?_ ?_
 ·obtain ⟨_,_,_,_,_,_,e10⟩:=h
  exact e10 _ _ h5n
 ·rintro i q v σ H10 hq ⟨v6,ys,rfl,Nd,R10,Zpk,e10⟩
  obtain ⟨x,hx,rfl⟩:=kat hq
  have hxm:=List.mem_of_getElem? hx
  refine ⟨_,rfl,.inl ⟨rfl,_,SqL.of Nd⟩,_,rfl,l,rfl,?_⟩
  refine Q9 (cs:=l.cps.toList) (λj acc H11=>acc=(l.cps.toList.take j).map (λc=>nI (o.idxOf (g x c)))∧Zo H10 H11) (by rw [len_list]; exact Zt (by omega)) ⟨rfl,Zo.refl _⟩ (λj acc H11 q=>by rw [q.1,List.length_map,List.length_take]; exact Nat.min_le_left _ _)
   (λj acc H11 c hc q=>?_) (λacc H11 q y hy=>?_)
  ·obtain ⟨rfl,e11⟩:=q
   have hcl:c∈l.cps.toList:=List.mem_of_getElem? hc
   have Zaf:=e5.trans (e10.trans e11)
   refine Vg ⟨_,rfl,rfl,Zaf _ _ hf,_,rfl,_,rfl,Zaf _ _ hf,x,c,rfl,oP x hxm,hcl,Zaf _ _ hf,hG _ _ Zaf hGH,λH12 e12=>⟨nd,_,rfl,Zsg ((e10.trans e11).trans e12) (oM x hxm c hcl),?_,e11.trans e12⟩⟩
   rw [map_take hc]
  obtain ⟨rfl,e11⟩:=q
  rw [List.take_length]
  have u1:=Ze hy (.lst (l.cps.toList.map λc=>nI (o.idxOf (g x c))))
  refine ⟨y,_,rfl,.inl ⟨SqL.of Zb,λz hz=>?_⟩⟩
  have u2:=Ze hz (.tup (l.cps.toList.map λc=>nI (o.idxOf (g x c))))
  have u02:=(e11.trans u1).trans u2
  have hyl:ys.length≤216:=by
   rw [R10.1,List.length_take,hRl]
   omega
  have X5:(Xl id (TL l g) o)[i]? = some (l.cps.toList.map λc=>o.idxOf (g x c)):=by
   unfold Xl TL
   rw [List.getElem?_map,hx,Option.map_some,List.map_map,List.map_id]
   rfl
  have Zpi:upd (upd H11 y (.lst (l.cps.toList.map λc=>nI (o.idxOf (g x c))))) z (.tup (l.cps.toList.map λc=>nI (o.idxOf (g x c)))) z=some (.tup ((l.cps.toList.map λc=>o.idxOf (g x c)).map nI)):=by
   rw [List.map_map]
   exact Zb
  generalize upd (upd H11 y (.lst (l.cps.toList.map λc=>nI (o.idxOf (g x c))))) z (.tup (l.cps.toList.map λc=>nI (o.idxOf (g x c))))=H12 at u2 u02 Zpi
  refine ⟨rp,_,_,rfl,rfl,u02 _ _ Nd,Zt (by omega),_,ys ++ [.ref z],rfl,Zb,?_,(Zj ner).trans (u02 _ _ Zpk),Yq (e10.trans u02) hrp5 _⟩
  rw [List.take_add_one,X5]
  refine ((R10.keep (Tk.same u02)).keep (Tk.lst (u02 _ _ Nd) _)).snoc ?_
  rw [Zj (Wb Zpi (u02 _ _ Nd) λz=>nomatch z)]
  exact Zpi
 ·rintro σ H10 ⟨v6,ys,rfl,Nd,R10,Zpk,e10⟩
  rw [nbl,← hRl,List.take_length] at R10
  obtain ⟨ras,rfl,r1,r2⟩:=R10.ras
  refine ⟨_,rfl,_,rfl,_,rfl,rp,_,rfl,.inl ⟨SqL.of Nd,λsp hsp=>⟨(by show 4≤sizeLine; decide),λm hm=>?_⟩⟩⟩
  have w1:=Ze hsp (.tup (ras.map V.ref))
  have w2:=Ze hm (.tup [V.str l,V.int 0,.ref ep,.ref sp])
  have w12:=w1.trans w2
  refine k m _ (e5.trans (e10.trans w12)) hN ⟨ep,sp,ras,Zb,w12 _ _ Zpk,w2 _ _ Zb,r1,λi a r q1 q2=>w12 _ _ (r2 i a r q1 q2)⟩
abbrev Xr:List (Pos × Str):=[(⟨99,4,100,56⟩,"least" ++ ".<locals>." ++ "step"),(⟨101,61,101,92⟩,"least" ++ ".<locals>." ++ "<lambda>")]
def gL (l:Str) (st:List (List Nat)) (L:List Nat) (x c:Nat):Nat:=L.getD (stp l st x c) 0
inductive By (Pt:Addr) (vs:List V) (H:Hp) (Q:VK):Prop
 | mk (m:Addr) (l:Str) (b:Nat) (es:List Nat) (st:List (List Nat)) (h1:vs=[.ref m]) (h2:Z6 H m l b es st) (h3:es.length≤500) (h4:Tb Pt Xr H) (h5:∀ m' k N H',Vu Pt H H'→Tb Pt Xr H'→dn (lkN st es (k+1))≤dn (lkN st es k)→(Zv id (TL l (gL l st (lkN st es (k+1)))) ((lkN st es (k+1)).getD b 0) N).length≤N→Pe H' m' l 0 (Ws (Zv id (TL l (gL l st (lkN st es (k+1)))) ((lkN st es (k+1)).getD b 0) N) λx=>decide (x∈es)) (Xl id (TL l (gL l st (lkN st es (k+1)))) (Zv id (TL l (gL l st (lkN st es (k+1)))) ((lkN st es (k+1)).getD b 0) N))→Q (.ref m') H'):By Pt vs H Q
def De (Pt:Addr):Sp:=λvs H Q u3_=>By Pt vs H Q
theorem Zh2 {f:Addr} {fd:FuncData} (F:Fun K "least" "least" V2 f fd) (Z:Blt mg) {cw Pt:Addr} (Ox:fd.code=.ref cw) (CH:W.CodeHd base cw Pt) (BM:Nw mg base)
  (Rw:Cal P w K mg base "like_rooms" 2 ["machine"] Zbf) (CM:∀ base,Cal P w K mg base "machine_from" 4 ["letters","begin","step","is_end"] (Zn1 P w K mg base 2)) (CR:∀ base,Cal P w K mg base "room_behind" 1 ["machine","room","text"] Jt):Yp P w K mg base CX0 5 f fd ["machine"] (De Pt):=by
 refine F.okC J4 (λvs H Q E h=>?_) (λA outer s H vs Q E hr h=>?_)
 ·obtain ⟨m,l,b,es,st,rfl,_⟩:=h
  rfl
 obtain ⟨m,l,b,es,st,rfl,M,hes,hT,k⟩:=h
 have Znn:∀ x∈Xr,x.1.line=(⟨101,61,101,92⟩:Pos).line→x.1.col=(⟨101,61,101,92⟩:Pos).col→x.2 = "least" ++ ".<locals>." ++ "<lambda>":=λx hx h1 _=>by
  rcases List.mem_cons.mp hx with z | z
  ·rw [z] at h1
   exact absurd h1 (by decide)
  ·rw [List.mem_singleton.mp z]
 have Ze2:∀ x∈Xr,x.1.line=(⟨99,4,100,56⟩:Pos).line→x.1.col=(⟨99,4,100,56⟩:Pos).col→x.2 = "least" ++ ".<locals>." ++ "step":=λx hx h1 _=>by
  rcases List.mem_cons.mp hx with z | z
  ·rw [z]
  ·rw [List.mem_singleton.mp z] at h1
   exact absurd h1 (by decide)
 let Zkc:=Xr
 have Gm:=CM base
 refine ⟨_,(Zd (Zm (i:=1) J4.nd (by rfl) (Or.inr (by rfl)) (Yg Rw (hr.mono (by decide)) (Za (pv 0) Zc))) 
   (Zd (Zkv (i:=2) (L:=Zkc) (sc:=Zf V2) J4.nd (by rfl) (Or.inl (by rfl)) Ox CH BM (by first | exact List.mem_cons_self | exact List.mem_cons_of_mem _ List.mem_cons_self) Ze2) 
   (Zi (Z1 (Zmx Gm (hr.mono (by decide)) (Za (Zs (Zw (K:=K)) (pv 0) Zh (λ_ _=>rfl)) (Za (Zs (Zz (K:=K)) (pv 1) (Zs (Zw (K:=K)) (pv 0) Zh (λ_ _=>rfl)) (λ_ _=>rfl)) (Za (pv 2) (Za (Zhr (L:=Zkc) (sc:=Zf V2) Ox CH BM (by first | exact List.mem_cons_self | exact List.mem_cons_of_mem _ List.mem_cons_self) Znn) Zc))))))))),?_⟩
 refine (let zz0:TS:=_; let zz1:TS:=Zq _ zz0; (?_:Zq _ zz1 _ _ _))
 refine ⟨_,rfl,m,l,b,es,st,rfl,M,hes,λlp k0 H1 e1 h1l hdn=>?_⟩
 have hTP:∀ {H:Hp} {a:Addr} {xs:List V},Tb Pt Xr H→H a=some (.tup xs)→a≠Pt:=λhT h z=>by
  obtain ⟨ps,hp,_⟩:=hT
  rw [z,hp] at h
  cases h
 have hTL:∀ {H:Hp} {a:Addr} {xs:List V},Tb Pt Xr H→H a=some (.lst xs)→a≠Pt:=λhT h z=>by
  obtain ⟨ps,hp,_⟩:=hT
  rw [z,hp] at h
  cases h
 have mk:∀ {H H':Hp},Tb Pt Xr H→Vu Pt H H'→Z6 H m l b es st→Z6 H' m l b es st:=λhT e M=>by
  obtain ⟨⟨e1,s1,ras,h1,h2,h3,h4,h5⟩,f,g,r⟩:=M
  exact ⟨⟨e1,s1,ras,e _ _ (hTP hT h1) h1,e _ _ (hTP hT h2) h2,e _ _ (hTP hT h3) h3,h4,λi a r q1 q2=>e _ _ (hTP hT (h5 i a r q1 q2)) (h5 i a r q1 q2)⟩,f,g,r⟩
 have M1:=M.same e1
 have hT1:=hT.same e1
 have lkl:=Of st es (k0+1)
 have lkf:=Uz st es (k0+1)
 have hst:=M.few.2.2
 have Zad:=M.beg
 replace k:=λm' N H'=>k m' k0 N H'
 replace k:=λm' N H' a b=>k m' N H' a b hdn
 generalize lkN st es (k0+1)=L at h1l lkl lkf k
 clear hdn
 have atL:∀ j,j < st.length→atI (L.map nI) ((j:Nat):Int)=some (nI (L.getD j 0)):=λj hj=>Zl (by rw [List.getElem?_map,(getD_mem (l:=L) (d:=0) (by rw [lkl]; exact hj)).2]; rfl)
 refine ⟨hT1,λH2 f1 c1 ct1 doc1 e2 hT2 hf10 hf1 hc1=>?_⟩
 have M2:=mk hT1 e2 M1
 have h2l:=e2 _ _ (hTL hT1 h1l) h1l
 obtain ⟨eA,sA,ras,g1,g2,g3,g4,g5⟩:=M2.lay
 refine ⟨_,rfl,m,_,_,_,rfl,rfl,SqT.of g1,Zl (j:=0) rfl,_,rfl,_,rfl,m,_,_,_,rfl,rfl,SqT.of g1,Zl (j:=1) rfl,lp,_,_,_,rfl,rfl,SqL.of h2l,atL b Zad,_,rfl,hT2,λH3 f2 c2 ct2 e3 hT3 hf20 hf2 hc2 U8 B=>?_⟩
 have M3:=mk hT2 e3 M2
 have h3l:=e3 _ _ (hTL hT2 h2l) h2l
 have Wf:=CR U8
 have hf3:=e3 _ _ (λz=>by
  obtain ⟨ps,hp,_⟩:=hT2
  rw [z,hp] at hf1
  cases hf1) hf1
 have hc3:=e3 _ _ (λz=>by
  obtain ⟨ps,hp,_⟩:=hT2
  rw [z,hp] at hc1
  cases hc1) hc1
 refine ⟨_,_,CM U8,f1,_,["room","letter"],f2,_,["room"],l,L.getD b 0,gL l st L,(λx=>decide (x∈es)),(λx=>x < st.length),(λH=>H lp=some (.lst (L.map nI))∧Z6 H m l b es st∧H c1=some (CdO c1 ("least" ++ ".<locals>." ++ "step"))∧H c2=some (CdO c2 ("least" ++ ".<locals>." ++ "<lambda>"))),?_,?_,?_,?_,?_,rfl,?_,?_,M.few.2.1,hf3,hf2,⟨h3l,M3,hc3,hc2⟩,λm' H4 N e4 hN hM=>k m' N H4 ((e1.t.trans e2).trans (e3.trans e4.t)) (hT3.same e4) hN hM⟩
 ·refine Zpu (N:=["room","letter","likes","machine"]) (fv:=[.ref lp,.ref m]) ⟨rfl,rfl,rfl,by decide,rfl,by decide +kernel,by decide +kernel⟩ (B.cl (sc:=Zf V2) [1,0] rfl (by decide +kernel) rfl rfl (λj i x a b=>?_) (λj i x a b=>?_)) (λvs H Q E h=>?_) (λvs H Q E h=>?_) (λA outer s H vs Q E hr h=>?_)
  ·match j,a,b with
   | 0,a,b=>cases a; cases b; exact ⟨rfl,rfl⟩
   | 1,a,b=>cases a; cases b; exact ⟨rfl,rfl⟩
   | j+2,a,_=>simp at a
  ·match j,a,b with
   | 0,a,b=>cases a; cases b; rfl
   | 1,a,b=>cases a; cases b; rfl
   | j+2,a,_=>simp at a
  ·obtain ⟨x,c,rfl,_⟩:=h
   rfl
  ·obtain ⟨x,c,rfl,_,_,h1,h2,_⟩:=h
   exact ⟨h1,h2.2.2.1⟩
  ·obtain ⟨x,c,rfl,hx,hc,h1,⟨hl1,hm1,_,_⟩,k⟩:=h
   refine ⟨_,(Zi (Z1 (Zs (Zz (K:=K)) (pv 2) (Yg Wf (hr.mono (by decide)) (Za (pv 3) (Za (pv 0) (Za (pv 1) Zc)))) (λ_ _=>rfl)))),?_⟩
   have hlt:=Qg hm1 hx hc
   refine ⟨_,rfl,_,rfl,_,rfl,_,rfl,m,l,b,es,st,x,one c,rfl,hm1,hx,λd hd=>?_,lp,_,_,_,rfl,rfl,SqL.of hl1,atL _ hlt,k _ (Zo.refl _)⟩
   rw [List.mem_singleton.mp hd]
   exact hc
 ·exact .all λus hl=>match us,hl with | [_,_],_=>rfl
 ·refine Zie (N:=["room","machine"]) (fv:=[.ref m]) ⟨rfl,rfl,rfl,by decide,rfl,by decide +kernel,by decide +kernel⟩ (B.cl (sc:=Zf V2) [0] rfl (by decide +kernel) rfl rfl (λj i x a b=>?_) (λj i x a b=>?_)) (λvs H Q E h=>?_) (λvs H Q E h=>?_) (λA outer s H vs Q E hr h=>?_)
  ·match j,a,b with
   | 0,a,b=>cases a; cases b; exact ⟨rfl,rfl⟩
   | j+1,a,_=>simp at a
  ·match j,a,b with
   | 0,a,b=>cases a; cases b; rfl
   | j+1,a,_=>simp at a
  ·obtain ⟨x,rfl,_⟩:=h
   rfl
  ·obtain ⟨x,rfl,_,h1,h2,_⟩:=h
   exact ⟨h1,h2.2.2.2⟩
  ·obtain ⟨x,rfl,hx,h1,⟨hl1,hm1,_,_⟩,k⟩:=h
   refine ⟨_,(Xu (Rc (K:=K)) (pv 0) (Zs (Zw (K:=K)) (pv 1) Zh (λ_ _=>rfl)) (by with_unfolding_all rfl)),?_⟩
   obtain ⟨eA,sA,ras,g1,g2,g3,g4,g5⟩:=hm1.lay
   refine ⟨_,rfl,_,rfl,m,_,_,_,rfl,rfl,SqT.of g1,Zl (j:=2) rfl,eA,_,rfl,.inr (SqT.of g2),rfl,Ui es,?_⟩
   have e:decide (x∈es)=inV (nI x) (es.map nI):=(Rm x es).symm
   have k2:=k _ (Zo.refl _)
   have k3:Q (V.bl (decide (x∈es))) H:=k2
   rw [e] at k3
   exact k3
 ·exact .all λus hl=>match us,hl with | [_],_=>rfl
 ·exact λH1 H2 e ⟨a1,a2,a3,a4⟩=>⟨e _ _ a1,a2.same e,e _ _ a3,e _ _ a4⟩
 ·have:=lkf.le b (by omega)
  show L.getD b 0 < st.length
  omega
 ·intro x hx
  refine ⟨Nat.lt_of_lt_of_le hx hst,λc hc=>?_⟩
  have h1:=Qg M hx hc
  have:=lkf.le (stp l st x c) (by omega)
  show L.getD (stp l st x c) 0 < st.length
  omega
structure Wk (st:List (List Nat)) (es:List Nat) (w:Nat) (k:Nat→Nat) (T:Nat→List Nat) (pl:Nat→Prop):Prop where
 key:∀ x x',pl x→pl x'→(k x=k x'↔Fut st es w x x')
 len:∀ x,pl x→(T x).length=w
 tgt:∀ x,pl x→∀ (j t:Nat),(T x)[j]? = some t→pl t∧Fut st es w t (stN st x j)
def Lk (st1:List (List Nat)) (es1:List Nat) (st2:List (List Nat)) (es2:List Nat) (w x y:Nat):Prop:=∀ cs:List Nat,(∀ c∈cs,c < w)→(Oz st1 x cs∈es1↔Oz st2 y cs∈es2)
def RR (st1:List (List Nat)) (es1:List Nat) (p1:Nat→Prop) (st2:List (List Nat)) (es2:List Nat) (p2:Nat→Prop) (w x y:Nat):Prop:=p1 x∧p2 y∧Lk st1 es1 st2 es2 w x y
section
variable {st1 st2:List (List Nat)} {es1 es2:List Nat} {w:Nat} {k1 k2:Nat→Nat} {T1 T2:Nat→List Nat} {p1 p2:Nat→Prop}
theorem Wk.kr (W1:Wk st1 es1 w k1 T1 p1) (W2:Wk st2 es2 w k2 T2 p2):KR (RR st1 es1 p1 st2 es2 p2 w) k1 k2:=by
 rintro x y x' y' ⟨a1,a2,a⟩ ⟨b1,b2,b⟩
 rw [W1.key x x' a1 b1,W2.key y y' a2 b2]
 exact ⟨λh cs hc=>(a cs hc).symm.trans ((h cs hc).trans (b cs hc)),λh cs hc=>(a cs hc).trans ((h cs hc).trans (b cs hc).symm)⟩
theorem Wk.pw (W1:Wk st1 es1 w k1 T1 p1) (W2:Wk st2 es2 w k2 T2 p2):∀ x y,RR st1 es1 p1 st2 es2 p2 w x y→Pw (RR st1 es1 p1 st2 es2 p2 w) (T1 x) (T2 y):=by
 rintro x y ⟨a1,a2,a⟩
 refine Pw.of (by rw [W1.len x a1,W2.len y a2]) λi t u ht hu=>?_
 obtain ⟨c1,d1⟩:=W1.tgt x a1 i t ht
 obtain ⟨c2,d2⟩:=W2.tgt y a2 i u hu
 have hi:i < w:=by rw [← W1.len x a1]; exact (List.getElem?_eq_some_iff.mp ht).1
 refine ⟨c1,c2,λcs hc=>(d1 cs hc).trans (Iff.trans ?_ (d2 cs hc).symm)⟩
 exact a (i :: cs) λc hcc=>by
  rcases List.mem_cons.mp hcc with z | z
  ·rw [z]; exact hi
  ·exact hc c z
theorem Zbj (W1:Wk st1 es1 w k1 T1 p1) (W2:Wk st2 es2 w k2 T2 p2) {b1 b2 N1 N2:Nat} (h1:p1 b1) (h2:p2 b2) (hb:Lk st1 es1 st2 es2 w b1 b2) (hN1:(Zv k1 T1 b1 N1).length≤N1) (hN2:(Zv k2 T2 b2 N2).length≤N2) :
  Xl k1 T1 (Zv k1 T1 b1 N1)=Xl k2 T2 (Zv k2 T2 b2 N2)∧Ws (Zv k1 T1 b1 N1) (λx=>decide (x∈es1))=Ws (Zv k2 T2 b2 N2) λx=>decide (x∈es2):=by
 have e1:=W3 hN1 (max N1 N2) (Nat.le_max_left _ _)
 have e2:=W3 hN2 (max N1 N2) (Nat.le_max_right _ _)
 rw [← e1,← e2]
 have h:=Pw.ord (W1.kr W2) (W1.pw W2) (show RR st1 es1 p1 st2 es2 p2 w b1 b2 from ⟨h1,h2,hb⟩) (max N1 N2)
 exact ⟨h.rows (W1.kr W2) (W1.pw W2),h.ends λx y r=>decide_eq_decide.mpr (r.2.2 [] λc hc=>nomatch hc)⟩
end
section
variable {st:List (List Nat)} {es:List Nat} {w:Nat} {k:Nat→Nat} {T:Nat→List Nat} {pl:Nat→Prop} {b N:Nat}
theorem Wk.all (W:Wk st es w k T pl) (hb:pl b) (i:Nat):∀ y∈Zv k T b i,pl y:=Uw hb (λx hx y hy=>by
 obtain ⟨j,hj,e⟩:=List.getElem_of_mem hy
 exact (W.tgt x hx j y (by rw [List.getElem?_eq_getElem hj,e])).1) i
theorem Wk.met (W:Wk st es w k T pl) (hb:pl b) (hN:(Zv k T b N).length≤N) {i x c:Nat} (hx:(Zv k T b N)[i]? = some x) (hc:c < w):∃ t y,(T x)[c]? = some t∧pl t∧(Xl k T (Zv k T b N))[i]? = some ((T x).map λt=>((Zv k T b N).map k).idxOf (k t))∧stN (Xl k T (Zv k T b N)) i c=((Zv k T b N).map k).idxOf (k t)∧(Zv k T b N)[((Zv k T b N).map k).idxOf (k t)]? = some y∧pl y∧Fut st es w y (stN st x c):=by
 have px:=W.all hb N x (List.mem_of_getElem? hx)
 have hl:=W.len x px
 have ht:(T x)[c]? = some ((T x)[c]'(by omega)):=List.getElem?_eq_getElem (by omega)
 generalize (T x)[c]'(by omega)=t at ht
 obtain ⟨pt,ft⟩:=W.tgt x px c t ht
 have hi:=(List.getElem?_eq_some_iff.mp hx).1
 have hm:=Ma (k:=k) (T:=T) (b:=b) (n:=N) hx (by omega) (List.mem_of_getElem? ht)
 have hd:=Nb hm
 rw [List.getElem?_map] at hd
 have X5:(Xl k T (Zv k T b N))[i]? = some ((T x).map λt=>((Zv k T b N).map k).idxOf (k t)):=by
  unfold Xl
  rw [List.getElem?_map,hx]
  rfl
 cases hy:(Zv k T b N)[((Zv k T b N).map k).idxOf (k t)]? with
 | none=>rw [hy] at hd; cases hd
 | some y=>
  rw [hy] at hd
  have ky:k y=k t:=Option.some.inj hd
  have py:=W.all hb N y (List.mem_of_getElem? hy)
  have fy:=(W.key y t py pt).mp ky
  refine ⟨t,y,ht,pt,X5,?_,hy,py,λcs hcs=>(fy cs hcs).trans (ft cs hcs)⟩
  unfold stN
  rw [List.getD_eq_getElem?_getD (l:=Xl k T (Zv k T b N)),X5]
  show ((T x).map λt=>((Zv k T b N).map k).idxOf (k t)).getD c 0=_
  rw [List.getD_eq_getElem?_getD,List.getElem?_map,ht]
  rfl
theorem Wk.Znm (W:Wk st es w k T pl) (hb:pl b) (hN:(Zv k T b N).length≤N):∀ (cs:List Nat) (i x:Nat),(∀ c∈cs,c < w)→(Zv k T b N)[i]? = some x→
  (Oz (Xl k T (Zv k T b N)) i cs∈Ws (Zv k T b N) (λx=>decide (x∈es))↔Oz st x cs∈es):=by
 intro cs
 induction cs with
 | nil=>
  intro i x _ hx
  show i∈Ws _ _↔x∈es
  unfold Ws
  rw [List.mem_filter,List.mem_range,List.getD_eq_getElem?_getD,hx]
  show _∧decide (x∈es)=true↔_
  rw [decide_eq_true_eq]
  exact ⟨λh=>h.2,λh=>⟨(List.getElem?_eq_some_iff.mp hx).1,h⟩⟩
 | cons c cs ih=>
  intro i x hc hx
  obtain ⟨t,y,ht,pt,X5,hs,hy,py,fy⟩:=W.met hb hN hx (hc c List.mem_cons_self)
  have hcs:∀ c∈cs,c < w:=λd hd=>hc d (List.mem_cons_of_mem _ hd)
  show Oz _ (stN _ i c) cs∈_↔_
  rw [hs,ih _ y hcs hy]
  exact fy cs hcs
theorem Wk.Vf (W:Wk st es w k T pl) (hb:pl b) (hN:(Zv k T b N).length≤N):Rp (Xl k T (Zv k T b N)) w:=by
 intro r hr
 have hlen:(Xl k T (Zv k T b N)).length=(Zv k T b N).length:=by unfold Xl; rw [List.length_map]
 obtain ⟨x,hx,rfl⟩:=List.mem_map.mp hr
 have px:=W.all hb N x hx
 refine ⟨by rw [List.length_map]; exact W.len x px,λy hy=>?_⟩
 obtain ⟨t,ht,rfl⟩:=List.mem_map.mp hy
 obtain ⟨i,hi,e⟩:=List.getElem_of_mem hx
 have hm:=Ma (k:=k) (T:=T) (b:=b) (n:=N) (j:=i) (x:=x) (by rw [List.getElem?_eq_getElem hi,e]) (by omega) ht
 have:=List.idxOf_lt_length_of_mem hm
 rw [List.length_map] at this
 rw [hlen]
 exact this
end
theorem Zgv {l:Str} (nd:l.cps.toList.Nodup) {st:List (List Nat)} {x j c:Nat} (hc:l.cps.toList[j]? = some c):stp l st x c=stN st x j:=by
 have hl:=len_list l
 have hD:∀ v:Nat,v < l.length→l.cps.getD v 0=l.cps.toList.getD v 0:=λv hv=>by
  rw [List.getD_eq_getElem?_getD,Array.getElem?_toList,Array.getD_eq_getD_getElem?]
 have hj:=(List.getElem?_eq_some_iff.mp hc).1
 have hf:Txt.find l (one c)=Txt.find3 l (one c) 0:=by
  unfold Txt.find Txt.find3
  rfl
 have key:(Txt.find l (one c)).toNat=j:=by
  rcases StrLaws.find3_spec l c 0 with ⟨_,hn⟩ | ⟨k,hk,_,hlt,hat⟩
  ·refine absurd ?_ (hn j ?_ (by omega))
   ·rw [hD j (by omega),List.getD_eq_getElem?_getD,hc]
    rfl
   ·show _≤j
    unfold PySem.fromIndex
    simp
  ·rw [hf]
   have e:Txt.find3 l (one c) 0=(k:Int):=hk
   rw [e]
   have e2:l.cps.getD k 0=c:=hat.1
   rw [hD k (by omega),List.getD_eq_getElem?_getD,List.getElem?_eq_getElem (by omega)] at e2
   have e3:l.cps.toList[k]'(by omega)=c:=e2
   have i1:=List.Nodup.idxOf_getElem nd k (by omega)
   have i2:=List.Nodup.idxOf_getElem nd j hj
   rw [(List.getElem?_eq_some_iff.mp hc).2] at i2
   rw [e3,i2] at i1
   omega
 unfold stp stN
 rw [key]
theorem Ex {l:Str} (nd:l.cps.toList.Nodup) {st:List (List Nat)} {es:List Nat} {k:Nat} (R:Rp st l.length) (few:dn (lkN st es (k+1))≤dn (lkN st es k)) :
  Wk st es l.length id (TL l (gL l st (lkN st es (k+1)))) λx=>x < st.length∧(lkN st es (k+1)).getD x 0=x:=by
 have hl:=len_list l
 have lf:=Uz st es (k+1)
 have ll:=Of st es (k+1)
 have le:=λ(i j:Nat) hi hj=>Zcc (i:=i) (j:=j) R few hi hj
 generalize lkN st es (k+1)=L at lf ll le
 refine ⟨λx x' hx hx'=>?_,λx hx=>?_,λx hx j t ht=>?_⟩
 ·rw [← le x x' hx.1 hx'.1,hx.2,hx'.2]
  exact Iff.rfl
 ·unfold TL
  rw [List.length_map,hl]
 ·unfold TL at ht
  rw [List.getElem?_map] at ht
  cases hc:l.cps.toList[j]? with
  | none=>rw [hc] at ht; cases ht
  | some c=>
   rw [hc] at ht
   have e:gL l st L x c=t:=Option.some.inj ht
   have hj:=(List.getElem?_eq_some_iff.mp hc).1
   unfold gL at e
   rw [Zgv nd hc] at e
   have hs:=Vv R hx.1 (show j < l.length by omega)
   have l1:=lf.le (stN st x j) (by omega)
   have l2:=lf.own (stN st x j) (by omega)
   rw [e] at l1 l2
   exact ⟨⟨by omega,l2⟩,(le t (stN st x j) (by omega) hs).mp (by rw [l2,e])⟩
theorem Zpt {L C:List Nat} (hl:L.length=C.length) (h:∀ i j,i < L.length→j < L.length→(L.getD i 0=L.getD j 0↔C.getD i 0=C.getD j 0)):dn L=dn C:=by
 have hv:∀ (L:List Nat) i,i < L.length→(L.map λn:Nat=>(n:Int)).getD i 0=((L.getD i 0:Nat):Int):=λL i hi=>by
  rw [List.getD_eq_getElem?_getD,List.getElem?_map,List.getElem?_eq_getElem hi,List.getD_eq_getElem?_getD,List.getElem?_eq_getElem hi]
  rfl
 have key:∀ n,n≤L.length→(firstMet (λi=>(L.map λn:Nat=>(n:Int)).getD i 0) n).length=(firstMet (λi=>(C.map λn:Nat=>(n:Int)).getD i 0) n).length:=λn=>by
  induction n with
  | zero=>intro _; rfl
  | succ n ih=>
   intro hn
   rw [firstMet_succ,step_length,firstMet_succ,step_length,ih (by omega),firstMet_any,firstMet_any,hv L n (by omega),hv C n (by omega)]
   have e:((List.range n).map λi=>(L.map λn:Nat=>(n:Int)).getD i 0).any (· == ((L.getD n 0:Nat):Int))=((List.range n).map λi=>(C.map λn:Nat=>(n:Int)).getD i 0).any (· == ((C.getD n 0:Nat):Int)):=by
    rw [Bool.eq_iff_iff,List.any_eq_true,List.any_eq_true]
    constructor
    ·rintro ⟨x,hx,q⟩
     obtain ⟨j,hj,rfl⟩:=List.mem_map.mp hx
     have hj':=List.mem_range.mp hj
     have q2:=eq_of_beq q
     rw [hv L j (by omega)] at q2
     refine ⟨_,List.mem_map.mpr ⟨j,hj,rfl⟩,?_⟩
     rw [hv C j (by omega),(h j n (by omega) (by omega)).mp (by omega)]
     simp
    ·rintro ⟨x,hx,q⟩
     obtain ⟨j,hj,rfl⟩:=List.mem_map.mp hx
     have hj':=List.mem_range.mp hj
     have q2:=eq_of_beq q
     rw [hv C j (by omega)] at q2
     refine ⟨_,List.mem_map.mpr ⟨j,hj,rfl⟩,?_⟩
     rw [hv L j (by omega),(h j n (by omega) (by omega)).mpr (by omega)]
     simp
   rw [e]
 unfold dn Uc
 rw [List.length_map,List.length_map,← hl]
 exact key _ (Nat.le_refl _)
def Nh (o:List (List Nat)) (r:List Nat):List (List Nat):=if r∈o then o else o ++ [r]
def Lp (rs:List (List Nat)):List (List Nat):=rs.foldl Nh []
theorem Zj0 {o:List (List Nat)} {r x:List Nat} (h:x∈o):x∈Nh o r:=by
 unfold Nh
 by_cases c:r∈o
 ·rw [if_pos c]; exact h
 ·rw [if_neg c]; exact List.mem_append_left _ h
theorem Zj1 {o:List (List Nat)} {r:List Nat}:r∈Nh o r:=by
 unfold Nh
 by_cases c:r∈o
 ·rw [if_pos c]; exact c
 ·rw [if_neg c]; simp
theorem Zj2 {o:List (List Nat)} {r:List Nat}:(Nh o r).length≤o.length+1:=by
 unfold Nh
 by_cases c:r∈o
 ·rw [if_pos c]; omega
 ·rw [if_neg c,List.length_append]; exact Nat.le_refl _
theorem Iz:∀ (rs o:List (List Nat)),(∀ x,(x∈o∨x∈rs)→x∈rs.foldl Nh o)∧(rs.foldl Nh o).length≤o.length+rs.length
 | [],o=>⟨λx h=>h.resolve_right λz=>(List.not_mem_nil z),Nat.le_refl _⟩
 | r :: rs,o=>by
  obtain ⟨a,b⟩:=Iz rs (Nh o r)
  refine ⟨λx h=>a x ?_,?_⟩
  ·rcases h with h | h
   ·exact .inl (Zj0 h)
   ·rcases List.mem_cons.mp h with z | z
    ·rw [z]; exact .inl Zj1
    ·exact .inr z
  ·have:=Zj2 (o:=o) (r:=r)
   show (rs.foldl Nh (Nh o r)).length≤_
   rw [List.length_cons]
   omega
theorem Mi {rs:List (List Nat)} {r:List Nat} (h:r∈rs):r∈Lp rs:=(Iz rs []).1 r (.inr h)
theorem Au (rs:List (List Nat)):(Lp rs).length≤rs.length:=by
 have:=(Iz rs []).2
 rw [List.length_nil,Nat.zero_add] at this
 exact this
theorem F8 {rs:List (List Nat)} {r:List Nat} {i:Nat} (h:rs[i]? = some r):Lp (rs.take (i+1))=Nh (Lp (rs.take i)) r:=by
 unfold Lp
 rw [List.take_add_one,h,List.foldl_append]
 rfl
def lw0 (es:List Nat) (n:Nat):List Nat:=(List.range n).map λr=>if decide (r∈es)=true then 1 else 0
def lwS (st:List (List Nat)) (L:List Nat):List Nat:=(lkR st L).map λr=>(Lp (lkR st L)).idxOf r
def lwN (st:List (List Nat)) (es:List Nat):Nat→List Nat
 | 0=>lw0 es st.length
 | k+1=>lwS st (lwN st es k)
theorem Jd (st:List (List Nat)) (es:List Nat):∀ k,(lwN st es k).length=st.length
 | 0=>by unfold lwN lw0; rw [List.length_map,List.length_range]
 | k+1=>by unfold lwN lwS lkR; rw [List.length_map,List.length_map,List.length_range]
theorem Zb9 {st:List (List Nat)} {L:List Nat} {i:Nat} (hi:i < st.length):(lwS st L).getD i 0=(Lp (lkR st L)).idxOf (L.getD i 0 :: (st.getD i []).map λx=>L.getD x 0):=by
 unfold lwS
 rw [List.getD_eq_getElem?_getD,List.getElem?_map,O9 hi]
 rfl
theorem Zor {st:List (List Nat)} {L:List Nat} {i:Nat} (hi:i < st.length):(lwS st L).getD i 0 < st.length:=by
 rw [Zb9 hi]
 have h1:=List.idxOf_lt_length_of_mem (Mi (List.mem_of_getElem? (O9 (L:=L) hi)))
 have h2:=Au (lkR st L)
 have h3:(lkR st L).length=st.length:=by unfold lkR; rw [List.length_map,List.length_range]
 omega
theorem Ea {st:List (List Nat)} {es:List Nat} {w:Nat} (R:Rp st w):∀ k i j,i < st.length→j < st.length→((lwN st es k).getD i 0=(lwN st es k).getD j 0↔(lkN st es k).getD i 0=(lkN st es k).getD j 0)
 | 0,i,j,hi,hj=>by
  show _↔(lk0 es st.length).getD i 0=(lk0 es st.length).getD j 0
  rw [Zcd hi hj]
  have at_:∀ i,i < st.length→(lwN st es 0).getD i 0=if decide (i∈es)=true then 1 else 0:=λi hi=>by
   show (lw0 es st.length).getD i 0=_
   unfold lw0
   rw [List.getD_eq_getElem?_getD,List.getElem?_map,List.getElem?_range hi]
   rfl
  rw [at_ i hi,at_ j hj]
  by_cases a:i∈es <;> by_cases b:j∈es <;> simp [a,b]
 | k+1,i,j,hi,hj=>by
  show _↔(lkS st (lkN st es k)).getD i 0=(lkS st (lkN st es k)).getD j 0
  rw [Hh R hi hj]
  show (lwS st (lwN st es k)).getD i 0=(lwS st (lwN st es k)).getD j 0↔_
  rw [Zb9 hi,Zb9 hj]
  have m1:=Mi (List.mem_of_getElem? (O9 (L:=lwN st es k) hi))
  have m2:=Mi (List.mem_of_getElem? (O9 (L:=lwN st es k) hj))
  have li:=(R _ (getD_in (l:=st) (d:=[]) hi).1).1
  have lj:=(R _ (getD_in (l:=st) (d:=[]) hj).1).1
  constructor
  ·intro e
   have a:=Nb m1
   rw [e,Nb m2] at a
   have a2:=Option.some.inj a
   rw [List.cons.injEq] at a2
   refine ⟨(Ea R k i j hi hj).mp a2.1.symm,λc hc=>(Ea R k _ _ (Vv R hi hc) (Vv R hj hc)).mp ?_⟩
   have a3:=congrArg (λz:List Nat=>z[c]?) a2.2
   simp only [List.getElem?_map] at a3
   rw [(getD_in (l:=st.getD i []) (d:=0) (show c < _ by omega)).2,(getD_in (l:=st.getD j []) (d:=0) (show c < _ by omega)).2] at a3
   exact (Option.some.inj a3).symm
  ·rintro ⟨e1,e2⟩
   refine congrArg (Lp (lkR st (lwN st es k))).idxOf ?_
   rw [List.cons.injEq]
   refine ⟨(Ea R k i j hi hj).mpr e1,List.ext_getElem? λc=>?_⟩
   rw [List.getElem?_map,List.getElem?_map]
   rcases Nat.lt_or_ge c w with z | z
   ·rw [(getD_in (l:=st.getD i []) (d:=0) (show c < _ by omega)).2,(getD_in (l:=st.getD j []) (d:=0) (show c < _ by omega)).2]
    exact congrArg some ((Ea R k _ _ (Vv R hi z) (Vv R hj z)).mpr (e2 c z))
   ·rw [List.getElem?_eq_none (by omega),List.getElem?_eq_none (by omega)]
theorem Zm1 {st:List (List Nat)} {es:List Nat} {w:Nat} (R:Rp st w) (k:Nat):dn (lwN st es k)=dn (lkN st es k):=
 Zpt (by rw [Jd,Of]) λi j hi hj=>Ea R k i j (by rw [Jd] at hi; exact hi) (by rw [Jd] at hj; exact hj)
theorem Zoq {st:List (List Nat)} {es:List Nat} {w k:Nat} (R:Rp st w) (few:dn (lwN st es (k+1))≤dn (lwN st es k)) {i j:Nat} (hi:i < st.length) (hj:j < st.length) :
  (lwN st es (k+1)).getD i 0=(lwN st es (k+1)).getD j 0↔Fut st es w i j:=by
 rw [Ea R (k+1) i j hi hj]
 exact Zcc R (by rw [← Zm1 R,← Zm1 R]; exact few) hi hj
def nbG {α κ:Type} (φ:α→κ):Nat→List α→List (κ × V)
 | _,[]=>[]
 | s,a :: o=>(φ a,nI s) :: nbG φ (s+1) o
section
variable {α κ:Type} [BEq α] [LawfulBEq α] [DecidableEq κ] {φ:α→κ}
theorem D7:∀ (s:Nat) (o:List α),(nbG φ s o).length=o.length
 | _,[]=>rfl
 | s,_ :: o=>by show (nbG φ (s+1) o).length+1=_; rw [D7]; rfl
theorem Iv (x:α):∀ (s:Nat) (o:List α),nbG φ s (o ++ [x])=nbG φ s o ++ [(φ x,nI (s+o.length))]
 | _,[]=>rfl
 | s,a :: o=>by
  show (φ a,nI s) :: nbG φ (s+1) (o ++ [x])=(φ a,nI s) :: (nbG φ (s+1) o ++ _)
  rw [Iv x (s+1) o,show s+1+o.length=s+(a :: o).length by rw [List.length_cons]; omega]
theorem Zbv (inj:∀ x y,φ x=φ y→x=y) {x:α}:∀ (s:Nat) (o:List α),x∉o→X8 (nbG φ s o) (φ x)=none
 | _,[],_=>rfl
 | s,a :: o,h=>by
  show X8 ((φ a,nI s) :: nbG φ (s+1) o) (φ x)=none
  rw [Y1 (λz=>h (by rw [← inj _ _ z]; exact List.mem_cons_self))]
  exact Zbv inj (s+1) o λz=>h (List.mem_cons_of_mem _ z)
theorem Mh (inj:∀ x y,φ x=φ y→x=y) {x:α}:∀ (s:Nat) (o:List α),x∈o→X8 (nbG φ s o) (φ x)=some (nI (s+o.idxOf x))
 | _,[],h=>nomatch h
 | s,a :: o,h=>by
  show X8 ((φ a,nI s) :: nbG φ (s+1) o) (φ x)=_
  by_cases c:a=x
  ·rw [Xq (by rw [c]),List.idxOf_cons,beq_iff_eq.mpr c]
   rfl
  ·rw [Y1 (λz=>c (inj _ _ z)),Mh inj (s+1) o ((List.mem_cons.mp h).resolve_left λz=>c z.symm),List.idxOf_cons,beq_eq_false_iff_ne.mpr c]
   show some (nI (s+1+o.idxOf x))=some (nI (s+(o.idxOf x+1)))
   rw [show s+1+o.idxOf x=s+(o.idxOf x+1) by omega]
end
theorem Rj:∀ (x y:List Nat),x.map kI=y.map kI→x=y
 | [],[],_=>rfl
 | [],_ :: _,h=>nomatch h
 | _ :: _,[],h=>nomatch h
 | a :: x,b :: y,h=>by
  rw [List.map_cons,List.map_cons,List.cons.injEq] at h
  rw [Rk h.1,Rj x y h.2]
theorem Zgi {st:List (List Nat)} {es:List Nat} {w:Nat} (R:Rp st w) {S:List Nat} (hS:∀ i j,i < st.length→j < st.length→(S.getD i 0=S.getD j 0↔Fut st es w i j)):Wk st es w (λx=>S.getD x 0) (λx=>st.getD x []) λx=>x < st.length:=by
 refine ⟨λx x' hx hx'=>hS x x' hx hx',λx hx=>(R _ (getD_in (l:=st) (d:=[]) hx).1).1,λx hx j t ht=>?_⟩
 have hr:=R _ (getD_in (l:=st) (d:=[]) hx).1
 have e:stN st x j=t:=by
  show (st.getD x []).getD j 0=t
  rw [List.getD_eq_getElem?_getD (l:=st.getD x []),ht]
  rfl
 rw [e]
 exact ⟨hr.2 t (List.mem_of_getElem? ht),λcs _=>Iff.rfl⟩
structure Zl8 (l:Str) (st:List (List Nat)) (es:List Nat) (b:Nat) (stD:List (List Nat)) (esD:List Nat) (k N:Nat):Prop where
 Vf:Rp st l.length
 beg:b < st.length
 few:dn (lkN st es (k+1))≤dn (lkN st es k)
 len:(Zv id (TL l (gL l st (lkN st es (k+1)))) ((lkN st es (k+1)).getD b 0) N).length≤N
 rows:Xl id (TL l (gL l st (lkN st es (k+1)))) (Zv id (TL l (gL l st (lkN st es (k+1)))) ((lkN st es (k+1)).getD b 0) N)=stD
 ends:Ws (Zv id (TL l (gL l st (lkN st es (k+1)))) ((lkN st es (k+1)).getD b 0) N) (λx=>decide (x∈es))=esD
theorem Zl8.wk {l:Str} {st:List (List Nat)} {es:List Nat} {b:Nat} {stD:List (List Nat)} {esD:List Nat} {k N:Nat} (h:Zl8 l st es b stD esD k N):((lkN st es (k+1)).getD b 0 < st.length∧(lkN st es (k+1)).getD ((lkN st es (k+1)).getD b 0) 0=(lkN st es (k+1)).getD b 0)∧Fut st es l.length ((lkN st es (k+1)).getD b 0) b:=by
 have lf:=Uz st es (k+1)
 have ll:=Of st es (k+1)
 have hb:=h.beg
 have l1:=lf.le b (by omega)
 have l2:=lf.own b (by omega)
 exact ⟨⟨by omega,l2⟩,(Zcc (i:=(lkN st es (k+1)).getD b 0) (j:=b) h.Vf h.few (by omega) hb).mp l2⟩
structure LM (l:Str) (P:List Nat→Prop) (stD:List (List Nat)) (esD:List Nat):Prop where
 Vf:Rp stD l.length
 pos:0 < stD.length
 ends:esD.length≤stD.length∧∀ e∈esD,e < stD.length
 lg:∀ cs,(∀ c∈cs,c < l.length)→(Oz stD 0 cs∈esD↔P cs)
 is:∃ st es b k N,Zl8 l st es b stD esD k N
theorem LM.of {l:Str} (nd:l.cps.toList.Nodup) {st:List (List Nat)} {es:List Nat} {b:Nat} {stD:List (List Nat)} {esD:List Nat} {k N:Nat} (h:Zl8 l st es b stD esD k N):LM l (λcs=>Oz st b cs∈es) stD esD∧stD.length≤st.length:=by
 have W:=Ex nd h.Vf h.few
 obtain ⟨w1,w2⟩:=h.wk
 have Zo9:=Ah (k:=id) (T:=TL l (gL l st (lkN st es (k+1)))) (b:=(lkN st es (k+1)).getD b 0) N
 have hlen:(Zv id (TL l (gL l st (lkN st es (k+1)))) ((lkN st es (k+1)).getD b 0) N).length≤st.length:=Qs (P:=λx=>x < st.length∧(lkN st es (k+1)).getD x 0=x) w1 (λx hx y hy=>by
  obtain ⟨j,hj,e⟩:=List.getElem_of_mem hy
  exact (W.tgt x hx j y (by rw [List.getElem?_eq_getElem hj,e])).1) (λx hx=>hx.1) N
 have hr:=W.Vf w1 h.len
 have ht:∀ cs,(∀ c∈cs,c < l.length)→_:=λcs hc=>W.Znm w1 h.len cs 0 _ hc Zo9.2
 have hrl:(Xl id (TL l (gL l st (lkN st es (k+1)))) (Zv id (TL l (gL l st (lkN st es (k+1)))) ((lkN st es (k+1)).getD b 0) N)).length=(Zv id (TL l (gL l st (lkN st es (k+1)))) ((lkN st es (k+1)).getD b 0) N).length:=by unfold Xl; rw [List.length_map]
 have hel:∀ e∈Ws (Zv id (TL l (gL l st (lkN st es (k+1)))) ((lkN st es (k+1)).getD b 0) N) (λx=>decide (x∈es)),e < (Zv id (TL l (gL l st (lkN st es (k+1)))) ((lkN st es (k+1)).getD b 0) N).length:=λe he=>by
  unfold Ws at he
  exact List.mem_range.mp (List.mem_filter.mp he).1
 have hen:(Ws (Zv id (TL l (gL l st (lkN st es (k+1)))) ((lkN st es (k+1)).getD b 0) N) (λx=>decide (x∈es))).length≤(Zv id (TL l (gL l st (lkN st es (k+1)))) ((lkN st es (k+1)).getD b 0) N).length:=by
  unfold Ws
  exact Nat.le_trans (List.length_filter_le _ _) (by rw [List.length_range]; exact Nat.le_refl _)
 rw [h.rows] at hr hrl ht
 rw [h.ends] at hel hen ht
 have hp:=Zo9.1
 exact ⟨⟨hr,by omega,⟨by omega,λe he=>by have:=hel e he; omega⟩,λcs hc=>(ht cs hc).trans (w2 cs hc),⟨st,es,b,k,N,h⟩⟩,by omega⟩
theorem LM.uniq {l:Str} (nd:l.cps.toList.Nodup) {P Q:List Nat→Prop} {st1:List (List Nat)} {es1:List Nat} {st2:List (List Nat)} {es2:List Nat} (h1:LM l P st1 es1) (h2:LM l Q st2 es2) (q:∀ cs,(∀ c∈cs,c < l.length)→(P cs↔Q cs)):st1=st2∧es1=es2:=by
 obtain ⟨s1,e1,b1,k1,n1,p1⟩:=h1.is
 obtain ⟨s2,e2,b2,k2,n2,p2⟩:=h2.is
 obtain ⟨a1,f1⟩:=p1.wk
 obtain ⟨a2,f2⟩:=p2.wk
 have g1:=(LM.of nd p1).1.lg
 have g2:=(LM.of nd p2).1.lg
 have:=Zbj (Ex nd p1.Vf p1.few) (Ex nd p2.Vf p2.few) a1 a2 (λcs hc=>(f1 cs hc).trans (((g1 cs hc).symm.trans ((h1.lg cs hc).trans ((q cs hc).trans ((h2.lg cs hc).symm.trans (g2 cs hc))))).trans (f2 cs hc).symm)) p1.len p2.len
 rw [p1.rows,p1.ends,p2.rows,p2.ends] at this
 exact this
theorem LM.mach {l:Str} {P:List Nat→Prop} {stD:List (List Nat)} {esD:List Nat} (D:LM l P stD esD) (hl:0 < l.length∧l.length≤3) (hs:stD.length≤216) {H':Hp} {m':Addr} (h:Pe H' m' l 0 esD stD):Z6 H' m' l 0 esD stD:=⟨h,⟨hl.1,hl.2,hs⟩,D.pos,D.Vf⟩
def fx (l:Str) (c:Nat):Nat:=(Txt.find l (one c)).toNat
theorem Ji (l:Str) (st:List (List Nat)):∀ (t:List Nat) (r:Nat),way l st r t=Oz st r (t.map (fx l))
 | [],_=>rfl
 | c :: t,r=>Ji l st t (stp l st r c)
theorem Zi2 {l:Str} {t:List Nat} (h:∀ c∈t,c∈l.cps.toList):∀ c∈t.map (fx l),c < l.length:=λc hc=>by
 obtain ⟨d,hd,rfl⟩:=List.mem_map.mp hc
 exact (Jg (h d hd)).2
theorem Qr {n x y:Nat} (hy:y < n):(x * n+y) / n=x∧(x * n+y) % n=y:=by
 have hn:0 < n:=by omega
 constructor
 ·rw [Nat.add_comm,Nat.add_mul_div_right _ _ hn,Nat.div_eq_of_lt hy,Nat.zero_add]
 ·rw [Nat.add_comm,Nat.add_mul_mod_self_right,Nat.mod_eq_of_lt hy]
theorem Du {n1 n2 x y:Nat} (hx:x < n1) (hy:y < n2):x * n2+y < n1 * n2:=by
 have:(x+1) * n2≤n1 * n2:=Nat.mul_le_mul_right _ hx
 rw [Nat.succ_mul] at this
 omega
def gP (l:Str) (st1 st2:List (List Nat)) (x c:Nat):Nat:=stp l st1 (x / st2.length) c * st2.length+stp l st2 (x % st2.length) c
def kP (n2 x:Nat):List Key:=[kI (x / n2),kI (x % n2)]
theorem Zih {n2 x y:Nat} (h:kP n2 x=kP n2 y):x=y:=by
 unfold kP at h
 rw [List.cons.injEq,List.cons.injEq] at h
 have h1:=Rk h.1
 have h2:=Rk h.2.1
 have a:=Nat.div_add_mod x n2
 have b:=Nat.div_add_mod y n2
 rw [h1,h2] at a
 omega
theorem Tk.t {Pt:Addr} {L:List (Pos × Str)} {H H':Hp} (e:Vu Pt H H') (t:Tb Pt L H):Tk H H':=λb ys h=>e b _ (λz=>by
 obtain ⟨ps,hp,_⟩:=t
 rw [z,hp] at h
 cases h) h
theorem Pe.keep {H H':Hp} {m:Addr} {l:Str} {b:Nat} {es:List Nat} {st:List (List Nat)} (h:Pe H m l b es st) (k:Tk H H'):Pe H' m l b es st:=by
 obtain ⟨e,s,ras,h1,h2,h3,h4,h5⟩:=h
 exact ⟨e,s,ras,k _ _ h1,k _ _ h2,k _ _ h3,h4,λi a r q1 q2=>k _ _ (h5 i a r q1 q2)⟩
theorem Z6.keep {H H':Hp} {m:Addr} {l:Str} {b:Nat} {es:List Nat} {st:List (List Nat)} (h:Z6 H m l b es st) (k:Tk H H'):Z6 H' m l b es st:=⟨Pe.keep (b:=b) h.lay k,h.few,h.beg,h.rows⟩
theorem Tb.Zdo {Pt P2:Addr} {L L2:List (Pos × Str)} {H H':Hp} (t:Tb P2 L2 H) (t1:Tb Pt L H) (n:P2≠Pt) (e:Vu Pt H H'):Tb P2 L2 H':=by
 obtain ⟨ps,h1,h2,h3⟩:=t
 obtain ⟨qs,g1,_⟩:=t1
 exact ⟨ps,e _ _ n h1,h2,λx hx=>(h3 x hx).imp id λ⟨c,a,b⟩=>⟨c,a,e _ _ (Wb b g1 λz=>nomatch z) b⟩⟩
def Zge (Pt:Addr) (l:Str) (P:List Nat→Prop) (n:Nat) (H:Hp) (Q:VK):Prop:=∀ m' stD esD H',Vu Pt H H'→Tb Pt Xr H'→LM l P stD esD→stD.length≤n→Pe H' m' l 0 esD stD→Q (.ref m') H'
inductive Fw (Pt:Addr) (vs:List V) (H:Hp) (Q:VK):Prop
 | mk (m:Addr) (l:Str) (b:Nat) (es:List Nat) (st:List (List Nat)) (h1:vs=[.ref m]) (h2:Z6 H m l b es st) (h3:es.length≤500) (h4:l.cps.toList.Nodup) (h5:Tb Pt Xr H) (h6:Zge Pt l (λcs=>Oz st b cs∈es) st.length H Q):Fw Pt vs H Q
def N3 (Pt:Addr):Sp:=λvs H Q u3_=>Fw Pt vs H Q
theorem Zce {Pt:Addr}:∀ vs H Q E,N3 Pt vs H Q E→De Pt vs H Q E:=by
 rintro vs H Q E ⟨m,l,b,es,st,rfl,M,hes,nd,T,k⟩
 refine ⟨m,l,b,es,st,rfl,M,hes,T,λm' k' N H' e T' few hN hL=>?_⟩
 have h:=LM.of nd (stD:=_) (esD:=_) (k:=k') (N:=N) ⟨M.rows,M.beg,few,hN,rfl,rfl⟩
 exact k m' _ _ H' e T' h.1 h.2 hL
inductive Bu (vs:List V) (H:Hp) (Q:VK):Prop
 | mk (m1 m2 a:Addr) (l:Str) (b1 b2:Nat) (es1 es2:List Nat) (st1 st2:List (List Nat)) (x y c:Nat) (h1:vs=[.ref m1,.ref m2,.ref a,.str (one c)]) (h2:Z6 H m1 l b1 es1 st1) (h3:Z6 H m2 l b2 es2 st2) (h4:H a=some (.tup [nI x,nI y])) (h5:x < st1.length) (h6:y < st2.length) (h7:c∈l.cps.toList) (h8:∀ r H',Zo H H'→H' r=some (.tup [nI (stp l st1 x c),nI (stp l st2 y c)])→Q (.ref r) H'):Bu vs H Q
def E8:Sp:=λvs H Q u3_=>Bu vs H Q
theorem Ig {f:Addr} {fd:FuncData} (F:Fun K "pair_behind" "pair_behind" Wd f fd) (Z:Blt mg) (Wf:Cal P w K mg base "room_behind" 1 ["machine","room","text"] Jt):Yp P w K mg base CX0 2 f fd ["one","other","pair","letter"] E8:=by
 refine F.ok J3 (λvs H Q E h=>?_) (λcdv A outer s H vs Q E hr h=>?_)
 ·obtain ⟨m1,m2,a,l,b1,b2,es1,es2,st1,st2,x,y,c,rfl,_⟩:=h
  rfl
 obtain ⟨m1,m2,a,l,b1,b2,es1,es2,st1,st2,x,y,c,rfl,M1,M2,ha,hx,hy,hc,k⟩:=h
 refine ⟨_,(Zi (Z1 (Vl (Za (Yg Wf (hr.mono (by decide)) (Za (pv 0) (Za (Zs (Zw (K:=K)) (pv 2) Zh (λ_ _=>rfl)) (Za (pv 3) Zc)))) (Za (Yg Wf (hr.mono (by decide)) (Za (pv 1) (Za (Zs (Zw (K:=K)) (pv 2) Zh (λ_ _=>rfl)) (Za (pv 3) Zc)))) Zc))))),?_⟩
 have hcc:∀ d∈(one c).cps.toList,d∈l.cps.toList:=λd hd=>by rw [List.mem_singleton.mp hd]; exact hc
 refine ⟨_,rfl,_,rfl,a,_,_,_,rfl,rfl,SqT.of ha,Zl (j:=0) rfl,_,rfl,m1,l,b1,es1,st1,x,one c,rfl,M1,hx,hcc,?_⟩
 refine ⟨_,rfl,_,rfl,a,_,_,_,rfl,rfl,SqT.of ha,Zl (j:=1) rfl,_,rfl,m2,l,b2,es2,st2,y,one c,rfl,M2,hy,hcc,(by show 2≤sizeLine; decide),λr hr=>?_⟩
 exact k r _ (Ze hr _) Zb
inductive Zgz (vs:List V) (H:Hp) (Q:VK):Prop
 | mk (m1 m2:Addr) (l:Str) (b1 b2:Nat) (es1 es2:List Nat) (st1 st2:List (List Nat)) (h1:vs=[.ref m1,.ref m2]) (h2:Z6 H m1 l b1 es1 st1) (h3:Z6 H m2 l b2 es2 st2) (h4:Q .non H):Zgz vs H Q
def Zg0:Sp:=λvs H Q u3_=>Zgz vs H Q
theorem Aj {f:Addr} {fd:FuncData} (F:Fun K "look_fit" "look_fit" Vx f fd) (Z:Blt mg):Yp P w K mg base CX0 1 f fd ["one","other"] Zg0:=by
 refine F.ok B2 (λvs H Q E h=>?_) (λcdv A outer s H vs Q E hr h=>?_)
 ·obtain ⟨m1,m2,l,b1,b2,es1,es2,st1,st2,rfl,_⟩:=h
  rfl
 obtain ⟨m1,m2,l,b1,b2,es1,es2,st1,st2,rfl,M1,M2,k⟩:=h
 refine ⟨_,(Zi (Xm (Z7 Qt (Zs (Zw (K:=K)) (pv 0) Zh (λ_ _=>rfl)) (Zs (Zw (K:=K)) (pv 1) Zh (λ_ _=>rfl)) (Z8 _)) 
    (Zi Vk) Yh)),?_⟩
 obtain ⟨e1,s1,ras1,h1,_⟩:=M1.lay
 obtain ⟨e2,s2,Qm,h2,_⟩:=M2.lay
 refine ⟨_,rfl,m1,_,_,_,rfl,rfl,SqT.of h1,Zl (j:=0) rfl,_,rfl,m2,_,_,_,rfl,rfl,SqT.of h2,Zl (j:=0) rfl,rfl,_,rfl,?_⟩
 exact ifN (by simp) k
abbrev S2:List (Pos × Str):=[(⟨105,35,105,93⟩,"parting_text" ++ ".<locals>." ++ "<lambda>")]
theorem Zi0 {l:Str} {st1 st2:List (List Nat)} {H:Hp} {m1 m2:Addr} {b1 b2:Nat} {es1 es2:List Nat} (M1:Z6 H m1 l b1 es1 st1) (M2:Z6 H m2 l b2 es2 st2):∀ (t:List Nat) (x y:Nat),x < st1.length→y < st2.length→(∀ c∈t,c∈l.cps.toList)→t.foldl (gP l st1 st2) (x * st2.length+y)=way l st1 x t * st2.length+way l st2 y t
 | [],_,_,_,_,_=>rfl
 | c :: t,x,y,hx,hy,h=>by
  have hc:=h c List.mem_cons_self
  show t.foldl (gP l st1 st2) (gP l st1 st2 (x * st2.length+y) c)=_
  unfold gP
  rw [(Qr hy).1,(Qr hy).2]
  exact Zi0 M1 M2 t _ _ (Qg M1 hx hc) (Qg M2 hy hc) λd hd=>h d (List.mem_cons_of_mem _ hd)
def Parts (l:Str) (b1:Nat) (es1:List Nat) (st1:List (List Nat)) (b2:Nat) (es2:List Nat) (st2:List (List Nat)) (t:List Nat):Prop:=¬ (way l st1 b1 t∈es1↔way l st2 b2 t∈es2)
def Zqb (l:Str) (P:List Nat→Prop) (v:V):Prop:=(v=.non∧∀ w:List Nat,(∀ c∈w,c∈l.cps.toList)→¬ P w)∨∃ t:List Nat,v=.str (sOf t)∧(∀ c∈t,c∈l.cps.toList)∧t.length≤216∧P t∧∀ w:List Nat,(∀ c∈w,c∈l.cps.toList)→P w→Sl t w
theorem O3 {l:Str} {st1 st2:List (List Nat)} {H:Hp} {m1 m2:Addr} {b1 b2:Nat} {es1 es2:List Nat} (M1:Z6 H m1 l b1 es1 st1) (M2:Z6 H m2 l b2 es2 st2) {w:List Nat} (hw:∀ c∈w,c∈l.cps.toList) :
  (¬ (w.foldl (gP l st1 st2) (b1 * st2.length+b2) / st2.length∈es1↔w.foldl (gP l st1 st2) (b1 * st2.length+b2) % st2.length∈es2))↔Parts l b1 es1 st1 b2 es2 st2 w:=by
 rw [Zi0 M1 M2 w _ _ M1.beg M2.beg hw]
 have hd:=Qr (x:=way l st1 b1 w) (Za1 M2 w b2 M2.beg hw)
 rw [hd.1,hd.2]
 exact Iff.rfl
inductive Bs (Pp:Addr) (vs:List V) (H:Hp) (Q:VK):Prop
 | mk (m1 m2:Addr) (l:Str) (b1 b2:Nat) (es1 es2:List Nat) (st1 st2:List (List Nat)) (h1:vs=[.ref m1,.ref m2]) (h2:Z6 H m1 l b1 es1 st1) (h3:Z6 H m2 l b2 es2 st2) (h4:st1.length * st2.length≤216) (h5:Zgd l.cps.toList) (h6:Tb Pp S2 H) (h7:∀ v H',Vu Pp H H'→Tb Pp S2 H'→Zqb l (Parts l b1 es1 st1 b2 es2 st2) v→Q v H'):Bs Pp vs H Q
def E6 (Pp:Addr):Sp:=λvs H Q u3_=>Bs Pp vs H Q
theorem Kn {f:Addr} {fd:FuncData} (F:Fun K "parting_text" "parting_text" Y3 f fd) (Z:Blt mg) {cw Pp:Addr} (Ox:fd.code=.ref cw) (CH:W.CodeHd base cw Pp) (BM:Nw mg base) (Nq:Cal P w K mg base "look_fit" 1 ["one","other"] Zg0)
  (CW:∀ base,Cal P w K mg base "walked" 4 ["letters","begin","step"] (Zgx P w K mg base 3)) (CB:∀ base,Cal P w K mg base "pair_behind" 2 ["one","other","pair","letter"] E8):Yp P w K mg base CX0 5 f fd ["one","other"] (E6 Pp):=by
 refine F.okC W5 (λvs H Q E h=>?_) (λA outer s H vs Q E hr h=>?_)
 ·obtain ⟨m1,m2,l,b1,b2,es1,es2,st1,st2,rfl,_⟩:=h
  rfl
 obtain ⟨m1,m2,l,b1,b2,es1,es2,st1,st2,rfl,M1,M2,hmul,hR,TP,kt⟩:=h
 have Znn:∀ x∈S2,x.1.line=(⟨105,35,105,93⟩:Pos).line→x.1.col=(⟨105,35,105,93⟩:Pos).col→x.2 = "parting_text" ++ ".<locals>." ++ "<lambda>":=λx hx _ _=>by rw [List.mem_singleton.mp hx]
 let Zkc:=S2
 have Pu:=CW base
 refine ⟨_,(Zd (Xz (Yg Nq (hr.mono (by decide)) (Za (pv 0) (Za (pv 1) Zc)))) 
   (Zd (Zm (i:=2) W5.nd (by rfl) (Or.inl (by rfl)) (Vl (Za (Zs (Zw (K:=K)) (pv 0) Zh (λ_ _=>rfl)) (Za (Zs (Zw (K:=K)) (pv 1) Zh (λ_ _=>rfl)) Zc)))) 
   (Zd (Zm (i:=3) W5.nd (by rfl) (Or.inl (by rfl)) (Zmx Pu (hr.mono (by decide)) (Za (Zs (Zw (K:=K)) (pv 0) Zh (λ_ _=>rfl)) (Za (pv 2) (Za (Zhr (L:=Zkc) (sc:=Zf Y3) Ox CH BM (by first | exact List.mem_cons_self | exact List.mem_cons_of_mem _ List.mem_cons_self) Znn) Zc))))) 
   (Zd (Xx PassesOwn.never (by rfl) (Zho (pv 3)) (Zk (i:=4) W5.nd (by rfl) (Or.inl (by rfl))) 
    (Zi (Xm (Z7 Qt (Xu (Rc (K:=K)) (Zs (Zw (K:=K)) (pv 4) Zh (λ_ _=>rfl)) (Zs (Zw (K:=K)) (pv 0) Zh (λ_ _=>rfl)) (by with_unfolding_all rfl)) (Xu (Rc (K:=K)) (Zs (Zw (K:=K)) (pv 4) Zh (λ_ _=>rfl)) (Zs (Zw (K:=K)) (pv 1) Zh (λ_ _=>rfl)) (by with_unfolding_all rfl)) (Z8 _)) 
     (Zi (Z1 (Rb (Vt hr) (pv 3) (pv 4) (λ_ _=>rfl)))) Yh))) 
   (Zi (Z1 Zbp)))))),?_⟩
 refine (let zz0:TS:=_; let zz1:TS:=Zq _ zz0; let zz2:TS:=Zq _ zz1; let zz3:TS:=Zq _ zz2; (?_:Zq _ zz3 _ _ _))
 have hn1:=M1.beg
 have hn2:=M2.beg
 refine ⟨_,rfl,_,rfl,m1,m2,l,b1,b2,es1,es2,st1,st2,rfl,M1,M2,?_⟩
 obtain ⟨eA,sA,rA,g1,g2,g3,g4,g5⟩:=M1.lay
 obtain ⟨eB,sB,rB,p1,p2,p3,p4,p5⟩:=M2.lay
 refine ⟨_,rfl,m1,_,_,_,rfl,rfl,SqT.of g1,Zl (j:=1) rfl,_,rfl,m2,_,_,_,rfl,rfl,SqT.of p1,Zl (j:=1) rfl,(by show 2≤sizeLine; decide),λa0 ha0=>?_⟩
 have s1:=Ze ha0 (.tup [nI b1,nI b2])
 have h1a:upd H a0 (.tup [nI b1,nI b2]) a0=some (.tup [nI b1,nI b2]):=Zb
 have TP1:=TP.same s1
 generalize upd H a0 (.tup [nI b1,nI b2])=H1 at s1 h1a TP1
 refine ⟨_,rfl,m1,_,_,_,rfl,rfl,SqT.of (s1 _ _ g1),Zl (j:=0) rfl,_,rfl,TP1,λH2 f2 c2 ct2 e2 TP2 hf20 hf2 hc2 U8 B=>?_⟩
 have k2:=(Tk.same s1).trans (Tk.t e2 TP1)
 have M12:=M1.keep k2
 have M22:=M2.keep k2
 have h2a:=Tk.t e2 TP1 _ _ h1a
 have Fl:=CB U8
 have hpl:∀ x,x < st1.length * st2.length→x / st2.length < st1.length∧x % st2.length < st2.length:=λx hx=>⟨Nat.div_lt_of_lt_mul (by rw [Nat.mul_comm]; exact hx),Nat.mod_lt _ (by omega)⟩
 have hgP:∀ x c,x < st1.length * st2.length→c∈l.cps.toList→gP l st1 st2 x c < st1.length * st2.length:=λx c hx hc=>Du (Qg M1 (hpl x hx).1 hc) (Qg M2 (hpl x hx).2 hc)
 have kv:∀ x,(kP st2.length x).map kV=[nI (x / st2.length),nI (x % st2.length)]:=λx=>rfl
 have hbb:(b1 * st2.length+b2) / st2.length=b1∧(b1 * st2.length+b2) % st2.length=b2:=Qr hn2
 refine ⟨_,_,CW U8,f2,_,["pair","letter"],l,a0,b1 * st2.length+b2,gP l st1 st2,kP st2.length,(λx=>x < st1.length * st2.length),(λH=>Z6 H m1 l b1 es1 st1∧Z6 H m2 l b2 es2 st2∧H c2=some (CdO c2 ("parting_text" ++ ".<locals>." ++ "<lambda>"))),?_,?_,?_,rfl,?_,Du hn1 hn2,λx hx=>⟨Nat.lt_of_lt_of_le hx hmul,λc hc=>hgP x c hx hc⟩,λx y _ _ h=>Zih h,hf2,⟨M12,M22,hc2⟩,hR,λd H3 N hd e3 T3 hN=>?_⟩
 ·refine Zie (N:=["pair","letter","one","other"]) (fv:=[.ref m1,.ref m2]) ⟨rfl,rfl,rfl,by decide,rfl,by decide +kernel,by decide +kernel⟩ (B.cl (sc:=Zf Y3) [0,1] rfl (by decide +kernel) rfl rfl (λj i x a b=>?_) (λj i x a b=>?_)) (λvs H Q E h=>?_) (λvs H Q E h=>?_) (λA outer s H vs Q E hr h=>?_)
  ·match j,a,b with
   | 0,a,b=>cases a; cases b; exact ⟨rfl,rfl⟩
   | 1,a,b=>cases a; cases b; exact ⟨rfl,rfl⟩
   | j+2,a,_=>simp at a
  ·match j,a,b with
   | 0,a,b=>cases a; cases b; rfl
   | 1,a,b=>cases a; cases b; rfl
   | j+2,a,_=>simp at a
  ·obtain ⟨a,x,c,rfl,_⟩:=h
   rfl
  ·obtain ⟨a,x,c,rfl,_,_,_,h1,h2,_⟩:=h
   exact ⟨h1,h2.2.2⟩
  ·obtain ⟨a,x,c,rfl,ha,hx,hc,h1,⟨q1,q2,_⟩,k⟩:=h
   refine ⟨_,(Yg Fl (hr.mono (by decide)) (Za (pv 2) (Za (pv 3) (Za (pv 0) (Za (pv 1) Zc))))),?_⟩
   refine ⟨_,rfl,_,rfl,_,rfl,_,rfl,m1,m2,a,l,b1,b2,es1,es2,st1,st2,x / st2.length,x % st2.length,c,rfl,q1,q2,ha,(hpl x hx).1,(hpl x hx).2,hc,λr H' e' hr'=>k r H' e' ?_⟩
   rw [kv]
   have hd:=Qr (x:=stp l st1 (x / st2.length) c) (Qg M2 (hpl x hx).2 hc)
   show H' r=some (.tup [nI (gP l st1 st2 x c / st2.length),nI (gP l st1 st2 x c % st2.length)])
   unfold gP
   rw [hd.1,hd.2]
   exact hr'
 ·exact .all λus hl=>match us,hl with | [_,_],_=>rfl
 ·exact λH1 H2 e ⟨a1,a2,a3⟩=>⟨a1.same e,a2.same e,e _ _ a3⟩
 ·rw [kv,hbb.1,hbb.2]
  exact h2a
 have TP3:=TP2.same e3
 have e03:Vu Pp H H3:=(s1.t.trans e2).trans e3.t
 have k3:=k2.trans (Tk.same e3)
 have oP:∀ y∈Zv id (TL l (gP l st1 st2)) (b1 * st2.length+b2) N,y < st1.length * st2.length:=Uw (P:=λx=>x < st1.length * st2.length) (Du hn1 hn2) (λx hx y hy=>by
  obtain ⟨c,hc,rfl⟩:=List.mem_map.mp hy
  exact hgP x c hx hc) N
 have oN:(Zv id (TL l (gP l st1 st2)) (b1 * st2.length+b2) N).Nodup:=by
  have:=Tt (k:=id) (T:=TL l (gP l st1 st2)) (b:=b1 * st2.length+b2) N
  rwa [List.map_id] at this
 generalize Zv id (TL l (gP l st1 st2)) (b1 * st2.length+b2) N=o at T3 hN oP oN
 obtain ⟨kvs,T,h3d,hkk,hkv,B⟩:=T3
 have hkl:kvs.length=o.length:=by
  have:=congrArg List.length hkk
  rwa [List.length_map,List.length_map] at this
 refine ⟨_,rfl,d,kvs,rfl,.inl ⟨h3d,λob bs KB=>?_⟩⟩
 have hd0:H d=none:=by
  cases hc:H d with
  | none=>rfl
  | some u=>
   by_cases z:d=Pp
   ·obtain ⟨ps,hp,_⟩:=TP2
    rw [z,hp] at hd
    cases hd
   ·rw [e2 _ _ z (s1 _ _ hc)] at hd
    cases hd
 have tkd:=Tk.dct h3d (.frz ob (.dT kvs))
 have e4:Vu Pp H (upd H3 d (.frz ob (.dT kvs))):=λb u n h=>by
  rw [Zj (Zg h hd0)]
  exact e03 _ _ n h
 have TP4:Tb Pp S2 (upd H3 d (.frz ob (.dT kvs))):=by
  obtain ⟨ps,q1,q2,q3⟩:=TP3
  exact ⟨ps,(Zj (Wb q1 h3d λz=>nomatch z)).trans q1,q2,λx hx=>(q3 x hx).imp id λ⟨c,a,b⟩=>⟨c,a,(Zj (Wb b h3d λz=>nomatch z)).trans b⟩⟩
 have h4d:upd H3 d (.frz ob (.dT kvs)) d=some (.frz ob (.dT kvs)):=Zb
 have k4:=k3.trans tkd
 generalize upd H3 d (.frz ob (.dT kvs))=H4 at e4 TP4 h4d k4 KB
 refine Zfv (a:=d) (o:=ob) (kvs:=kvs) (bs:=bs) (λi σ H5=>∃ v4,σ=[some (.ref m1),some (.ref m2),some (.ref a0),some (.ref d),v4]∧H5=H4∧∀ (k x:Nat),k < i→o[k]? = some x→¬ ¬ (x / st2.length∈es1↔x % st2.length∈es2)) ⟨none,rfl,rfl,λk x h _=>absurd h (Nat.not_lt_zero _)⟩ (λi σ H5 _ h=>?_) ?_ ?_
 ·obtain ⟨_,_,rfl,_⟩:=h
  exact h4d
 ·rintro i ba σ H5 hq ⟨v4,rfl,rfl,hno⟩
  have hi:i < o.length:=by rw [← hkl,← KB.1]; exact (List.getElem?_eq_some_iff.mp hq).1
  have hox:o[i]? = some o[i]:=List.getElem?_eq_getElem hi
  generalize o[i]=x at hox
  have hik:i < kvs.length:=by omega
  have e1:kvs[i]? = some (kvs[i].1,kvs[i].2):=List.getElem?_eq_getElem hik
  have e2':(kvs.map (·.1))[i]? = some (kP st2.length x):=by rw [hkk,List.getElem?_map,hox]; rfl
  rw [List.getElem?_map,e1] at e2'
  have e3':kvs[i].1=kP st2.length x:=Option.some.inj e2'
  have hba:=KB.2 i ba _ _ hq e1
  rw [e3'] at hba
  have Zry:H5 ba=some (.tup [nI (x / st2.length),nI (x % st2.length)]):=hba
  obtain ⟨t,ht,hz⟩:=Zdz hkv e1
  obtain ⟨hzw,hzc,hzl⟩:=B.way i x t hox ht
  have hxp:=oP x (List.mem_of_getElem? hox)
  have i1:inV (nI (x / st2.length)) (es1.map nI)=decide (x / st2.length∈es1):=Rm _ es1
  have i2:inV (nI (x % st2.length)) (es2.map nI)=decide (x % st2.length∈es2):=Rm _ es2
  refine ⟨_,rfl,ba,_,_,_,rfl,rfl,SqT.of Zry,Zl (j:=0) rfl,_,rfl,m1,_,_,_,rfl,rfl,SqT.of (k4 _ _ g1),Zl (j:=2) rfl,eA,_,rfl,.inr (SqT.of (k4 _ _ g2)),rfl,Ui es1,?_⟩
  refine ⟨_,rfl,ba,_,_,_,rfl,rfl,SqT.of Zry,Zl (j:=1) rfl,_,rfl,m2,_,_,_,rfl,rfl,SqT.of (k4 _ _ p1),Zl (j:=2) rfl,eB,_,rfl,.inr (SqT.of (k4 _ _ p2)),rfl,Ui es2,rfl,_,rfl,?_⟩
  rw [i1,i2]
  refine V9 (λc=>?_) (λc=>?_)
  ·have hv:X8 kvs (kP st2.length x)=some kvs[i].2:=by
    obtain ⟨j,v,q1,q2,q3⟩:=Og (pl:=λx=>x < st1.length * st2.length) (λx y _ _ h=>Zih h) hxp hkk oP (List.mem_of_getElem? hox)
    obtain ⟨hj,ej⟩:=List.getElem?_eq_some_iff.mp q2
    obtain ⟨hi',ei⟩:=List.getElem?_eq_some_iff.mp hox
    have j1:=List.Nodup.idxOf_getElem oN j hj
    have j2:=List.Nodup.idxOf_getElem oN i hi'
    rw [ej] at j1
    rw [ei,j1] at j2
    subst j2
    rw [e1] at q1
    rw [q3]
    exact congrArg some (congrArg Prod.snd (Option.some.inj q1)).symm
   refine ⟨_,rfl,_,rfl,d,kvs[i].2,rfl,?_,?_⟩
   ·rw [← hv]
    exact .inr ⟨kvs,kP st2.length x,ba,.inr ⟨ob,h4d⟩,rfl,hba,rfl⟩
   ·rw [hz]
    have hpx:¬ (x / st2.length∈es1↔x % st2.length∈es2):=λq=>by
     have c':(!decide (V.bl (decide (x / st2.length∈es1))=V.bl (decide (x % st2.length∈es2))))=true:=c
     have e:decide (x / st2.length∈es1)=decide (x % st2.length∈es2):=decide_eq_decide.mpr q
     rw [e] at c'
     simp at c'
    have hol:o.length≤216:=by
     have:=Sn (st1.length * st2.length) o oN λy hy=>oP y hy
     omega
    refine kt _ H5 e4 TP4 (.inr ⟨t,rfl,hzc,by omega,(O3 M1 M2 hzc).mp (by rw [hzw]; exact hpx),λw hw hp=>B.first (p:=λx=>¬ (x / st2.length∈es1↔x % st2.length∈es2)) (.inr hN) ht hno w hw ((O3 M1 M2 hw).mpr hp)⟩)
  ·refine ⟨_,rfl,rfl,λk y hk hy=>?_⟩
   by_cases z:k=i
   ·subst z
    rw [hox] at hy
    cases hy
    intro q
    have c':¬ (!decide (V.bl (decide (x / st2.length∈es1))=V.bl (decide (x % st2.length∈es2))))=true:=c
    refine c' ?_
    have e:¬ decide (x / st2.length∈es1)=decide (x % st2.length∈es2):=λe=>q (decide_eq_decide.mp e)
    rw [Bool.not_eq_true',decide_eq_false_iff_not]
    exact λz=>e (V.bl.inj z)
   ·exact hno k y (by omega) hy
 ·rintro σ H5 ⟨v4,rfl,rfl,hno⟩
  refine kt _ _ e4 TP4 (.inl ⟨rfl,λw hw hp=>?_⟩)
  refine B.never (p:=λx=>¬ (x / st2.length∈es1↔x % st2.length∈es2)) hN (λx hx=>?_) w hw ((O3 M1 M2 hw).mpr hp)
  obtain ⟨k,hk,e⟩:=List.mem_iff_getElem.mp hx
  exact hno k x (by omega) (by rw [List.getElem?_eq_getElem hk,e])
theorem U1 {H:Hp} {p sc s0:Addr} {o:HO} (F:Yf H p sc) (h1:p≠s0) (h2:sc≠s0):Yf (upd H s0 o) p sc:=by
 obtain ⟨xs,q1,q2⟩:=F.here
 obtain ⟨ns,q3⟩:=F.cells
 exact ⟨⟨xs,by rw [Zj h1]; exact q1,q2⟩,ns,by rw [Zj h2]; exact q3⟩
theorem Zlu (i:Nat):V.int (0+(i:Int))=nI i:=by
 rw [Int.zero_add]
 rfl
theorem V7 {α β:Type} (f:α→β) (l:List α) (x:α):l.map f ++ [f x]=(l ++ [x]).map f:=by
 rw [List.map_append]
 rfl
def Zma (es:List Nat) (st:List (List Nat)):Prop:=es.length≤6∧(∀ x∈es,x < st.length)∧st.length≤6
inductive Jw (vs:List V) (H:Hp) (Q:VK):Prop
 | mk (p sc:Addr) (l:Str) (most:Int) (h1:vs=[.ref p,.str l,.int most]) (h2:0 < l.length) (h3:l.length≤3) (h4:0 < most) (h5:most≤6) (h6:Yf H p sc) (h7:∀ m b es st H',Z6 H' m l b es st→Zma es st→Ym H H' p→Yf H' p sc→Q (.ref m) H'):Jw vs H Q
def Vw:Sp:=λvs H Q u3_=>Jw vs H Q
theorem Ih {f:Addr} {fd:FuncData} (F:Fun K "_law_machine" "_law_machine" Xf f fd) (Z:Blt mg) (Zr:Cal P w K mg base "_law_pick" 1 ["_law_flow_here","_law_many"] Qh):Yp P w K mg base CX0 2 f fd ["_law_flow_here","_law_letters_here","_law_most"] Vw:=by
 refine F.ok Wm (λvs H Q E h=>?_) (λcdv A outer s H vs Q E hr h=>?_)
 ·obtain ⟨p,sc,l,most,rfl,_⟩:=h
  rfl
 obtain ⟨p,sc,l,most,rfl,hl0,hl1,hm0,hm1,FA,k⟩:=h
 have hln:=len_list l
 refine ⟨_,(Zd (Zm (i:=3) Wm.nd (by rfl) (Or.inr (by rfl)) (Yj Wh Zh (Yg Zr (hr.mono (by decide)) (Za (pv 0) (Za (pv 2) Zc))))) 
   (Zd (Zm (i:=4) Wm.nd (by rfl) (Or.inl (by rfl)) (Zu (Yi (K:=K)) (by rfl) Z.tuple Yo (Za (Yc (sc:=Zf Xf) (Nm:=["_law_flow_here","_law_letters_here","_law_most","_law_rooms","_law_ends","_law_steps","_law_room"]) (own:=["_law_room"]) (fr:=[0]) ⟨rfl,by decide +kernel,by decide +kernel,by decide +kernel,by decide +kernel⟩ (by rfl) (Z2 (by decide)) (Yz (by rfl) Z.range (Za (pv 3) Zc)) (λd=>(Zk (i:=0) Ll (by rfl) (Or.inl (by rfl)))) (λd=>(Oa (Z7 Ue (Yg Zr (hr.mono (by decide)) (Za (pv 1) (Za Zh Zc))) Zh (Z8 _)))) (λd=>(pv 0))) Zc))) 
   (Zd (Zm (i:=5) Wm.nd (by rfl) (Or.inl (by rfl)) (X9 Zc)) 
   (Zd (Xx PassesOwn.never (by rfl) (Yz (by rfl) Z.range (Za (pv 3) Zc)) (Zk (i:=6) Wm.nd (by rfl) (Or.inl (by rfl))) 
    (Zi (Xz (Xd (K:=K) PySem.F.plainAttrs_list PySem.F.slot_list_append PySem.F.type_list_append We (pv 5) (Za (Zu (Yi (K:=K)) (by rfl) Z.tuple Yo (Za (Yc (sc:=Zf Xf) (Nm:=["_law_flow_here","_law_letters_here","_law_most","_law_rooms","_law_ends","_law_steps","_law_room"]) (own:=["_law_letter"]) (fr:=[0,3]) ⟨rfl,by decide +kernel,by decide +kernel,by decide +kernel,by decide +kernel⟩ (by rfl) (Z2 (by decide)) (Ra (pv 1)) (λd=>(Zk (i:=0) Lj (by rfl) (Or.inl (by rfl)))) (λd=>Yb) (λd=>(Yg Zr (hr.mono (by decide)) (Za (pv 1) (Za (pv 2) Zc))))) Zc)) Zc))))) 
   (Zi (Z1 (Vl (Za (pv 1) (Za (Yg Zr (hr.mono (by decide)) (Za (pv 0) (Za (pv 3) Zc))) (Za (pv 4) (Za (Zu (Yi (K:=K)) (by rfl) Z.tuple Yo (Za (pv 5) Zc)) Zc))))))))))),?_⟩
 refine (let zz0:TS:=_; let zz1:TS:=Zq _ zz0; let zz2:TS:=Zq _ zz1; let zz3:TS:=Zq _ zz2; (?_:Zq _ zz3 _ _ _))
 refine ⟨_,rfl,_,rfl,p,sc,most,rfl,hm0,by omega,FA,λr xs0 hr0 hr1 hx0=>⟨_,_,rfl,rfl,?_⟩⟩
 have FA0:=FA.go hx0
 have d0:Ym H (upd H p (.lst xs0)) p:=Ym.upd _
 refine ⟨_,rfl,_,rfl,by omega,by omega,?_⟩
 refine Xy (lo:=0) (k:=(1+r).toNat) (λi acc H2=>∃ es:List Nat,acc=es.map nI∧es.length≤i∧(∀ x∈es,x < i)∧Yf H2 p sc∧Ym H H2 p) (Nat.lt_of_le_of_lt (show (1+r).toNat≤6 by omega) (by decide)) ⟨[],rfl,Nat.le_refl _,λx z=>absurd z (by simp),FA0,d0⟩
  (λi acc H2 ⟨es,e,hl',_⟩=>by rw [e,List.length_map]; exact hl') (λi acc H2 hi hp=>?_) (λacc H2 hp q hq=>?_)
 ·obtain ⟨es,rfl,hel,hem,FA2,dr⟩:=hp
  refine ⟨_,rfl,p,sc,2,rfl,by decide,by decide,FA2,λr2 xs1 _ _ hx1=>⟨rfl,_,rfl,?_⟩⟩
  refine V9 (λ_=>⟨_,rfl,es ++ [i],?_,?_,λx hx=>?_,FA2.go hx1,W8 dr _⟩) (λ_=>⟨es,rfl,by omega,λx hx=>Nat.lt_succ_of_lt (hem x hx),FA2.go hx1,W8 dr _⟩)
  ·rw [Zlu,V7]
  ·rw [List.length_append,List.length_singleton]
   omega
  ·rcases List.mem_append.mp hx with z | z
   ·exact Nat.lt_succ_of_lt (hem x z)
   ·rw [List.mem_singleton.mp z]; exact Nat.lt_succ_self _
 obtain ⟨es,rfl,hel,hem,FA2,dr2⟩:=hp
 refine ⟨q,_,rfl,.inl ⟨SqL.of Zb,λe he=>?_⟩⟩
 have s1:=Ze hq (.lst (es.map nI))
 have s2:=Ze he (.tup (es.map nI))
 have FA3:=(FA2.same s1).same s2
 have d3:=(dr2.trans (Ym.same s1)).trans (Ym.same (p:=p) s2)
 generalize hG:upd (upd H2 q (.lst (es.map nI))) e (.tup (es.map nI))=H3 at FA3 d3 ⊢
 have he3:H3 e=some (.tup (es.map nI)):=by rw [← hG]; exact Zb
 refine ⟨(by show 0≤sizeLine; decide),λs0 hs0=>?_⟩
 have s4:=Ze hs0 (.lst [])
 have nps:p≠s0:=by
  obtain ⟨ys,h1,_⟩:=FA3.here
  exact Zg h1 hs0
 have Zon:sc≠s0:=by
  obtain ⟨ns,h1⟩:=FA3.cells
  exact Zg h1 hs0
 have nes:e≠s0:=Zg he3 hs0
 have nep:e≠p:=by
  obtain ⟨ys,h1,_⟩:=FA3.here
  exact Wb he3 h1 (by intro z; cases z)
 have fresh:∀ b o,H b=some o→b≠p→b≠s0:=λb o hb hne=>Zg (d3 b o hb hne) hs0
 refine ⟨_,rfl,_,rfl,by omega,by omega,?_⟩
 refine Ul (lo:=0) (n:=(1+r).toNat) (λi σ H4=>∃ (v:Option V) (ras:List Addr) (st:List (List Nat)),σ=[some (.ref p),some (.str l),some (.int most),some (.int (1+r)),some (.ref e),some (.ref s0),v]∧H4 s0=some (.lst (ras.map V.ref))∧ras.length=i∧st.length=i∧
   (∀ (j:Nat) a r',ras[j]? = some a→st[j]? = some r'→H4 a=some (.tup (r'.map nI)))∧(∀ r'∈st,r'.length=l.length∧∀ x∈r',x < (1+r).toNat)∧H4 e=some (.tup (es.map nI))∧Yf H4 p sc∧Ym H H4 p)
  ⟨none,[],[],rfl,Zb,rfl,rfl,λj a r' z=>by simp at z,λr' z=>absurd z (by simp),s4 _ _ he3,FA3.same s4,d3.trans (Ym.same s4)⟩ ?_ ?_
 ·rintro i σ H4 hi ⟨v,ras,st,rfl,hs,hra,hst,X5,Co,he4,FA4,d4⟩
  refine ⟨_,rfl,.inl ⟨rfl,_,SqL.of hs⟩,_,rfl,l,rfl,?_⟩
  refine Q9 (cs:=l.cps.toList) (λj acc H5=>∃ ys:List Nat,acc=ys.map nI∧ys.length=j∧(∀ x∈ys,x < (1+r).toNat)∧Yf H5 p sc∧Ym H4 H5 p) (Nat.lt_of_le_of_lt (show l.cps.toList.length≤3 by omega) (by decide)) ⟨[],rfl,rfl,λx z=>absurd z (by simp),FA4,Ym.refl _ _⟩
   (λj acc H5 ⟨ys,e',hl',_⟩=>by rw [e',List.length_map,hl']; exact Nat.le_refl _) (λj acc H5 c hc hp=>?_) (λacc H5 hp q5 hq5=>?_)
  ·obtain ⟨ys,rfl,hyl,hyv,FA5,dr5⟩:=hp
   refine Vg ⟨_,rfl,_,rfl,p,sc,_,rfl,by omega,by omega,FA5,λr5 xs5 h50 h51 hx5=>⟨ys ++ [r5.toNat],?_,by rw [List.length_append,hyl]; rfl,λx hx=>?_,FA5.go hx5,W8 dr5 _⟩⟩
   ·rw [← V7]
    have:V.int r5=nI r5.toNat:=by
     show V.int r5=V.int ((r5.toNat:Nat):Int)
     rw [show ((r5.toNat:Nat):Int)=r5 by omega]
    rw [this]
   ·rcases List.mem_append.mp hx with z | z
    ·exact hyv x z
    ·rw [List.mem_singleton.mp z]; omega
  ·obtain ⟨ys,rfl,hyl,hyv,FA5,dr5⟩:=hp
   refine ⟨q5,_,rfl,.inl ⟨SqL.of Zb,λa ha=>?_⟩⟩
   have t1:=Ze hq5 (.lst (ys.map nI))
   have t2:=Ze ha (.tup (ys.map nI))
   have hs5:H5 s0=some (.lst (ras.map V.ref)):=dr5 _ _ hs (Ne.symm nps)
   have nas:a≠s0:=λz=>by rw [z,t1 _ _ hs5] at ha; cases ha
   refine ⟨s0,_,_,rfl,rfl,t2 _ _ (t1 _ _ hs5),?_,?_⟩
   ·rw [List.length_map]
    exact Nat.lt_of_le_of_lt (show ras.length≤6 by omega) (by decide)
   ·have keep:∀ b ys',H4 b=some (.tup ys')→upd (upd (upd H5 q5 (.lst (ys.map nI))) a (.tup (ys.map nI))) s0 (.lst (ras.map V.ref ++ [.ref a])) b=some (.tup ys'):=λb ys' hb=>by
     have nbp:b≠p:=by
      obtain ⟨zs,h1,_⟩:=FA4.here
      exact Wb hb h1 (by intro z; cases z)
     have nbs:b≠s0:=Wb hb hs (by intro z; cases z)
     rw [Zj nbs]
     exact t2 _ _ (t1 _ _ (dr5 _ _ hb nbp))
    refine ⟨_,ras ++ [a],st ++ [ys],rfl,?_,?_,?_,?_,?_,?_,?_,?_⟩
    ·rw [Zb,← V7]
    ·rw [List.length_append,hra]; rfl
    ·rw [List.length_append,hst]; rfl
    ·intro j a' r' z1 z2
     rcases Nat.lt_or_ge j i with hj | hj
     ·rw [List.getElem?_append_left (by omega)] at z1 z2
      exact keep _ _ (X5 j a' r' z1 z2)
     ·rw [List.getElem?_append_right (by omega)] at z1 z2
      have hj0:j=i:=by
       have:=(List.getElem?_eq_some_iff.mp z1).1
       rw [List.length_singleton] at this
       omega
      subst hj0
      rw [show j - ras.length=0 by omega] at z1
      rw [show j - st.length=0 by omega] at z2
      cases z1
      cases z2
      rw [Zj nas]
      exact Zb
    ·intro r' hr'
     rcases List.mem_append.mp hr' with z | z
     ·exact Co r' z
     ·rw [List.mem_singleton.mp z]
      exact ⟨by omega,hyv⟩
    ·exact keep _ _ he4
    ·exact U1 ((FA5.same t1).same t2) nps Zon
    ·intro b o hb hne
     rw [Zj (fresh b o hb hne)]
     exact t2 _ _ (t1 _ _ (dr5 _ _ (d4 b o hb hne) hne))
 ·rintro σ H4 ⟨v,ras,st,rfl,hs,hra,hst,X5,Co,he4,FA4,d4⟩
  refine ⟨_,rfl,_,rfl,_,rfl,p,sc,_,rfl,by omega,by omega,FA4,λb xs5 hb0 hb1 hx5=>?_⟩
  have FA5:=FA4.go hx5
  have d5:Ym H4 (upd H4 p (.lst xs5)) p:=Ym.upd _
  refine ⟨_,rfl,_,rfl,s0,_,rfl,.inl ⟨SqL.of (d5 _ _ hs (Ne.symm nps)),λs5 hs5=>⟨(by show 4≤sizeLine; decide),λm hm=>?_⟩⟩⟩
  have t1:=Ze hs5 (.tup (ras.map V.ref))
  have t2:=Ze hm (.tup [.str l,.int b,.ref e,.ref s5])
  refine k m b.toNat es st _ ⟨⟨e,s5,ras,?_,?_,?_,by omega,λj a' r' z1 z2=>?_⟩,⟨hl0,hl1,by omega⟩,by omega,λr' hr'=>⟨(Co r' hr').1,λx hx=>by have:=(Co r' hr').2 x hx; omega⟩⟩ ⟨by omega,λx hx=>by have:=hem x hx; omega,by omega⟩ ?_ ((FA5.same t1).same t2)
  ·rw [Zb]
   have:V.int b=nI b.toNat:=by
    show V.int b=V.int ((b.toNat:Nat):Int)
    rw [show ((b.toNat:Nat):Int)=b by omega]
   rw [this]
  ·exact t2 _ _ (t1 _ _ (d5 _ _ he4 nep))
  ·exact t2 _ _ Zb
  ·have hb':=X5 j a' r' z1 z2
   have nbp:a'≠p:=by
    obtain ⟨zs,h1,_⟩:=FA4.here
    exact Wb hb' h1 (by intro z; cases z)
   exact t2 _ _ (t1 _ _ (d5 _ _ hb' nbp))
  ·exact (d4.trans d5).trans ((Ym.same t1).trans (Ym.same t2))
def lwO (S:List Nat) (st:List (List Nat)) (b N:Nat):List Nat:=Zv (λx=>S.getD x 0) (λx=>st.getD x []) b N
inductive Fx (vs:List V) (H:Hp) (Q:VK):Prop
 | mk (m:Addr) (l:Str) (b:Nat) (es:List Nat) (st:List (List Nat)) (h1:vs=[.ref m]) (h2:Z6 H m l b es st) (h3:es.length≤500) (h4:∀ m' S N H',Zo H H'→(∀ i j,i < st.length→j < st.length→(S.getD i 0=S.getD j 0↔Fut st es l.length i j))→(lwO S st b N).length≤N→(lwO S st b N).length≤st.length→Pe H' m' l 0 (Ws (lwO S st b N) λx=>decide (x∈es)) (Xl (λx=>S.getD x 0) (λx=>st.getD x []) (lwO S st b N))→Q (.ref m') H'):Fx vs H Q
def Jz:Sp:=λvs H Q u3_=>Fx vs H Q
def llW (H:Hp) (m eA sA:Addr) (l:Str) (b:Nat) (es:List Nat) (st:List (List Nat)) (mm:Nat) (σ:L2.St) (H5:Hp):Prop:=∃ (k cnt:Nat) (lp:Addr) (v7 v8 v9:Option V),mm=st.length+1 - cnt∧σ=[some (.ref m),some (.str l),some (nI b),some (.ref eA),some (.ref sA),some (.ref lp),some (nI cnt),v7,v8,v9,none,none,none,none,none]∧H5 lp=some (.lst ((lwN st es k).map nI))∧Zo H H5∧((k=0∧cnt=0)∨∃ j,k=j+1∧cnt=dn (lwN st es j))
def llD (H:Hp) (m eA sA:Addr) (l:Str) (b:Nat) (es:List Nat) (st:List (List Nat)) (H7:Hp) (lp yr dp:Addr) (k':Nat) (acc:List V) (rs:List (List Nat)) (i:Nat) (σ:L2.St) (H11:Hp):Prop:=∃ (v9:Option V),σ=[some (.ref m),some (.str l),some (nI b),some (.ref eA),some (.ref sA),some (.ref lp),some (nI (dn (lwN st es k'))),some (.ref yr),some (.ref dp),v9,none,none,none,none,none]∧H11 yr=some (.lst acc)∧H11 dp=some (.dT (nbG (λr:List Nat=>r.map kI) 0 (Lp (rs.take i))))∧Ug H11 acc rs∧Zo H7 H11
def llO (H:Hp) (m eA sA:Addr) (l:Str) (b:Nat) (es:List Nat) (st:List (List Nat)) (S:List Nat) (H6:Hp) (lp op dp:Addr) (j:Nat) (v7 v8 v9:Option V) (mm:Nat) (σ:L2.St) (H10:Hp):Prop:=∃ (i:Nat) (v13:Option V),mm=217 - i∧i≤(lwO S st b i).length∧σ=[some (.ref m),some (.str l),some (nI b),some (.ref eA),some (.ref sA),some (.ref lp),some (nI (dn (lwN st es j))),v7,v8,v9,some (.ref op),some (.ref dp),some (nI i),v13,none]∧H10 op=some (.lst ((lwO S st b i).map nI))∧H10 dp=some (.dK (nbG kI 0 ((lwO S st b i).map λx=>S.getD x 0)))∧Zo H6 H10
theorem Dz {f:Addr} {fd:FuncData} (F:Fun K "_law_least" "_law_least" Y5 f fd) (Z:Blt mg):Yp P w K mg base CX0 1 f fd ["_law_machine_here"] Jz:=by
 refine F.ok Z5 (λvs H Q E h=>?_) (λcdv A outer s H vs Q E hr h=>?_)
 ·obtain ⟨m,l,b,es,st,rfl,_⟩:=h
  rfl
 obtain ⟨m,l,b,es,st,rfl,M,hes,k⟩:=h
 refine ⟨_,(Zd (Uv (pv 0) (V5 (K:=K) (n:=4) (by rfl) (Yd (Zk (i:=1) Z5.nd (by rfl) (Or.inl (by rfl))) (Yd (Zk (i:=2) Z5.nd (by rfl) (Or.inl (by rfl))) (Yd (Zk (i:=3) Z5.nd (by rfl) (Or.inr (by rfl))) (Yd (Zk (i:=4) Z5.nd (by rfl) (Or.inr (by rfl))) V4)))))) 
   (Zd (Zm (i:=5) Z5.nd (by rfl) (Or.inr (by rfl)) (Yc (sc:=Zf Y5) (Nm:=["_law_machine_here","_law_letters_here","_law_begin","_law_ends","_law_steps","_law_sort","_law_many","_law_rows","_law_known","_law_row","_law_order_here","_law_numbers","_law_at","_law_to","_law_found"]) (own:=["_law_room"]) (fr:=[3]) ⟨rfl,by decide +kernel,by decide +kernel,by decide +kernel,by decide +kernel⟩ (by rfl) (Z2 (by decide)) (Yz (by rfl) Z.range (Za (Zn (Z3 (K:=K)) (by rfl) Z.len Ya (Za (pv 4) Zc)) Zc)) (λd=>(Zk (i:=0) Iq (by rfl) (Or.inl (by rfl)))) (λd=>Yb) (λd=>(Zu En (by rfl) Z.int Zcz (Za (Xu (Rc (K:=K)) (pv 0) (pv 1) (by with_unfolding_all rfl)) Zc))))) 
   (Zd (Zm (i:=6) Z5.nd (by rfl) (Or.inl (by rfl)) Zh) 
   (Zd (Qo PassesOwn.never (Z7 Zhw (Zn Tv (by rfl) Z.len Ya (Za (Zu (Ol (K:=K) (by rfl)) (by rfl) Z.set C3 (Za (pv 5) Zc)) Zc)) (pv 6) (Z8 _)) 
    (Zd (Zm (i:=6) Z5.nd (by rfl) (Or.inl (by rfl)) (Zn Tv (by rfl) Z.len Ya (Za (Zu (Ol (K:=K) (by rfl)) (by rfl) Z.set C3 (Za (pv 5) Zc)) Zc))) 
    (Zd (Ob (i:=7) Z5.nd (by rfl) (by rfl) (sc:=Zf Y5) (Nm:=["_law_machine_here","_law_letters_here","_law_begin","_law_ends","_law_steps","_law_sort","_law_many","_law_rows","_law_known","_law_row","_law_order_here","_law_numbers","_law_at","_law_to","_law_found"]) (own:=["_law_room"]) (fr:=[4,5]) ⟨rfl,by decide +kernel,by decide +kernel,by decide +kernel,by decide +kernel⟩ (by rfl) (Z2 (by decide)) (Yz (by rfl) Z.range (Za (Zn (Z3 (K:=K)) (by rfl) Z.len Ya (Za (pv 4) Zc)) Zc)) (λd=>(Zk (i:=0) Ip (by rfl) (Or.inl (by rfl)))) (λd=>Yb) (λd=>(Yj (Zhx (K:=K)) (Vl (Za (Zs (Zz (K:=K)) (pv 2) (pv 0) (λ_ _=>rfl)) Zc)) (Zu (Yi (K:=K)) (by rfl) Z.tuple Yo (Za (Yc (sc:={ kind:=PySem.ScopeKind.function,names:=[ (PySem.Str.ofString ".0",PySem.NameKind.local),(PySem.Str.ofString "_law_room",PySem.NameKind.local),(PySem.Str.ofString "tuple",PySem.NameKind.globalImplicit),(PySem.Str.ofString "_law_sort",PySem.NameKind.cell),(PySem.Str.ofString "_law_steps",PySem.NameKind.cell)],isGenerator:=false,isCoroutine:=false,more:=[]:PySem.Scope }) (Nm:=["_law_room","_law_steps","_law_sort"]) (own:=["_law_to"]) (fr:=[2]) ⟨rfl,by decide +kernel,by decide +kernel,by decide +kernel,by decide +kernel⟩ (by rfl) (Z2 (by decide)) (V3 (K:=K) (Zs (Zw (K:=K)) (pv 1) (pv 0) (λ_ _=>rfl))) (λd=>(Zk (i:=0) Io (by rfl) (Or.inl (by rfl)))) (λd=>Yb) (λd=>(Zs (Zz (K:=K)) (pv 1) (pv 0) (λ_ _=>rfl)))) Zc))))) 
    (Zd (Zm (i:=8) Z5.nd (by rfl) (Or.inr (by rfl)) Ag) 
    (Zd (Xx PassesOwn.never (by rfl) (Yv (K:=K) (pv 7)) (Zk (i:=9) Z5.nd (by rfl) (Or.inl (by rfl))) 
     (Zi (Xz (Af (Vt hr) (pv 8) (pv 9) (Zn Zcv (by rfl) Z.len Ya (Za (pv 8) Zc)) ⟨rfl,rfl,rfl,rfl⟩)))) 
    (Zi (Zm (i:=5) Z5.nd (by rfl) (Or.inr (by rfl)) (Yc (sc:=Zf Y5) (Nm:=["_law_machine_here","_law_letters_here","_law_begin","_law_ends","_law_steps","_law_sort","_law_many","_law_rows","_law_known","_law_row","_law_order_here","_law_numbers","_law_at","_law_to","_law_found"]) (own:=["_law_row"]) (fr:=[8]) ⟨rfl,by decide +kernel,by decide +kernel,by decide +kernel,by decide +kernel⟩ (by rfl) (Z2 (by decide)) (Yv (K:=K) (pv 7)) (λd=>(Zk (i:=0) Im (by rfl) (Or.inl (by rfl)))) (λd=>Yb) (λd=>(Rb (Vt hr) (pv 1) (pv 0) (λ_ _=>rfl))))))))))) 
   (Zd (Zm (i:=10) Z5.nd (by rfl) (Or.inl (by rfl)) (X9 (Za (pv 2) Zc))) 
   (Zd (Zm (i:=11) Z5.nd (by rfl) (Or.inr (by rfl)) (Zdy (Ib (Zs (Zz (K:=K)) (pv 5) (pv 2) (λ_ _=>rfl)) Zh Dq) (by rfl) (by rfl) (by intro h; cases h) (by show 1≤15; decide))) 
   (Zd (Zm (i:=12) Z5.nd (by rfl) (Or.inl (by rfl)) Zh) 
   (Zd (Qo PassesOwn.never (Z7 F5 (pv 12) (Zn (Z3 (K:=K)) (by rfl) Z.len Ya (Za (pv 10) Zc)) (Z8 _)) 
    (Zd (Xx PassesOwn.never (by rfl) (V3 (K:=K) (Zs (Zw (K:=K)) (pv 4) (Zs (Zz (K:=K)) (pv 10) (pv 12) (λ_ _=>rfl)) (λ_ _=>rfl))) (Zk (i:=13) Z5.nd (by rfl) (Or.inl (by rfl))) 
     (Zi (Xm (Zbm (Lg (Vt hr) (Zs (Zz (K:=K)) (pv 5) (pv 13) (λ_ _=>rfl)) (pv 11))) 
      (Zd (K8 (Vt hr) (pv 11) (Zs (Zz (K:=K)) (pv 5) (pv 13) (λ_ _=>rfl)) (Zn Zcw (by rfl) Z.len Ya (Za (pv 11) Zc)) rfl) 
      (Zi (Xz (Xd (K:=K) PySem.F.plainAttrs_list PySem.F.slot_list_append PySem.F.type_list_append We (pv 10) (Za (pv 13) Zc))))) Yh))) 
    (Zi (Zm (i:=12) Z5.nd (by rfl) (Or.inl (by rfl)) (Yj Wh (pv 12) Zh))))) 
   (Zd (Zm (i:=14) Z5.nd (by rfl) (Or.inl (by rfl)) (Zu (Yi (K:=K)) (by rfl) Z.tuple Yo (Za (Yc (sc:=Zf Y5) (Nm:=["_law_machine_here","_law_letters_here","_law_begin","_law_ends","_law_steps","_law_sort","_law_many","_law_rows","_law_known","_law_row","_law_order_here","_law_numbers","_law_at","_law_to","_law_found"]) (own:=["_law_room"]) (fr:=[4,5,11]) ⟨rfl,by decide +kernel,by decide +kernel,by decide +kernel,by decide +kernel⟩ (by rfl) (Z2 (by decide)) (Yv (K:=K) (pv 10)) (λd=>(Zk (i:=0) Il (by rfl) (Or.inl (by rfl)))) (λd=>Yb) (λd=>(Zu (Yi (K:=K)) (by rfl) Z.tuple Yo (Za (Yc (sc:={ kind:=PySem.ScopeKind.function,names:=[ (PySem.Str.ofString ".0",PySem.NameKind.local),(PySem.Str.ofString "_law_room",PySem.NameKind.local),(PySem.Str.ofString "tuple",PySem.NameKind.globalImplicit),(PySem.Str.ofString "_law_numbers",PySem.NameKind.cell),(PySem.Str.ofString "_law_sort",PySem.NameKind.cell),(PySem.Str.ofString "_law_steps",PySem.NameKind.cell)],isGenerator:=false,isCoroutine:=false,more:=[]:PySem.Scope }) (Nm:=["_law_room","_law_steps","_law_sort","_law_numbers"]) (own:=["_law_to"]) (fr:=[2,3]) ⟨rfl,by decide +kernel,by decide +kernel,by decide +kernel,by decide +kernel⟩ (by rfl) (Z2 (by decide)) (V3 (K:=K) (Zs (Zw (K:=K)) (pv 1) (pv 0) (λ_ _=>rfl))) (λd=>(Zk (i:=0) Ik (by rfl) (Or.inl (by rfl)))) (λd=>Yb) (λd=>(Rb (Vt hr) (pv 2) (Zs (Zz (K:=K)) (pv 1) (pv 0) (λ_ _=>rfl)) (λ_ _=>rfl)))) Zc)))) Zc))) 
   (Zi (Z1 (Vl (Za (pv 1) (Za Zh (Za (Zu (Yi (K:=K)) (by rfl) Z.tuple Yo (Za (Yc (sc:=Zf Y5) (Nm:=["_law_machine_here","_law_letters_here","_law_begin","_law_ends","_law_steps","_law_sort","_law_many","_law_rows","_law_known","_law_row","_law_order_here","_law_numbers","_law_at","_law_to","_law_found"]) (own:=["_law_at","_law_room"]) (fr:=[3]) ⟨rfl,by decide +kernel,by decide +kernel,by decide +kernel,by decide +kernel⟩ (by rfl) (Je (Vd (by decide) (Vd (by decide) Mq))) (N8 (K:=K) (by rfl) Z.enumerate (pv 10)) (λd=>(V5 (K:=K) (n:=2) (by rfl) (Yd (Zk (i:=0) Qw (by rfl) (Or.inl (by rfl))) (Yd (Zk (i:=1) Qw (by rfl) (Or.inl (by rfl))) V4)))) (λd=>(Oa (Z7 (Rc (K:=K)) (pv 1) (pv 2) (by with_unfolding_all rfl)))) (λd=>(pv 0))) Zc)) (Za (pv 14) Zc)))))))))))))))),?_⟩
 refine (let zz0:TS:=_; let zz1:TS:=Zq _ zz0; let zz2:TS:=_; let zz3:TS:=_; let zz4:TS:=Zq _ zz3; let zz5:TS:=(Za9 _ zz4 _); let zz6:TS:=Zq (Jn _ _ zz5) zz2; let zz7:TS:=Zq (M6 _ zz6) zz1; let zz8:TS:=Zq _ zz7; let zz9:TS:=Zq _ zz8; let Ew:TS:=Zq _ zz9; let Zgh:TS:=_; let zz12:TS:=Zq _ Zgh; let zz13:TS:=Zq _ zz12; let zz14:TS:=Zq _ zz13; let zz15:TS:=Zq _ zz14; let zz16:TS:=Zq (M6 _ zz15) Ew; let zz17:TS:=Zq _ zz16; let zz18:TS:=Zq _ zz17; (?_:Zq _ zz18 _ _ _))
 obtain ⟨eA,sA,ras,h1,h2,h3,h4,h5⟩:=M.lay
 have hst:=M.few.2.2
 have hll:=M.few.2.1
 have Zad:=M.beg
 have Ov:Rp st l.length:=M.rows
 have hrl:(ras.map V.ref).length=st.length:=by rw [List.length_map,h4]
 have Zn6:∀ x,x < st.length→∃ a,atI (ras.map V.ref) ((x:Nat):Int)=some (.ref a)∧H a=some (.tup ((st.getD x []).map nI)):=λx hx=>by
  have hra:x < ras.length:=by omega
  exact ⟨ras[x],Zl (by rw [List.getElem?_map,List.getElem?_eq_getElem hra]; rfl),h5 x _ _ (List.getElem?_eq_getElem hra) (getD_mem (l:=st) (d:=[]) hx).2⟩
 refine ⟨_,rfl,m,_,rfl,SqT.of h1,rfl,_,_,rfl,_,_,rfl,_,_,rfl,_,_,rfl,rfl,?_⟩
 refine ⟨_,rfl,sA,_,rfl,.inr (SqT.of h3),_,rfl,by omega,by omega,?_⟩
 refine Xy (lo:=0) (k:=((((ras.map V.ref).length:Nat):Int)).toNat) (λi acc H2=>acc=(List.range i).map (λr=>nI (if decide (r∈es)=true then 1 else 0))∧Zo H H2) (Nat.lt_of_le_of_lt (show _≤216 by omega) (by decide)) ⟨rfl,Zo.refl _⟩
  (λi acc H2 p=>by rw [p.1,List.length_map,List.length_range]; exact Nat.le_refl _) (λi acc H2 hi p=>Vg ?_) (λacc H2 p y hy=>?_)
 ·obtain ⟨rfl,e2⟩:=p
  refine ⟨_,rfl,_,rfl,eA,_,rfl,.inr (SqT.of (e2 _ _ h2)),rfl,Ui es,.inr ⟨_,rfl,?_,e2⟩⟩
  have hin:inV (V.int (0+(i:Int))) (es.map nI)=decide (i∈es):=by
   rw [show (0:Int)+(i:Int)=((i:Nat):Int) by omega]
   exact Rm i es
  show _ ++ [V.int (if inV (V.int (0+(i:Int))) (es.map nI)=true then 1 else 0)]=_
  rw [hin,List.range_succ,List.map_append]
  refine congrArg (_ ++ ·) ?_
  show _=[nI (if decide (i∈es)=true then 1 else 0)]
  by_cases c:decide (i∈es)=true
  ·rw [if_pos c,if_pos c]; rfl
  ·rw [if_neg c,if_neg c]; rfl
 obtain ⟨rfl,e2⟩:=p
 have hk0:((((ras.map V.ref).length:Nat):Int)).toNat=st.length:=by omega
 rw [hk0]
 have hlw0:(List.range st.length).map (λr=>nI (if decide (r∈es)=true then 1 else 0))=(lwN st es 0).map nI:=by
  show _=(lw0 es st.length).map nI
  unfold lw0
  rw [List.map_map]
  rfl
 have e3:=e2.trans (Ze hy (.lst ((List.range st.length).map λr=>nI (if decide (r∈es)=true then 1 else 0))))
 have h3y:upd H2 y (.lst ((List.range st.length).map λr=>nI (if decide (r∈es)=true then 1 else 0))) y=some (.lst ((lwN st es 0).map nI)):=by rw [Zb,hlw0]
 generalize upd H2 y (.lst ((List.range st.length).map λr=>nI (if decide (r∈es)=true then 1 else 0)))=H3 at e3 h3y
 have lkl:=Jd st es
 have dnl:∀ k,dn (lwN st es k)≤st.length:=λk=>by
  have:=firstMet_length_le (λi=>((lwN st es k).map λn:Nat=>(n:Int)).getD i 0) ((lwN st es k).map λn:Nat=>(n:Int)).length
  rw [List.length_map,lkl] at this
  unfold dn Uc
  rw [List.length_map,lkl]
  exact this
 have dn1:0 < dn (lwN st es 0):=by
  have h:=firstMet_any (λi=>((lwN st es 0).map λn:Nat=>(n:Int)).getD i 0) ((lwN st es 0).map λn:Nat=>(n:Int)).length (((lwN st es 0).map λn:Nat=>(n:Int)).getD 0 0)
  have hin:((List.range ((lwN st es 0).map λn:Nat=>(n:Int)).length).map λi=>((lwN st es 0).map λn:Nat=>(n:Int)).getD i 0).any (· == ((lwN st es 0).map λn:Nat=>(n:Int)).getD 0 0)=true:=by
   rw [List.any_eq_true]
   exact ⟨_,List.mem_map.mpr ⟨0,List.mem_range.mpr (by rw [List.length_map,lkl]; omega),rfl⟩,by simp⟩
  rw [hin] at h
  unfold dn Uc
  cases hc:firstMet (λi=>((lwN st es 0).map λn:Nat=>(n:Int)).getD i 0) ((lwN st es 0).map λn:Nat=>(n:Int)).length with
  | nil=>rw [hc] at h; cases h
  | cons=>exact Nat.succ_pos _
 refine ⟨llW H m eA sA l b es st,
  ⟨_,0,0,y,none,none,none,rfl,rfl,h3y,e3,.inl ⟨rfl,rfl⟩⟩,?_⟩
 clear h3y hy e3 y
 rintro mm σ H5 ⟨k',cnt,lp,v7,v8,v9,rfl,rfl,h5l,e5,Zpe⟩
 have hns:(lwN st es k').map nI=((lwN st es k').map λn:Nat=>(n:Int)).map V.int:=by rw [List.map_map]; rfl
 have Zab:((lwN st es k').map λn:Nat=>(n:Int)).length+1 < scanBound:=by
  rw [List.length_map,lkl]
  exact Nat.lt_of_le_of_lt (show st.length+1≤217 by omega) (by decide)
 refine ⟨_,rfl,lp,_,rfl,SqL.of (by rw [← hns]; exact h5l),Zab,λq hq=>⟨q,_,_,rfl,Zb,_,rfl,_,_,rfl,rfl,_,rfl,?_⟩⟩
 have s6:=Ze hq (.set (λk=>(Uc ((lwN st es k').map λn:Nat=>(n:Int))).any (· == k)) (Uc ((lwN st es k').map λn:Nat=>(n:Int))).length)
 have h6l:=s6 _ _ h5l
 have e6:=e5.trans s6
 refine V9 (λc1=>?_) (λc1=>?_)
 ·have c2:((cnt:Nat):Int) < ((dn (lwN st es k'):Nat):Int):=of_decide_eq_true c1
  refine ⟨λσ' H'=>∃ m',m' < st.length+1 - cnt∧_,λ_ _ z=>z,?_⟩
  refine ⟨_,rfl,lp,_,rfl,SqL.of (by rw [← hns]; exact h6l),Zab,λq2 hq2=>⟨q2,_,_,rfl,Zb,?_⟩⟩
  have s7:=Ze hq2 (.set (λk=>(Uc ((lwN st es k').map λn:Nat=>(n:Int))).any (· == k)) (Uc ((lwN st es k').map λn:Nat=>(n:Int))).length)
  have h7l:=s7 _ _ h6l
  have e7:=e6.trans s7
  have hdl:=dnl k'
  have hSl:=lkl k'
  have atL:∀ j,j < st.length→atI ((lwN st es k').map nI) ((j:Nat):Int)=some (nI ((lwN st es k').getD j 0)):=λj hj=>Zl (by rw [List.getElem?_map,(getD_mem (l:=lwN st es k') (d:=0) (by rw [hSl]; exact hj)).2]; rfl)
  have hRl:(lkR st (lwN st es k')).length=st.length:=by unfold lkR; rw [List.length_map,List.length_range]
  generalize upd (upd H5 q (.set (λk=>(Uc ((lwN st es k').map λn:Nat=>(n:Int))).any (· == k)) (Uc ((lwN st es k').map λn:Nat=>(n:Int))).length)) q2 (.set (λk=>(Uc ((lwN st es k').map λn:Nat=>(n:Int))).any (· == k)) (Uc ((lwN st es k').map λn:Nat=>(n:Int))).length)=H7 at s7 h7l e7
  refine ⟨_,rfl,sA,_,rfl,.inr (SqT.of (e7 _ _ h3)),_,rfl,by omega,by omega,?_⟩
  refine Xy (lo:=0) (k:=((((ras.map V.ref).length:Nat):Int)).toNat) (λi acc H8=>Ug H8 acc ((lkR st (lwN st es k')).take i)∧Zo H7 H8) (Nat.lt_of_le_of_lt (show _≤216 by omega) (by decide)) ⟨⟨rfl,λi x r a=>by simp at a⟩,Zo.refl _⟩
   (λi acc H8 p=>by rw [p.1.1,List.length_take]; exact Nat.min_le_left _ _) (λi acc H8 hi p=>Vg ?_) (λacc H8 p yr hyr=>?_)
  ·obtain ⟨R8,e8⟩:=p
   have hi':i < st.length:=by omega
   obtain ⟨a,ha1,ha2⟩:=Zn6 i hi'
   have hix:(0:Int)+(i:Int)=((i:Nat):Int):=by omega
   have e08:=e7.trans e8
   have hrw:=Ov _ (getD_mem (l:=st) (i:=i) (d:=[]) hi').1
   refine ⟨_,rfl,_,rfl,lp,_,_,_,rfl,rfl,SqL.of (e8 _ _ h7l),by rw [hix]; exact atL i hi',(by show 1≤sizeLine; decide),λt1 ht1=>?_⟩
   have u1:=Ze ht1 (.tup [nI ((lwN st es k').getD i 0)])
   have h9t:upd H8 t1 (.tup [nI ((lwN st es k').getD i 0)]) t1=some (.tup [nI ((lwN st es k').getD i 0)]):=Zb
   generalize upd H8 t1 (.tup [nI ((lwN st es k').getD i 0)])=H9 at u1 h9t
   have e09:=e08.trans u1
   refine ⟨_,rfl,_,rfl,sA,_,_,_,rfl,rfl,SqT.of (e09 _ _ h3),by rw [hix]; exact ha1,a,rfl,⟨_,SqT.of (e09 _ _ ha2)⟩,?_⟩
   refine U2 (K:=K) (a:=a) (xs:=(st.getD i []).map nI) (λj acc H10=>acc=((st.getD i []).take j).map (λx=>nI ((lwN st es k').getD x 0))∧Zo H9 H10) (by rw [List.length_map]; exact Zt (by omega)) ⟨rfl,Zo.refl _⟩ (λj acc H10 q=>by rw [q.1,List.length_map,List.length_take]; exact Nat.min_le_left _ _)
    (λj acc H10 q=>SqT.of (q.2 _ _ (e09 _ _ ha2))) (λj acc H10 x hxj q=>?_) (λacc H10 q y hy=>?_)
   ·obtain ⟨rfl,e10⟩:=q
    rw [List.getElem?_map] at hxj
    cases hc:(st.getD i [])[j]? with
    | none=>rw [hc] at hxj; cases hxj
    | some c=>
     rw [hc] at hxj
     cases hxj
     refine Vg ⟨_,rfl,_,rfl,lp,_,_,_,rfl,rfl,SqL.of (e10 _ _ (u1 _ _ (e8 _ _ h7l))),atL c (hrw.2 c (List.mem_of_getElem? hc)),?_,e10⟩
     rw [map_take hc]
   obtain ⟨rfl,e10⟩:=q
   rw [List.length_map,List.take_length]
   have u2:=Ze hy (.lst ((st.getD i []).map λx=>nI ((lwN st es k').getD x 0)))
   refine ⟨y,_,rfl,.inl ⟨SqL.of Zb,λz hz=>?_⟩⟩
   have u3:=Ze hz (.tup ((st.getD i []).map λx=>nI ((lwN st es k').getD x 0)))
   have u13:=(e10.trans u2).trans u3
   have hz3:upd (upd H10 y (.lst ((st.getD i []).map λx=>nI ((lwN st es k').getD x 0)))) z (.tup ((st.getD i []).map λx=>nI ((lwN st es k').getD x 0))) z=some (.tup ((st.getD i []).map λx=>nI ((lwN st es k').getD x 0))):=Zb
   generalize upd (upd H10 y (.lst ((st.getD i []).map λx=>nI ((lwN st es k').getD x 0)))) z (.tup ((st.getD i []).map λx=>nI ((lwN st es k').getD x 0)))=H11 at u3 u13 hz3
   have hne:(st.getD i []).map (λx=>nI ((lwN st es k').getD x 0))≠[]:=λz=>by
    have:=congrArg List.length z
    rw [List.length_map,hrw.1] at this
    have h0:([]:List V).length=0:=rfl
    have:=M.few.1
    omega
   refine ⟨t1,z,_,_,rfl,rfl,SqT.of (u13 _ _ h9t),SqT.of hz3,(λq=>nomatch q),by rw [List.length_map]; exact Xv (by show 1+_≤1000; omega),λq=>absurd q hne,λ_ p hp=>?_⟩
   have u4:=Ze hp (.tup ([nI ((lwN st es k').getD i 0)] ++ (st.getD i []).map λx=>nI ((lwN st es k').getD x 0)))
   have u04:=(u1.trans u13).trans u4
   refine ⟨?_,e8.trans u04⟩
   have X5:(lkR st (lwN st es k'))[i]? = some ((lwN st es k').getD i 0 :: (st.getD i []).map λx=>(lwN st es k').getD x 0):=O9 hi'
   rw [List.take_add_one,X5]
   refine (R8.keep (Tk.same u04)).snoc ?_
   refine Zb.trans ?_
   rw [List.map_cons,List.map_map]
   rfl
  obtain ⟨R8,e8⟩:=p
  rw [hk0,← hRl,List.take_length] at R8
  have w1:=Ze hyr (.lst acc)
  have h9y:upd H8 yr (.lst acc) yr=some (.lst acc):=Zb
  have R9:=R8.keep (Tk.same w1)
  generalize upd H8 yr (.lst acc)=H9 at w1 h9y R9
  refine λdp hdp=>?_
  have w2:=Ze hdp (.dT [])
  have Lu:upd H9 dp (.dT []) dp=some (.dT []):=Zb
  have R10:=R9.keep (Tk.same w2)
  have nyd:yr≠dp:=Zg h9y hdp
  have hdp7:=none_of (e8.trans w1) hdp
  have Zfu:=w2 _ _ h9y
  have e10:=(e8.trans w1).trans w2
  generalize upd H9 dp (.dT [])=H10 at w2 Lu R10 Zfu e10
  have hal:acc.length=st.length:=by rw [R10.1,hRl]
  have Zrj:∀ r:List Nat,(r.map kI).map kV=r.map nI:=λr=>by rw [List.map_map]; rfl
  generalize hrs:lkR st (lwN st es k')=rs at R8 R9 R10 hRl
  refine ⟨_,rfl,yr,rfl,⟨_,SqL.of Zfu⟩,?_⟩
  refine Q7 (K:=K) (a:=yr) (xs:=acc) (llD H m eA sA l b es st H7 lp yr dp k' acc rs)
   ⟨v9,rfl,Zfu,Lu,R10,e10⟩ (λi σ H11 _ h=>?_) ?_ ?_
  ·obtain ⟨_,_,h11,_⟩:=h
   exact SqL.of h11
  ·rintro i x σ H11 hx ⟨v9,rfl,Ziz,Q6,R11,e11⟩
   have hil:=(List.getElem?_eq_some_iff.mp hx).1
   have hri:rs[i]? = some (rs[i]'(by omega)):=List.getElem?_eq_getElem (by omega)
   generalize rs[i]'(by omega)=r at hri
   obtain ⟨ra,rfl,hra⟩:=R11.2 i x r hx hri
   have hml:=Au (rs.take i)
   rw [List.length_take] at hml
   have hnl:=D7 (φ:=λr:List Nat=>r.map kI) 0 (Lp (rs.take i))
   refine ⟨_,rfl,dp,rfl,.inr ⟨_,.inl Q6⟩,_,rfl,_,rfl,dp,_,rfl,.inl Q6,_,r.map kI,ra,Q6,rfl,by rw [Zrj]; exact hra,Zt (by omega),λv hv=>?_,λhv=>?_⟩
   ·refine ⟨_,rfl,Ziz,?_,R11,e11⟩
    rw [F8 hri]
    unfold Nh
    by_cases c:r∈Lp (rs.take i)
    ·rw [if_pos c]; exact Q6
    ·rw [Zbv (φ:=λr:List Nat=>r.map kI) Rj 0 _ c] at hv
     cases hv
   ·have c:r∉Lp (rs.take i):=λc=>by
     rw [Mh (φ:=λr:List Nat=>r.map kI) Rj 0 _ c] at hv
     cases hv
    refine ⟨_,rfl,(Zj nyd).trans Ziz,?_,R11.keep (Tk.dct Q6 _),Yq e11 hdp7 _⟩
    rw [F8 hri]
    unfold Nh
    rw [if_neg c,Iv,Qn _ hv,Zb,hnl,Nat.zero_add]
    rfl
  ·rintro σ H11 ⟨v9,rfl,Ziz,Q6,R11,e11⟩
   rw [hal,← hRl,List.take_length] at Q6
   refine ⟨_,rfl,yr,rfl,⟨_,SqL.of Ziz⟩,?_⟩
   refine Xi (K:=K) (a:=yr) (xs:=acc) (λj ac H12=>ac=(rs.take j).map (λr=>nI ((Lp rs).idxOf r))∧Zo H11 H12) (by rw [hal]; exact Zt (by omega)) ⟨rfl,Zo.refl _⟩ (λj ac H12 q=>by rw [q.1,List.length_map,List.length_take]; exact Nat.min_le_left _ _)
    (λj ac H12 q=>SqL.of (q.2 _ _ Ziz)) (λj ac H12 x hxj q=>?_) (λac H12 q y hy=>?_)
   ·obtain ⟨rfl,e12⟩:=q
    have hil:=(List.getElem?_eq_some_iff.mp hxj).1
    have hri:rs[j]? = some (rs[j]'(by omega)):=List.getElem?_eq_getElem (by omega)
    generalize rs[j]'(by omega)=r at hri
    obtain ⟨ra,rfl,hra⟩:=R11.2 j x r hxj hri
    have hv:=Mh (φ:=λr:List Nat=>r.map kI) Rj 0 _ (Mi (List.mem_of_getElem? hri))
    rw [Nat.zero_add] at hv
    refine Vg ⟨_,rfl,_,rfl,dp,_,rfl,hv▸Pr.t (k:=r.map kI) (e12 _ _ Q6) (by rw [Zrj]; exact e12 _ _ hra),?_,e12⟩
    rw [map_take hri]
   ·obtain ⟨rfl,e12⟩:=q
    have htl:rs.take acc.length=rs:=by rw [hal,← hRl,List.take_length]
    rw [htl]
    refine ⟨st.length+1 - dn (lwN st es k'),by omega,k'+1,dn (lwN st es k'),y,_,_,_,rfl,rfl,?_,((e7.trans e11).trans e12).trans (Ze hy _),.inr ⟨k',rfl,rfl⟩⟩
    rw [Zb]
    show _=some (HO.lst ((lwS st (lwN st es k')).map nI))
    unfold lwS
    rw [hrs,List.map_map]
    rfl
 ·have c2:¬ ((cnt:Nat):Int) < ((dn (lwN st es k'):Nat):Int):=λz=>c1 (decide_eq_true z)
  rcases Zpe with ⟨rfl,rfl⟩ | ⟨j,rfl,rfl⟩
  ·omega
  have hS:∀ x y,x < st.length→y < st.length→((lwN st es (j+1)).getD x 0=(lwN st es (j+1)).getD y 0↔Fut st es l.length x y):=λx y hx hy=>Zoq Ov (by omega) hx hy
  have Zph:∀ x,x < st.length→(lwN st es (j+1)).getD x 0 < st.length:=λx hx=>Zor hx
  have hSl:=lkl (j+1)
  generalize upd H5 q (.set (λk=>(Uc ((lwN st es (j+1)).map λn:Nat=>(n:Int))).any (· == k)) (Uc ((lwN st es (j+1)).map λn:Nat=>(n:Int))).length)=H6 at s6 h6l e6
  generalize lwN st es (j+1)=S at h6l hS Zph hSl
  clear c1 c2 hns Zab
  have atS:∀ x,x < st.length→atI (S.map nI) ((x:Nat):Int)=some (nI (S.getD x 0)):=λx hx=>Zl (by rw [List.getElem?_map,(getD_mem (l:=S) (d:=0) (by rw [hSl]; exact hx)).2]; rfl)
  have W:=Zgi Ov hS
  have oLs:∀ i,(lwO S st b i).length≤st.length:=λi=>Qs (P:=λx=>x < st.length) Zad (λx hx y hy=>(Ov _ (getD_mem (l:=st) (d:=[]) hx).1).2 y hy) (λx hx=>Zph x hx) i
  have oL:∀ i,(lwO S st b i).length≤216:=λi=>Nat.le_trans (oLs i) hst
  have oP:∀ i,∀ y∈lwO S st b i,y < st.length:=λi=>W.all Zad i
  refine ⟨_,rfl,(by show 1≤sizeLine; decide),λop hop=>?_⟩
  have w1:=Ze hop (.lst [nI b])
  have h7o:upd H6 op (.lst [nI b]) op=some (.lst [nI b]):=Zb
  generalize upd H6 op (.lst [nI b])=H7 at w1 h7o
  have hop6:=hop
  refine λdp hdp=>?_
  have w2:=Ze hdp (.dK [])
  have h8l:=w2 _ _ (w1 _ _ h6l)
  refine ⟨_,rfl,_,rfl,lp,_,_,_,rfl,rfl,SqL.of h8l,atS b Zad,Zb,[(kI (S.getD b 0),V.int 0)],rfl,by show 1≤15; decide,?_⟩
  have h9d:upd (upd H7 dp (.dK [])) dp (.dK (Uy [] [(kI (S.getD b 0),V.int 0)])) dp=some (.dK [(kI (S.getD b 0),V.int 0)]):=Zb
  have e9:Zo H7 (upd (upd H7 dp (.dK [])) dp (.dK (Uy [] [(kI (S.getD b 0),V.int 0)]))):=Yq w2 hdp _
  generalize upd (upd H7 dp (.dK [])) dp (.dK (Uy [] [(kI (S.getD b 0),V.int 0)]))=H9 at h9d e9
  have nod:op≠dp:=Zg h7o hdp
  have hdp6:=none_of w1 hdp
  refine ⟨llO H m eA sA l b es st S H6 lp op dp j v7 v8 v9,
   ⟨_,0,none,rfl,Nat.zero_le _,rfl,e9 _ _ h7o,h9d,w1.trans e9⟩,?_⟩
  clear h8l h9d e9 w2 hdp h7o w1 hop
  rintro mm σ H10 ⟨i,v13,rfl,hi,rfl,Ct,Lu,e10⟩
  have hLl:=oL i
  have Kb:∀ x,(lwO S st b i)[i]? = some x→lwO S st b (i+1)=(st.getD x []).foldl (Xn λx=>S.getD x 0) (lwO S st b i):=λx hx=>W0 hx
  have hpi:=oP i
  have G9:=e10 _ _ h6l
  refine ⟨_,rfl,_,rfl,op,_,rfl,.inl (SqL.of Ct),_,_,rfl,rfl,_,rfl,?_⟩
  refine V9 (λc1=>?_) (λc1=>?_)
  ·have c2:((i:Nat):Int) < ((((lwO S st b i).map nI).length:Nat):Int):=of_decide_eq_true c1
   rw [List.length_map] at c2
   have hlt:i < (lwO S st b i).length:=by omega
   have hxi:(lwO S st b i)[i]? = some ((lwO S st b i)[i]'hlt):=List.getElem?_eq_getElem hlt
   generalize (lwO S st b i)[i]'hlt=x at hxi
   have hx:=hpi x (List.mem_of_getElem? hxi)
   obtain ⟨a,ha1,ha2⟩:=Zn6 x hx
   have hrw:=Ov _ (getD_mem (l:=st) (i:=x) (d:=[]) hx).1
   have hs1:=Kb x hxi
   have hnd:=Tt (k:=λx=>S.getD x 0) (T:=λx=>st.getD x []) (b:=b) i
   have hnd:((lwO S st b i).map λx=>S.getD x 0).Nodup:=hnd
   have hL1:=oL (i+1)
   have hle1:i+1≤(lwO S st b (i+1)).length:=by
    have:=(S0 (k:=λx=>S.getD x 0) (st.getD x []) (lwO S st b i)).length_le
    rw [hs1]
    omega
   generalize lwO S st b i=O at Ct Lu hLl hxi hs1 hnd hpi hlt
   refine ⟨λσ' H'=>∃ m',m' < 217 - i∧_,λ_ _ z=>z,?_⟩
   refine ⟨_,rfl,_,rfl,_,rfl,op,_,_,_,rfl,rfl,SqL.of Ct,Zl (by rw [List.getElem?_map,hxi]; rfl),sA,_,_,_,rfl,rfl,SqT.of ((e6.trans e10) _ _ h3),ha1,a,rfl,⟨_,SqT.of ((e6.trans e10) _ _ ha2)⟩,?_⟩
   refine Zlr (K:=K) (a:=a) (xs:=(st.getD x []).map nI) (λj' σ H11=>∃ (v13:Option V),σ=[some (.ref m),some (.str l),some (nI b),some (.ref eA),some (.ref sA),some (.ref lp),some (nI (dn (lwN st es j))),v7,v8,v9,some (.ref op),some (.ref dp),some (nI i),v13,none]∧H11 op=some (.lst ((((st.getD x []).take j').foldl (Xn λx=>S.getD x 0) O).map nI))∧H11 dp=some (.dK (nbG kI 0 ((((st.getD x []).take j').foldl (Xn λx=>S.getD x 0) O).map λx=>S.getD x 0)))∧Zo H6 H11)
    ⟨v13,rfl,Ct,Lu,e10⟩ (λj' σ H11 _ h=>?_) ?_ ?_
   ·obtain ⟨_,_,_,_,e11⟩:=h
    exact SqT.of ((e6.trans e11) _ _ ha2)
   ·rintro j' x' σ H11 hx' ⟨v13,rfl,G8,Q6,e11⟩
    rw [List.getElem?_map] at hx'
    cases hc:(st.getD x [])[j']? with
    | none=>rw [hc] at hx'; cases hx'
    | some t=>
     rw [hc] at hx'
     cases hx'
     have htl:=hrw.2 t (List.mem_of_getElem? hc)
     have htk:((st.getD x []).take (j'+1)).foldl (Xn λx=>S.getD x 0) O=Xn (λx=>S.getD x 0) (((st.getD x []).take j').foldl (Xn λx=>S.getD x 0) O) t:=by
      rw [List.take_add_one,hc,List.foldl_append]
      rfl
     have Cq:=Ms (k:=λx=>S.getD x 0) ((st.getD x []).take j') O hnd
     have Ho:=fold_all (k:=λx=>S.getD x 0) (P:=λy=>y < st.length) ((st.getD x []).take j') O hpi λz hz=>hrw.2 z (List.mem_of_mem_take hz)
     rw [htk]
     generalize ((st.getD x []).take j').foldl (Xn λx=>S.getD x 0) O=O8 at G8 Q6 Cq Ho
     have hO8:O8.length≤216:=by
      have:=Sn st.length _ Cq λz hz=>by
       obtain ⟨y,hy,rfl⟩:=List.mem_map.mp hz
       exact Zph y (Ho y hy)
      rw [List.length_map] at this
      omega
     have Zr6:=e11 _ _ h6l
     have hln:(nbG kI 0 (O8.map λx=>S.getD x 0)).length=O8.length:=by rw [D7,List.length_map]
     refine ⟨_,rfl,_,rfl,lp,_,_,_,rfl,rfl,SqL.of Zr6,atS t htl,_,rfl,dp,_,rfl,Pr.k (k:=kI (S.getD t 0)) Q6,_,rfl,?_⟩
     unfold Xn
     by_cases hin:S.getD t 0∈O8.map λx=>S.getD x 0
     ·rw [Mh (λx y h=>Rk h) 0 _ hin,if_pos hin]
      exact ifN rfl ⟨_,rfl,G8,Q6,e11⟩
     ·have hno:=Zbv (λx y h=>Rk h) 0 _ hin
      rw [hno,if_neg hin]
      refine ifY rfl ⟨_,rfl,dp,_,rfl,.inl Q6,_,rfl,_,rfl,_,rfl,lp,_,_,_,rfl,rfl,SqL.of Zr6,atS t htl,dp,_,rfl,Fj.k (k:=kI (S.getD t 0)) Q6 (by rw [hln,sizeLine_eq]; omega),?_⟩
      have Cs:=(Zj (H:=H11) (o:=.dK (putK (nbG kI 0 (O8.map λx=>S.getD x 0)) (kI (S.getD t 0)) (V.int (((nbG kI 0 (O8.map λx=>S.getD x 0)).length:Nat):Int)))) nod).trans G8
      have Zr4:upd H11 dp (.dK (putK (nbG kI 0 (O8.map λx=>S.getD x 0)) (kI (S.getD t 0)) (V.int (((nbG kI 0 (O8.map λx=>S.getD x 0)).length:Nat):Int)))) dp=some (.dK (nbG kI 0 ((O8 ++ [t]).map λx=>S.getD x 0))):=by
       rw [Zb,Qn _ hno,List.map_append,List.map_cons,List.map_nil,Iv,hln,List.length_map,Nat.zero_add]
       rfl
      have e12:=Yq e11 hdp6 (.dK (putK (nbG kI 0 (O8.map λx=>S.getD x 0)) (kI (S.getD t 0)) (V.int (((nbG kI 0 (O8.map λx=>S.getD x 0)).length:Nat):Int))))
      generalize upd H11 dp (.dK (putK (nbG kI 0 (O8.map λx=>S.getD x 0)) (kI (S.getD t 0)) (V.int (((nbG kI 0 (O8.map λx=>S.getD x 0)).length:Nat):Int))))=H12 at Cs Zr4 e12
      refine ⟨_,rfl,.inl ⟨rfl,_,SqL.of Cs⟩,_,rfl,op,_,_,rfl,rfl,Cs,(by rw [List.length_map,sizeLine_eq]; omega),?_⟩
      refine ⟨_,rfl,?_,(Zj nod.symm).trans Zr4,Yq e12 hop6 _⟩
      rw [Zb,List.map_append]
      rfl
   ·rintro σ H11 ⟨v13,rfl,G8,Q6,e11⟩
    rw [List.length_map,List.take_length,← hs1] at G8 Q6
    exact ⟨_,rfl,_,_,rfl,rfl,217 - (i+1),by omega,i+1,_,rfl,hle1,rfl,G8,Q6,e11⟩
  ·have c2:¬ ((i:Nat):Int) < ((((lwO S st b i).map nI).length:Nat):Int):=λz=>c1 (decide_eq_true z)
   rw [List.length_map] at c2
   have hN:(lwO S st b i).length≤i:=by omega
   have Zru:∀ x∈lwO S st b i,∀ t∈st.getD x [],S.getD t 0∈(lwO S st b i).map λx=>S.getD x 0:=λx hx t ht=>by
    obtain ⟨j',hj',ej⟩:=List.getElem_of_mem hx
    exact Ma (k:=λx=>S.getD x 0) (T:=λx=>st.getD x []) (b:=b) (n:=i) (j:=j') (x:=x) (by rw [← ej]; exact List.getElem?_eq_getElem hj') (by omega) ht
   replace k:=λm' H' e=>k m' S i H' e hS hN (oLs i)
   clear Kb
   generalize lwO S st b i=O at Ct Lu hLl Zru hpi k
   refine ⟨_,rfl,op,rfl,⟨_,SqL.of Ct⟩,?_⟩
   refine Xi (K:=K) (a:=op) (xs:=O.map nI) (λr' acc H11=>Ug H11 acc ((Xl (λx=>S.getD x 0) (λx=>st.getD x []) O).take r')∧Zo H10 H11) (by rw [List.length_map]; exact Zt (by omega)) ⟨⟨rfl,λi x r a=>by simp at a⟩,Zo.refl _⟩
    (λi acc H8 p=>by rw [p.1.1,List.length_take]; exact Nat.min_le_left _ _) (λr' acc H11 q=>SqL.of (q.2 _ _ Ct)) (λr' acc H11 x' hx' q=>?_) (λacc H11 q y hy=>?_)
   ·obtain ⟨R11,e11⟩:=q
    rw [List.getElem?_map] at hx'
    cases hc:O[r']? with
    | none=>rw [hc] at hx'; cases hx'
    | some x=>
     rw [hc] at hx'
     cases hx'
     have hxm:=List.mem_of_getElem? hc
     have hx:=hpi x hxm
     obtain ⟨a,ha1,ha2⟩:=Zn6 x hx
     have hrw:=Ov _ (getD_mem (l:=st) (i:=x) (d:=[]) hx).1
     have Zaf:=(e6.trans e10).trans e11
     refine Vg ⟨_,rfl,_,rfl,sA,_,_,_,rfl,rfl,SqT.of (Zaf _ _ h3),ha1,a,rfl,⟨_,SqT.of (Zaf _ _ ha2)⟩,?_⟩
     refine U2 (K:=K) (a:=a) (xs:=(st.getD x []).map nI) (λj' acc H12=>acc=((st.getD x []).take j').map (λt=>nI ((O.map λx=>S.getD x 0).idxOf (S.getD t 0)))∧Zo H11 H12) (by rw [List.length_map]; exact Zt (by omega)) ⟨rfl,Zo.refl _⟩ (λj' acc H12 q=>by rw [q.1,List.length_map,List.length_take]; exact Nat.min_le_left _ _)
      (λj' acc H12 q=>SqT.of (q.2 _ _ (Zaf _ _ ha2))) (λj' acc H12 x' hxj q=>?_) (λacc H12 q y hy=>?_)
     ·obtain ⟨rfl,e12⟩:=q
      rw [List.getElem?_map] at hxj
      cases hc2:(st.getD x [])[j']? with
      | none=>rw [hc2] at hxj; cases hxj
      | some t=>
       rw [hc2] at hxj
       cases hxj
       have htm:=List.mem_of_getElem? hc2
       have hv:=Mh (φ:=kI) (λx y h=>Rk h) 0 _ (Zru x hxm t htm)
       rw [Nat.zero_add] at hv
       refine Vg ⟨_,rfl,_,rfl,_,rfl,lp,_,_,_,rfl,rfl,SqL.of (e12 _ _ (e11 _ _ G9)),atS t (hrw.2 t htm),dp,_,rfl,hv▸Pr.k (k:=kI (S.getD t 0)) (e12 _ _ (e11 _ _ Lu)),?_,e12⟩
       rw [map_take hc2]
     obtain ⟨rfl,e12⟩:=q
     rw [List.length_map,List.take_length]
     have u2:=Ze hy (.lst ((st.getD x []).map λt=>nI ((O.map λx=>S.getD x 0).idxOf (S.getD t 0))))
     refine ⟨y,_,rfl,.inl ⟨SqL.of Zb,λz hz=>?_⟩⟩
     have u3:=Ze hz (.tup ((st.getD x []).map λt=>nI ((O.map λx=>S.getD x 0).idxOf (S.getD t 0))))
     have u13:=(e12.trans u2).trans u3
     refine ⟨?_,e11.trans u13⟩
     have X5:(Xl (λx=>S.getD x 0) (λx=>st.getD x []) O)[r']? = some ((st.getD x []).map λt=>(O.map λx=>S.getD x 0).idxOf (S.getD t 0)):=by
      unfold Xl
      rw [List.getElem?_map,hc]
      rfl
     rw [List.take_add_one,X5]
     refine (R11.keep (Tk.same u13)).snoc ?_
     refine Zb.trans ?_
     rw [List.map_map]
     rfl
   obtain ⟨R11,e11⟩:=q
   have hRl:(Xl (λx=>S.getD x 0) (λx=>st.getD x []) O).length=(O.map nI).length:=by unfold Xl; rw [List.length_map,List.length_map]
   rw [← hRl,List.take_length] at R11
   obtain ⟨rr,rfl,r1,r2⟩:=R11.ras
   have w1:=Ze hy (.lst (rr.map V.ref))
   refine ⟨y,_,rfl,.inl ⟨SqL.of Zb,λfp hfp=>?_⟩⟩
   have w2:=Ze hfp (.tup (rr.map V.ref))
   have Zr3:upd (upd H11 y (.lst (rr.map V.ref))) fp (.tup (rr.map V.ref)) fp=some (.tup (rr.map V.ref)):=Zb
   have w12:=w1.trans w2
   generalize upd (upd H11 y (.lst (rr.map V.ref))) fp (.tup (rr.map V.ref))=H13 at w2 Zr3 w12
   have e13:=(e10.trans e11).trans w12
   have Zm9:=e11.trans w12
   refine ⟨_,rfl,_,rfl,op,_,rfl,.inl ⟨SqL.of (Zm9 _ _ Ct),?_⟩⟩
   refine Lz (Sq:=λH xs=>SqL K H op xs) (xs:=O.map nI) (λi acc H14=>acc=(((List.range i).filter λj=>decide (O.getD j 0∈es)).map nI)∧Zo H13 H14) (by rw [List.length_map]; exact Zt (by omega)) ⟨rfl,Zo.refl _⟩
    (λi acc H6 q=>by rw [q.1,List.length_map]; exact Nat.le_trans (List.length_filter_le _ _) (by rw [List.length_range]; exact Nat.le_refl _)) (λi acc H14 q=>SqL.of (q.2 _ _ (Zm9 _ _ Ct))) (λi acc H14 x' p hx' q hp=>?_) (λacc H14 q y hy=>?_)
   ·obtain ⟨rfl,e14⟩:=q
    rw [List.getElem?_map] at hx'
    cases hc:O[i]? with
    | none=>rw [hc] at hx'; cases hx'
    | some x=>
     rw [hc] at hx'
     cases hx'
     have hxD:O.getD i 0=x:=by rw [List.getD_eq_getElem?_getD,hc]; rfl
     have u1:=Ze hp (.tup [V.int (i:Int),nI x])
     have e15:=e14.trans u1
     refine ⟨p,_,rfl,SqT.of Zb,rfl,_,_,rfl,_,_,rfl,rfl,?_⟩
     refine ⟨_,rfl,_,rfl,eA,_,rfl,.inr (SqT.of (((e6.trans e13).trans e15) _ _ h2)),rfl,Ui es,_,rfl,?_⟩
     have hfl:((List.range (i+1)).filter λj=>decide (O.getD j 0∈es))=((List.range i).filter λj=>decide (O.getD j 0∈es)) ++ if decide (x∈es)=true then [i] else []:=by
      rw [List.range_succ,List.filter_append,List.filter_cons,hxD]
      rfl
     have hin:inV (nI x) (es.map nI)=decide (x∈es):=Rm x es
     rw [hfl,List.map_append,hin]
     refine V9 (λc=>?_) (λc=>?_)
     ·have c':decide (x∈es)=true:=c
      rw [if_pos c']
      exact ⟨_,rfl,rfl,e15⟩
     ·have c':¬ decide (x∈es)=true:=c
      rw [if_neg c']
      exact ⟨by rw [List.map_nil,List.append_nil],e15⟩
   obtain ⟨rfl,e14⟩:=q
   rw [List.length_map]
   have x1:=Ze hy (.lst (((List.range O.length).filter λj=>decide (O.getD j 0∈es)).map nI))
   refine ⟨y,_,rfl,.inl ⟨SqL.of Zb,λep hep=>?_⟩⟩
   have x2:=Ze hep (.tup (((List.range O.length).filter λj=>decide (O.getD j 0∈es)).map nI))
   have Zr1:upd (upd H14 y (.lst (((List.range O.length).filter λj=>decide (O.getD j 0∈es)).map nI))) ep (.tup (((List.range O.length).filter λj=>decide (O.getD j 0∈es)).map nI)) ep=some (.tup ((Ws O λx=>decide (x∈es)).map nI)):=Zb
   have x12:=x1.trans x2
   generalize upd (upd H14 y (.lst (((List.range O.length).filter λj=>decide (O.getD j 0∈es)).map nI))) ep (.tup (((List.range O.length).filter λj=>decide (O.getD j 0∈es)).map nI))=H15 at x2 Zr1 x12
   refine ⟨_,rfl,(by show 4≤sizeLine; decide),λm' hm'=>?_⟩
   have x3:=Ze hm' (.tup [V.str l,V.int 0,.ref ep,.ref fp])
   have x03:=(e14.trans x12).trans x3
   exact k m' _ ((e6.trans e13).trans x03) ⟨ep,fp,rr,Zb,x3 _ _ Zr1,x03 _ _ Zr3,r1,λi a r q1 q2=>x03 _ _ (w12 _ _ (r2 i a r q1 q2))⟩
theorem Qb {f:Addr} {fd:FuncData} (F:Fun K "_law_rising_machine" "_law_rising_machine" Yk f fd) (Z:Blt mg) (Zr:Cal P w K mg base "_law_pick" 1 ["_law_flow_here","_law_many"] Qh):Yp P w K mg base CX0 2 f fd ["_law_flow_here","_law_letters_here","_law_most"] Vw:=by
 refine F.ok Z9 (λvs H Q E h=>?_) (λcdv A outer s H vs Q E hr h=>?_)
 ·obtain ⟨p,sc,l,most,rfl,_⟩:=h
  rfl
 obtain ⟨p,sc,l,most,rfl,hl0,hl1,hm0,hm1,FA,k⟩:=h
 have hln:=len_list l
 refine ⟨_,(Zd (Zm (i:=3) Z9.nd (by rfl) (Or.inl (by rfl)) (Yj Wh Zh (Yg Zr (hr.mono (by decide)) (Za (pv 0) (Za (pv 2) Zc))))) 
   (Zd (Zm (i:=4) Z9.nd (by rfl) (Or.inl (by rfl)) (Zu (Yi (K:=K)) (by rfl) Z.tuple Yo (Za (Yc (sc:=Zf Yk) (Nm:=["_law_flow_here","_law_letters_here","_law_most","_law_rooms","_law_ends","_law_steps","_law_room","_law_row","_law_letter","_law_stays"]) (own:=["_law_room"]) (fr:=[0]) ⟨rfl,by decide +kernel,by decide +kernel,by decide +kernel,by decide +kernel⟩ (by rfl) (Z2 (by decide)) (Yz (by rfl) Z.range (Za (pv 3) Zc)) (λd=>(Zk (i:=0) Sy (by rfl) (Or.inl (by rfl)))) (λd=>(Oa (Z7 Ue (Yg Zr (hr.mono (by decide)) (Za (pv 1) (Za Zh Zc))) Zh (Z8 _)))) (λd=>(pv 0))) Zc))) 
   (Zd (Zm (i:=5) Z9.nd (by rfl) (Or.inl (by rfl)) (X9 Zc)) 
   (Zd (Xx PassesOwn.never (by rfl) (Yz (by rfl) Z.range (Za (pv 3) Zc)) (Zk (i:=6) Z9.nd (by rfl) (Or.inl (by rfl))) 
    (Zd (Zm (i:=7) Z9.nd (by rfl) (Or.inl (by rfl)) (X9 Zc)) 
    (Zd (Xx PassesOwn.never (by rfl) (Ra (pv 1)) (Zk (i:=8) Z9.nd (by rfl) (Or.inl (by rfl))) 
     (Zd (Zm (i:=9) Z9.nd (by rfl) (Or.inl (by rfl)) (Xu Ue (Yg Zr (hr.mono (by decide)) (Za (pv 0) (Za Zh Zc))) Zh (Z8 _))) 
     (Zi (Xz (Xd (K:=K) PySem.F.plainAttrs_list PySem.F.slot_list_append PySem.F.type_list_append We (pv 7) (Za (Zs (Zz (K:=K)) (X9 (Za (Yj Wh (pv 6) (Yg Zr (hr.mono (by decide)) (Za (pv 0) (Za (Yj O4 (pv 3) (pv 6)) Zc)))) (Za (pv 6) Zc))) (Zu En (by rfl) Z.int Zcz (Za (pv 9) Zc)) (λ_ _=>rfl)) Zc)))))) 
    (Zi (Xz (Xd (K:=K) PySem.F.plainAttrs_list PySem.F.slot_list_append PySem.F.type_list_append We (pv 5) (Za (Zu (Yi (K:=K)) (by rfl) Z.tuple Yo (Za (pv 7) Zc)) Zc))))))) 
   (Zi (Z1 (Vl (Za (pv 1) (Za Zh (Za (pv 4) (Za (Zu (Yi (K:=K)) (by rfl) Z.tuple Yo (Za (pv 5) Zc)) Zc))))))))))),?_⟩
 refine (let zz0:TS:=_; let zz1:TS:=_; let zz2:TS:=_; let zz3:TS:=Zq _ zz2; let zz4:TS:=Zq (Jn _ _ zz3) zz1; let zz5:TS:=Zq _ zz4; let zz6:TS:=Zq (Jn _ _ zz5) zz0; let zz7:TS:=Zq _ zz6; let zz8:TS:=Zq _ zz7; (?_:Zq _ zz8 _ _ _))
 refine ⟨_,rfl,_,rfl,p,sc,most,rfl,hm0,by omega,FA,λr xs0 hr0 hr1 hx0=>⟨_,_,rfl,rfl,?_⟩⟩
 have FA0:=FA.go hx0
 have d0:Ym H (upd H p (.lst xs0)) p:=Ym.upd _
 refine ⟨_,rfl,_,rfl,by omega,by omega,?_⟩
 refine Xy (lo:=0) (k:=(1+r).toNat) (λi acc H2=>∃ es:List Nat,acc=es.map nI∧es.length≤i∧(∀ x∈es,x < i)∧Yf H2 p sc∧Ym H H2 p) (Nat.lt_of_le_of_lt (show (1+r).toNat≤6 by omega) (by decide)) ⟨[],rfl,Nat.le_refl _,λx z=>absurd z (by simp),FA0,d0⟩
  (λi acc H2 ⟨es,e,hl',_⟩=>by rw [e,List.length_map]; exact hl') (λi acc H2 hi hp=>?_) (λacc H2 hp q hq=>?_)
 ·obtain ⟨es,rfl,hel,hem,FA2,dr⟩:=hp
  refine ⟨_,rfl,p,sc,2,rfl,by decide,by decide,FA2,λr2 xs1 _ _ hx1=>⟨rfl,_,rfl,?_⟩⟩
  refine V9 (λ_=>⟨_,rfl,es ++ [i],?_,?_,λx hx=>?_,FA2.go hx1,W8 dr _⟩) (λ_=>⟨es,rfl,by omega,λx hx=>Nat.lt_succ_of_lt (hem x hx),FA2.go hx1,W8 dr _⟩)
  ·rw [Zlu,V7]
  ·rw [List.length_append,List.length_singleton]
   omega
  ·rcases List.mem_append.mp hx with z | z
   ·exact Nat.lt_succ_of_lt (hem x z)
   ·rw [List.mem_singleton.mp z]; exact Nat.lt_succ_self _
 obtain ⟨es,rfl,hel,hem,FA2,dr2⟩:=hp
 refine ⟨q,_,rfl,.inl ⟨SqL.of Zb,λe he=>?_⟩⟩
 have s1:=Ze hq (.lst (es.map nI))
 have s2:=Ze he (.tup (es.map nI))
 have FA3:=(FA2.same s1).same s2
 have d3:=(dr2.trans (Ym.same s1)).trans (Ym.same (p:=p) s2)
 generalize hG:upd (upd H2 q (.lst (es.map nI))) e (.tup (es.map nI))=H3 at FA3 d3 ⊢
 have he3:H3 e=some (.tup (es.map nI)):=by rw [← hG]; exact Zb
 refine ⟨(by show 0≤sizeLine; decide),λs0 hs0=>?_⟩
 have s4:=Ze hs0 (.lst [])
 have nps:p≠s0:=by
  obtain ⟨ys,h1,_⟩:=FA3.here
  exact Zg h1 hs0
 have Zon:sc≠s0:=by
  obtain ⟨ns,h1⟩:=FA3.cells
  exact Zg h1 hs0
 have nes:e≠s0:=Zg he3 hs0
 have nep:e≠p:=by
  obtain ⟨ys,h1,_⟩:=FA3.here
  exact Wb he3 h1 (by intro z; cases z)
 have fresh:∀ b o,H b=some o→b≠p→b≠s0:=λb o hb hne=>Zg (d3 b o hb hne) hs0
 refine ⟨_,rfl,_,rfl,by omega,by omega,?_⟩
 refine Ul (lo:=0) (n:=(1+r).toNat) (λi σ H4=>∃ (v v7 v8 v9:Option V) (ras:List Addr) (st:List (List Nat)),σ=[some (.ref p),some (.str l),some (.int most),some (.int (1+r)),some (.ref e),some (.ref s0),v,v7,v8,v9]∧H4 s0=some (.lst (ras.map V.ref))∧ras.length=i∧st.length=i∧
   (∀ (j:Nat) a r',ras[j]? = some a→st[j]? = some r'→H4 a=some (.tup (r'.map nI)))∧(∀ r'∈st,r'.length=l.length∧∀ x∈r',x < (1+r).toNat)∧H4 e=some (.tup (es.map nI))∧Yf H4 p sc∧Ym H H4 p)
  ⟨none,none,none,none,[],[],rfl,Zb,rfl,rfl,λj a r' z=>by simp at z,λr' z=>absurd z (by simp),s4 _ _ he3,FA3.same s4,d3.trans (Ym.same s4)⟩ ?_ ?_
 ·rintro i σ H4 hi ⟨v,v7,v8,v9,ras,st,rfl,hs,hra,hst,X5,Co,he4,FA4,d4⟩
  have hi':(i:Int) < 1+r:=by omega
  refine ⟨(by show 0≤sizeLine; decide),λrp hrp=>?_⟩
  have t0:=Ze hrp (.lst [])
  have h5r:upd H4 rp (.lst []) rp=some (.lst []):=Zb
  have nrs:s0≠rp:=Zg hs hrp
  have npr:p≠rp:=by
   obtain ⟨ys,h1,_⟩:=FA4.here
   exact Zg h1 hrp
  have nsr:sc≠rp:=by
   obtain ⟨ys,h1⟩:=FA4.cells
   exact Zg h1 hrp
  have Zpm:∀ b o,H b=some o→b≠p→b≠rp:=λb o hb hne=>Zg (d4 b o hb hne) hrp
  refine ⟨_,rfl,l,rfl,?_⟩
  refine Jf (cs:=l.cps.toList) (λj σ H5=>∃ (v8 v9:Option V) (ys:List Nat),σ=[some (.ref p),some (.str l),some (.int most),some (.int (1+r)),some (.ref e),some (.ref s0),some (.int (0+(i:Int))),some (.ref rp),v8,v9]∧H5 rp=some (.lst (ys.map nI))∧ys.length=j∧(∀ x∈ys,x < (1+r).toNat)∧H5 s0=some (.lst (ras.map V.ref))∧Tk H4 H5∧Yf H5 p sc∧Ym H H5 p)
   ⟨v8,v9,[],rfl,h5r,rfl,λx z=>absurd z (by simp),t0 _ _ hs,Tk.same t0,FA4.same t0,d4.trans (Ym.same t0)⟩ ?_ ?_
  ·rintro j c σ H5 hc ⟨v8,v9,ys,rfl,h5r,hyl,hyv,h5s,tk5,FA5,d5⟩
   refine ⟨_,rfl,p,sc,2,rfl,by decide,by decide,FA5,λr1 xs1 _ _ hx1=>⟨rfl,?_⟩⟩
   have FA6:=FA5.go hx1
   have h6r:upd H5 p (.lst xs1) rp=some (.lst (ys.map nI)):=(Zj npr.symm).trans h5r
   have h6s:upd H5 p (.lst xs1) s0=some (.lst (ras.map V.ref)):=(Zj nps.symm).trans h5s
   have d6:=W8 d5 (.lst xs1)
   have tk6:=tk5.trans (Tk.drew FA5 (Ym.upd (.lst xs1)))
   generalize upd H5 p (.lst xs1)=H6 at FA6 h6r h6s d6 tk6
   generalize decide (V.int r1=V.int 0)=stays
   refine ⟨_,rfl,.inl ⟨rfl,_,SqL.of h6r⟩,_,rfl,_,rfl,_,rfl,_,rfl,_,_,rfl,rfl,p,sc,_,rfl,by omega,by omega,FA6,λr2 xs2 h20 h21 hx2=>⟨_,_,rfl,rfl,_,rfl,(by show 2≤sizeLine; decide),λq hq=>?_⟩⟩
   have FA7:=FA6.go hx2
   have h7r:upd H6 p (.lst xs2) rp=some (.lst (ys.map nI)):=(Zj npr.symm).trans h6r
   have h7s:upd H6 p (.lst xs2) s0=some (.lst (ras.map V.ref)):=(Zj nps.symm).trans h6s
   have d7:=W8 d6 (.lst xs2)
   have tk7:=tk6.trans (Tk.drew FA6 (Ym.upd (.lst xs2)))
   generalize upd H6 p (.lst xs2)=H7 at hq FA7 h7r h7s d7 tk7
   have t8:=Ze hq (.lst [V.int (0+(i:Int)+r2),V.int (0+(i:Int))])
   have h8q:upd H7 q (.lst [V.int (0+(i:Int)+r2),V.int (0+(i:Int))]) q=some (.lst [V.int (0+(i:Int)+r2),V.int (0+(i:Int))]):=Zb
   generalize upd H7 q (.lst [V.int (0+(i:Int)+r2),V.int (0+(i:Int))])=H8 at t8 h8q
   have Zrq:∃ y:Nat,y < (1+r).toNat∧atI [V.int (0+(i:Int)+r2),V.int (0+(i:Int))] (if stays=true then 1 else 0)=some (nI y):=by
    cases stays with
    | true=>
     refine ⟨i,by omega,?_⟩
     have:atI [V.int (0+(i:Int)+r2),V.int (0+(i:Int))] ((1:Nat):Int)=some (V.int (0+(i:Int))):=Zl rfl
     exact this.trans (congrArg some (Zlu i))
    | false=>
     refine ⟨i+r2.toNat,by omega,?_⟩
     have:atI [V.int (0+(i:Int)+r2),V.int (0+(i:Int))] ((0:Nat):Int)=some (V.int (0+(i:Int)+r2)):=Zl rfl
     have e:V.int (0+(i:Int)+r2)=nI (i+r2.toNat):=by
      show V.int _=V.int (((i+r2.toNat:Nat):Nat):Int)
      rw [show (((i+r2.toNat:Nat):Nat):Int)=0+(i:Int)+r2 by omega]
     exact this.trans (congrArg some e)
   obtain ⟨y,hy,hat⟩:=Zrq
   refine ⟨_,rfl,.inr ⟨_,rfl,q,_,_,_,rfl,rfl,SqL.of h8q,hat,rp,_,_,rfl,rfl,t8 _ _ h7r,by rw [List.length_map,hyl]; exact Zt (by have:=(List.getElem?_eq_some_iff.mp hc).1; omega),?_⟩⟩
   refine ⟨_,_,ys ++ [y],rfl,by rw [Zb,V7],by rw [List.length_append,hyl]; rfl,λx hx=>?_,(Zj nrs).trans (t8 _ _ h7s),(tk7.trans (Tk.same t8)).trans (Tk.lst (t8 _ _ h7r) _),U1 (FA7.same t8) npr nsr,λb o hb hne=>?_⟩
   ·rcases List.mem_append.mp hx with z | z
    ·exact hyv x z
    ·rw [List.mem_singleton.mp z]; exact hy
   ·rw [Zj (Zpm b o hb hne)]
    exact t8 _ _ (d7 b o hb hne)
  ·rintro σ H5 ⟨v8,v9,ys,rfl,h5r,hyl,hyv,h5s,tk5,FA5,d5⟩
   refine ⟨_,rfl,.inl ⟨rfl,_,SqL.of h5s⟩,_,rfl,rp,_,rfl,.inl ⟨SqL.of h5r,λa ha=>?_⟩⟩
   have t2:=Ze ha (.tup (ys.map nI))
   have nas:a≠s0:=λz=>by rw [z,h5s] at ha; cases ha
   refine ⟨s0,_,_,rfl,rfl,t2 _ _ h5s,?_,?_⟩
   ·rw [List.length_map]
    exact Nat.lt_of_le_of_lt (show ras.length≤6 by omega) (by decide)
   ·have keep:∀ b ys',H4 b=some (.tup ys')→upd (upd H5 a (.tup (ys.map nI))) s0 (.lst (ras.map V.ref ++ [.ref a])) b=some (.tup ys'):=λb ys' hb=>by
     have nbs:b≠s0:=Wb hb hs (by intro z; cases z)
     rw [Zj nbs]
     exact t2 _ _ (tk5 _ _ hb)
    refine ⟨_,_,_,_,ras ++ [a],st ++ [ys],rfl,?_,?_,?_,?_,?_,?_,?_,?_⟩
    ·rw [Zb,← V7]
    ·rw [List.length_append,hra]; rfl
    ·rw [List.length_append,hst]; rfl
    ·intro j a' r' z1 z2
     rcases Nat.lt_or_ge j i with hj | hj
     ·rw [List.getElem?_append_left (by omega)] at z1 z2
      exact keep _ _ (X5 j a' r' z1 z2)
     ·rw [List.getElem?_append_right (by omega)] at z1 z2
      have hj0:j=i:=by
       have:=(List.getElem?_eq_some_iff.mp z1).1
       rw [List.length_singleton] at this
       omega
      subst hj0
      rw [show j - ras.length=0 by omega] at z1
      rw [show j - st.length=0 by omega] at z2
      cases z1
      cases z2
      rw [Zj nas]
      exact Zb
    ·intro r' hr'
     rcases List.mem_append.mp hr' with z | z
     ·exact Co r' z
     ·rw [List.mem_singleton.mp z]
      exact ⟨by omega,hyv⟩
    ·exact keep _ _ he4
    ·exact U1 (FA5.same t2) nps Zon
    ·intro b o hb hne
     rw [Zj (fresh b o hb hne)]
     exact t2 _ _ (d5 b o hb hne)
 ·rintro σ H4 ⟨v,v7,v8,v9,ras,st,rfl,hs,hra,hst,X5,Co,he4,FA4,d4⟩
  refine ⟨_,rfl,_,rfl,_,rfl,s0,_,rfl,.inl ⟨SqL.of hs,λs5 hs5=>⟨(by show 4≤sizeLine; decide),λm hm=>?_⟩⟩⟩
  have t1:=Ze hs5 (.tup (ras.map V.ref))
  have t2:=Ze hm (.tup [.str l,.int 0,.ref e,.ref s5])
  refine k m 0 es st _ ⟨⟨e,s5,ras,Zb,?_,?_,by omega,λj a' r' z1 z2=>?_⟩,⟨hl0,hl1,by omega⟩,by omega,λr' hr'=>⟨(Co r' hr').1,λx hx=>by have:=(Co r' hr').2 x hx; omega⟩⟩ ⟨by omega,λx hx=>by have:=hem x hx; omega,by omega⟩ ?_ ((FA4.same t1).same t2)
  ·exact t2 _ _ (t1 _ _ he4)
  ·exact t2 _ _ Zb
  ·exact t2 _ _ (t1 _ _ (X5 j a' r' z1 z2))
  ·exact d4.trans ((Ym.same t1).trans (Ym.same t2))
structure Fold (st:List (List Nat)) (es:List Nat) (b w:Nat) (ph:Nat→Nat) (st':List (List Nat)) (es':List Nat) (b':Nat):Prop where
 Vf:Rp st' w
 beg:b' < st'.length∧ph b'=b
 end_:∀ r,r < st'.length→(r∈es'↔ph r∈es)
 elt:∀ e∈es',e < st'.length
 stp:∀ r j,r < st'.length→j < w→ph (stN st' r j)=stN st (ph r) j
theorem Fold.id_ {st:List (List Nat)} {es:List Nat} {b w:Nat} (R:Rp st w) (hb:b < st.length) (he:∀ e∈es,e < st.length):Fold st es b w id st es b:=⟨R,⟨hb,rfl⟩,λ_ _=>Iff.rfl,he,λ_ _ _ _=>rfl⟩
theorem Fold.lk {st:List (List Nat)} {es:List Nat} {b w:Nat} {ph:Nat→Nat} {st':List (List Nat)} {es':List Nat} {b':Nat} (F:Fold st es b w ph st' es' b'):Lk st es st' es' w b b':=by
 have key:∀ (cs:List Nat) (r:Nat),r < st'.length→(∀ c∈cs,c < w)→(Oz st' r cs∈es'↔Oz st (ph r) cs∈es):=by
  intro cs
  induction cs with
  | nil=>exact λr hr _=>F.end_ r hr
  | cons c cs ih=>
   intro r hr hc
   have h1:=hc c List.mem_cons_self
   have h2:=ih (stN st' r c) (Vv F.Vf hr h1) λd hd=>hc d (List.mem_cons_of_mem _ hd)
   rw [F.stp r c hr h1] at h2
   exact h2
 intro cs hc
 have:=key cs b' F.beg.1 hc
 rw [F.beg.2] at this
 exact this.symm
theorem Zki {st:List (List Nat)} {r c j x:Nat} {row:List Nat} (hr:st[r]? = some row) (hj:j < row.length):∀ r',stN (st.set r (row.set j x)) r' c=if r'=r∧c=j then x else stN st r' c:=by
 intro r'
 unfold stN
 have hlt:=(List.getElem?_eq_some_iff.mp hr).1
 by_cases e:r'=r
 ·subst e
  have e1:(st.set r' (row.set j x)).getD r' []=row.set j x:=by
   rw [List.getD_eq_getElem?_getD,List.getElem?_set_self hlt]
   rfl
  have e2:st.getD r' []=row:=by rw [List.getD_eq_getElem?_getD,hr]; rfl
  rw [e1,e2]
  by_cases d:c=j
  ·subst d
   rw [if_pos ⟨rfl,rfl⟩,List.getD_eq_getElem?_getD,List.getElem?_set_self hj]
   rfl
  ·rw [if_neg λz=>d z.2,List.getD_eq_getElem?_getD,List.getElem?_set_ne (λz=>d z.symm),List.getD_eq_getElem?_getD]
 ·rw [if_neg λz=>e z.1]
  have e1:(st.set r (row.set j x)).getD r' []=st.getD r' []:=by
   rw [List.getD_eq_getElem?_getD,List.getElem?_set_ne (λz=>e z.symm),List.getD_eq_getElem?_getD]
  rw [e1]
theorem Fold.set {st:List (List Nat)} {es:List Nat} {b w:Nat} {ph:Nat→Nat} {st':List (List Nat)} {es':List Nat} {b':Nat} (F:Fold st es b w ph st' es' b') {r j x:Nat} {row:List Nat} (hr:st'[r]? = some row) (hj:j < row.length) (hx:x < st'.length) (hp:ph x=ph (row.getD j 0)):Fold st es b w ph (st'.set r (row.set j x)) es' b':=by
 have hlen:(st'.set r (row.set j x)).length=st'.length:=List.length_set
 have X5:stN st' r j=row.getD j 0:=by
  unfold stN
  rw [List.getD_eq_getElem?_getD (l:=st'),hr]
  rfl
 refine ⟨λq hq=>?_,by rw [hlen]; exact F.beg,λr' hr'=>F.end_ r' (by rw [hlen] at hr'; exact hr'),λe he=>by rw [hlen]; exact F.elt e he,λr' j' hr' hj'=>?_⟩
 ·rw [hlen]
  rcases List.mem_or_eq_of_mem_set hq with z | z
  ·exact F.Vf q z
  ·obtain ⟨h1,h2⟩:=F.Vf row (List.mem_of_getElem? hr)
   rw [z]
   refine ⟨by rw [List.length_set]; exact h1,λy hy=>?_⟩
   rcases List.mem_or_eq_of_mem_set hy with a | a
   ·exact h2 y a
   ·rw [a]; exact hx
 ·rw [hlen] at hr'
  rw [Zki hr hj r']
  by_cases c:r'=r∧j'=j
  ·rw [if_pos c,hp,c.1,c.2,← X5]
   exact F.stp r j (by rw [← c.1]; exact hr') (by rw [← c.2]; exact hj')
  ·rw [if_neg c]
   exact F.stp r' j' hr' hj'
theorem Fold.more {st:List (List Nat)} {es:List Nat} {b w:Nat} {ph:Nat→Nat} {st':List (List Nat)} {es':List Nat} {b':Nat} (F:Fold st es b w ph st' es' b') {y:Nat} (hy:y < st'.length) :
  Fold st es b w (λr=>if r=st'.length then ph y else ph r) (st' ++ [st'.getD y []]) (if y∈es' then es' ++ [st'.length] else es') b':=by
 have hlen:(st' ++ [st'.getD y []]).length=st'.length+1:=by rw [List.length_append]; rfl
 have hro:∀ r,r < st'.length→(st' ++ [st'.getD y []]).getD r []=st'.getD r []:=λr hr=>by
  rw [List.getD_eq_getElem?_getD,List.getElem?_append_left hr,List.getD_eq_getElem?_getD]
 have hrn:(st' ++ [st'.getD y []]).getD st'.length []=st'.getD y []:=by
  rw [List.getD_eq_getElem?_getD,List.getElem?_append_right (Nat.le_refl _),Nat.sub_self]
  rfl
 have hold:∀ r,r < st'.length→(if r=st'.length then ph y else ph r)=ph r:=λr hr=>if_neg (by omega)
 have Zir:∀ r,(r∈(if y∈es' then es' ++ [st'.length] else es'))↔(r∈es'∨(y∈es'∧r=st'.length)):=λr=>by
  by_cases c:y∈es'
  ·rw [if_pos c,List.mem_append,List.mem_singleton]
   exact ⟨λh=>h.imp id λz=>⟨c,z⟩,λh=>h.imp id λz=>z.2⟩
  ·rw [if_neg c]
   exact ⟨.inl,λh=>h.resolve_right λz=>c z.1⟩
 refine ⟨λq hq=>?_,⟨by rw [hlen]; exact Nat.lt_succ_of_lt F.beg.1,by rw [hold _ F.beg.1]; exact F.beg.2⟩,λr hr=>?_,λe he=>?_,λr j hr hj=>?_⟩
 ·rw [hlen]
  have:∃ q'∈st',q=q':=by
   rcases List.mem_append.mp hq with z | z
   ·exact ⟨q,z,rfl⟩
   ·exact ⟨_,(getD_in (l:=st') (d:=[]) hy).1,List.mem_singleton.mp z⟩
  obtain ⟨q',hq',e⟩:=this
  obtain ⟨h1,h2⟩:=F.Vf q' hq'
  rw [e]
  exact ⟨h1,λx hx=>Nat.lt_succ_of_lt (h2 x hx)⟩
 ·rw [Zir]
  rw [hlen] at hr
  by_cases c:r=st'.length
  ·rw [if_pos c,← F.end_ y hy]
   exact ⟨λh=>h.elim (λz=>absurd (F.elt r z) (by omega)) λz=>z.1,λh=>.inr ⟨h,c⟩⟩
  ·rw [if_neg c,← F.end_ r (by omega)]
   exact ⟨λh=>h.resolve_right λz=>c z.2,.inl⟩
 ·rw [hlen]
  rcases (Zir e).mp he with z | z
  ·exact Nat.lt_succ_of_lt (F.elt e z)
  ·rw [z.2]; exact Nat.lt_succ_self _
 ·rw [hlen] at hr
  by_cases c:r=st'.length
  ·subst c
   have e:stN (st' ++ [st'.getD y []]) st'.length j=stN st' y j:=by unfold stN; rw [hrn]
   rw [e,if_pos rfl,hold _ (Vv F.Vf hy hj)]
   exact F.stp y j hy hj
  ·have hr':r < st'.length:=by omega
   have e:stN (st' ++ [st'.getD y []]) r j=stN st' r j:=by unfold stN; rw [hro r hr']
   rw [e,hold r hr',hold _ (Vv F.Vf hr' hj)]
   exact F.stp r j hr' hj
theorem Fold.begin {st:List (List Nat)} {es:List Nat} {b w:Nat} {ph:Nat→Nat} {st':List (List Nat)} {es':List Nat} {b':Nat} (F:Fold st es b w ph st' es' b') {x:Nat} (hx:x < st'.length) (hp:ph x=ph b'):Fold st es b w ph st' es' x:=
 ⟨F.Vf,⟨hx,hp.trans F.beg.2⟩,F.end_,F.elt,F.stp⟩
theorem Fold.perm {st:List (List Nat)} {es:List Nat} {b w:Nat} {ph:Nat→Nat} {st':List (List Nat)} {es' es2:List Nat} {b':Nat} (F:Fold st es b w ph st' es' b') {o:List Nat} (ho:o.Perm (List.range st'.length)) (h2:∀ x,x∈es2↔x∈es'.map λr=>o.idxOf r) :
  Fold st es b w (λi=>ph (o.getD i 0)) (o.map λx=>(st'.getD x []).map λt=>o.idxOf t) es2 (o.idxOf b'):=by
 have hl:o.length=st'.length:=by rw [ho.length_eq,List.length_range]
 have hin:∀ x,x < st'.length→x∈o:=λx hx=>ho.mem_iff.mpr (List.mem_range.mpr hx)
 have Zlk:∀ x,x∈o→x < st'.length:=λx hx=>List.mem_range.mp (ho.mem_iff.mp hx)
 have hlen:(o.map λx=>(st'.getD x []).map λt=>o.idxOf t).length=st'.length:=by rw [List.length_map,hl]
 have hlt:∀ x,x < st'.length→o.idxOf x < st'.length:=λx hx=>by rw [← hl]; exact List.idxOf_lt_length_of_mem (hin x hx)
 have Ziy:∀ x,x < st'.length→o.getD (o.idxOf x) 0=x:=λx hx=>by
  rw [List.getD_eq_getElem?_getD,Nb (hin x hx)]
  rfl
 have hmm:∀ i,i < st'.length→o.getD i 0 < st'.length:=λi hi=>Zlk _ (getD_in (l:=o) (d:=0) (by omega)).1
 have nd:o.Nodup:=ho.nodup_iff.mpr List.nodup_range
 have hidx:∀ i,i < st'.length→o.idxOf (o.getD i 0)=i:=λi hi=>by
  have:=List.Nodup.idxOf_getElem nd i (by omega)
  rw [List.getD_eq_getElem?_getD,List.getElem?_eq_getElem (by omega)]
  exact this
 refine ⟨λq hq=>?_,⟨by rw [hlen]; exact hlt _ F.beg.1,by show ph (o.getD (o.idxOf b') 0)=b; rw [Ziy _ F.beg.1]; exact F.beg.2⟩,λr hr=>?_,λe he=>?_,λr j hr hj=>?_⟩
 ·obtain ⟨x,hx,rfl⟩:=List.mem_map.mp hq
  obtain ⟨h1,h3⟩:=F.Vf _ (getD_in (l:=st') (d:=[]) (Zlk x hx)).1
  rw [hlen]
  refine ⟨by rw [List.length_map]; exact h1,λy hy=>?_⟩
  obtain ⟨t,ht,rfl⟩:=List.mem_map.mp hy
  exact hlt t (h3 t ht)
 ·rw [hlen] at hr
  rw [h2,← F.end_ _ (hmm r hr),List.mem_map]
  constructor
  ·rintro ⟨e,he,q⟩
   rw [← q,Ziy e (F.elt e he)]
   exact he
  ·intro h
   exact ⟨_,h,hidx r hr⟩
 ·rw [hlen]
  obtain ⟨x,hx,rfl⟩:=List.mem_map.mp ((h2 e).mp he)
  exact hlt x (F.elt x hx)
 ·rw [hlen] at hr
  have hx:=hmm r hr
  have e:stN (o.map λx=>(st'.getD x []).map λt=>o.idxOf t) r j=o.idxOf (stN st' (o.getD r 0) j):=by
   have X5:=F.Vf _ (getD_in (l:=st') (d:=[]) hx).1
   unfold stN
   rw [List.getD_eq_getElem?_getD (l:=o.map _),List.getElem?_map,(getD_in (l:=o) (i:=r) (d:=0) (by omega)).2]
   show ((st'.getD (o.getD r 0) []).map λt=>o.idxOf t).getD j 0=_
   rw [List.getD_eq_getElem?_getD (l:=List.map _ _),List.getElem?_map,(getD_in (l:=st'.getD (o.getD r 0) []) (i:=j) (d:=0) (by omega)).2]
   rfl
  show ph (o.getD (stN _ r j) 0)=_
  rw [e,Ziy _ (Vv F.Vf hx hj)]
  exact F.stp _ j hx hj
theorem Hn (o:List Nat) (x:Nat):(o.map λn:Nat=>(n:Int)).idxOf ((x:Nat):Int)=o.idxOf x:=by
 induction o with
 | nil=>rfl
 | cons a t ih=>
  rw [List.map_cons,List.idxOf_cons,List.idxOf_cons,ih]
  by_cases c:a=x
  ·rw [beq_iff_eq.mpr c,beq_iff_eq.mpr (by omega:((a:Nat):Int)=(x:Int))]
  ·rw [beq_eq_false_iff_ne.mpr c,beq_eq_false_iff_ne.mpr (by omega:((a:Nat):Int)≠(x:Int))]
structure Vm (H0:Hp) (p sc sL eL:Addr) (ras:List Addr) (es':List Nat) (st':List (List Nat)) (H:Hp):Prop where
 Kd:Yf H0 p sc
 Mu:Yf H p sc
 drew:Ym H0 H p
 steps:H sL=some (.lst (ras.map V.ref))
 ends:H eL=some (.lst (es'.map nI))
 len:ras.length=st'.length
 rows:∀ (i:Nat) a r,ras[i]? = some a→st'[i]? = some r→H a=some (.lst (r.map nI))
 nd:ras.Nodup
 free:∀ a∈ras,H0 a=none∧a≠sL∧a≠eL
 nse:sL≠eL
 s0:H0 sL=none
 e0:H0 eL=none
section
variable {H0 H:Hp} {p sc sL eL:Addr} {ras:List Addr} {es':List Nat} {st':List (List Nat)}
theorem Vm.np (S:Vm H0 p sc sL eL ras es' st' H) {a:Addr} (h:H0 a=none):p≠a∧sc≠a:=by
 obtain ⟨xs,h1,_⟩:=S.Kd.here
 obtain ⟨ns,h2⟩:=S.Kd.cells
 exact ⟨Zg h1 h,Zg h2 h⟩
theorem Vm.same (S:Vm H0 p sc sL eL ras es' st' H) {H':Hp} (e:Zo H H'):Vm H0 p sc sL eL ras es' st' H':=
 ⟨S.Kd,S.Mu.same e,λb o hb hne=>e _ _ (S.drew b o hb hne),e _ _ S.steps,e _ _ S.ends,S.len,λi a r h1 h2=>e _ _ (S.rows i a r h1 h2),S.nd,S.free,S.nse,S.s0,S.e0⟩
theorem Vm.go (S:Vm H0 p sc sL eL ras es' st' H) {xs:List V} (h:L4 sc xs):Vm H0 p sc sL eL ras es' st' (upd H p (.lst xs)):=
 ⟨S.Kd,S.Mu.go h,W8 S.drew _,(Zj (S.np S.s0).1.symm).trans S.steps,(Zj (S.np S.e0).1.symm).trans S.ends,S.len,λi a r h1 h2=>(Zj (S.np (S.free a (List.mem_of_getElem? h1)).1).1.symm).trans (S.rows i a r h1 h2),S.nd,S.free,S.nse,S.s0,S.e0⟩
theorem Mt {H:Hp} {p sc s0:Addr} {o:HO} (F:Yf H p sc) (h1:p≠s0∧sc≠s0):Yf (upd H s0 o) p sc:=U1 F h1.1 h1.2
theorem Mv {H0 H:Hp} {p a:Addr} (d:Ym H0 H p) (h:H0 a=none) (o:HO):Ym H0 (upd H a o) p:=λb u hb hne=>by
 rw [Zj (Zg hb h)]
 exact d b u hb hne
theorem Vm.row (S:Vm H0 p sc sL eL ras es' st' H) {i:Nat} {a:Addr} (ha:ras[i]? = some a) (r':List Nat):Vm H0 p sc sL eL ras es' (st'.set i r') (upd H a (.lst (r'.map nI))):=by
 obtain ⟨f1,f2,f3⟩:=S.free a (List.mem_of_getElem? ha)
 refine ⟨S.Kd,Mt S.Mu (S.np f1),Mv S.drew f1 _,(Zj f2.symm).trans S.steps,(Zj f3.symm).trans S.ends,by rw [List.length_set]; exact S.len,λj a' r h1 h2=>?_,S.nd,S.free,S.nse,S.s0,S.e0⟩
 have hi:=(List.getElem?_eq_some_iff.mp ha).1
 by_cases c:j=i
 ·subst c
  rw [ha] at h1
  cases h1
  rw [List.getElem?_set_self (by rw [← S.len]; exact hi)] at h2
  cases h2
  exact Zb
 ·rw [List.getElem?_set_ne (λz=>c z.symm)] at h2
  have na:a'≠a:=λz=>by
   subst z
   obtain ⟨hj,e1⟩:=List.getElem?_eq_some_iff.mp h1
   obtain ⟨hi,e2⟩:=List.getElem?_eq_some_iff.mp ha
   have i1:=List.Nodup.idxOf_getElem S.nd j hj
   have i2:=List.Nodup.idxOf_getElem S.nd i hi
   rw [e1] at i1
   rw [e2,i1] at i2
   exact c i2
  exact (Zj na).trans (S.rows j a' r h1 h2)
theorem Vm.more (S:Vm H0 p sc sL eL ras es' st' H) {a:Addr} {r:List Nat} (hr:H a=some (.lst (r.map nI))) (h0:H0 a=none) (hn:a∉ras) (hs:a≠sL) (he:a≠eL):Vm H0 p sc sL eL (ras ++ [a]) es' (st' ++ [r]) (upd H sL (.lst (ras.map V.ref ++ [.ref a]))):=by
 refine ⟨S.Kd,Mt S.Mu (S.np S.s0),Mv S.drew S.s0 _,by rw [Zb,List.map_append]; rfl,(Zj S.nse.symm).trans S.ends,by rw [List.length_append,List.length_append,S.len]; rfl,λj a' r' h1 h2=>?_,?_,λb hb=>?_,S.nse,S.s0,S.e0⟩
 ·rcases Nat.lt_or_ge j ras.length with z | z
  ·rw [List.getElem?_append_left z] at h1
   rw [List.getElem?_append_left (by rw [← S.len]; exact z)] at h2
   exact (Zj (S.free a' (List.mem_of_getElem? h1)).2.1).trans (S.rows j a' r' h1 h2)
  ·rw [List.getElem?_append_right z] at h1
   rw [List.getElem?_append_right (by rw [← S.len]; exact z),← S.len] at h2
   cases hj:j - ras.length with
   | zero=>
    rw [hj] at h1 h2
    cases h1
    cases h2
    exact (Zj hs).trans hr
   | succ n=>rw [hj] at h1; simp at h1
 ·rw [List.nodup_append]
  refine ⟨S.nd,by simp,λx hx y hy e=>?_⟩
  have:y=a:=by simpa using hy
  rw [e,this] at hx
  exact hn hx
 ·rcases List.mem_append.mp hb with z | z
  ·exact S.free b z
  ·rw [List.mem_singleton.mp z]
   exact ⟨h0,hs,he⟩
theorem Vm.end_ (S:Vm H0 p sc sL eL ras es' st' H) (es2:List Nat):Vm H0 p sc sL eL ras es2 st' (upd H eL (.lst (es2.map nI))):=
 ⟨S.Kd,Mt S.Mu (S.np S.e0),Mv S.drew S.e0 _,(Zj S.nse).trans S.steps,Zb,S.len,λi a r h1 h2=>(Zj (S.free a (List.mem_of_getElem? h1)).2.2).trans (S.rows i a r h1 h2),S.nd,S.free,S.nse,S.s0,S.e0⟩
theorem Vm.rowAt (S:Vm H0 p sc sL eL ras es' st' H) {x:Nat} (hx:x < st'.length):∃ a,ras[x]? = some a∧atI (ras.map V.ref) ((x:Nat):Int)=some (.ref a)∧H a=some (.lst ((st'.getD x []).map nI)):=by
 have hra:x < ras.length:=by rw [S.len]; exact hx
 exact ⟨ras[x],List.getElem?_eq_getElem hra,Zl (by rw [List.getElem?_map,List.getElem?_eq_getElem hra]; rfl),S.rows x _ _ (List.getElem?_eq_getElem hra) (getD_mem (l:=st') (d:=[]) hx).2⟩
end
inductive Bv (vs:List V) (H:Hp) (Q:VK):Prop
 | mk (p sc m:Addr) (l:Str) (b:Nat) (es:List Nat) (st:List (List Nat)) (h1:vs=[.ref p,.ref m,.int 6]) (h2:Z6 H m l b es st) (h3:Zma es st) (h4:Yf H p sc) (h5:∀ m' b' es' st' H',Z6 H' m' l b' es' st'→es'.length≤100∧st'.length≤6→Lk st es st' es' l.length b b'→Ym H H' p→Yf H' p sc→Q (.ref m') H'):Bv vs H Q
def E9:Sp:=λvs H Q u3_=>Bv vs H Q
theorem Zeb {n j:Nat} (h:j < n):ixN n ((j:Nat):Int)=some j:=by
 unfold ixN
 rw [if_pos (by omega),if_pos (by omega)]
 rfl
theorem Zm0 {r:Int} (h:0≤r):V.int r=nI r.toNat:=by
 show V.int r=V.int ((r.toNat:Nat):Int)
 rw [show ((r.toNat:Nat):Int)=r by omega]
def soR (H:Hp) (p sc m y eL:Addr) (l:Str) (st:List (List Nat)) (es:List Nat) (b:Nat) (i:Nat) (σ:L2.St) (H6:Hp):Prop:=∃ (b':Nat) (es':List Nat) (st':List (List Nat)) (ras:List Addr) (ph:Nat→Nat) (v7 v8 v9 v10:Option V),σ=[some (.ref p),some (.ref m),some (.int 6),some (.str l),some (nI b'),some (.ref eL),some (.ref y),v7,v8,v9,v10,none,none,none]∧Vm H p sc y eL ras es' st' H6∧Fold st es b l.length ph st' es' b'∧st'.length=st.length+i∧es'.length≤6+i
def soE (H:Hp) (p sc m y eL:Addr) (l:Str) (st:List (List Nat)) (es:List Nat) (b:Nat) (b' i y7:Nat) (st':List (List Nat)) (ph:Nat→Nat) (ras:List Addr) (a:Addr) (v9 v10:Option V) (σ':L2.St) (H':Hp):Prop:=∃ es2:List Nat,σ'=[some (.ref p),some (.ref m),some (.int 6),some (.str l),some (nI b'),some (.ref eL),some (.ref y),some (.int (0+(i:Int))),some (nI y7),v9,v10,none,none,none]∧Vm H p sc y eL (ras ++ [a]) es2 (st' ++ [st'.getD y7 []]) H'∧Fold st es b l.length (λr=>if r=st'.length then ph y7 else ph r) (st' ++ [st'.getD y7 []]) es2 b'∧es2.length≤6+(i+1)
def soL (H:Hp) (p sc m y eL:Addr) (l:Str) (st:List (List Nat)) (es:List Nat) (b:Nat) (b' i y7:Nat) (st':List (List Nat)) (ph2:Nat→Nat) (Qm:List Addr) (es2:List Nat) (i2:Nat) (σ:L2.St) (H11:Hp):Prop:=∃ (st3:List (List Nat)) (v9 v10:Option V),σ=[some (.ref p),some (.ref m),some (.int 6),some (.str l),some (nI b'),some (.ref eL),some (.ref y),some (.int (0+(i:Int))),some (nI y7),v9,v10,none,none,none]∧Vm H p sc y eL Qm es2 st3 H11∧Fold st es b l.length ph2 st3 es2 b'∧st3.length=st'.length+1
def soJ (H:Hp) (p sc m y eL:Addr) (l:Str) (st:List (List Nat)) (es:List Nat) (b:Nat) (b' i y7:Nat) (st':List (List Nat)) (ph2:Nat→Nat) (Qm:List Addr) (es2:List Nat) (a2:Addr) (j:Nat) (σ:L2.St) (H12:Hp):Prop:=∃ (st4:List (List Nat)) (v10:Option V),σ=[some (.ref p),some (.ref m),some (.int 6),some (.str l),some (nI b'),some (.ref eL),some (.ref y),some (.int (0+(i:Int))),some (nI y7),some (.ref a2),v10,none,none,none]∧Vm H p sc y eL Qm es2 st4 H12∧Fold st es b l.length ph2 st4 es2 b'∧st4.length=st'.length+1
theorem Qa {f:Addr} {fd:FuncData} (F:Fun K "_law_same_otherwise" "_law_same_otherwise" Z4 f fd) (Z:Blt mg) (Zr:Cal P w K mg base "_law_pick" 1 ["_law_flow_here","_law_many"] Qh):Yp P w K mg base CX0 2 f fd ["_law_flow_here","_law_machine_here","_law_most"] E9:=by
 refine F.ok Zp (λvs H Q E h=>?_) (λcdv A outer s H vs Q E hr h=>?_)
 ·obtain ⟨p,sc,m,l,b,es,st,rfl,_⟩:=h
  rfl
 obtain ⟨p,sc,m,l,b,es,st,rfl,M,EO,FA,k⟩:=h
 refine ⟨_,(Zd (Uv (pv 1) (V5 (K:=K) (n:=4) (by rfl) (Yd (Zk (i:=3) Zp.nd (by rfl) (Or.inl (by rfl))) (Yd (Zk (i:=4) Zp.nd (by rfl) (Or.inl (by rfl))) (Yd (Zk (i:=5) Zp.nd (by rfl) (Or.inl (by rfl))) (Yd (Zk (i:=6) Zp.nd (by rfl) (Or.inr (by rfl))) V4)))))) 
   (Zd (Zm (i:=6) Zp.nd (by rfl) (Or.inr (by rfl)) (Yc (sc:=Zf Z4) (Nm:=["_law_flow_here","_law_machine_here","_law_most","_law_letters_here","_law_begin","_law_ends","_law_steps","_law_turn","_law_like","_law_row","_law_at","_law_left","_law_order_here","_law_rows"]) (own:=["_law_row"]) (fr:=[]) ⟨rfl,by decide +kernel,by decide +kernel,by decide +kernel,by decide +kernel⟩ (by rfl) (Z2 (by decide)) (Zdw (Yv (K:=K) (pv 6)) (V3 (K:=K) (pv 6))) (λd=>(Zk (i:=0) Sv (by rfl) (Or.inl (by rfl)))) (λd=>Yb) (λd=>(Zu (U5 (K:=K)) (by rfl) Z.list Ro (Za (pv 0) Zc))))) 
   (Zd (Zm (i:=5) Zp.nd (by rfl) (Or.inl (by rfl)) (Zu (U5 (K:=K)) (by rfl) Z.list Ro (Za (pv 5) Zc))) 
   (Zd (Xx PassesOwn.never (by rfl) (Yz (by rfl) Z.range (Za (Yg Zr (hr.mono (by decide)) (Za (pv 0) (Za (Yj Wh (Yj O4 (pv 2) (Zn (Z3 (K:=K)) (by rfl) Z.len Ya (Za (pv 6) Zc))) Zh) Zc))) Zc)) (Zk (i:=7) Zp.nd (by rfl) (Or.inl (by rfl))) 
    (Zd (Zm (i:=8) Zp.nd (by rfl) (Or.inl (by rfl)) (Yg Zr (hr.mono (by decide)) (Za (pv 0) (Za (Zn (Z3 (K:=K)) (by rfl) Z.len Ya (Za (pv 6) Zc)) Zc)))) 
    (Zd (Xz (Xd (K:=K) PySem.F.plainAttrs_list PySem.F.slot_list_append PySem.F.type_list_append We (pv 6) (Za (Zu (U5 (K:=K)) (by rfl) Z.list Ro (Za (Zs (Zz (K:=K)) (pv 6) (pv 8) (λ_ _=>rfl)) Zc)) Zc))) 
    (Zdv (Xm (Z7 (Rc (K:=K)) (pv 8) (pv 5) (by with_unfolding_all rfl)) 
     (Zi (Xz (Xd (K:=K) PySem.F.plainAttrs_list PySem.F.slot_list_append PySem.F.type_list_append We (pv 5) (Za (Yj O4 (Zn (Z3 (K:=K)) (by rfl) Z.len Ya (Za (pv 6) Zc)) Zh) Zc)))) Yh) 
    (Zd (Xx PassesOwn.never (by rfl) (Zdw (Yv (K:=K) (pv 6)) (V3 (K:=K) (pv 6))) (Zk (i:=9) Zp.nd (by rfl) (Or.inl (by rfl))) 
     (Zi (Xx PassesOwn.never (by rfl) (Yz (by rfl) Z.range (Za (Zn (Z3 (K:=K)) (by rfl) Z.len Ya (Za (pv 9) Zc)) Zc)) (Zk (i:=10) Zp.nd (by rfl) (Or.inl (by rfl))) 
      (Zi (Xm (PW.pt (Le (Z7 Ue (Zs (Zz (K:=K)) (pv 9) (pv 10) (λ_ _=>rfl)) (pv 8) (Z8 _)) (P6 (Z7 Ue (Yg Zr (hr.mono (by decide)) (Za (pv 0) (Za Zh Zc))) Zh (Z8 _))))) 
       (Zi (Uv (Yj O4 (Zn (Z3 (K:=K)) (by rfl) Z.len Ya (Za (pv 6) Zc)) Zh) (Qp (pv 9) (pv 10) set_list))) Yh))))) 
    (Zi (Xm (PW.pt (Le (Z7 Ue (pv 4) (pv 8) (Z8 _)) (P6 (Z7 Ue (Yg Zr (hr.mono (by decide)) (Za (pv 0) (Za Zh Zc))) Zh (Z8 _))))) 
     (Zi (Zm (i:=4) Zp.nd (by rfl) (Or.inl (by rfl)) (Yj O4 (Zn (Z3 (K:=K)) (by rfl) Z.len Ya (Za (pv 6) Zc)) Zh))) Yh))))))) 
   (Zd (Zm (i:=11) Zp.nd (by rfl) (Or.inr (by rfl)) (Zfb (by rfl) (by rfl) Z.list (by rfl) Z.range (Zn (Z3 (K:=K)) (by rfl) Z.len Ya (Za (pv 6) Zc)))) 
   (Zd (Zm (i:=12) Zp.nd (by rfl) (Or.inr (by rfl)) (Yc (sc:=Zf Z4) (Nm:=["_law_flow_here","_law_machine_here","_law_most","_law_letters_here","_law_begin","_law_ends","_law_steps","_law_turn","_law_like","_law_row","_law_at","_law_left","_law_order_here","_law_rows"]) (own:=["_law_room"]) (fr:=[0,11]) ⟨rfl,by decide +kernel,by decide +kernel,by decide +kernel,by decide +kernel⟩ (by rfl) (Z2 (by decide)) (Zdw (Yv (K:=K) (pv 6)) (V3 (K:=K) (pv 6))) (λd=>(Zk (i:=0) Su (by rfl) (Or.inl (by rfl)))) (λd=>Yb) (λd=>(Xd (K:=K) PySem.F.plainAttrs_list PySem.F.slot_list_pop PySem.F.type_list_pop Aq (pv 2) (Za (Yg Zr (hr.mono (by decide)) (Za (pv 1) (Za (Zn (Z3 (K:=K)) (by rfl) Z.len Ya (Za (pv 2) Zc)) Zc))) Zc))))) 
   (Zd (Ob (i:=13) Zp.nd (by rfl) (by rfl) (sc:=Zf Z4) (Nm:=["_law_flow_here","_law_machine_here","_law_most","_law_letters_here","_law_begin","_law_ends","_law_steps","_law_turn","_law_like","_law_row","_law_at","_law_left","_law_order_here","_law_rows"]) (own:=["_law_room"]) (fr:=[6,12]) ⟨rfl,by decide +kernel,by decide +kernel,by decide +kernel,by decide +kernel⟩ (by rfl) (Z2 (by decide)) (Yv (K:=K) (pv 12)) (λd=>(Zk (i:=0) Ss (by rfl) (Or.inl (by rfl)))) (λd=>Yb) (λd=>(Zu (Yi (K:=K)) (by rfl) Z.tuple Yo (Za (Yc (sc:={ kind:=PySem.ScopeKind.function,names:=[ (PySem.Str.ofString ".0",PySem.NameKind.local),(PySem.Str.ofString "_law_room",PySem.NameKind.local),(PySem.Str.ofString "tuple",PySem.NameKind.globalImplicit),(PySem.Str.ofString "_law_order_here",PySem.NameKind.cell),(PySem.Str.ofString "_law_steps",PySem.NameKind.cell)],isGenerator:=false,isCoroutine:=false,more:=[]:PySem.Scope }) (Nm:=["_law_room","_law_steps","_law_order_here"]) (own:=["_law_to"]) (fr:=[2]) ⟨rfl,by decide +kernel,by decide +kernel,by decide +kernel,by decide +kernel⟩ (by rfl) (Z2 (by decide)) (Yv (K:=K) (Zs (Zz (K:=K)) (pv 1) (pv 0) (λ_ _=>rfl))) (λd=>(Zk (i:=0) Sr (by rfl) (Or.inl (by rfl)))) (λd=>Yb) (λd=>(Xd (K:=K) PySem.F.plainAttrs_list PySem.F.slot_list_index PySem.F.type_list_index Ln (pv 1) (Za (pv 0) Zc)))) Zc)))) 
   (Zi (Z1 (Vl (Za (pv 3) (Za (Xd (K:=K) PySem.F.plainAttrs_list PySem.F.slot_list_index PySem.F.type_list_index Ln (pv 12) (Za (pv 4) Zc)) (Za (Zu (Yi (K:=K)) (by rfl) Z.tuple Yo (Za (Zn (Zcu (K:=K)) (by rfl) Z.sorted Ep (Za (Yc (sc:=Zf Z4) (Nm:=["_law_flow_here","_law_machine_here","_law_most","_law_letters_here","_law_begin","_law_ends","_law_steps","_law_turn","_law_like","_law_row","_law_at","_law_left","_law_order_here","_law_rows"]) (own:=["_law_room"]) (fr:=[12]) ⟨rfl,by decide +kernel,by decide +kernel,by decide +kernel,by decide +kernel⟩ (by rfl) (Z2 (by decide)) (Yv (K:=K) (pv 5)) (λd=>(Zk (i:=0) So (by rfl) (Or.inl (by rfl)))) (λd=>Yb) (λd=>(Xd (K:=K) PySem.F.plainAttrs_list PySem.F.slot_list_index PySem.F.type_list_index Ln (pv 1) (Za (pv 0) Zc)))) Zc)) Zc)) (Za (Zu (Yi (K:=K)) (by rfl) Z.tuple Yo (Za (pv 13) Zc)) Zc)))))))))))))),?_⟩
 refine (let zz0:TS:=_; let zz1:TS:=Zq _ zz0; let zz2:TS:=Zq _ zz1; let zz3:TS:=Zq _ zz2; let zz4:TS:=_; let zz5:TS:=Zq _ zz4; let zz6:TS:=Znw _ zz5; let zz7:TS:=Zq _ zz6; let zz8:TS:=Zq _ zz7; let zz9:TS:=Zq (Jn _ _ zz8) zz3; let Ew:TS:=Zq _ zz9; let Zgh:TS:=Zq _ Ew; (?_:Zq _ Zgh _ _ _))
 obtain ⟨eA,sA,ra0,h1,h2,h3,h4,h5⟩:=M.lay
 have hst:=EO.2.2
 have hll:=M.few.2.1
 have Zad:=M.beg
 have Ov:Rp st l.length:=M.rows
 refine ⟨_,rfl,m,_,rfl,SqT.of h1,rfl,_,_,rfl,_,_,rfl,_,_,rfl,_,_,rfl,rfl,?_⟩
 refine Or.inr ⟨_,rfl,sA,rfl,⟨_,SqT.of h3⟩,?_⟩
 refine U2 (K:=K) (a:=sA) (xs:=ra0.map V.ref) (λi acc H2=>∃ ras:List Addr,acc=ras.map V.ref∧ras.length=i∧(∀ (j:Nat) a r,ras[j]? = some a→st[j]? = some r→H2 a=some (.lst (r.map nI)))∧(∀ a∈ras,∃ o,H2 a=some o)∧ras.Nodup∧(∀ a∈ras,H a=none)∧Zo H H2) (by rw [List.length_map]; exact Zt (by omega)) ⟨[],rfl,rfl,λj a r z=>by simp at z,λa z=>absurd z (by simp),List.nodup_nil,λa z=>absurd z (by simp),Zo.refl _⟩
  (λj acc H2 ⟨ras,e,hl,_⟩=>by rw [e,List.length_map,hl]; exact Nat.le_refl _) (λj acc H2 ⟨ras,e,hl,_,_,_,_,e2⟩=>SqT.of (e2 _ _ h3)) (λj acc H2 x hxj q=>?_) (λacc H2 q y hy=>?_)
 ·obtain ⟨ras,rfl,hl,X5,Ee,hnd,Ow,e2⟩:=q
  rw [List.getElem?_map] at hxj
  cases hc:ra0[j]? with
  | none=>rw [hc] at hxj; cases hxj
  | some a=>
   rw [hc] at hxj
   cases hxj
   have hj:j < st.length:=by rw [← h4]; exact (List.getElem?_eq_some_iff.mp hc).1
   have ha:=h5 j a _ hc (getD_mem (l:=st) (d:=[]) hj).2
   refine Vg ⟨_,rfl,a,_,rfl,.inr (SqT.of (e2 _ _ ha)),λq hq=>?_⟩
   have s3:=Ze hq (.lst ((st.getD j []).map nI))
   refine ⟨ras ++ [q],by rw [List.map_append]; rfl,by rw [List.length_append,hl]; rfl,λi a' r z1 z2=>?_,λa' h'=>?_,?_,λa' h'=>?_,e2.trans s3⟩
   ·rcases Nat.lt_or_ge i ras.length with z | z
    ·rw [List.getElem?_append_left z] at z1
     exact s3 _ _ (X5 i a' r z1 z2)
    ·rw [List.getElem?_append_right z] at z1
     cases hi:i - ras.length with
     | zero=>
      rw [hi] at z1
      cases z1
      have hij:i=j:=by omega
      subst hij
      rw [(getD_mem (l:=st) (d:=[]) hj).2] at z2
      cases z2
      exact Zb
     | succ n=>rw [hi] at z1; simp at z1
   ·rcases List.mem_append.mp h' with z | z
    ·obtain ⟨o,ho⟩:=Ee a' z
     exact ⟨o,s3 _ _ ho⟩
    ·rw [List.mem_singleton.mp z]
     exact ⟨_,Zb⟩
   ·rw [List.nodup_append]
    refine ⟨hnd,by simp,λx hx y hy e=>?_⟩
    have:y=q:=by simpa using hy
    rw [e,this] at hx
    obtain ⟨o,ho⟩:=Ee q hx
    rw [hq] at ho
    cases ho
   ·rcases List.mem_append.mp h' with z | z
    ·exact Ow a' z
    ·rw [List.mem_singleton.mp z]
     exact none_of e2 hq
 obtain ⟨ras,rfl,hl,X5,Ee,hnd,Ow,e2⟩:=q
 rw [List.length_map,h4] at hl
 have s3:=Ze hy (.lst (ras.map V.ref))
 have h3y:upd H2 y (.lst (ras.map V.ref)) y=some (.lst (ras.map V.ref)):=Zb
 have hny:∀ a∈ras,a≠y:=λa ha=>by
  obtain ⟨o,ho⟩:=Ee a ha
  exact Zg ho hy
 have hy0:=none_of e2 hy
 generalize upd H2 y (.lst (ras.map V.ref))=H3 at s3 h3y
 have e3:=e2.trans s3
 refine ⟨_,rfl,eA,_,rfl,.inr (SqT.of (e3 _ _ h2)),λeL heL=>?_⟩
 have s4:=Ze heL (.lst (es.map nI))
 have hne:∀ a∈ras,a≠eL:=λa ha=>by
  obtain ⟨o,ho⟩:=Ee a ha
  exact Zg (s3 _ _ ho) heL
 have S4:Vm H p sc y eL ras es st (upd H3 eL (.lst (es.map nI))):=
  ⟨FA,FA.same (e3.trans s4),Ym.same (e3.trans s4),s4 _ _ h3y,Zb,hl,λi a r q1 q2=>s4 _ _ (s3 _ _ (X5 i a r q1 q2)),hnd,λa ha=>⟨Ow a ha,hny a ha,hne a ha⟩,Zg h3y heL,hy0,none_of e3 heL⟩
 generalize upd H3 eL (.lst (es.map nI))=H4 at s4 S4
 have F4:=Fold.id_ Ov Zad EO.2.1
 clear hne s4 heL hny Ee X5 Ow
 have hy0:=S4.s0
 refine ⟨_,rfl,_,rfl,_,rfl,y,_,rfl,.inl (SqL.of S4.steps),_,_,rfl,rfl,_,_,rfl,rfl,p,sc,_,rfl,by rw [List.length_map]; omega,by rw [List.length_map]; omega,S4.Mu,λr0 xs0 hr0 hr1 hx0=>⟨_,rfl,by omega,by rw [List.length_map] at hr1; omega,?_⟩⟩
 rw [List.length_map] at hr1
 have S5:=S4.go hx0
 generalize upd H4 p (.lst xs0)=H5 at S5
 refine Ul (lo:=0) (n:=r0.toNat) (soR H p sc m y eL l st es b)
  ⟨b,es,st,ras,id,none,none,none,none,rfl,S5,F4,rfl,EO.1⟩ ?_ ?_
 ·rintro i σ H6 hi ⟨b',es',st',ras,ph,v7,v8,v9,v10,rfl,S6,F6,hl6,he6⟩
  have hs6:st'.length≤6:=by omega
  have hrl:=S6.len
  refine ⟨_,rfl,_,rfl,y,_,rfl,.inl (SqL.of S6.steps),p,sc,_,rfl,by rw [List.length_map]; have:=F6.beg.1; omega,by rw [List.length_map]; omega,S6.Mu,λr7 xs7 h70 h71 hx7=>?_⟩
  rw [List.length_map] at h71
  have S7:=S6.go hx7
  generalize upd H6 p (.lst xs7)=H7 at S7
  have hlk:r7.toNat < st'.length:=by omega
  obtain ⟨a7,ha7,Zpg,Zin⟩:=S7.rowAt hlk
  rw [Zm0 h70]
  generalize r7.toNat=y7 at hlk ha7 Zpg Zin
  refine ⟨_,rfl,.inl ⟨rfl,_,SqL.of S7.steps⟩,_,rfl,_,rfl,y,_,_,_,rfl,rfl,SqL.of S7.steps,Zpg,a7,_,rfl,.inl (SqL.of Zin),λa ha=>?_⟩
  have s8:=Ze ha (.lst ((st'.getD y7 []).map nI))
  have h8a:upd H7 a (.lst ((st'.getD y7 []).map nI)) a=some (.lst ((st'.getD y7 []).map nI)):=Zb
  have S8:=S7.same s8
  have ha0:H a=none:=by
   cases hc:H a with
   | none=>rfl
   | some o=>
    by_cases z:a=p
    ·obtain ⟨xs,q,_⟩:=S7.Mu.here
     rw [z,q] at ha
     cases ha
    ·rw [S7.drew a o hc z] at ha
     cases ha
  have nay:a≠y:=(Zg S7.steps ha).symm
  have nae:a≠eL:=(Zg S7.ends ha).symm
  have nar:a∉ras:=λz=>by
   obtain ⟨j,hj,e⟩:=List.getElem_of_mem z
   have hj':j < st'.length:=by omega
   have:=S7.rows j a _ (by rw [List.getElem?_eq_getElem hj,e]) (getD_mem (l:=st') (d:=[]) hj').2
   rw [ha] at this
   cases this
  generalize upd H7 a (.lst ((st'.getD y7 []).map nI))=H8 at s8 h8a S8
  refine ⟨y,_,_,rfl,rfl,S8.steps,by rw [List.length_map]; exact Zt (by omega),?_⟩
  have S9:=S8.more h8a ha0 nar nay nae
  generalize upd H8 y (.lst (ras.map V.ref ++ [.ref a]))=H9 at S9
  have F9:=F6.more hlk
  have hl9:(st' ++ [st'.getD y7 []]).length=st'.length+1:=by rw [List.length_append]; rfl
  have hpn:(if st'.length=st'.length then ph y7 else ph st'.length)=ph y7:=if_pos rfl
  have hpo:∀ r,r < st'.length→(if r=st'.length then ph y7 else ph r)=ph r:=λr hr=>if_neg (by omega)
  refine ⟨soE H p sc m y eL l st es b b' i y7 st' ph ras a v9 v10,?_,?_⟩
  ·have hin:inV (nI y7) (es'.map nI)=decide (y7∈es'):=Rm y7 es'
   refine ⟨_,rfl,_,rfl,eL,_,rfl,.inl (SqL.of S9.ends),rfl,Ui es',_,rfl,?_⟩
   rw [hin]
   refine V9 (λc=>?_) (λc=>?_)
   ·have c':y7∈es':=of_decide_eq_true c
    rw [if_pos c'] at F9
    refine ⟨_,rfl,.inl ⟨rfl,_,SqL.of S9.ends⟩,_,rfl,y,_,rfl,.inl (SqL.of S9.steps),_,_,rfl,rfl,eL,_,_,rfl,rfl,S9.ends,by rw [List.length_map]; exact Zt (by omega),?_⟩
    have e9:V.int ((((ras ++ [a]).map V.ref).length:Nat) - 1:Int)=nI st'.length:=by
     show V.int _=V.int ((st'.length:Nat):Int)
     rw [List.length_map,S9.len,hl9]
     congr 1
     omega
    have S9':Vm H p sc y eL (ras ++ [a]) (es' ++ [st'.length]) (st' ++ [st'.getD y7 []]) (upd H9 eL (.lst (es'.map nI ++ [V.int ((((ras ++ [a]).map V.ref).length:Nat) - 1:Int)]))):=by
     rw [e9,V7]
     exact S9.end_ _
    exact ⟨_,rfl,S9',F9,by rw [List.length_append]; show es'.length+1≤_; omega⟩
   ·have c':¬ y7∈es':=λz=>c (decide_eq_true z)
    rw [if_neg c'] at F9
    exact ⟨_,rfl,S9,F9,by omega⟩
  clear S9 F9 S8 h8a s8 Zin Zpg ha7 S7 S6
  rintro σ' H10 ⟨es2,rfl,S10,F10,Zpd⟩
  have hph:(λr=>if r=st'.length then ph y7 else ph r) st'.length=(λr=>if r=st'.length then ph y7 else ph r) y7:=by
   show (if st'.length=st'.length then ph y7 else ph st'.length)=if y7=st'.length then ph y7 else ph y7
   rw [hpn,hpo y7 hlk]
  generalize (λr=>if r=st'.length then ph y7 else ph r)=ph2 at F10 hph
  generalize hst2:st' ++ [st'.getD y7 []]=st2 at S10 F10 hl9
  generalize ras ++ [a]=Qm at S10
  clear hst2 hpn hpo nar nay nae ha0 hrl F6
  refine Or.inl ⟨_,rfl,y,rfl,⟨_,SqL.of S10.steps⟩,?_⟩
  refine Q7 (K:=K) (a:=y) (xs:=Qm.map V.ref) (soL H p sc m y eL l st es b b' i y7 st' ph2 Qm es2)
   ⟨st2,v9,v10,rfl,S10,F10,hl9⟩ (λi2 σ H11 _ h=>?_) ?_ ?_
  ·obtain ⟨_,_,_,_,S11,_⟩:=h
   exact SqL.of S11.steps
  ·rintro i2 x σ H11 hx ⟨st3,v9,v10,rfl,S11,F11,Zlm⟩
   rw [List.getElem?_map] at hx
   cases hc:Qm[i2]? with
   | none=>rw [hc] at hx; cases hx
   | some a2=>
    rw [hc] at hx
    cases hx
    have hi2:i2 < st3.length:=by rw [← S11.len]; exact (List.getElem?_eq_some_iff.mp hc).1
    have X5:=S11.rows i2 a2 _ hc (getD_mem (l:=st3) (d:=[]) hi2).2
    have hrw:=(F11.Vf _ (getD_mem (l:=st3) (i:=i2) (d:=[]) hi2).1).1
    refine ⟨_,rfl,a2,_,rfl,.inl (SqL.of X5),_,rfl,by omega,by rw [List.length_map]; omega,?_⟩
    rw [List.length_map,hrw]
    refine Ul (lo:=0) (n:=((l.length:Nat):Int).toNat) (soJ H p sc m y eL l st es b b' i y7 st' ph2 Qm es2 a2)
     ⟨st3,v10,rfl,S11,F11,Zlm⟩ ?_ ?_
    ·rintro j σ H12 hj ⟨st4,v10,rfl,S12,F12,Zcm⟩
     have hj':j < l.length:=by omega
     have hi4:i2 < st4.length:=by rw [Zcm,← Zlm]; exact hi2
     have hr4:=getD_mem (l:=st4) (i:=i2) (d:=[]) hi4
     have X5:=S12.rows i2 a2 _ hc hr4.2
     have hrw:=F12.Vf _ hr4.1
     have Zo7:st4[i2]? = some (st4.getD i2 []):=hr4.2
     have hstep:(st4.getD i2 []).getD j 0=stN st4 i2 j:=rfl
     generalize st4.getD i2 []=row at X5 hrw Zo7
     have hat:atI (row.map nI) (0+(j:Int))=some (nI (row.getD j 0)):=by
      rw [show (0:Int)+(j:Int)=((j:Nat):Int) by omega]
      exact Zl (by rw [List.getElem?_map,(getD_mem (l:=row) (d:=0) (show j < row.length by omega)).2]; rfl)
     refine ⟨_,rfl,_,rfl,a2,_,_,_,rfl,rfl,SqL.of X5,hat,_,rfl,rfl,_,rfl,?_⟩
     refine V9 (λc=>?_) (λc=>?_)
     ·have c':row.getD j 0=y7:=by
       have:=of_decide_eq_true c
       have:(((row.getD j 0:Nat):Int))=(y7:Int):=V.int.inj this
       omega
      refine ⟨_,rfl,p,sc,2,rfl,by decide,by decide,S12.Mu,λr13 Zni _ _ Zo6=>⟨rfl,_,rfl,?_⟩⟩
      have S13:=S12.go Zo6
      generalize upd H12 p (.lst Zni)=H13 at S13
      refine V9 (λ_=>?_) (λ_=>?_)
      ·have Zo8:=S13.rows i2 a2 _ hc Zo7
       refine ⟨_,rfl,y,_,rfl,.inl (SqL.of S13.steps),_,_,rfl,rfl,_,rfl,_,rfl,a2,_,_,j,rfl,rfl,Zo8,?_,?_⟩
       ·rw [List.length_map]
        show ixN row.length (0+(j:Int))=some j
        rw [show (0:Int)+(j:Int)=((j:Nat):Int) by omega]
        exact Zeb (by omega)
       ·have e9:V.int (((Qm.map V.ref).length:Nat) - 1:Int)=nI st'.length:=by
         show V.int _=V.int ((st'.length:Nat):Int)
         rw [List.length_map,S13.len,Zcm]
         congr 1
         omega
        have S14:Vm H p sc y eL Qm es2 (st4.set i2 (row.set j st'.length)) (upd H13 a2 (.lst ((row.map nI).set j (V.int (((Qm.map V.ref).length:Nat) - 1:Int))))):=by
         rw [e9,← List.map_set]
         exact S13.row hc _
        refine ⟨st4.set i2 (row.set j st'.length),_,rfl,S14,F12.set Zo7 (by omega) (by omega) ?_,by rw [List.length_set]; exact Zcm⟩
        rw [c']
        exact hph
      ·exact ⟨st4,_,rfl,S13,F12,Zcm⟩
     ·exact ⟨st4,_,rfl,S12,F12,Zcm⟩
    ·rintro σ H12 ⟨st4,v10,rfl,S12,F12,Zcm⟩
     exact ⟨st4,_,_,rfl,S12,F12,Zcm⟩
  ·rintro σ H11 ⟨st3,v9,v10,rfl,S11,F11,Zlm⟩
   refine ⟨_,rfl,_,rfl,rfl,_,rfl,?_⟩
   refine V9 (λc=>?_) (λc=>?_)
   ·have c':b'=y7:=by
     have:=of_decide_eq_true c
     have:(((b':Nat):Int))=(y7:Int):=V.int.inj this
     omega
    refine ⟨_,rfl,p,sc,2,rfl,by decide,by decide,S11.Mu,λr13 Zni _ _ Zo6=>⟨rfl,_,rfl,?_⟩⟩
    have S13:=S11.go Zo6
    generalize upd H11 p (.lst Zni)=H13 at S13
    refine V9 (λ_=>?_) (λ_=>?_)
    ·refine ⟨_,rfl,y,_,rfl,.inl (SqL.of S13.steps),_,_,rfl,rfl,?_⟩
     have e9:V.int (((Qm.map V.ref).length:Nat) - 1:Int)=nI st'.length:=by
      show V.int _=V.int ((st'.length:Nat):Int)
      rw [List.length_map,S13.len,Zlm]
      congr 1
      omega
     exact ⟨st'.length,es2,st3,Qm,ph2,_,_,_,_,(by rw [← e9]; rfl),S13,F11.begin (by omega) (by rw [c']; exact hph),by omega,Zpd⟩
    ·exact ⟨b',es2,st3,Qm,ph2,_,_,_,_,rfl,S13,F11,by omega,Zpd⟩
   ·exact ⟨b',es2,st3,Qm,ph2,_,_,_,_,rfl,S11,F11,by omega,Zpd⟩
 ·rintro σ H6 ⟨b',es',st',ras,ph,v7,v8,v9,v10,rfl,S6,F6,hl6,he6⟩
  have hs6:st'.length≤6:=by omega
  have hrl:=S6.len
  have Zlj:(ras.map V.ref).length=st'.length:=by rw [List.length_map,hrl]
  refine ⟨_,rfl,y,_,rfl,.inl (SqL.of S6.steps),(ras.map V.ref).length,rfl,by omega,λlf hlf=>?_⟩
  rw [Zlj]
  have s7:=Ze hlf (.lst ((List.range st'.length).map λi:Nat=>V.int (i:Int)))
  have h7l:upd H6 lf (.lst ((List.range st'.length).map λi:Nat=>V.int (i:Int))) lf=some (.lst ((List.range st'.length).map nI)):=Zb
  have S7:=S6.same s7
  have Zpb:H lf=none:=by
   cases hc:H lf with
   | none=>rfl
   | some o=>
    by_cases z:lf=p
    ·obtain ⟨xs,q,_⟩:=S6.Mu.here
     rw [z,q] at hlf
     cases hlf
    ·rw [S6.drew lf o hc z] at hlf
     cases hlf
  have nly:y≠lf:=Zg S6.steps hlf
  have nle:eL≠lf:=Zg S6.ends hlf
  have nlr:∀ a∈ras,a≠lf:=λa ha=>by
   obtain ⟨j,hj,e⟩:=List.getElem_of_mem ha
   exact Zg (S6.rows j a _ (by rw [List.getElem?_eq_getElem hj,e]) (getD_mem (l:=st') (d:=[]) (by omega)).2) hlf
  have Sput:∀ {H':Hp} (o:HO),Vm H p sc y eL ras es' st' H'→Vm H p sc y eL ras es' st' (upd H' lf o):=λo S=>
   ⟨S.Kd,Mt S.Mu (S.np Zpb),Mv S.drew Zpb _,(Zj nly).trans S.steps,(Zj nle).trans S.ends,S.len,λi a r h1 h2=>(Zj (nlr a (List.mem_of_getElem? h1))).trans (S.rows i a r h1 h2),S.nd,S.free,S.nse,S.s0,S.e0⟩
  generalize upd H6 lf (.lst ((List.range st'.length).map λi:Nat=>V.int (i:Int)))=H7 at s7 h7l S7
  refine Or.inl ⟨_,rfl,y,rfl,⟨_,SqL.of S7.steps⟩,?_⟩
  refine Xi (K:=K) (a:=y) (xs:=ras.map V.ref) (λi acc H8=>∃ ys rem:List Nat,acc=ys.map nI∧ys.length=i∧H8 lf=some (.lst (rem.map nI))∧(ys ++ rem).Perm (List.range st'.length)∧Vm H p sc y eL ras es' st' H8) (by rw [Zlj]; exact Zt (by omega)) ⟨[],List.range st'.length,rfl,rfl,h7l,List.Perm.refl _,S7⟩
   (λi acc H8 ⟨ys,rem,e,hl,_⟩=>by rw [e,List.length_map,hl]; exact Nat.le_refl _) (λi acc H8 ⟨ys,rem,e,hl,_,_,S8⟩=>SqL.of S8.steps) (λi acc H8 x hx q=>?_) (λacc H8 q op hop=>?_)
  ·obtain ⟨ys,rem,rfl,hyl,h8l,Tu,S8⟩:=q
   have hi:=(List.getElem?_eq_some_iff.mp hx).1
   rw [Zlj] at hi
   have hlen:ys.length+rem.length=st'.length:=by
    have:=Tu.length_eq
    rw [List.length_append,List.length_range] at this
    exact this
   refine Vg ⟨_,rfl,.inl ⟨rfl,_,SqL.of h8l⟩,_,rfl,_,rfl,lf,_,rfl,.inl (SqL.of h8l),p,sc,_,rfl,by rw [List.length_map]; omega,by rw [List.length_map]; omega,S8.Mu,λr9 xs9 h90 h91 hx9=>?_⟩
   rw [List.length_map] at h91
   have hrn:r9.toNat < rem.length:=by omega
   have hv:rem[r9.toNat]? = some rem[r9.toNat]:=List.getElem?_eq_getElem hrn
   have S9:=S8.go hx9
   have h9l:upd H8 p (.lst xs9) lf=some (.lst (rem.map nI)):=(Zj (S8.np Zpb).1.symm).trans h8l
   generalize upd H8 p (.lst xs9)=H9 at S9 h9l
   refine ⟨lf,_,r9,r9.toNat,nI rem[r9.toNat],rfl,rfl,h9l,by omega,by omega,?_,?_,?_⟩
   ·rw [List.length_map]
    exact seqIndex_of h90 h91
   ·rw [List.getElem?_map,hv]
    rfl
   ·refine ⟨ys ++ [rem[r9.toNat]],rem.eraseIdx r9.toNat,by rw [List.map_append]; rfl,by rw [List.length_append,hyl]; rfl,?_,?_,Sput _ S9⟩
    ·rw [Zb,Lx]
    ·rw [List.append_assoc]
     exact (List.Perm.append_left ys (Ng hv)).trans Tu
  obtain ⟨ys,rem,rfl,hyl,h8l,Tu,S8⟩:=q
  rw [Zlj] at hyl
  have Zci:rem=[]:=by
   have:=Tu.length_eq
   rw [List.length_append,List.length_range] at this
   exact List.eq_nil_of_length_eq_zero (by omega)
  rw [Zci,List.append_nil] at Tu
  clear Zci h8l
  have s9:=Ze hop (.lst (ys.map nI))
  have h9o:upd H8 op (.lst (ys.map nI)) op=some (.lst (ys.map nI)):=Zb
  have S9:=S8.same s9
  generalize upd H8 op (.lst (ys.map nI))=H9 at s9 h9o S9
  have hin:∀ x,x < st'.length→x∈ys:=λx hx=>Tu.mem_iff.mpr (List.mem_range.mpr hx)
  have Zlk:∀ x,x∈ys→x < st'.length:=λx hx=>List.mem_range.mp (Tu.mem_iff.mp hx)
  have Zrx:ys.map nI=(ys.map λn:Nat=>(n:Int)).map V.int:=by rw [List.map_map]; rfl
  have hI:∀ {H':Hp},H' op=some (.lst (ys.map nI))→H' op=some (.lst ((ys.map λn:Nat=>(n:Int)).map V.int)):=λh=>by rw [← Zrx]; exact h
  have hmI:∀ {x:Nat},x < st'.length→((x:Nat):Int)∈ys.map λn:Nat=>(n:Int):=λ{x} hx=>List.mem_map.mpr ⟨x,hin x hx,rfl⟩
  refine ⟨_,rfl,op,rfl,⟨_,SqL.of h9o⟩,?_⟩
  refine Xi (K:=K) (a:=op) (xs:=ys.map nI) (λi acc H10=>Ug H10 acc ((ys.map λx=>(st'.getD x []).map λt=>ys.idxOf t).take i)∧Zo H9 H10) (by rw [List.length_map,hyl]; exact Zt (by omega)) ⟨⟨rfl,λi x r a=>by simp at a⟩,Zo.refl _⟩
   (λi acc H8 p=>by rw [p.1.1,List.length_take]; exact Nat.min_le_left _ _) (λi acc H10 q=>SqL.of (q.2 _ _ h9o)) (λi acc H10 x' hx' q=>?_) (λacc H10 q rp hrp=>?_)
  ·obtain ⟨R10,e10⟩:=q
   rw [List.getElem?_map] at hx'
   cases hc:ys[i]? with
   | none=>rw [hc] at hx'; cases hx'
   | some x=>
    rw [hc] at hx'
    cases hx'
    have hx:=Zlk x (List.mem_of_getElem? hc)
    obtain ⟨a,ha1,ha2,ha3⟩:=S9.rowAt hx
    have hrw:=F6.Vf _ (getD_mem (l:=st') (i:=x) (d:=[]) hx).1
    refine Vg ⟨_,rfl,_,rfl,y,_,_,_,rfl,rfl,SqL.of (e10 _ _ S9.steps),ha2,a,rfl,⟨_,SqL.of (e10 _ _ ha3)⟩,?_⟩
    refine Xi (K:=K) (a:=a) (xs:=(st'.getD x []).map nI) (λj' acc H12=>acc=((st'.getD x []).take j').map (λt=>nI (ys.idxOf t))∧Zo H10 H12) (by rw [List.length_map]; exact Zt (by omega)) ⟨rfl,Zo.refl _⟩ (λj' acc H12 q=>by rw [q.1,List.length_map,List.length_take]; exact Nat.min_le_left _ _)
     (λj' acc H12 q=>SqL.of (q.2 _ _ (e10 _ _ ha3))) (λj' acc H12 x' hxj q=>?_) (λacc H12 q lp hlp=>?_)
    ·obtain ⟨rfl,e12⟩:=q
     rw [List.getElem?_map] at hxj
     cases hc2:(st'.getD x [])[j']? with
     | none=>rw [hc2] at hxj; cases hxj
     | some t=>
      rw [hc2] at hxj
      cases hxj
      have Cs:=e12 _ _ (e10 _ _ h9o)
      refine Vg ⟨_,rfl,.inl ⟨rfl,_,SqL.of Cs⟩,_,rfl,op,_,_,rfl,rfl,hI Cs,hmI (hrw.2 t (List.mem_of_getElem? hc2)),?_,e12⟩
      rw [map_take hc2,Hn]
      rfl
    obtain ⟨rfl,e12⟩:=q
    rw [List.length_map,List.take_length]
    have u2:=Ze hlp (.lst ((st'.getD x []).map λt=>nI (ys.idxOf t)))
    refine ⟨lp,_,rfl,.inl ⟨SqL.of Zb,λz hz=>?_⟩⟩
    have u3:=Ze hz (.tup ((st'.getD x []).map λt=>nI (ys.idxOf t)))
    have u13:=(e12.trans u2).trans u3
    refine ⟨?_,e10.trans u13⟩
    have X5:(ys.map λx=>(st'.getD x []).map λt=>ys.idxOf t)[i]? = some ((st'.getD x []).map λt=>ys.idxOf t):=by
     rw [List.getElem?_map,hc]
     rfl
    rw [List.take_add_one,X5]
    refine (R10.keep (Tk.same u13)).snoc ?_
    refine Zb.trans ?_
    rw [List.map_map]
    rfl
  obtain ⟨R10,e10⟩:=q
  have htl:(ys.map λx=>(st'.getD x []).map λt=>ys.idxOf t).take (ys.map nI).length=ys.map λx=>(st'.getD x []).map λt=>ys.idxOf t:=List.take_of_length_le (by rw [List.length_map,List.length_map]; exact Nat.le_refl _)
  rw [htl] at R10
  obtain ⟨rr,rfl,r1,r2⟩:=R10.ras
  have u1:=Ze hrp (.lst (rr.map V.ref))
  have Zr5:upd H10 rp (.lst (rr.map V.ref)) rp=some (.lst (rr.map V.ref)):=Zb
  have r2':∀ (i:Nat) a r,rr[i]? = some a→(ys.map λx=>(st'.getD x []).map λt=>ys.idxOf t)[i]? = some r→upd H10 rp (.lst (rr.map V.ref)) a=some (.tup (r.map nI)):=λi a r q1 q2=>u1 _ _ (r2 i a r q1 q2)
  have e11:=e10.trans u1
  generalize upd H10 rp (.lst (rr.map V.ref))=H11 at u1 Zr5 r2' e11
  have G8:=e11 _ _ h9o
  refine ⟨_,rfl,_,rfl,.inl ⟨rfl,_,SqL.of G8⟩,_,rfl,op,_,_,rfl,rfl,hI G8,hmI F6.beg.1,?_⟩
  refine ⟨_,rfl,eL,rfl,⟨_,SqL.of (e11 _ _ S9.ends)⟩,?_⟩
  refine Xi (K:=K) (a:=eL) (xs:=es'.map nI) (λj' acc H12=>acc=(es'.take j').map (λt=>nI (ys.idxOf t))∧Zo H11 H12) (by rw [List.length_map]; exact Zt (by omega)) ⟨rfl,Zo.refl _⟩ (λj' acc H12 q=>by rw [q.1,List.length_map,List.length_take]; exact Nat.min_le_left _ _)
   (λj' acc H12 q=>SqL.of (q.2 _ _ (e11 _ _ S9.ends))) (λj' acc H12 x' hxj q=>?_) (λacc H12 q lp hlp=>?_)
  ·obtain ⟨rfl,e12⟩:=q
   rw [List.getElem?_map] at hxj
   cases hc2:es'[j']? with
   | none=>rw [hc2] at hxj; cases hxj
   | some t=>
    rw [hc2] at hxj
    cases hxj
    have Cs:=e12 _ _ G8
    refine Vg ⟨_,rfl,.inl ⟨rfl,_,SqL.of Cs⟩,_,rfl,op,_,_,rfl,rfl,hI Cs,hmI (F6.elt t (List.mem_of_getElem? hc2)),?_,e12⟩
    rw [map_take hc2,Hn]
    rfl
  obtain ⟨rfl,e12⟩:=q
  rw [List.length_map,List.take_length]
  have Zpf:(es'.map λt=>nI (ys.idxOf t))=(es'.map λt=>((ys.idxOf t:Nat):Int)).map V.int:=by rw [List.map_map]; rfl
  have u2:=Ze hlp (.lst (es'.map λt=>nI (ys.idxOf t)))
  refine ⟨lp,es'.map λt=>((ys.idxOf t:Nat):Int),rfl,SqL.of (by rw [← Zpf]; exact Zb),by rw [List.length_map]; omega,λns' sp hpm _ hsp=>?_⟩
  have u3:=Ze hsp (.lst (ns'.map V.int))
  refine ⟨sp,_,rfl,.inl ⟨SqL.of Zb,λep hep=>?_⟩⟩
  have u4:=Ze hep (.tup (ns'.map V.int))
  have u24:=(u2.trans u3).trans u4
  have hns:ns'=(ns'.map Int.toNat).map λn:Nat=>(n:Int):=by
   rw [List.map_map]
   refine (List.map_id ns').symm.trans (List.map_congr_left λz hz=>?_)
   obtain ⟨t,_,e⟩:=List.mem_map.mp (hpm.mem_iff.mp hz)
   show z=((z.toNat:Nat):Int)
   omega
  have Zr2:upd (upd (upd H12 lp (.lst (es'.map λt=>nI (ys.idxOf t)))) sp (.lst (ns'.map V.int))) ep (.tup (ns'.map V.int)) ep=some (.tup ((ns'.map Int.toNat).map nI)):=by
   rw [Zb]
   refine congrArg (λz=>some (HO.tup z)) ?_
   conv=>lhs; rw [hns]
   rw [List.map_map,List.map_map,List.map_map]
   rfl
  generalize upd (upd (upd H12 lp (.lst (es'.map λt=>nI (ys.idxOf t)))) sp (.lst (ns'.map V.int))) ep (.tup (ns'.map V.int))=H14 at u4 u24 Zr2
  have e14:=e12.trans u24
  refine ⟨_,rfl,rp,_,rfl,.inl ⟨SqL.of (e14 _ _ Zr5),λtp htp=>⟨(by show 4≤sizeLine; decide),λm' hm'=>?_⟩⟩⟩
  have u5:=Ze htp (.tup (rr.map V.ref))
  have u6:=Ze hm' (.tup [V.str l,V.int (((ys.map λn:Nat=>(n:Int)).idxOf ((b':Nat):Int):Nat):Int),.ref ep,.ref tp])
  have u56:=u5.trans u6
  have F14:=F6.perm (es2:=ns'.map Int.toNat) Tu λx=>by
   rw [List.mem_map,List.mem_map]
   constructor
   ·rintro ⟨z,hz,rfl⟩
    obtain ⟨t,ht,e⟩:=List.mem_map.mp (hpm.mem_iff.mp hz)
    exact ⟨t,ht,by rw [← e]; rfl⟩
   ·rintro ⟨t,ht,rfl⟩
    exact ⟨((ys.idxOf t:Nat):Int),hpm.mem_iff.mpr (List.mem_map.mpr ⟨t,ht,rfl⟩),rfl⟩
  have Zit:(ys.map λx=>(st'.getD x []).map λt=>ys.idxOf t).length=st'.length:=by rw [List.length_map,hyl]
  have Zsf:=(e11.trans e14).trans u56
  refine k m' (ys.idxOf b') (ns'.map Int.toNat) (ys.map λx=>(st'.getD x []).map λt=>ys.idxOf t) _ ⟨⟨ep,tp,rr,by rw [Zb,Hn]; rfl,u56 _ _ Zr2,u6 _ _ Zb,r1,λi a r q1 q2=>u56 _ _ (e14 _ _ (r2' i a r q1 q2))⟩,⟨M.few.1,hll,by rw [Zit]; omega⟩,F14.beg.1,F14.Vf⟩ ⟨?_,by rw [Zit]; exact hs6⟩ F14.lk (λb o hb hne=>Zsf _ _ (S9.drew b o hb hne)) (S9.Mu.same Zsf)
  rw [List.length_map,hpm.length_eq,List.length_map]
  omega
theorem Zh1 {f:Addr} {fd:FuncData} (F:Fun K "takes" "takes" P1 f fd) (Z:Blt mg) (Wf:Cal P w K mg base "room_behind" 1 ["machine","room","text"] Jt):Yp P w K mg base CX0 2 f fd ["machine","text"] E2:=by
 refine F.ok Zg3 (λvs H Q E h=>?_) (λcdv A outer s H vs Q E hr h=>?_)
 ·obtain ⟨m,l,b,es,st,t,rfl,_⟩:=h
  rfl
 obtain ⟨m,l,b,es,st,t,rfl,M,ht,k⟩:=h
 refine ⟨_,(Zi (Z1 (Xu (Rc (K:=K)) (Yg Wf (hr.mono (by decide)) (Za (pv 0) (Za (Zs (Zw (K:=K)) (pv 0) Zh (λ_ _=>rfl)) (Za (pv 1) Zc)))) (Zs (Zw (K:=K)) (pv 0) Zh (λ_ _=>rfl)) (by with_unfolding_all rfl)))),?_⟩
 obtain ⟨e,s',ras,h1,h2,h3,h4,h5⟩:=M.lay
 refine ⟨_,rfl,_,rfl,m,_,_,_,rfl,rfl,SqT.of h1,Zl (j:=1) rfl,_,rfl,m,l,b,es,st,b,t,rfl,M,M.beg,ht,?_⟩
 exact ⟨_,rfl,m,_,_,_,rfl,rfl,SqT.of h1,Zl (j:=2) rfl,e,_,rfl,.inr (SqT.of h2),rfl,Ui es,k⟩
theorem Hi {l:Str} {n:Nat} (h:X6 l n):l.cps.toList.Nodup:=h.2.1.imp λh=>Nat.ne_of_lt h
inductive Zdg (vs:List V) (H:Hp) (Q:VK):Prop
 | mk (p sc:Addr) (h1:vs=[.ref p]) (h2:Yf H p sc) (h3:∀ m l b es st H',Z6 H' m l b es st→Zma es st→X6 l l.length→Ym H H' p→Yf H' p sc→Q (.ref m) H'):Zdg vs H Q
def Zbd:Sp:=λvs H Q u3_=>Zdg vs H Q
theorem Ak {f:Addr} {fd:FuncData} (F:Fun K "_law_some" "_law_some" Vy f fd) (Z:Blt mg) (Zr:Cal P w K mg base "_law_pick" 1 ["_law_flow_here","_law_many"] Qh) (Si:Cal P w K mg base "_law_letters" 2 ["_law_flow_here","_law_many"] Lb) (Wg:Cal P w K mg base "_law_machine" 2 ["_law_flow_here","_law_letters_here","_law_most"] Vw) (Ww:Cal P w K mg base "_law_rising_machine" 2 ["_law_flow_here","_law_letters_here","_law_most"] Vw):Yp P w K mg base CX0 3 f fd ["_law_flow_here"] Zbd:=by
 refine F.ok Qj (λvs H Q E h=>?_) (λcdv A outer s H vs Q E hr h=>?_)
 ·obtain ⟨p,sc,rfl,_⟩:=h
  rfl
 obtain ⟨p,sc,rfl,FA,k⟩:=h
 refine ⟨_,(Zd (Zm (i:=1) Qj.nd (by rfl) (Or.inl (by rfl)) (Xu Ue (Yg Zr (hr.mono (by decide)) (Za (pv 0) (Za Zh Zc))) Zh (Z8 _))) 
   (Zd (Zm (i:=2) Qj.nd (by rfl) (Or.inl (by rfl)) (Yg Si (hr.mono (by decide)) (Za (pv 0) (Za (Yj Wh Zh (Yg Zr (hr.mono (by decide)) (Za (pv 0) (Za Zh Zc)))) Zc)))) 
   (Zd (Xm (Yy (K:=K) (pv 1) (λ_=>rfl)) 
    (Zi (Z1 (Yg Ww (hr.mono (by decide)) (Za (pv 0) (Za (pv 2) (Za Zh Zc)))))) Yh) 
   (Zi (Z1 (Yg Wg (hr.mono (by decide)) (Za (pv 0) (Za (pv 2) (Za Zh Zc))))))))),?_⟩
 refine (let zz0:TS:=_; let zz1:TS:=Zq _ zz0; let zz2:TS:=Zq _ zz1; (?_:Zq _ zz2 _ _ _))
 refine ⟨_,rfl,p,sc,3,rfl,by decide,by decide,FA,λr1 xs1 _ _ hx1=>⟨rfl,?_⟩⟩
 have FA1:=FA.go hx1
 have d1:Ym H (upd H p (.lst xs1)) p:=Ym.upd _
 generalize upd H p (.lst xs1)=H1 at FA1 d1
 refine ⟨_,rfl,_,rfl,p,sc,3,rfl,by decide,by decide,FA1,λr2 xs2 h20 h21 hx2=>⟨_,_,rfl,rfl,p,sc,1+r2,rfl,by omega,by omega,FA1.go hx2,λl H3 hl dr3 FA3=>?_⟩⟩
 have d3:=(W8 d1 (.lst xs2)).trans dr3
 have hll:=len_list l
 have hl0:0 < l.length:=by rw [← hll,hl.1]; omega
 have hl1:l.length≤3:=by rw [← hll,hl.1]; omega
 refine ⟨_,rfl,_,rfl,?_⟩
 refine V9 (λ_=>?_) (λ_=>?_)
 ·exact ⟨_,rfl,_,rfl,p,sc,l,6,rfl,hl0,hl1,by decide,by decide,FA3,λm b es st H4 M eo dr4 FA4=>k m l b es st H4 M eo ⟨hll,hl.2⟩ (d3.trans dr4) FA4⟩
 ·exact ⟨_,rfl,_,rfl,p,sc,l,6,rfl,hl0,hl1,by decide,by decide,FA3,λm b es st H4 M eo dr4 FA4=>k m l b es st H4 M eo ⟨hll,hl.2⟩ (d3.trans dr4) FA4⟩
inductive Zdj (vs:List V) (H:Hp) (Q:VK):Prop
 | mk (p sc m:Addr) (l:Str) (b:Nat) (es:List Nat) (st:List (List Nat)) (h1:vs=[.ref p,.ref m]) (h2:Z6 H m l b es st) (h3:Zma es st) (h4:Yf H p sc) (h5:∀ m' b' es' st' H',Z6 H' m' l b' es' st'→es'.length≤100→st'.length≤6→Ym H H' p→Yf H' p sc→Q (.ref m') H'):Zdj vs H Q
def Zbe:Sp:=λvs H Q u3_=>Zdj vs H Q
theorem Zjk (xs:List V) (k:Nat):Q8 xs none (some ((k:Nat):Int))=xs.take k:=by
 unfold Q8
 rw [HT.Dm,HT.J5,List.drop_zero,Nat.sub_zero]
 rcases Nat.lt_or_ge k xs.length with z | z
 ·rw [Nat.min_eq_left (by omega)]
 ·rw [Nat.min_eq_right z,List.take_of_length_le z,List.take_length]
theorem Zjl (xs:List V) (k:Nat) (h:k≤xs.length):Q8 xs (some ((k:Nat):Int)) none=xs.drop k:=by
 unfold Q8
 rw [HT.Dm,HT.J5,Nat.min_eq_left h,List.take_of_length_le (by rw [List.length_drop]; exact Nat.le_refl _)]
theorem Am {f:Addr} {fd:FuncData} (F:Fun K "_law_near" "_law_near" Va f fd) (Z:Blt mg) (Zr:Cal P w K mg base "_law_pick" 1 ["_law_flow_here","_law_many"] Qh) (Wg:Cal P w K mg base "_law_machine" 2 ["_law_flow_here","_law_letters_here","_law_most"] Vw) (Py:Cal P w K mg base "_law_least" 1 ["_law_machine_here"] Jz) (Wv:Cal P w K mg base "_law_same_otherwise" 2 ["_law_flow_here","_law_machine_here","_law_most"] E9):Yp P w K mg base CX0 3 f fd ["_law_flow_here","_law_machine_here"] Zbe:=by
 refine F.ok Xe (λvs H Q E h=>?_) (λcdv A outer s H vs Q E hr h=>?_)
 ·obtain ⟨p,sc,m,l,b,es,st,rfl,_⟩:=h
  rfl
 obtain ⟨p,sc,m,l,b,es,st,rfl,M,EO,FA,k⟩:=h
 refine ⟨_,(Zd (Zm (i:=2) Xe.nd (by rfl) (Or.inl (by rfl)) (Yg Zr (hr.mono (by decide)) (Za (pv 0) (Za Zh Zc)))) 
   (Zd (Uv (pv 1) (V5 (K:=K) (n:=4) (by rfl) (Yd (Zk (i:=3) Xe.nd (by rfl) (Or.inl (by rfl))) (Yd (Zk (i:=4) Xe.nd (by rfl) (Or.inl (by rfl))) (Yd (Zk (i:=5) Xe.nd (by rfl) (Or.inl (by rfl))) (Yd (Zk (i:=6) Xe.nd (by rfl) (Or.inl (by rfl))) V4)))))) 
   (Zd (Xm (Z7 Ue (pv 2) Zh (Z8 _)) 
    (Zi (Z1 (Yg Wg (hr.mono (by decide)) (Za (pv 0) (Za (pv 3) (Za Zh Zc)))))) Yh) 
   (Zd (Xm (Z7 Ue (pv 2) Zh (Z8 _)) 
    (Zi (Z1 (Yg Py (hr.mono (by decide)) (Za (pv 1) Zc)))) Yh) 
   (Zd (Zm (i:=7) Xe.nd (by rfl) (Or.inr (by rfl)) (Yg Wv (hr.mono (by decide)) (Za (pv 0) (Za (pv 1) (Za Zh Zc))))) 
   (Zd (Xm (Z7 Ue (pv 2) Zh (Z8 _)) 
    (Zi (Z1 (pv 7))) Yh) 
   (Zd (Zm (i:=8) Xe.nd (by rfl) (Or.inr (by rfl)) (Yg Zr (hr.mono (by decide)) (Za (pv 0) (Za (Zn (Z3 (K:=K)) (by rfl) Z.len Ya (Za (Zs (Zw (K:=K)) (pv 7) Zh (λ_ _=>rfl)) Zc)) Zc)))) 
   (Zd (Xm (Z7 F5 (pv 2) Zh (Z8 _)) 
    (Zd (Ob (i:=9) Xe.nd (by rfl) (by rfl) (sc:=Zf Va) (Nm:=["_law_flow_here","_law_machine_here","_law_way","_law_letters_here","_law_begin","_law_ends","_law_steps","_law_other","_law_at","_law_some_here","_law_row"]) (own:=["_law_room"]) (fr:=[7,8]) ⟨rfl,by decide +kernel,by decide +kernel,by decide +kernel,by decide +kernel⟩ (by rfl) (Z2 (by decide)) (Yz (by rfl) Z.range (Za (Zn (Z3 (K:=K)) (by rfl) Z.len Ya (Za (Zs (Zw (K:=K)) (pv 7) Zh (λ_ _=>rfl)) Zc)) Zc)) (λd=>(Zk (i:=0) Gz (by rfl) (Or.inl (by rfl)))) (λd=>(Oa (Z7 Qt (Xu (Rc (K:=K)) (pv 0) (Zs (Zw (K:=K)) (pv 1) Zh (λ_ _=>rfl)) (by with_unfolding_all rfl)) (Xu Ue (pv 0) (pv 2) (Z8 _)) (Z8 _)))) (λd=>(pv 0))) 
    (Zi (Z1 (Yj (Jb (K:=K)) (Sm (K5 (K:=K)) (pv 7) Od (Oc Zh)) (Vl (Za (Zu (Yi (K:=K)) (by rfl) Z.tuple Yo (Za (pv 9) Zc)) (Za (Zs (Zw (K:=K)) (pv 7) Zh (λ_ _=>rfl)) Zc))))))) Yh) 
   (Zd (Zm (i:=10) Xe.nd (by rfl) (Or.inl (by rfl)) (Zu (U5 (K:=K)) (by rfl) Z.list Ro (Za (Zs (Zw (K:=K)) (Zs (Zw (K:=K)) (pv 7) Zh (λ_ _=>rfl)) (pv 8) (λ_ _=>rfl)) Zc))) 
   (Zd (Uv (Yg Zr (hr.mono (by decide)) (Za (pv 0) (Za (Zn (Z3 (K:=K)) (by rfl) Z.len Ya (Za (Zs (Zw (K:=K)) (pv 7) Zh (λ_ _=>rfl)) Zc)) Zc))) (Qp (pv 10) (Yg Zr (hr.mono (by decide)) (Za (pv 0) (Za (Zn (Z3 (K:=K)) (by rfl) Z.len Ya (Za (pv 10) Zc)) Zc))) set_list)) 
   (Zi (Z1 (Yj (Jb (K:=K)) (Sm (K5 (K:=K)) (pv 7) Od (Oc Zh)) (Vl (Za (Yj (Jb (K:=K)) (Yj (Jb (K:=K)) (Sm (K5 (K:=K)) (Zs (Zw (K:=K)) (pv 7) Zh (λ_ _=>rfl)) Od (Oc (pv 8))) (Vl (Za (Zu (Yi (K:=K)) (by rfl) Z.tuple Yo (Za (pv 10) Zc)) Zc))) (Sm (K5 (K:=K)) (Zs (Zw (K:=K)) (pv 7) Zh (λ_ _=>rfl)) (Oc (Yj Wh (pv 8) Zh)) Od)) Zc))))))))))))))),?_⟩
 refine (let zz0:TS:=_; let zz1:TS:=Zq _ zz0; let zz2:TS:=Zq _ zz1; let zz3:TS:=_; let zz4:TS:=Zq _ zz3; let zz5:TS:=Zq (Za9 _ zz4 _) zz2; let zz6:TS:=Zq _ zz5; let zz7:TS:=Zq _ zz6; let zz8:TS:=Zq _ zz7; let zz9:TS:=Zq _ zz8; let Ew:TS:=Zq _ zz9; let Zgh:TS:=Zq _ Ew; (?_:Zq _ Zgh _ _ _))
 have hll:=M.few.2.1
 have hst:=EO.2.2
 have Ov:Rp st l.length:=M.rows
 refine ⟨_,rfl,p,sc,6,rfl,by decide,by decide,FA,λwy xs0 _ _ hx0=>?_⟩
 have FA1:=FA.go hx0
 have d1:Ym H (upd H p (.lst xs0)) p:=Ym.upd _
 have M1:=M.keep (Tk.drew FA d1)
 generalize upd H p (.lst xs0)=H1 at FA1 d1 M1
 obtain ⟨eA,sA,ra0,h1,h2,h3,h4,h5⟩:=M1.lay
 refine ⟨_,rfl,m,_,rfl,SqT.of h1,rfl,_,_,rfl,_,_,rfl,_,_,rfl,_,_,rfl,rfl,?_⟩
 refine ⟨_,rfl,rfl,_,rfl,?_⟩
 refine V9 (λ_=>?_) (λ_=>?_)
 ·exact ⟨_,rfl,_,rfl,p,sc,l,6,rfl,M.few.1,hll,by decide,by decide,FA1,λm' b' es' st' H2 M2 eo2 dr2 FA2=>k m' b' es' st' H2 M2 (by have:=eo2.1; omega) eo2.2.2 (d1.trans dr2) FA2⟩
 refine ⟨_,rfl,rfl,_,rfl,?_⟩
 refine V9 (λ_=>?_) (λ_=>?_)
 ·refine ⟨_,rfl,m,l,b,es,st,rfl,M1,by have:=EO.1; omega,λm' Sx N H2 e2 hS hN h6 hL=>?_⟩
  have W:=Zgi Ov hS
  have hrows:(Xl (λx=>Sx.getD x 0) (λx=>st.getD x []) (lwO Sx st b N)).length=(lwO Sx st b N).length:=by unfold Xl; rw [List.length_map]
  have Zo9:0 < (lwO Sx st b N).length:=(Ah (k:=λx=>Sx.getD x 0) (T:=λx=>st.getD x []) (b:=b) N).1
  have hel:(Ws (lwO Sx st b N) λx=>decide (x∈es)).length≤(lwO Sx st b N).length:=by
   unfold Ws
   exact Nat.le_trans (List.length_filter_le _ _) (by rw [List.length_range]; exact Nat.le_refl _)
  exact k m' 0 _ _ H2 ⟨hL,⟨M.few.1,hll,by omega⟩,by omega,W.Vf M.beg hN⟩ (by omega) (by omega) (d1.trans (Ym.same e2)) (FA1.same e2)
 refine ⟨_,rfl,_,rfl,p,sc,m,l,b,es,st,rfl,M1,EO,FA1,λm4 b4 es4 st4 H2 M4 he4 lk4 dr2 FA2=>?_⟩
 clear lk4 h1 h2 h3 h4 h5
 have d2:=d1.trans dr2
 obtain ⟨he4,hs4⟩:=he4
 obtain ⟨eB,sB,rB,g1,g2,g3,g4,g5⟩:=M4.lay
 have Zcj:Rp st4 l.length:=M4.rows
 have hb4:=M4.beg
 have hrl:(rB.map V.ref).length=st4.length:=by rw [List.length_map,g4]
 refine ⟨_,rfl,rfl,_,rfl,?_⟩
 refine V9 (λ_=>?_) (λ_=>?_)
 ·exact ⟨_,rfl,k m4 b4 es4 st4 H2 M4 he4 hs4 d2 FA2⟩
 refine ⟨_,rfl,_,rfl,m4,_,_,_,rfl,rfl,SqT.of g1,Zl (j:=3) rfl,sB,_,rfl,.inr (SqT.of g3),p,sc,_,rfl,by omega,by omega,FA2,λat_ xs3 ha0 ha1 hx3=>?_⟩
 have FA3:=FA2.go hx3
 have t3:=Tk.drew FA2 (Ym.upd (.lst xs3))
 have d3:=W8 d2 (.lst xs3)
 generalize upd H2 p (.lst xs3)=H3 at FA3 t3 d3
 have q1:=t3 _ _ g1
 have q2:=t3 _ _ g2
 have q3:=t3 _ _ g3
 have q5:∀ (i:Nat) a r,rB[i]? = some a→st4[i]? = some r→H3 a=some (.tup (r.map nI)):=λi a r z1 z2=>t3 _ _ (g5 i a r z1 z2)
 rw [hrl] at ha1
 refine ⟨_,rfl,_,_,rfl,rfl,_,rfl,?_⟩
 refine V9 (λ_=>?_) (λ_=>?_)
 ·-- the ends Zfd
  refine ⟨_,rfl,m4,_,_,_,rfl,rfl,SqT.of q1,Zl (j:=3) rfl,sB,_,rfl,.inr (SqT.of q3),_,rfl,by omega,by omega,?_⟩
  refine Xy (lo:=0) (k:=((((rB.map V.ref).length:Nat):Int)).toNat) (λi acc H4=>∃ e':List Nat,acc=e'.map nI∧e'.length≤i∧Zo H3 H4) (Nat.lt_of_le_of_lt (show _≤6 by omega) (by decide)) ⟨[],rfl,Nat.le_refl _,Zo.refl _⟩
   (λi acc H4 ⟨e',e,hl,_⟩=>by rw [e,List.length_map]; exact hl) (λi acc H4 hi p=>?_) (λacc H4 p y hy=>?_)
  ·obtain ⟨e',rfl,hel,e4⟩:=p
   refine ⟨_,rfl,_,rfl,m4,_,_,_,rfl,rfl,SqT.of (e4 _ _ q1),Zl (j:=2) rfl,eB,_,rfl,.inr (SqT.of (e4 _ _ q2)),rfl,Ui es4,_,rfl,_,rfl,rfl,rfl,_,rfl,?_⟩
   refine V9 (λ_=>⟨_,rfl,e' ++ [i],by rw [Zlu,V7],by rw [List.length_append]; show e'.length+1≤_; omega,e4⟩) (λ_=>⟨e',rfl,by omega,e4⟩)
  obtain ⟨e',rfl,hel,e4⟩:=p
  have s5:=Ze hy (.lst (e'.map nI))
  have h5y:upd H4 y (.lst (e'.map nI)) y=some (.lst (e'.map nI)):=Zb
  generalize upd H4 y (.lst (e'.map nI))=H5 at s5 h5y
  have e35:=e4.trans s5
  refine ⟨_,rfl,_,rfl,m4,_,rfl,e35 _ _ q1,λc2 H6 e6 h6=>?_⟩
  have h6':H6 c2=some (.tup [V.str l,nI b4]):=h6
  refine ⟨_,rfl,y,_,rfl,.inl ⟨SqL.of (e6 _ _ h5y),λep hep=>?_⟩⟩
  have s7:=Ze hep (.tup (e'.map nI))
  have h7e:upd H6 ep (.tup (e'.map nI)) ep=some (.tup (e'.map nI)):=Zb
  generalize upd H6 ep (.tup (e'.map nI))=H7 at s7 h7e
  have e37:=(e35.trans e6).trans s7
  refine ⟨_,rfl,m4,_,_,_,rfl,rfl,SqT.of (e37 _ _ q1),Zl (j:=3) rfl,(by show 2≤sizeLine; decide),λc3 hc3=>?_⟩
  have s8:=Ze hc3 (.tup [V.ref ep,V.ref sB])
  refine ⟨c2,c3,_,_,rfl,rfl,s8 _ _ (s7 _ _ h6'),Zb,(by show 2+2≤1000; decide),λm' H9 e9 h9=>?_⟩
  have e39:=(e37.trans s8).trans e9
  refine k m' b4 e' st4 H9 ⟨⟨ep,sB,rB,h9,e9 _ _ (s8 _ _ h7e),e39 _ _ q3,g4,λi a r z1 z2=>e39 _ _ (q5 i a r z1 z2)⟩,M4.few,hb4,Zcj⟩ (by omega) hs4 (d3.trans (Ym.same e39)) (FA3.same e39)
 ·-- one step Zfd
  have han:at_.toNat < st4.length:=by omega
  obtain ⟨hrm,hri⟩:=getD_mem (l:=st4) (i:=at_.toNat) (d:=[]) han
  have hrw:=Zcj _ hrm
  have hra:at_.toNat < rB.length:=by omega
  have hat:atI (rB.map V.ref) at_=some (.ref rB[at_.toNat]):=by
   have:atI (rB.map V.ref) ((at_.toNat:Nat):Int)=some (.ref rB[at_.toNat]):=Zl (by rw [List.getElem?_map,List.getElem?_eq_getElem hra]; rfl)
   rwa [show ((at_.toNat:Nat):Int)=at_ by omega] at this
  have X5:=q5 at_.toNat _ _ (List.getElem?_eq_getElem hra) hri
  refine ⟨_,rfl,m4,_,_,_,rfl,rfl,SqT.of q1,Zl (j:=3) rfl,_,rfl,sB,_,_,_,rfl,rfl,SqT.of q3,hat,_,_,rfl,.inr (SqT.of X5),λrp hrp=>?_⟩
  have s4:=Ze hrp (.lst ((st4.getD at_.toNat []).map nI))
  have h4r:upd H3 rp (.lst ((st4.getD at_.toNat []).map nI)) rp=some (.lst ((st4.getD at_.toNat []).map nI)):=Zb
  have FA4:=FA3.same s4
  have npr:p≠rp:=by
   obtain ⟨ys,z1,_⟩:=FA3.here
   exact Zg z1 hrp
  have nsr:sc≠rp:=by
   obtain ⟨ys,z1⟩:=FA3.cells
   exact Zg z1 hrp
  have hfr:∀ b' o',H b'=some o'→b'≠p→b'≠rp:=λb' o' z1 z2=>Zg (d3 b' o' z1 z2) hrp
  generalize upd H3 rp (.lst ((st4.getD at_.toNat []).map nI))=H4 at s4 h4r FA4
  have q1':=s4 _ _ q1
  have q3':=s4 _ _ q3
  refine ⟨_,rfl,_,rfl,m4,_,_,_,rfl,rfl,SqT.of q1',Zl (j:=3) rfl,sB,_,rfl,.inr (SqT.of q3'),p,sc,_,rfl,by omega,by omega,FA4,λnv xs5 hn0 hn1 hx5=>?_⟩
  rw [hrl] at hn1
  have FA5:=FA4.go hx5
  have h5r:upd H4 p (.lst xs5) rp=some (.lst ((st4.getD at_.toNat []).map nI)):=(Zj npr.symm).trans h4r
  have t5:=Tk.drew FA4 (Ym.upd (.lst xs5))
  have d5:Ym H (upd H4 p (.lst xs5)) p:=W8 (d3.trans (Ym.same s4)) _
  generalize upd H4 p (.lst xs5)=H5 at FA5 h5r t5 d5
  have Zeg:((st4.getD at_.toNat []).map nI).length=l.length:=by rw [List.length_map]; exact hrw.1
  refine ⟨_,rfl,_,rfl,_,rfl,rp,_,rfl,.inl (SqL.of h5r),p,sc,_,rfl,by rw [Zeg]; have:=M.few.1; omega,by rw [Zeg]; omega,FA5,λpv xs6 hp0 hp1 hx6=>?_⟩
  rw [Zeg] at hp1
  have FA6:=FA5.go hx6
  have h6r:upd H5 p (.lst xs6) rp=some (.lst ((st4.getD at_.toNat []).map nI)):=(Zj npr.symm).trans h5r
  have t6:=Tk.drew FA5 (Ym.upd (.lst xs6))
  have d6:=W8 d5 (.lst xs6)
  generalize upd H5 p (.lst xs6)=H6 at FA6 h6r t6 d6
  have hpv:ixN ((st4.getD at_.toNat []).map nI).length pv=some pv.toNat:=by
   have:=Zeb (n:=((st4.getD at_.toNat []).map nI).length) (j:=pv.toNat) (by omega)
   rwa [show ((pv.toNat:Nat):Int)=pv by omega] at this
  refine ⟨rp,_,_,_,rfl,rfl,h6r,hpv,?_⟩
  rw [Zm0 hn0,← List.map_set]
  have t7:=Tk.lst h6r (.lst (((st4.getD at_.toNat []).set pv.toNat nv.toNat).map nI))
  have h7r:upd H6 rp (.lst (((st4.getD at_.toNat []).set pv.toNat nv.toNat).map nI)) rp=some (.lst (((st4.getD at_.toNat []).set pv.toNat nv.toNat).map nI)):=Zb
  have FA7:=U1 (o:=.lst (((st4.getD at_.toNat []).set pv.toNat nv.toNat).map nI)) FA6 npr nsr
  have d7:Ym H (upd H6 rp (.lst (((st4.getD at_.toNat []).set pv.toNat nv.toNat).map nI))) p:=λb' o' z1 z2=>by
   rw [Zj (hfr b' o' z1 z2)]
   exact d6 b' o' z1 z2
  generalize upd H6 rp (.lst (((st4.getD at_.toNat []).set pv.toNat nv.toNat).map nI))=H7 at t7 h7r FA7 d7
  have t37:=(((Tk.same s4).trans t5).trans t6).trans t7
  have w1:=t37 _ _ q1
  have w3:=t37 _ _ q3
  refine ⟨_,rfl,_,rfl,m4,_,rfl,w1,λc1 H8 e8 h8=>?_⟩
  have h8':H8 c1=some (.tup [V.str l,nI b4,V.ref eB]):=h8
  refine ⟨_,rfl,m4,_,_,_,rfl,rfl,SqT.of (e8 _ _ w1),Zl (j:=3) rfl,_,rfl,_,rfl,sB,_,rfl,e8 _ _ w3,λc2 H9 e9 h9=>?_⟩
  refine ⟨_,rfl,rp,_,rfl,.inl ⟨SqL.of (e9 _ _ (e8 _ _ h7r)),λtp htp=>?_⟩⟩
  have s10:=Ze htp (.tup (((st4.getD at_.toNat []).set pv.toNat nv.toNat).map nI))
  have Zr8:upd H9 tp (.tup (((st4.getD at_.toNat []).set pv.toNat nv.toNat).map nI)) tp=some (.tup (((st4.getD at_.toNat []).set pv.toNat nv.toNat).map nI)):=Zb
  generalize upd H9 tp (.tup (((st4.getD at_.toNat []).set pv.toNat nv.toNat).map nI))=H10 at s10 Zr8
  refine ⟨(by show 1≤sizeLine; decide),λc3 hc3=>?_⟩
  have s11:=Ze hc3 (.tup [V.ref tp])
  have Zr7:upd H10 c3 (.tup [V.ref tp]) c3=some (.tup [V.ref tp]):=Zb
  generalize upd H10 c3 (.tup [V.ref tp])=H11 at s11 Zr7
  have Zpr:=s10.trans s11
  have ct:Q8 (rB.map V.ref) none (some at_)=(rB.take at_.toNat).map V.ref:=by
   have:=Zjk (rB.map V.ref) at_.toNat
   rwa [show ((at_.toNat:Nat):Int)=at_ by omega,← List.map_take] at this
  rw [ct] at h9
  have hcl:((rB.take at_.toNat).map V.ref).length≤6:=by rw [List.length_map,List.length_take]; omega
  refine ⟨c2,c3,_,_,rfl,rfl,Zpr _ _ h9,Zr7,by show _+1≤1000; omega,λc4 H12 e12 h12=>?_⟩
  have Zps:=((e8.trans e9).trans Zpr).trans e12
  refine ⟨_,rfl,m4,_,_,_,rfl,rfl,SqT.of (Zps _ _ w1),Zl (j:=3) rfl,_,rfl,_,_,rfl,rfl,_,rfl,sB,_,rfl,Zps _ _ w3,λc5 H13 e13 h13=>?_⟩
  have cd:Q8 (rB.map V.ref) (some (at_+1)) none=(rB.drop (at_.toNat+1)).map V.ref:=by
   have:=Zjl (rB.map V.ref) (at_.toNat+1) (by rw [List.length_map]; omega)
   rwa [show (((at_.toNat+1:Nat):Nat):Int)=at_+1 by omega,← List.map_drop] at this
  rw [cd] at h13
  have hdl:((rB.drop (at_.toNat+1)).map V.ref).length≤6:=by rw [List.length_map,List.length_drop]; omega
  refine ⟨c4,c5,_,_,rfl,rfl,e13 _ _ h12,h13,by rw [List.length_append]; show _+1+_≤1000; omega,λc6 H14 e14 h14=>?_⟩
  refine ⟨(by show 1≤sizeLine; decide),λc7 hc7=>?_⟩
  have s15:=Ze hc7 (.tup [V.ref c6])
  have h15:upd H14 c7 (.tup [V.ref c6]) c7=some (.tup [V.ref c6]):=Zb
  generalize upd H14 c7 (.tup [V.ref c6])=H15 at s15 h15
  have e715:=((Zps.trans e13).trans e14).trans s15
  have e815:=(((e9.trans Zpr).trans e12).trans e13).trans (e14.trans s15)
  refine ⟨c1,c7,_,_,rfl,rfl,e815 _ _ h8',h15,(by show 3+1≤1000; decide),λm' H16 e16 h16=>?_⟩
  have Zlv:=e715.trans e16
  have Zab:(rB.take at_.toNat).map V.ref ++ [V.ref tp] ++ (rB.drop (at_.toNat+1)).map V.ref=(rB.set at_.toNat tp).map V.ref:=by
   rw [List.set_eq_take_append_cons_drop,if_pos hra,List.map_append,List.map_cons,List.append_assoc]
   rfl
  rw [Zab] at h14
  have Zpj:=e16 _ _ (s15 _ _ (e14 _ _ (e13 _ _ (e12 _ _ (s11 _ _ Zr8)))))
  refine k m' b4 es4 (st4.set at_.toNat ((st4.getD at_.toNat []).set pv.toNat nv.toNat)) H16 ⟨⟨eB,c6,rB.set at_.toNat tp,h16,Zlv _ _ (t37 _ _ q2),e16 _ _ (s15 _ _ h14),by rw [List.length_set,List.length_set]; exact g4,λi a r z1 z2=>?_⟩,⟨M.few.1,hll,by rw [List.length_set]; omega⟩,by rw [List.length_set]; exact hb4,λr hr=>?_⟩ (by omega) (by rw [List.length_set]; exact hs4) (d7.trans (Ym.same Zlv)) (FA7.same Zlv)
  ·by_cases c:i=at_.toNat
   ·subst c
    rw [List.getElem?_set_self hra] at z1
    rw [List.getElem?_set_self han] at z2
    cases z1
    cases z2
    exact Zpj
   ·rw [List.getElem?_set_ne (λz=>c z.symm)] at z1 z2
    exact Zlv _ _ (t37 _ _ (q5 i a r z1 z2))
  ·rw [List.length_set]
   rcases List.mem_or_eq_of_mem_set hr with z | z
   ·exact Zcj r z
   ·rw [z]
    refine ⟨by rw [List.length_set]; exact hrw.1,λx hx=>?_⟩
    rcases List.mem_or_eq_of_mem_set hx with y | y
    ·exact hrw.2 x y
    ·rw [y]; omega
def dNs (r:List Nat):Dt:=.tup (r.map λn:Nat=>Dt.int ((n:Nat):Int))
def Zak (l:Str) (b:Nat) (es:List Nat) (st:List (List Nat)):Dt:=.tup [.str l,.int (b:Int),dNs es,.tup (st.map dNs)]
theorem Zen {α:Type} (f:α→Dt) (n:Nat) (h:∀ x,(f x).dep≤n) (xs:List α):((xs.map f).map Dt.dep).foldr max 0≤n:=by
 induction xs with
 | nil=>exact Nat.zero_le _
 | cons x r ih=>
  rw [List.map_cons,List.map_cons,List.foldr_cons]
  have:=h x
  omega
theorem Zer (r:List Nat):(dNs r).dep≤1:=by
 unfold dNs
 rw [Dt.dep]
 have:=Zen (λn:Nat=>Dt.int (n:Int)) 0 (λx=>by simp [Dt.dep]) r
 omega
theorem Zf4 (l:Str) (b:Nat) (es:List Nat) (st:List (List Nat)):(Zak l b es st).dep < 4:=by
 unfold Zak
 have h1:=Zer es
 have h2:(Dt.tup (st.map dNs)).dep≤2:=by
  rw [Dt.dep]
  have:=Zen dNs 1 Zer st
  omega
 rw [Dt.dep]
 simp only [List.map_cons,List.map_nil,List.foldr_cons,List.foldr_nil]
 simp only [Dt.dep] at *
 omega
theorem Zh6 {H:Hp} {a:Addr} {r:List Nat} (h:H a=some (.tup (r.map nI))) (hr:r.length≤1000):Den H (.ref a) (dNs r):=by
 refine Den.tup h (by rw [List.length_map]; omega) (by rw [List.length_map,List.length_map]) λi x d q1 q2=>?_
 rw [List.getElem?_map] at q1 q2
 cases y:r[i]? with
 | none=>rw [y] at q1; cases q1
 | some k=>
  rw [y] at q1 q2
  cases q1
  cases q2
  exact .int _
theorem Pe.den {H:Hp} {m:Addr} {l:Str} {b:Nat} {es:List Nat} {st:List (List Nat)} (h:Pe H m l b es st) (he:es.length≤1000) (hs:st.length≤1000) (hr:∀ r∈st,r.length≤1000):Den H (.ref m) (Zak l b es st):=by
 obtain ⟨e,s,ras,h1,h2,h3,h4,h5⟩:=h
 refine Den.tup h1 (by show 4≤1000000; decide) rfl λi x d q1 q2=>?_
 match i,q1,q2 with
 | 0,q1,q2=>cases q1; cases q2; exact .str _
 | 1,q1,q2=>cases q1; cases q2; exact .int _
 | 2,q1,q2=>cases q1; cases q2; exact Zh6 h2 he
 | 3,q1,q2=>
  cases q1
  cases q2
  refine Den.tup h3 (by rw [List.length_map]; omega) (by rw [List.length_map,List.length_map]; exact h4) λj x d q1 q2=>?_
  rw [List.getElem?_map] at q1 q2
  cases c1:ras[j]? with
  | none=>rw [c1] at q1; cases q1
  | some a=>
   cases c2:st[j]? with
   | none=>rw [c2] at q2; cases q2
   | some r=>
    rw [c1] at q1
    rw [c2] at q2
    cases q1
    cases q2
    exact Zh6 (h5 j a r c1 c2) (hr r (List.mem_of_getElem? c2))
 | i+4,q1,q2=>cases q1
theorem LM.den {l:Str} {P:List Nat→Prop} {st:List (List Nat)} {es:List Nat} (D:LM l P st es) (hl:l.length≤3) (hs:st.length≤216) {H:Hp} {m:Addr} (h:Pe H m l 0 es st):Den H (.ref m) (Zak l 0 es st):=h.den (by have:=D.ends.1; omega) (by omega) λr hr=>by have:=(D.Vf r hr).1; omega
def tns (r:List Nat):List V:=r.map nI
def MT (H:Hp) (m:Addr) (l:Str) (b:Nat) (es:List Nat) (st:List (List Nat)):Prop:=∃ (e s:Addr) (xs:List V),H m=some (.tup [.str l,nI b,.ref e,.ref s])∧H e=some (.tup (es.map nI))∧H s=some (.tup xs)∧TR tns H xs st
structure OkM (l:Str) (b:Nat) (es:List Nat) (st:List (List Nat)):Prop where
 Zov:∃ n,X6 l n∧1≤n∧n≤26
 beg:b < 1000
 ends:es.length≤30∧∀ x∈es,x < 1000
 room:1≤st.length∧st.length≤50
 rows:∀ r∈st,r.length=l.length∧∀ x∈r,x < 1000
def nS (n:Nat):Str:=Zk5 (n:Int)
def Zh5 (cs:List Nat):Bool:=cs.all (λc=>decide (48≤c) && decide (c≤57)) && (decide (1≤cs.length) && decide (cs.length≤3)) && (decide (cs=[48]) || decide (cs.getD 0 0≠48))
theorem Zk4:∀ n,n < 1000→Zh5 ((Nat.toDigits 10 n).map Char.toNat)=true:=by decide +kernel
theorem Zrf {n:Nat} (h:n < 1000):Zh5 (nS n).cps.toList=true:=by
 have:=Zk4 n h
 rw [← W.KIN.signs_num] at this
 exact this
theorem Zby {n:Nat} (h:n < 1000):(∀ c∈(nS n).cps.toList,48≤c∧c≤57)∧1≤(nS n).length∧(nS n).length≤3∧((nS n).cps.toList=[48]∨(nS n).cps.toList.getD 0 0≠48):=by
 have:=Zrf h
 unfold Zh5 at this
 rw [Bool.and_eq_true,Bool.and_eq_true,Bool.and_eq_true,Bool.or_eq_true,List.all_eq_true] at this
 obtain ⟨⟨h1,h2,h3⟩,h4⟩:=this
 rw [len_list] at h2 h3
 refine ⟨λc hc=>?_,of_decide_eq_true h2,of_decide_eq_true h3,?_⟩
 ·have:=h1 c hc
  rw [Bool.and_eq_true] at this
  exact ⟨of_decide_eq_true this.1,of_decide_eq_true this.2⟩
 ·rcases h4 with z | z
  ·exact .inl (of_decide_eq_true z)
  ·exact .inr (of_decide_eq_true z)
theorem P4:Str.ofString " " = ⟨#[32]⟩:=by decide +kernel
theorem Dl:Str.ofString "\n" = ⟨#[10]⟩:=by decide +kernel
def Kh (name:Str) (ns:List Nat):List Str:=name :: ns.map nS
def Us (name:Str) (ns:List Nat):Str:=Txt.join ⟨#[32]⟩ (Kh name ns)
def G5 (l:Str):Str:=Txt.join ⟨#[32]⟩ [Str.ofString "letters",l]
def Wr (l:Str) (b:Nat) (es:List Nat) (st:List (List Nat)):List Str:=[G5 l,Us (Str.ofString "begin") [b],Us (Str.ofString "ends") es] ++ st.map (Us (Str.ofString "room"))
def Zd6 (l:Str) (b:Nat) (es:List Nat) (st:List (List Nat)):Str:=Txt.join ⟨#[10]⟩ (Wr l b es st)
theorem join_le (c:Nat) (ys:List Str):(Txt.join ⟨#[c]⟩ ys).length≤(ys.map (·.length)).sum+ys.length:=by
 have h:Txt.join ⟨#[c]⟩ ys=Str.join ⟨#[c]⟩ ys:=StrLaws.glued_eq_join _ _
 rw [h]
 have:=StrLaws.join_length_le ⟨#[c]⟩ ys
 have e:(⟨#[c]⟩:Str).length=1:=rfl
 rw [e,Nat.mul_one] at this
 exact this
theorem Zba {ys:List Str} {k:Nat} (h:∀ y∈ys,y.length≤k):(ys.map (·.length)).sum≤ys.length * k:=by
 induction ys with
 | nil=>simp
 | cons y r ih=>
  rw [List.map_cons,List.sum_cons,List.length_cons,Nat.succ_mul]
  have:=h y List.mem_cons_self
  have:=ih λz hz=>h z (List.mem_cons_of_mem _ hz)
  omega
theorem F1 {name:Str} {ns:List Nat} (hn:name.length≤10) (h:∀ x∈ns,x < 1000):∀ y∈Kh name ns,y.length≤10:=λy hy=>by
 rcases List.mem_cons.mp hy with e | e
 ·rw [e]; exact hn
 ·obtain ⟨x,hx,rfl⟩:=List.mem_map.mp e
  have:=(Zby (h x hx)).2.2.1
  omega
theorem K7 {name:Str} {ns:List Nat} (hn:name.length≤10) (h:∀ x∈ns,x < 1000):(Us name ns).length≤11 * (ns.length+1):=by
 have h1:=join_le 32 (Kh name ns)
 have h2:=Zba (F1 hn h)
 have h3:(Kh name ns).length=ns.length+1:=by
  unfold Kh
  rw [List.length_cons,List.length_map]
 unfold Us
 rw [h3] at h1 h2
 omega
inductive Js (vs:List V) (H:Hp) (Q:VK):Prop
 | mk (name:Str) (q:Addr) (ns:List Nat) (h1:vs=[.str name,.ref q]) (h2:name.length≤10) (h3:ns.length≤30) (h4:(∀ x∈ns,x < 1000)) (h5:(H q=some (.lst (ns.map nI))∨H q=some (.tup (ns.map nI)))) (h6:∀ H',Zo H H'→Q (.str (Us name ns)) H'):Js vs H Q
def M9:Sp:=λvs H Q u3_=>Js vs H Q
theorem Ai {f:Addr} {fd:FuncData} (F:Fun K "show_row" "show_row" W9 f fd) (Z:Blt mg):Yp P w K mg base CX0 1 f fd ["name","numbers"] M9:=by
 refine F.ok B1 (λvs H Q E h=>?_) (λcdv A outer s H vs Q E hr h=>?_)
 ·obtain ⟨name,q,ns,rfl,_⟩:=h
  rfl
 obtain ⟨name,q,ns,rfl,hn,hnl,hns,hq,k⟩:=h
 refine ⟨_,(Zi (Z1 (Xd (K:=K) PySem.F.plainAttrs_str PySem.F.slot_str_join PySem.F.type_str_join (Iy (K:=K)) Y6 (Za (Yj Zhy (X9 (Za (pv 0) Zc)) (Yc (sc:=Zf W9) (Nm:=["name","numbers"]) (own:=["number"]) (fr:=[]) ⟨rfl,by decide +kernel,by decide +kernel,by decide +kernel,by decide +kernel⟩ (by rfl) (Z2 (by decide)) (Zdw (Yv (K:=K) (pv 1)) (V3 (K:=K) (pv 1))) (λd=>(Zk (i:=0) Gy (by rfl) (Or.inl (by rfl)))) (λd=>Yb) (λd=>(Zu Cw (by rfl) Z.str Zjv (Za (pv 0) Zc))))) Zc)))),?_⟩
 refine ⟨rfl,_,rfl,(by show 1≤sizeLine; decide),λl1 hl1=>?_⟩
 have e1:=Ze hl1 (.lst [.str name])
 have h1:upd H l1 (.lst [.str name]) l1=some (.lst [.str name]):=Zb
 generalize upd H l1 (.lst [.str name])=H1 at e1 h1
 have turn:∀ (i:Nat) (acc:List V) (H2:Hp) (n:Nat),ns[i]? = some n→(acc=(ns.take i).map (λn=>V.str (nS n))∧Zo H1 H2)→∀ σ:L2.St,tCB (λxs H Q=>∃ n:Int,xs=[.int n]∧n.natAbs < 1000000∧Q (.str (Zk5 n)) H) (Zgr (M7 0) Znp) ((Sd 1 [] σ).set 0 (some (nI n))) H2 λv H6=>(acc ++ [v]=(ns.take (i+1)).map (λn=>V.str (nS n))∧Zo H1 H6):=λi acc H2 n hi p σ=>by
  have hn1:=hns n (List.mem_of_getElem? hi)
  refine ⟨_,rfl,_,rfl,by show ((n:Nat):Int).natAbs < 1000000; omega,?_,p.2⟩
  rw [p.1,map_take hi]
  rfl
 have done:∀ (acc:List V) (H2:Hp),(acc=(ns.take ns.length).map (λn=>V.str (nS n))∧Zo H1 H2)→∀ l2,H2 l2=none→Zq3 (.ref l1) (.ref l2) (upd H2 l2 (.lst acc)) λv H3=>rJoin K (V.str (Str.ofString " ")) [v] H3 Q:=λacc H2 p l2 hl2=>by
  obtain ⟨rfl,e2⟩:=p
  rw [List.take_length]
  have s3:=Ze hl2 (.lst (ns.map λn=>V.str (nS n)))
  refine ⟨l1,l2,[.str name],_,rfl,rfl,s3 _ _ (e2 _ _ h1),Zb,(by rw [List.length_map]; exact Xv (by show 1+ns.length≤1000; omega)),λl3 hl3=>?_⟩
  refine ⟨_,l3,Kh name ns,rfl,rfl,SqL.of (Zb.trans ?_),?_,?_⟩
  ·unfold Kh
   rw [List.map_cons,List.map_map]
   rfl
  ·have h2:=Zba (F1 hn hns)
   have h3:(Kh name ns).length=ns.length+1:=by
    unfold Kh
    rw [List.length_cons,List.length_map]
   rw [P4]
   show _+_ * 1≤_
   rw [h3] at h2 ⊢
   omega
  ·rw [P4]
   exact k _ (((e1.trans e2).trans s3).trans (Ze hl3 _))
 rcases hq with hq | hq
 ·refine .inl ⟨_,rfl,q,rfl,⟨_,SqL.of (e1 _ _ hq)⟩,?_⟩
  refine Xi (K:=K) (a:=q) (xs:=ns.map nI) (λi acc H2=>acc=(ns.take i).map (λn=>V.str (nS n))∧Zo H1 H2) (by rw [List.length_map]; exact Zt (by omega)) ⟨rfl,Zo.refl _⟩ (λi acc H2 p=>by rw [p.1,List.length_map,List.length_take]; exact Nat.min_le_left _ _)
   (λi acc H2 p=>SqL.of (p.2 _ _ (e1 _ _ hq))) (λi acc H2 x hx p=>?_) (λacc H2 p l2 hl2=>done acc H2 (by rw [List.length_map] at p; exact p) l2 hl2)
  rw [List.getElem?_map] at hx
  cases hi:ns[i]? with
  | none=>rw [hi] at hx; cases hx
  | some n=>
   rw [hi] at hx
   cases hx
   exact Vg (turn i acc H2 n hi p _)
 ·refine .inr ⟨_,rfl,q,rfl,⟨_,SqT.of (e1 _ _ hq)⟩,?_⟩
  refine U2 (K:=K) (a:=q) (xs:=ns.map nI) (λi acc H2=>acc=(ns.take i).map (λn=>V.str (nS n))∧Zo H1 H2) (by rw [List.length_map]; exact Zt (by omega)) ⟨rfl,Zo.refl _⟩ (λi acc H2 p=>by rw [p.1,List.length_map,List.length_take]; exact Nat.min_le_left _ _)
   (λi acc H2 p=>SqT.of (p.2 _ _ (e1 _ _ hq))) (λi acc H2 x hx p=>?_) (λacc H2 p l2 hl2=>done acc H2 (by rw [List.length_map] at p; exact p) l2 hl2)
  rw [List.getElem?_map] at hx
  cases hi:ns[i]? with
  | none=>rw [hi] at hx; cases hx
  | some n=>
   rw [hi] at hx
   cases hx
   exact Vg (turn i acc H2 n hi p _)
theorem Zle (l:Str):Str.ofString "letters " ++ l=G5 l:=by
 have e:Str.ofString "letters " = Str.ofString "letters" ++ (⟨#[32]⟩:Str):=by decide +kernel
 have h:G5 l=Str.join ⟨#[32]⟩ [Str.ofString "letters",l]:=StrLaws.glued_eq_join _ _
 rw [h,e]
 rfl
theorem F7:(Str.ofString "letters").length=7:=by decide +kernel
theorem D8:(Str.ofString "begin").length=5:=by decide +kernel
theorem Zbx:(Str.ofString "ends").length=4:=by decide +kernel
theorem Zbw:(Str.ofString "room").length=4:=by decide +kernel
theorem OkM.len {l:Str} {b:Nat} {es:List Nat} {st:List (List Nat)} (h:OkM l b es st):1≤l.length∧l.length≤26:=by
 obtain ⟨n,hl,h1,h2⟩:=h.Zov
 have:=len_list l
 have:=hl.1
 omega
theorem Zbl {l:Str} {b:Nat} {es:List Nat} {st:List (List Nat)} (h:OkM l b es st):∀ y∈Wr l b es st,y.length≤400:=λy hy=>by
 have hl:=h.len
 unfold Wr at hy
 rcases List.mem_append.mp hy with z | z
 ·simp only [List.mem_cons,List.not_mem_nil,or_false] at z
  rcases z with z | z | z
  ·rw [z]
   have:=join_le 32 [Str.ofString "letters",l]
   simp only [List.map_cons,List.map_nil,List.sum_cons,List.sum_nil,List.length_cons,List.length_nil,F7] at this
   show (Txt.join ⟨#[32]⟩ [Str.ofString "letters",l]).length≤400
   omega
  ·rw [z]
   have:=K7 (name:=Str.ofString "begin") (ns:=[b]) (by rw [D8]; decide) (λx hx=>by rw [List.mem_singleton.mp hx]; exact h.beg)
   simp only [List.length_cons,List.length_nil] at this
   omega
  ·rw [z]
   have:=K7 (name:=Str.ofString "ends") (ns:=es) (by rw [Zbx]; decide) h.ends.2
   have:=h.ends.1
   omega
 ·obtain ⟨r,hr,rfl⟩:=List.mem_map.mp z
  have:=K7 (name:=Str.ofString "room") (ns:=r) (by rw [Zbw]; decide) (h.rows r hr).2
  have:=(h.rows r hr).1
  omega
theorem B5 (l:Str) (b:Nat) (es:List Nat) (st:List (List Nat)):(Wr l b es st).length=3+st.length:=by
 unfold Wr
 rw [List.length_append,List.length_map]
 rfl
theorem B4 {l:Str} {b:Nat} {es:List Nat} {st:List (List Nat)} (h:OkM l b es st):((Wr l b es st).map (·.length)).sum+(Wr l b es st).length≤100000:=by
 have h1:=Zba (Zbl h)
 have h2:=B5 l b es st
 have h3:=h.room.2
 have:(Wr l b es st).length * 400≤53 * 400:=Nat.mul_le_mul_right _ (by omega)
 omega
inductive Bn (vs:List V) (H:Hp) (Q:VK):Prop
 | mk (m:Addr) (l:Str) (b:Nat) (es:List Nat) (st:List (List Nat)) (h1:vs=[.ref m]) (h2:MT H m l b es st) (h3:OkM l b es st) (h4:∀ H',Zo H H'→Q (.str (Zd6 l b es st)) H'):Bn vs H Q
def E3:Sp:=λvs H Q u3_=>Bn vs H Q
theorem Ki {f:Addr} {fd:FuncData} (F:Fun K "show_machine" "show_machine" Xj f fd) (Z:Blt mg) (Tn:Cal P w K mg base "show_row" 1 ["name","numbers"] M9):Yp P w K mg base CX0 2 f fd ["machine"] E3:=by
 refine F.ok R0 (λvs H Q E h=>?_) (λcdv A outer s H vs Q E hr h=>?_)
 ·obtain ⟨m,l,b,es,st,rfl,_⟩:=h
  rfl
 obtain ⟨m,l,b,es,st,rfl,hM,ok,k⟩:=h
 refine ⟨_,(Zd (Zm (i:=1) R0.nd (by rfl) (Or.inl (by rfl)) (X9 (Za (Yj Rf Y6 (Zs (Zw (K:=K)) (pv 0) Zh (λ_ _=>rfl))) (Za (Yg Tn (hr.mono (by decide)) (Za Y6 (Za (X9 (Za (Zs (Zw (K:=K)) (pv 0) Zh (λ_ _=>rfl)) Zc)) Zc))) (Za (Yg Tn (hr.mono (by decide)) (Za Y6 (Za (Zs (Zw (K:=K)) (pv 0) Zh (λ_ _=>rfl)) Zc))) Zc))))) 
   (Zd (Xz (Xd (K:=K) PySem.F.plainAttrs_list PySem.F.slot_list_extend PySem.F.type_list_extend Lo (pv 1) (Za (Yc (sc:=Zf Xj) (Nm:=["machine","rows"]) (own:=["row"]) (fr:=[]) ⟨rfl,by decide +kernel,by decide +kernel,by decide +kernel,by decide +kernel⟩ (by rfl) (Z2 (by decide)) (V3 (K:=K) (Zs (Zw (K:=K)) (pv 0) Zh (λ_ _=>rfl))) (λd=>(Zk (i:=0) Mb (by rfl) (Or.inl (by rfl)))) (λd=>Yb) (λd=>(Yg Tn (hr.mono (by decide)) (Za Y6 (Za (pv 0) Zc))))) Zc))) 
   (Zi (Z1 (Xd (K:=K) PySem.F.plainAttrs_str PySem.F.slot_str_join PySem.F.type_str_join (Iy (K:=K)) Y6 (Za (pv 1) Zc)))))),?_⟩
 refine (let zz0:TS:=_; let zz1:TS:=Zq _ zz0; (?_:Zq _ zz1 _ _ _))
 obtain ⟨e,s',xs,h1,h2,h3,R⟩:=hM
 have hl:=ok.len
 have hxl:=R.len
 have n8:(Str.ofString "letters ").length=8:=by decide +kernel
 refine ⟨_,rfl,m,_,0,_,rfl,rfl,SqT.of h1,Zl (j:=0) rfl,_,_,rfl,rfl,Xv (by rw [n8]; omega),?_⟩
 rw [Zle]
 refine ⟨_,rfl,m,_,1,_,rfl,rfl,SqT.of h1,Zl (j:=1) rfl,(by show 1≤sizeLine; decide),λl1 hl1=>?_⟩
 have e1:=Ze hl1 (.lst [nI b])
 have g1:upd H l1 (.lst [nI b]) l1=some (.lst [nI b]):=Zb
 generalize upd H l1 (.lst [nI b])=H1 at e1 g1
 refine ⟨_,l1,[b],rfl,by rw [D8]; decide,(by show 1≤30; decide),λx hx=>by rw [List.mem_singleton.mp hx]; exact ok.beg,.inl g1,λH2 e2=>?_⟩
 have e02:=e1.trans e2
 refine ⟨_,rfl,m,_,2,_,rfl,rfl,SqT.of (e02 _ _ h1),Zl (j:=2) rfl,_,e,es,rfl,by rw [Zbx]; decide,ok.ends.1,ok.ends.2,.inr (e02 _ _ h2),λH3 e3=>⟨(by show 3≤sizeLine; decide),λrp hrp=>?_⟩⟩
 have e03:=e02.trans e3
 have e04:=e03.trans (Ze hrp (.lst [.str (G5 l),.str (Us (Str.ofString "begin") [b]),.str (Us (Str.ofString "ends") es)]))
 have Cp:=none_of e03 hrp
 have g4:upd H3 rp (.lst [.str (G5 l),.str (Us (Str.ofString "begin") [b]),.str (Us (Str.ofString "ends") es)]) rp=some (.lst [.str (G5 l),.str (Us (Str.ofString "begin") [b]),.str (Us (Str.ofString "ends") es)]):=Zb
 generalize upd H3 rp (.lst [.str (G5 l),.str (Us (Str.ofString "begin") [b]),.str (Us (Str.ofString "ends") es)])=H4 at e04 g4
 refine ⟨_,rfl,.inl ⟨rfl,_,SqL.of g4⟩,_,rfl,m,_,3,_,rfl,rfl,SqT.of (e04 _ _ h1),Zl (j:=3) rfl,s',rfl,⟨_,SqT.of (e04 _ _ h3)⟩,?_⟩
 refine U2 (K:=K) (a:=s') (xs:=xs) (λi acc H5=>acc=(st.take i).map (λr=>V.str (Us (Str.ofString "room") r))∧Zo H4 H5) (by rw [hxl]; exact Zt (by have:=ok.room.2; omega)) ⟨rfl,Zo.refl _⟩ (λi acc H5 p=>by rw [p.1,List.length_map,List.length_take]; exact Nat.min_le_left _ _)
  (λi acc H5 p=>SqT.of (p.2 _ _ (e04 _ _ h3))) (λi acc H5 x hx p=>?_) (λacc H5 p y hy=>?_)
 ·obtain ⟨rfl,e5⟩:=p
  obtain ⟨a,r,rfl,hr',ha⟩:=(R.keep (Tk.same (e04.trans e5))).at_ hx
  have hro:=ok.rows r (List.mem_of_getElem? hr')
  refine Vg ⟨_,rfl,_,a,r,rfl,by rw [Zbw]; decide,by omega,hro.2,.inr ha,λH6 e6=>⟨?_,e5.trans e6⟩⟩
  rw [map_take hr']
 ·obtain ⟨rfl,e5⟩:=p
  rw [hxl,List.take_length]
  have s6:=Ze hy (.lst (st.map λr=>V.str (Us (Str.ofString "room") r)))
  have g6:=s6 _ _ (e5 _ _ g4)
  refine ⟨rp,y,_,_,rfl,rfl,g6,Zb,(by rw [List.length_map]; exact Xv (by have:=ok.room.2; show 3+st.length≤1000; omega)),?_⟩
  refine ⟨rfl,_,rfl,_,rp,Wr l b es st,rfl,rfl,SqL.of (Zb.trans ?_),?_,?_⟩
  ·unfold Wr
   rw [List.map_append,List.map_map]
   rfl
  ·have:=B4 ok
   rw [Dl]
   show _+_ * 1≤_
   omega
  ·rw [Dl]
   exact k _ (Yq ((e04.trans e5).trans s6) Cp _)
theorem l_0:(Str.ofString "0").cps.toList=[48]:=by decide +kernel
theorem l_9:(Str.ofString "9").cps.toList=[57]:=by decide +kernel
theorem Zjs {σ:L2.St} {H:Hp} {c:Nat} {Q:VK} {j:Nat} (hj:σ[j]? = some (some (.str ⟨#[c]⟩))) (hc:48≤c∧c≤57) (q:Q (.bl true) H) :
  M8 (λx y H Q=>∃ i j,x=V.str i∧y=V.str j∧Q (.bl (!decide (j.cps.toList < i.cps.toList))) H) (λx y H Q=>∃ i j,x=V.str i∧y=V.str j∧Q (.bl (!decide (j.cps.toList < i.cps.toList))) H) (tC (.str (Str.ofString "0"))) (M7 j) (tC (.str (Str.ofString "9"))) σ H Q:=by
 refine ⟨_,hj,_,_,rfl,rfl,_,rfl,?_⟩
 have e1:decide ((⟨#[c]⟩:Str).cps.toList < (Str.ofString "0").cps.toList)=decide (c < 48):=by rw [l_0]; exact Lq c 48
 have e2:decide ((Str.ofString "9").cps.toList < (⟨#[c]⟩:Str).cps.toList)=decide (57 < c):=by rw [l_9]; exact Lq 57 c
 rw [e1,decide_eq_false (by omega)]
 refine Mo ⟨_,_,rfl,rfl,?_⟩
 rw [e2,decide_eq_false (by omega)]
 exact q
theorem str_inj {x y:Str} (h:x.cps.toList=y.cps.toList):x=y:=by
 cases x
 cases y
 simpa using h
theorem Zga {u:List Nat} (h:0 < u.length):atI u (0:Int)=some (u.getD 0 0):=Zl (j:=0) (by rw [List.getD_eq_getElem?_getD,List.getElem?_eq_getElem h]; rfl)
inductive L6 (vs:List V) (H:Hp) (Q:VK):Prop
 | mk (n:Nat) (h1:vs=[.str (nS n)]) (h2:n < 1000) (h3:∀ H',Zo H H'→Q (.bl true) H'):L6 vs H Q
def O2:Sp:=λvs H Q u3_=>L6 vs H Q
theorem Zev (n:Nat):(List.replicate n true).all id=true:=by
 rw [List.all_eq_true]
 intro x hx
 rw [(List.mem_replicate.mp hx).2]
 rfl
theorem D3 {f:Addr} {fd:FuncData} {Wl:Value} (F:Fun K "is_number" "is_number" Wo f fd) (Z:Blt mg) (U7:mg "MOST_FIGURES" = some Wl) (r_MOST_FIGURES:RelV (V.int 3) Wl):Yp P w K mg base CX0 1 f fd ["word"] O2:=by
 refine F.ok N6 (λvs H Q E h=>?_) (λcdv A outer s H vs Q E hr h=>?_)
 ·obtain ⟨n,rfl,_⟩:=h
  rfl
 obtain ⟨n,rfl,hn,k⟩:=h
 refine ⟨_,(Zd (Zm (i:=1) N6.nd (by rfl) (Or.inl (by rfl)) (Zn (Um (K:=K)) (by rfl) Z.all L0 (Za (Yc (sc:=Zf Wo) (Nm:=["word","figures"]) (own:=["sign"]) (fr:=[]) ⟨rfl,by decide +kernel,by decide +kernel,by decide +kernel,by decide +kernel⟩ (by rfl) (Z2 (by decide)) (Ra (pv 0)) (λd=>(Zk (i:=0) Ir (by rfl) (Or.inl (by rfl)))) (λd=>Yb) (λd=>(Qq Oe Oe Y6 (pv 0) Y6))) Zc))) 
   (Zi (Z1 (Ds (pv 1) (Ds (Qq L9 L9 Zh (Zn Wa (by rfl) Z.len Ya (Za (pv 0) Zc)) (Ja (by rfl) U7 r_MOST_FIGURES)) (Zbo (Zq8 (Xu Ue (pv 0) Y6 (Z8 _)) (Zbo (Xu Qt (Zs Zcg (pv 0) Zh (λ_ _=>rfl)) Y6 (Z8 _)))))))))),?_⟩
 refine (let zz0:TS:=_; (?_:Zq _ zz0 _ _ _))
 obtain ⟨hd,hl1,hl3,hz⟩:=Zby hn
 have hll:=len_list (nS n)
 refine ⟨_,rfl,nS n,rfl,?_⟩
 refine Q9 (cs:=(nS n).cps.toList) (λi acc H2=>acc=List.replicate i (V.bl true)∧Zo H H2) (Zt (by omega)) ⟨rfl,Zo.refl _⟩ (λi acc H2 p=>by rw [p.1,List.length_replicate]; exact Nat.le_refl _)
  (λi acc H2 c hc p=>Vg (Zjs rfl (hd c (List.mem_of_getElem? hc)) ⟨by rw [p.1,← List.replicate_succ'],p.2⟩)) (λacc H2 p y hy=>?_)
 obtain ⟨rfl,e2⟩:=p
 refine ⟨y,List.replicate (nS n).cps.toList.length true,rfl,SqL.of (by rw [Zb,List.map_replicate]),?_⟩
 rw [Zev]
 have e3:=e2.trans (Ze hy (.lst (List.replicate (nS n).cps.toList.length (V.bl true))))
 generalize upd H2 y _=H3 at e3
 refine ⟨_,rfl,_,rfl,Mo ?_⟩
 refine ⟨_,rfl,nS n,rfl,Xv (by omega),_,_,rfl,rfl,_,rfl,?_⟩
 rw [decide_eq_true (show (1:Int)≤((nS n).length:Int) by omega)]
 refine Mo ⟨_,_,rfl,rfl,_,rfl,?_⟩
 rw [decide_eq_true (show ((nS n).length:Int)≤3 by omega)]
 refine Mo ⟨_,rfl,rfl,_,rfl,?_⟩
 rcases hz with z | z
 ·have e:nS n=Str.ofString "0":=str_inj (by rw [z,l_0])
  rw [decide_eq_true (by rw [e])]
  exact Mo (k H3 e3)
 ·have ne:¬ V.str (nS n)=V.str (Str.ofString "0"):=λe=>by
   injection e with e
   rw [e,l_0] at z
   exact z rfl
  rw [decide_eq_false ne]
  have h0:0 < (nS n).cps.toList.length:=by omega
  refine Sb ⟨_,rfl,nS n,0,_,rfl,rfl,Xv (by omega),Zga h0,rfl,?_⟩
  have ne2:¬ V.str ⟨#[(nS n).cps.toList.getD 0 0]⟩=V.str (Str.ofString "0"):=λe=>by
   injection e with e
   have:=congrArg (λs:Str=>s.cps.toList) e
   simp only [l_0] at this
   injection this with this
   exact z this
  rw [decide_eq_false ne2]
  exact k H3 e3
theorem A6 {l:Str} {n:Nat} (h:X6 l n):Bf l.cps.toList=true∧Zg7 l.cps.toList=true:=by
 obtain ⟨_,h2,h3⟩:=h
 constructor
 ·unfold Bf
  rw [List.all_map,List.all_eq_true]
  intro c hc
  have:=h3 c hc
  show wB c=true
  unfold wB
  rw [decide_eq_true this.1,decide_eq_true this.2]
  rfl
 ·unfold Zg7
  rw [List.all_map,List.all_eq_true]
  intro i hi
  have hi':=List.mem_range.mp hi
  show rB l.cps.toList i=true
  unfold rB
  rw [decide_eq_true_eq,List.getD_eq_getElem?_getD,List.getElem?_eq_getElem (by omega),List.getD_eq_getElem?_getD,List.getElem?_eq_getElem (by omega)]
  exact List.pairwise_iff_getElem.mp h2 i (i+1) (by omega) (by omega) (by omega)
theorem A7 {l:Str} {n:Nat} (h:X6 l n) (c:Nat) (hc:c < 97):c∉l.cps.toList:=λz=>by
 have:=(h.2.2 c z).1
 omega
theorem Zfz:32∉(Str.ofString "letters").cps.toList:=by decide +kernel
theorem Zls:32∉(Str.ofString "begin").cps.toList:=by decide +kernel
theorem Zpp:32∉(Str.ofString "ends").cps.toList:=by decide +kernel
theorem Zpo:32∉(Str.ofString "room").cps.toList:=by decide +kernel
theorem Zbu:10∉(Str.ofString "letters").cps.toList:=by decide +kernel
theorem Zia:10∉(Str.ofString "begin").cps.toList:=by decide +kernel
theorem Zk7:10∉(Str.ofString "ends").cps.toList:=by decide +kernel
theorem Zk6:10∉(Str.ofString "room").cps.toList:=by decide +kernel
theorem Zd4 {n c:Nat} (h:n < 1000) (hc:c < 48):c∉(nS n).cps.toList:=λz=>by
 have:=((Zby h).1 c z).1
 omega
theorem Ze5 {l:Str} {n:Nat} (h:X6 l n):Txt.split (G5 l) ⟨#[32]⟩=[Str.ofString "letters",l]:=O1 (by simp) λy hy=>by
 simp only [List.mem_cons,List.not_mem_nil,or_false] at hy
 rcases hy with e | e
 ·rw [e]; exact Zfz
 ·rw [e]; exact A7 h 32 (by decide)
theorem Ze4 {name:Str} {ns:List Nat} (hn:32∉name.cps.toList) (h:∀ x∈ns,x < 1000):Txt.split (Us name ns) ⟨#[32]⟩=Kh name ns:=O1 (by simp [Kh]) λy hy=>by
 rcases List.mem_cons.mp hy with e | e
 ·rw [e]; exact hn
 ·obtain ⟨x,hx,rfl⟩:=List.mem_map.mp e
  exact Zd4 (h x hx) (by decide)
theorem Zd9 {c d:Nat} (hcd:c≠d):∀ {ys:List (List Nat)},(∀ y∈ys,c∉y)→c∉jl d ys
 | [],_,h=>by cases h
 | [x],h,z=>h x List.mem_cons_self z
 | x :: y :: r,h,z=>by
  rw [Mn] at z
  rcases List.mem_append.mp z with z | z
  ·exact h x List.mem_cons_self z
  ·rcases List.mem_cons.mp z with z | z
   ·exact hcd z
   ·exact Zd9 hcd (λw hw=>h w (List.mem_cons_of_mem _ hw)) z
theorem Ec {c d:Nat} (hcd:c≠d) {ys:List Str} (h:∀ y∈ys,c∉y.cps.toList):c∉(Txt.join ⟨#[d]⟩ ys).cps.toList:=by
 have e:Txt.join ⟨#[d]⟩ ys=Str.join ⟨#[d]⟩ ys:=StrLaws.glued_eq_join _ _
 rw [e,Ck]
 refine Zd9 hcd λy hy=>?_
 obtain ⟨z,hz,rfl⟩:=List.mem_map.mp hy
 exact h z hz
theorem J6 {name:Str} {ns:List Nat} (hn:10∉name.cps.toList) (h:∀ x∈ns,x < 1000):10∉(Us name ns).cps.toList:=Ec (by decide) λy hy=>by
 rcases List.mem_cons.mp hy with e | e
 ·rw [e]; exact hn
 ·obtain ⟨x,hx,rfl⟩:=List.mem_map.mp e
  exact Zd4 (h x hx) (by decide)
theorem Zbc {l:Str} {b:Nat} {es:List Nat} {st:List (List Nat)} (ok:OkM l b es st):Txt.split (Zd6 l b es st) ⟨#[10]⟩=Wr l b es st:=O1 (by simp [Wr]) λy hy=>by
 unfold Wr at hy
 rcases List.mem_append.mp hy with z | z
 ·simp only [List.mem_cons,List.not_mem_nil,or_false] at z
  rcases z with z | z | z
  ·rw [z]
   obtain ⟨n,hl,_,_⟩:=ok.Zov
   refine Ec (by decide) λy hy=>?_
   simp only [List.mem_cons,List.not_mem_nil,or_false] at hy
   rcases hy with e | e
   ·rw [e]; exact Zbu
   ·rw [e]; exact A7 hl 10 (by decide)
  ·rw [z]; exact J6 Zia λx hx=>by rw [List.mem_singleton.mp hx]; exact ok.beg
  ·rw [z]; exact J6 Zk7 ok.ends.2
 ·obtain ⟨r,hr,rfl⟩:=List.mem_map.mp z
  exact J6 Zk6 (ok.rows r hr).2
inductive Bq (vs:List V) (H:Hp) (Q:VK):Prop
 | mk (l:Str) (n:Nat) (h1:vs=[.str (G5 l)]) (h2:X6 l n) (h3:1≤n) (h4:n≤26) (h5:∀ H',Zo H H'→Q (.str l) H'):Bq vs H Q
def E5:Sp:=λvs H Q u3_=>Bq vs H Q
theorem Km {f:Addr} {fd:FuncData} (F:Fun K "read_letters" "read_letters" X3 f fd) (Z:Blt mg) (Uo:Cal P w K mg base "is_word" 1 ["text"] N4) (Ua:Cal P w K mg base "rising" 1 ["row"] N0):Yp P w K mg base CX0 2 f fd ["row"] E5:=by
 refine F.ok Ub (λvs H Q E h=>?_) (λcdv A outer s H vs Q E hr h=>?_)
 ·obtain ⟨l,n,rfl,_⟩:=h
  rfl
 obtain ⟨l,n,rfl,hl,hn1,hn2,k⟩:=h
 refine ⟨_,(Zd (Zm (i:=1) Ub.nd (by rfl) (Or.inl (by rfl)) (Xd (K:=K) PySem.F.plainAttrs_str PySem.F.slot_str_split PySem.F.type_str_split Iw (pv 0) (Za Y6 Zc))) 
   (Zd (Xm (PW.pt (F3 (Z7 Qt (Zn (Z3 (K:=K)) (by rfl) Z.len Ya (Za (pv 1) Zc)) Zh (Z8 _)) (Ld (Z7 Qt (Zs (Zz (K:=K)) (pv 1) Zh (λ_ _=>rfl)) Y6 (Z8 _))))) 
    (Zi Vk) Yh) 
   (Zd (Zm (i:=2) Ub.nd (by rfl) (Or.inl (by rfl)) (Zs (Zz (K:=K)) (pv 1) Zh (λ_ _=>rfl))) 
   (Zd (Xm (PW.pt (F3 (Z7 Ue (pv 2) Y6 (Z8 _)) (Ld (Uu (PW.pt (Le (Yy (K:=K) (Yg Uo (hr.mono (by decide)) (Za (pv 2) Zc)) (λ_=>rfl)) (P6 (Yy (K:=K) (Yg Ua (hr.mono (by decide)) (Za (pv 2) Zc)) (λ_=>rfl))))))))) 
    (Zi Vk) Yh) 
   (Zi (Z1 (pv 2))))))),?_⟩
 refine (let zz0:TS:=_; let zz1:TS:=Zq _ zz0; let zz2:TS:=Zq _ zz1; let zz3:TS:=Zq _ zz2; (?_:Zq _ zz3 _ _ _))
 have hll:=len_list l
 have hlen:l.length=n:=by rw [← hll]; exact hl.1
 have hsm:(G5 l).length≤1000000:=by
  have:=join_le 32 [Str.ofString "letters",l]
  simp only [List.map_cons,List.map_nil,List.sum_cons,List.sum_nil,List.length_cons,List.length_nil,F7] at this
  show (Txt.join ⟨#[32]⟩ [Str.ofString "letters",l]).length≤_
  omega
 refine ⟨_,rfl,rfl,_,_,rfl,rfl,by rw [P4]; rfl,hsm,λq hq=>?_⟩
 rw [P4,Ze5 hl]
 have e1:=Ze hq (.lst [.str (Str.ofString "letters"),.str l])
 have h1:upd H q (.lst [.str (Str.ofString "letters"),.str l]) q=some (.lst [.str (Str.ofString "letters"),.str l]):=Zb
 show _
 generalize hH1:upd H q _=H1
 have e1:Zo H H1:=by rw [← hH1]; exact Ze hq _
 have h1:H1 q=some (.lst [.str (Str.ofString "letters"),.str l]):=by rw [← hH1]; exact Zb
 clear hH1
 refine ⟨_,rfl,q,_,rfl,.inl (SqL.of h1),rfl,_,rfl,Zec rfl ?_⟩
 refine ⟨_,rfl,q,_,0,_,rfl,rfl,SqL.of h1,Zl (j:=0) rfl,rfl,_,rfl,Zec rfl ?_⟩
 refine ⟨_,rfl,q,_,1,_,rfl,rfl,SqL.of h1,Zl (j:=1) rfl,?_⟩
 have e0:(Str.ofString "").length=0:=by decide +kernel
 have ne:¬ V.str l=V.str (Str.ofString ""):=λe=>by
  injection e with e
  rw [e,e0] at hlen
  omega
 refine ⟨_,rfl,rfl,_,rfl,?_⟩
 rw [decide_eq_false ne]
 obtain ⟨w1,w2⟩:=A6 hl
 refine Sb ⟨_,rfl,l,rfl,by omega,λH2 e2=>⟨_,rfl,?_⟩⟩
 rw [w1]
 refine Mo ⟨_,rfl,l,rfl,by omega,λH3 e3=>⟨_,rfl,?_⟩⟩
 rw [w2]
 exact Sb ⟨_,rfl,k H3 ((e1.trans e2).trans e3)⟩
theorem Znb (x:V) (xs:List V):Q8 (x :: xs) (some 1) none=xs:=by
 unfold Q8
 rw [HT.J5,show (1:Int)=((1:Nat):Int) from rfl,HT.Dm,List.length_cons,Nat.min_eq_left (by omega)]
 simp
inductive Bo (vs:List V) (H:Hp) (Q:VK):Prop
 | mk (rp:Addr) (ys:List Str) (at_:Nat) (name:Str) (ns:List Nat) (h1:vs=[.ref rp,nI at_,.str name]) (h2:H rp=some (.lst (ys.map V.str))) (h3:ys[at_]? = some (Us name ns)) (h4:name.length≤10) (h5:32∉name.cps.toList) (h6:ns.length≤30) (h7:(∀ x∈ns,x < 1000)) (h8:∀ q H',H q=none→Zo H H'→H' q=some (.tup (ns.map nI))→Q (.ref q) H'):Bo vs H Q
def K3:Sp:=λvs H Q u3_=>Bo vs H Q
theorem Kk {f:Addr} {fd:FuncData} (F:Fun K "read_numbers" "read_numbers" Y2 f fd) (Z:Blt mg) (Pz:Cal P w K mg base "is_number" 1 ["word"] O2):Yp P w K mg base CX0 2 f fd ["rows","at","name"] K3:=by
 refine F.ok R4 (λvs H Q E h=>?_) (λcdv A outer s H vs Q E hr h=>?_)
 ·obtain ⟨rp,ys,at_,name,ns,rfl,_⟩:=h
  rfl
 obtain ⟨rp,ys,at_,name,ns,rfl,hrp,hat,hn,hnf,hnl,hns,k⟩:=h
 refine ⟨_,(Zd (Xm (Z7 Ue (pv 1) (Zn (Z3 (K:=K)) (by rfl) Z.len Ya (Za (pv 0) Zc)) (Z8 _)) 
    (Zi Vk) Yh) 
   (Zd (Zm (i:=3) R4.nd (by rfl) (Or.inl (by rfl)) (Xd (K:=K) PySem.F.plainAttrs_str PySem.F.slot_str_split PySem.F.type_str_split Iw (Zs (Zz (K:=K)) (pv 0) (pv 1) (λ_ _=>rfl)) (Za Y6 Zc))) 
   (Zd (Xm (PW.pt (F3 (Z7 Qt (Zs (Zz (K:=K)) (pv 3) Zh (λ_ _=>rfl)) (pv 2) (Z8 _)) (Ld (Uu (Yy (K:=K) (Zn (Um (K:=K)) (by rfl) Z.all L0 (Za (Yc (sc:=Zf Y2) (Nm:=["rows","at","name","words"]) (own:=["word"]) (fr:=[]) ⟨rfl,by decide +kernel,by decide +kernel,by decide +kernel,by decide +kernel⟩ (by rfl) (Z2 (by decide)) (Yv (K:=K) (Sm (Bz (K:=K)) (pv 3) (Oc Zh) Od)) (λd=>(Zk (i:=0) Md (by rfl) (Or.inl (by rfl)))) (λd=>Yb) (λd=>(Yg Pz (hr.mono (by decide)) (Za (pv 0) Zc)))) Zc)) (λ_=>rfl)))))) 
    (Zi Vk) Yh) 
   (Zi (Z1 (Zu (Yi (K:=K)) (by rfl) Z.tuple Yo (Za (Yc (sc:=Zf Y2) (Nm:=["rows","at","name","words"]) (own:=["word"]) (fr:=[]) ⟨rfl,by decide +kernel,by decide +kernel,by decide +kernel,by decide +kernel⟩ (by rfl) (Z2 (by decide)) (Yv (K:=K) (Sm (Bz (K:=K)) (pv 3) (Oc Zh) Od)) (λd=>(Zk (i:=0) Mc (by rfl) (Or.inl (by rfl)))) (λd=>Yb) (λd=>(Zu C1 (by rfl) Z.int Zcz (Za (pv 0) Zc)))) Zc))))))),?_⟩
 refine (let zz0:TS:=_; let zz1:TS:=Zq _ zz0; let zz2:TS:=Zq _ zz1; (?_:Zq _ zz2 _ _ _))
 have hlt:at_ < ys.length:=(List.getElem?_eq_some_iff.mp hat).1
 refine ⟨_,rfl,_,rfl,rp,_,rfl,.inl (SqL.of hrp),rfl,_,rfl,?_⟩
 have ne:¬ nI at_=V.int (((ys.map V.str).length:Nat):Int):=λe=>by
  rw [List.length_map] at e
  injection e with e
  omega
 rw [decide_eq_false ne]
 have hrl:=K7 hn hns
 refine Sb ⟨_,rfl,_,rfl,rp,_,_,_,rfl,rfl,SqL.of hrp,Zl (v:=V.str (Us name ns)) (by rw [List.getElem?_map,hat]; rfl),rfl,_,_,rfl,rfl,by rw [P4]; rfl,by omega,λq hq=>?_⟩
 rw [P4,Ze4 hnf hns]
 generalize hH1:upd H q _=H1
 have e1:Zo H H1:=by rw [← hH1]; exact Ze hq _
 have h1:H1 q=some (.lst (V.str name :: ns.map λn=>V.str (nS n))):=by
  rw [← hH1,Zb]
  unfold Kh
  rw [List.map_cons,List.map_map]
  rfl
 clear hH1
 refine ⟨_,rfl,q,_,0,_,rfl,rfl,SqL.of h1,Zl (j:=0) rfl,_,rfl,rfl,_,rfl,Zec rfl ?_⟩
 refine ⟨_,rfl,_,rfl,q,_,rfl,SqL.of h1,λc hc=>?_⟩
 rw [Znb]
 have e2:=e1.trans (Ze hc (.lst (ns.map λn=>V.str (nS n))))
 have h2:upd H1 c (.lst (ns.map λn=>V.str (nS n))) c=some (.lst (ns.map λn=>V.str (nS n))):=Zb
 have h2q:=Ze hc (.lst (ns.map λn=>V.str (nS n))) _ _ h1
 generalize upd H1 c (.lst (ns.map λn=>V.str (nS n)))=H2 at e2 h2 h2q
 refine ⟨c,rfl,⟨_,SqL.of h2⟩,?_⟩
 refine Xi (K:=K) (a:=c) (xs:=ns.map λn=>V.str (nS n)) (λi acc H3=>acc=List.replicate i (V.bl true)∧Zo H2 H3) (by rw [List.length_map]; exact Zt (by omega)) ⟨rfl,Zo.refl _⟩ (λi acc H3 p=>by rw [p.1,List.length_replicate]; exact Nat.le_refl _)
  (λi acc H3 p=>SqL.of (p.2 _ _ h2)) (λi acc H3 x hx p=>?_) (λacc H3 p y hy=>?_)
 ·obtain ⟨rfl,e3⟩:=p
  rw [List.getElem?_map] at hx
  cases hi:ns[i]? with
  | none=>rw [hi] at hx; cases hx
  | some n=>
   rw [hi] at hx
   cases hx
   exact Vg ⟨_,rfl,n,rfl,hns n (List.mem_of_getElem? hi),λH4 e4=>⟨by rw [← List.replicate_succ'],e3.trans e4⟩⟩
 obtain ⟨rfl,e3⟩:=p
 refine ⟨y,List.replicate _ true,rfl,SqL.of (by rw [Zb,List.map_replicate]),_,rfl,?_⟩
 rw [Zev]
 have e4:=e3.trans (Ze hy (.lst (List.replicate (ns.map λn=>V.str (nS n)).length (V.bl true))))
 generalize upd H3 y _=H4 at e4
 have h4q:=e4 _ _ h2q
 refine Sb ⟨_,rfl,_,rfl,q,_,rfl,SqL.of h4q,λc2 hc2=>?_⟩
 rw [Znb]
 have e5:=(e2.trans e4).trans (Ze hc2 (.lst (ns.map λn=>V.str (nS n))))
 have h5:upd H4 c2 (.lst (ns.map λn=>V.str (nS n))) c2=some (.lst (ns.map λn=>V.str (nS n))):=Zb
 generalize upd H4 c2 (.lst (ns.map λn=>V.str (nS n)))=H5 at e5 h5
 refine ⟨c2,rfl,⟨_,SqL.of h5⟩,?_⟩
 refine Xi (K:=K) (a:=c2) (xs:=ns.map λn=>V.str (nS n)) (λi acc H6=>acc=(ns.take i).map nI∧Zo H5 H6) (by rw [List.length_map]; exact Zt (by omega)) ⟨rfl,Zo.refl _⟩ (λi acc H6 p=>by rw [p.1,List.length_map,List.length_take]; exact Nat.min_le_left _ _)
  (λi acc H6 p=>SqL.of (p.2 _ _ h5)) (λi acc H6 x hx p=>?_) (λacc H6 p y2 hy2=>?_)
 ·obtain ⟨rfl,e6⟩:=p
  rw [List.getElem?_map] at hx
  cases hi:ns[i]? with
  | none=>rw [hi] at hx; cases hx
  | some n=>
   rw [hi] at hx
   cases hx
   have:=hns n (List.mem_of_getElem? hi)
   refine Vg ⟨_,rfl,(n:Int),rfl,by omega,by omega,?_,e6⟩
   rw [map_take hi]
   rfl
 obtain ⟨rfl,e6⟩:=p
 rw [List.length_map,List.take_length]
 have e7:=(e5.trans e6).trans (Ze hy2 (.lst (ns.map nI)))
 refine ⟨y2,_,rfl,.inl ⟨SqL.of Zb,λz hz=>?_⟩⟩
 exact k z _ (none_of e7 hz) (e7.trans (Ze hz _)) Zb
inductive Fu (vs:List V) (H:Hp) (Q:VK):Prop
 | mk (rp:Addr) (ys:List Str) (at_:Nat) (name:Str) (ns:List Nat) (h1:vs=[.ref rp,nI at_,.str name,nI ns.length]) (h2:H rp=some (.lst (ys.map V.str))) (h3:ys[at_]? = some (Us name ns)) (h4:name.length≤10) (h5:32∉name.cps.toList) (h6:ns.length≤30) (h7:(∀ x∈ns,x < 1000)) (h8:∀ q H',H q=none→Zo H H'→H' q=some (.tup (ns.map nI))→Q (.ref q) H'):Fu vs H Q
def Jv:Sp:=λvs H Q u3_=>Fu vs H Q
theorem Kj {f:Addr} {fd:FuncData} (F:Fun K "read_so_many" "read_so_many" X2 f fd) (Z:Blt mg) (X7:Cal P w K mg base "read_numbers" 2 ["rows","at","name"] K3):Yp P w K mg base CX0 3 f fd ["rows","at","name","count"] Jv:=by
 refine F.ok R1 (λvs H Q E h=>?_) (λcdv A outer s H vs Q E hr h=>?_)
 ·obtain ⟨rp,ys,at_,name,ns,rfl,_⟩:=h
  rfl
 obtain ⟨rp,ys,at_,name,ns,rfl,hrp,hat,hn,hnf,hnl,hns,k⟩:=h
 refine ⟨_,(Zd (Zm (i:=4) R1.nd (by rfl) (Or.inl (by rfl)) (Yg X7 (hr.mono (by decide)) (Za (pv 0) (Za (pv 1) (Za (pv 2) Zc))))) 
   (Zd (Xm (Z7 Qt (Zn (Z3 (K:=K)) (by rfl) Z.len Ya (Za (pv 4) Zc)) (pv 3) (Z8 _)) 
    (Zi Vk) Yh) 
   (Zi (Z1 (pv 4))))),?_⟩
 refine (let zz0:TS:=_; let zz1:TS:=Zq _ zz0; (?_:Zq _ zz1 _ _ _))
 refine ⟨_,rfl,_,rfl,_,rfl,rp,ys,at_,name,ns,rfl,hrp,hat,hn,hnf,hnl,hns,λq H1 hq e1 h1=>?_⟩
 refine ⟨_,rfl,q,_,rfl,.inr (SqT.of h1),_,rfl,rfl,_,rfl,Zec (by rw [List.length_map]; rfl) ⟨_,rfl,k q H1 hq e1 h1⟩⟩
inductive Bp (vs:List V) (H:Hp) (Q:VK):Prop
 | mk (l:Str) (b:Nat) (es:List Nat) (st:List (List Nat)) (h1:vs=[.str (Zd6 l b es st)]) (h2:OkM l b es st) (h3:∀ m H',Zo H H'→MT H' m l b es st→Q (.ref m) H'):Bp vs H Q
def E4:Sp:=λvs H Q u3_=>Bp vs H Q
theorem Kl {f:Addr} {fd:FuncData} {Vh:Value} (F:Fun K "read_machine" "read_machine" Xk f fd) (Z:Blt mg) (Uj:mg "ROWS_AHEAD" = some Vh) (r_ROWS_AHEAD:RelV (V.int 3) Vh)
  (Tq:Cal P w K mg base "read_letters" 2 ["row"] E5) (Vq:Cal P w K mg base "read_so_many" 3 ["rows","at","name","count"] Jv) (X7:Cal P w K mg base "read_numbers" 2 ["rows","at","name"] K3):Yp P w K mg base CX0 4 f fd ["text"] E4:=by
 refine F.ok Xa (λvs H Q E h=>?_) (λcdv A outer s H vs Q E hr h=>?_)
 ·obtain ⟨l,b,es,st,rfl,_⟩:=h
  rfl
 obtain ⟨l,b,es,st,rfl,ok,k⟩:=h
 refine ⟨_,(Zd (Zm (i:=1) Xa.nd (by rfl) (Or.inr (by rfl)) (Xd (K:=K) PySem.F.plainAttrs_str PySem.F.slot_str_split PySem.F.type_str_split Iw (pv 0) (Za Y6 Zc))) 
   (Zd (Zm (i:=2) Xa.nd (by rfl) (Or.inr (by rfl)) (Yg Tq (hr.mono (by decide)) (Za (Zs (Zz (K:=K)) (pv 1) Zh (λ_ _=>rfl)) Zc))) 
   (Zd (Zm (i:=3) Xa.nd (by rfl) (Or.inl (by rfl)) (Zs (Zw (K:=K)) (Yg Vq (hr.mono (by decide)) (Za (pv 1) (Za Zh (Za Y6 (Za Zh Zc))))) Zh (λ_ _=>rfl))) 
   (Zd (Zm (i:=4) Xa.nd (by rfl) (Or.inl (by rfl)) (Yg X7 (hr.mono (by decide)) (Za (pv 1) (Za Zh (Za Y6 Zc))))) 
   (Zd (Zm (i:=5) Xa.nd (by rfl) (Or.inl (by rfl)) (Zn (Zf7 (by rfl)) (by rfl) Z.max Zp0 (Za (Zn (Z3 (K:=K)) (by rfl) Z.len Ya (Za (pv 1) Zc)) (Za (Yj Wh (Ja (by rfl) Uj r_ROWS_AHEAD) Zh) Zc)))) 
   (Zd (Ob (i:=6) Xa.nd (by rfl) (by rfl) (sc:=Zf Xk) (Nm:=["text","rows","letters","begin","ends","last","steps"]) (own:=["at"]) (fr:=[1,2]) ⟨rfl,by decide +kernel,by decide +kernel,by decide +kernel,by decide +kernel⟩ (by rfl) (Z2 (by decide)) (Zfa (by rfl) Z.range (Za (Ja (by rfl) Uj r_ROWS_AHEAD) (Za (pv 5) Zc))) (λd=>(Zk (i:=0) Me (by rfl) (Or.inl (by rfl)))) (λd=>Yb) (λd=>(Yg Vq (hr.mono (by decide)) (Za (pv 1) (Za (pv 0) (Za Y6 (Za (Zn Wa (by rfl) Z.len Ya (Za (pv 2) Zc)) Zc))))))) 
   (Zi (Z1 (Vl (Za (pv 2) (Za (pv 3) (Za (pv 4) (Za (Zu (Yi (K:=K)) (by rfl) Z.tuple Yo (Za (pv 6) Zc)) Zc))))))))))))),?_⟩
 refine (let zz0:TS:=_; let zz1:TS:=Zq _ zz0; let zz2:TS:=Zq _ zz1; let zz3:TS:=Zq _ zz2; let zz4:TS:=Zq _ zz3; let zz5:TS:=Zq _ zz4; (?_:Zq _ zz5 _ _ _))
 have hl:=ok.len
 obtain ⟨n,hL,hn1,hn2⟩:=ok.Zov
 have hsm:(Zd6 l b es st).length≤1000000:=by
  have h1:=join_le 10 (Wr l b es st)
  have h2:=B4 ok
  show (Txt.join ⟨#[10]⟩ (Wr l b es st)).length≤_
  omega
 refine ⟨_,rfl,rfl,_,_,rfl,rfl,by rw [Dl]; rfl,hsm,λrp hrp=>?_⟩
 rw [Dl,Zbc ok]
 generalize hH1:upd H rp _=H1
 have e1:Zo H H1:=by rw [← hH1]; exact Ze hrp _
 have h1:H1 rp=some (.lst ((Wr l b es st).map V.str)):=by rw [← hH1]; exact Zb
 clear hH1
 have hrl:=B5 l b es st
 refine ⟨_,rfl,rp,_,0,_,rfl,rfl,SqL.of h1,Zl (j:=0) rfl,l,n,rfl,hL,hn1,hn2,λH2 e2=>?_⟩
 refine ⟨_,rfl,rp,Wr l b es st,1,_,[b],rfl,e2 _ _ h1,rfl,by rw [D8]; decide,Zls,(by show 1≤30; decide),λx hx=>by rw [List.mem_singleton.mp hx]; exact ok.beg,λq3 H3 hq3 e3 h3=>?_⟩
 refine ⟨q3,_,0,_,rfl,rfl,SqT.of h3,Zl (j:=0) rfl,?_⟩
 have e13:=e2.trans e3
 refine ⟨_,rfl,rp,Wr l b es st,2,_,es,rfl,e13 _ _ h1,rfl,by rw [Zbx]; decide,Zpp,ok.ends.1,ok.ends.2,λq4 H4 hq4 e4 h4=>?_⟩
 have e14:=e13.trans e4
 refine ⟨_,rfl,rp,_,rfl,.inl (SqL.of (e14 _ _ h1)),_,_,rfl,rfl,_,_,rfl,?_⟩
 have hmax:(if (3:Int)+1 > ((((Wr l b es st).map V.str).length:Nat):Int) then (3:Int)+1 else ((((Wr l b es st).map V.str).length:Nat):Int))=((3+st.length:Nat):Int):=by
  rw [List.length_map,hrl]
  exact if_neg (by have:=ok.room.1; omega)
 rw [hmax]
 have hro:=ok.room
 refine ⟨_,rfl,_,_,rfl,⟨by decide,by decide,by omega,by omega⟩,?_⟩
 refine Xy (lo:=3) (k:=(((3+st.length:Nat):Int) - 3).toNat) (λi acc H5=>TR tns H5 acc (st.take i)∧Zo H4 H5) (Nat.lt_of_le_of_lt (show (((3+st.length:Nat):Int) - 3).toNat≤50 by omega) (by decide)) ⟨.nil,Zo.refl _⟩ (λi acc H5 p=>by rw [p.1.len,List.length_take]; exact Nat.min_le_left _ _)
  (λi acc H5 hi p=>?_) (λacc H5 p y hy=>?_)
 ·obtain ⟨R5,e5⟩:=p
  have hi':i < st.length:=by omega
  have hri:st[i]? = some st[i]:=List.getElem?_eq_getElem hi'
  have X5:=ok.rows st[i] (List.getElem_mem hi')
  have hat:(Wr l b es st)[3+i]? = some (Us (Str.ofString "room") st[i]):=by
   unfold Wr
   rw [List.getElem?_append_right (by show 3≤3+i; omega)]
   show (st.map (Us (Str.ofString "room")))[3+i - 3]? = _
   rw [Nat.add_sub_cancel_left,List.getElem?_map,hri]
   rfl
  refine Vg ⟨_,rfl,_,rfl,_,rfl,l,rfl,Xv (by omega),rp,Wr l b es st,3+i,_,st[i],?_,(e14.trans e5) _ _ h1,hat,by rw [Zbw]; decide,Zpo,by omega,X5.2,λq6 H6 hq6 e6 h6=>⟨?_,e5.trans e6⟩⟩
  ·rw [X5.1]
   show [V.ref rp,V.int (3+(i:Int)),_,V.int (l.length:Int)]=[V.ref rp,V.int ((3+i:Nat):Int),_,V.int (l.length:Int)]
   rw [show ((3+i:Nat):Int)=3+(i:Int) by omega]
  ·rw [List.take_add_one,hri]
   exact (R5.keep (Tk.same e6)).snoc h6
 obtain ⟨R5,e5⟩:=p
 rw [show (((3+st.length:Nat):Int) - 3).toNat=st.length by omega,List.take_length] at R5
 have s6:=Ze hy (.lst acc)
 refine ⟨_,rfl,_,rfl,_,rfl,_,rfl,y,_,rfl,.inl ⟨SqL.of Zb,λz hz=>⟨(by show 4≤sizeLine; decide),λm hm=>?_⟩⟩⟩
 have s7:=Ze hz (.tup acc)
 have s8:=Ze hm (.tup [.str l,nI b,.ref q4,.ref z])
 have e48:=((e5.trans s6).trans s7).trans s8
 refine k m _ (((e1.trans e14).trans e48)) ⟨q4,z,acc,Zb,e48 _ _ h4,s8 _ _ Zb,((R5.keep (Tk.same s6)).keep (Tk.same s7)).keep (Tk.same s8)⟩
structure Znf (H:Hp) (m:Addr) (l:Str) (b:Int) (es:List Int) (st:List (List Int)):Prop where
 lay:∃ (e s:Addr) (ras:List Addr),H m=some (.tup [.str l,.int b,.ref e,.ref s])∧H e=some (.tup (es.map V.int))∧H s=some (.tup (ras.map V.ref))∧ras.length=st.length∧∀ (i:Nat) a r,ras[i]? = some a→st[i]? = some r→H a=some (.tup (r.map V.int))
 few:l.length≤100∧es.length≤100∧st.length≤100∧∀ r∈st,r.length≤100
def thB (n:Int) (x:Int):Bool:=decide (0≤x) && decide (x < n)
def rI (es:List Int) (i:Nat):Bool:=decide (es.getD i 0 < es.getD (i+1) 0)
def Zg6 (es:List Int):Bool:=((List.range (es.length - 1)).map (rI es)).all id
def allB (n:Int) (es:List Int):Bool:=(es.map (thB n)).all id
def Zkn (l:Str) (n:Int) (r:List Int):Bool:=decide (r.length=l.length) && allB n r
theorem Zjr {σ:L2.St} {H:Hp} {x n:Int} {Q:VK} {j j2:Nat} (hj:σ[j]? = some (some (.int x))) (hj2:σ[j2]? = some (some (.int n))) (q:Q (.bl (thB n x)) H) :
  M8 (rI0 λi j=>.bl (decide (i≤j))) (rI0 λi j=>.bl (decide (i < j))) (tC (.int 0)) (M7 j) (M7 j2) σ H Q:=by
 refine ⟨_,hj,_,_,rfl,rfl,_,rfl,?_⟩
 unfold thB at q
 by_cases h:(0:Int)≤x
 ·rw [decide_eq_true h] at q ⊢
  rw [Bool.true_and] at q
  exact Mo ⟨_,hj2,_,_,rfl,rfl,q⟩
 ·rw [decide_eq_false h] at q ⊢
  rw [Bool.false_and] at q
  exact Sb q
inductive Bl (vs:List V) (H:Hp) (Q:VK):Prop
 | mk (a:Addr) (es:List Int) (n:Int) (h1:vs=[.ref a,.int n]) (h2:H a=some (.tup (es.map V.int))) (h3:es.length≤100) (h4:∀ H',Zo H H'→Q (.bl (allB n es)) H'):Bl vs H Q
def K2:Sp:=λvs H Q u3_=>Bl vs H Q
theorem D4 {f:Addr} {fd:FuncData} (F:Fun K "all_there" "all_there" Wq f fd) (Z:Blt mg):Yp P w K mg base CX0 1 f fd ["rooms","count"] K2:=by
 refine F.ok Dk (λvs H Q E h=>?_) (λcdv A outer s H vs Q E hr h=>?_)
 ·obtain ⟨a,es,n,rfl,_⟩:=h
  rfl
 obtain ⟨a,es,n,rfl,ha,hz,k⟩:=h
 refine ⟨_,(Zi (Z1 (Zn (Um (K:=K)) (by rfl) Z.all L0 (Za (Yc (sc:=Zf Wq) (Nm:=["rooms","count"]) (own:=["room"]) (fr:=[1]) ⟨rfl,by decide +kernel,by decide +kernel,by decide +kernel,by decide +kernel⟩ (by rfl) (Z2 (by decide)) (V3 (K:=K) (pv 0)) (λd=>(Zk (i:=0) Iu (by rfl) (Or.inl (by rfl)))) (λd=>Yb) (λd=>(Qq L9 F5 Zh (pv 0) (pv 1)))) Zc)))),?_⟩
 have hl:(es.map V.int).length=es.length:=List.length_map ..
 refine ⟨_,rfl,a,rfl,⟨_,SqT.of ha⟩,?_⟩
 refine U2 (K:=K) (a:=a) (xs:=es.map V.int) (λi acc H2=>acc=((es.take i).map (thB n)).map V.bl∧Zo H H2) (by rw [hl]; exact Zt (by omega)) ⟨rfl,Zo.refl _⟩ (λi acc H2 q=>by rw [q.1,List.length_map,List.length_map,List.length_take]; exact Nat.min_le_left _ _)
  (λi acc H2 q=>SqT.of (q.2 _ _ ha)) (λi acc H2 x hx q=>?_) (λacc H2 q y hy=>?_)
 ·obtain ⟨rfl,e⟩:=q
  rw [List.getElem?_map] at hx
  cases hc:es[i]? with
  | none=>rw [hc] at hx; cases hx
  | some c=>
   rw [hc] at hx
   cases hx
   refine Vg (Zjr rfl rfl ⟨?_,e⟩)
   rw [List.take_add_one,hc,List.map_append,List.map_append]
   rfl
 ·obtain ⟨rfl,e⟩:=q
  rw [hl,List.take_length]
  exact ⟨y,es.map (thB n),rfl,SqL.of Zb,k _ (e.trans (Ze hy _))⟩
theorem Znd {es:List Int} {i:Nat} (h:i < es.length):atI (es.map V.int) (0+(i:Int))=some (.int (es.getD i 0)):=by
 rw [List.getD_eq_getElem?_getD,List.getElem?_eq_getElem h]
 exact Zne (by rw [List.getElem?_map,List.getElem?_eq_getElem h]; rfl)
theorem Zp2 {es:List Int} {i:Nat} (h:i+1 < es.length):atI (es.map V.int) (0+(i:Int)+1)=some (.int (es.getD (i+1) 0)):=by
 have:=Znd h
 rw [show (0:Int)+((i+1:Nat):Int)=0+(i:Int)+1 by omega] at this
 exact this
inductive Ju (vs:List V) (H:Hp) (Q:VK):Prop
 | mk (a:Addr) (es:List Int) (h1:vs=[.ref a]) (h2:H a=some (.tup (es.map V.int))) (h3:es.length≤100) (h4:∀ H',Zo H H'→Q (.bl (Zg6 es)) H'):Ju vs H Q
def La:Sp:=λvs H Q u3_=>Ju vs H Q
theorem Zbs {f:Addr} {fd:FuncData} (F:Fun K "rising" "rising" Vj f fd) (Z:Blt mg):Yp P w K mg base CX0 1 f fd ["row"] La:=by
 refine F.ok F0 (λvs H Q E h=>?_) (λcdv A outer s H vs Q E hr h=>?_)
 ·obtain ⟨a,es,rfl,_⟩:=h
  rfl
 obtain ⟨a,es,rfl,ha,hz,k⟩:=h
 refine ⟨_,(Zi (Z1 (Zn (Um (K:=K)) (by rfl) Z.all L0 (Za (Yc (sc:=Zf Vj) (Nm:=["row"]) (own:=["n"]) (fr:=[0]) ⟨rfl,by decide +kernel,by decide +kernel,by decide +kernel,by decide +kernel⟩ (by rfl) (Z2 (by decide)) (Yz (by rfl) Z.range (Za (Yj O4 (Zn (Z3 (K:=K)) (by rfl) Z.len Ya (Za (pv 0) Zc)) Zh) Zc)) (λd=>(Zk (i:=0) Ka (by rfl) (Or.inl (by rfl)))) (λd=>Yb) (λd=>(Xu F5 (Zs (Zw (K:=K)) (pv 1) (pv 0) (λ_ _=>rfl)) (Zs (Zw (K:=K)) (pv 1) (Yj Wh (pv 0) Zh) (λ_ _=>rfl)) (Z8 _)))) Zc)))),?_⟩
 have hl:(es.map V.int).length=es.length:=List.length_map ..
 refine ⟨_,rfl,a,_,rfl,.inr (SqT.of ha),_,_,rfl,rfl,_,rfl,by omega,by omega,?_⟩
 refine Xy (lo:=0) (k:=(((es.map V.int).length:Int) - 1).toNat) (λi acc H2=>acc=((List.range i).map (rI es)).map V.bl∧Zo H H2) (Nat.lt_of_le_of_lt (show (((es.map V.int).length:Int) - 1).toNat≤1000 by omega) (by decide)) ⟨rfl,Zo.refl _⟩
  (λi acc H2 q=>by rw [q.1,List.length_map,List.length_map,List.length_range]; exact Nat.le_refl _) (λi acc H2 hi q=>Vg ?_) (λacc H2 q y hy=>?_)
 ·obtain ⟨rfl,e⟩:=q
  have h2:=e _ _ ha
  refine ⟨_,rfl,_,rfl,a,_,_,_,rfl,rfl,SqT.of h2,Znd (by omega),_,rfl,_,rfl,_,_,rfl,rfl,a,_,_,_,rfl,rfl,SqT.of h2,Zp2 (by omega),_,_,rfl,rfl,?_,e⟩
  rw [List.range_succ,List.map_append,List.map_append]
  rfl
 ·obtain ⟨rfl,e⟩:=q
  refine ⟨y,_,rfl,SqL.of Zb,?_⟩
  have q:=k _ (e.trans (Ze hy (.lst (((List.range (((es.map V.int).length:Int) - 1).toNat).map (rI es)).map V.bl))))
  unfold Zg6 at q
  rw [show es.length - 1=(((es.map V.int).length:Int) - 1).toNat by omega] at q
  exact q
inductive Fs (vs:List V) (H:Hp) (Q:VK):Prop
 | mk (l:Str) (s:Addr) (ras:List Addr) (st:List (List Int)) (h1:vs=[.str l,.ref s]) (h2:H s=some (.tup (ras.map V.ref))) (h3:ras.length=st.length) (h4:(∀ (i:Nat) a r,ras[i]? = some a→st[i]? = some r→H a=some (.tup (r.map V.int)))) (h5:l.length≤100) (h6:st.length≤100) (h7:(∀ r∈st,r.length≤100)) (h8:(∀ r∈st,Zkn l st.length r=true)) (h9:∀ H',Zo H H'→Q .non H'):Fs vs H Q
def Jr:Sp:=λvs H Q u3_=>Fs vs H Q
theorem Gu {f:Addr} {fd:FuncData} (F:Fun K "look_steps" "look_steps" Wy f fd) (Z:Blt mg) (Ve:Cal P w K mg base "all_there" 1 ["rooms","count"] K2):Yp P w K mg base CX0 3 f fd ["letters","steps"] Jr:=by
 refine F.ok Tz (λvs H Q E h=>?_) (λcdv A outer s H vs Q E hr h=>?_)
 ·obtain ⟨l,s,ras,st,rfl,_⟩:=h
  rfl
 obtain ⟨l,s',ras,st,rfl,hs,hlen,X5,hl,hst,Zrs,Kx,kq⟩:=h
 refine ⟨_,(Zi (Xx PassesOwn.never (by rfl) (N8 (K:=K) (by rfl) Z.enumerate (pv 1)) (V5 (K:=K) (n:=2) (by rfl) (Yd (Zk (i:=2) Tz.nd (by rfl) (Or.inl (by rfl))) (Yd (Zk (i:=3) Tz.nd (by rfl) (Or.inl (by rfl))) V4))) 
    (Zi (Xm (PW.pt (F3 (Z7 Qt (Zn (Z3 (K:=K)) (by rfl) Z.len Ya (Za (pv 3) Zc)) (Zn Wa (by rfl) Z.len Ya (Za (pv 0) Zc)) (Z8 _)) (Ld (Uu (Yy (K:=K) (Yg Ve (hr.mono (by decide)) (Za (pv 3) (Za (Zn (Z3 (K:=K)) (by rfl) Z.len Ya (Za (pv 1) Zc)) Zc))) (λ_=>rfl)))))) 
     (Zi Vk) Yh)))),?_⟩
 refine ⟨_,rfl,s',ras.map V.ref,rfl,.inr ⟨SqT.of hs,?_⟩⟩
 refine Hs (xs:=ras.map V.ref) (λi σ H2=>∃ (v2 v3:Option V),σ=[some (.str l),some (.ref s'),v2,v3]∧Zo H H2) ⟨none,none,rfl,Zo.refl _⟩ (λi σ H2 _ h=>?_) ?_ ?_
 ·obtain ⟨_,_,_,e⟩:=h
  exact SqT.of (e _ _ hs)
 ·rintro i x σ H2 p hx' ⟨v2,v3,rfl,e2⟩ hp
  rw [List.getElem?_map] at hx'
  cases hc:ras[i]? with
  | none=>rw [hc] at hx'; cases hx'
  | some a=>
   rw [hc] at hx'
   cases hx'
   have hi:=(List.getElem?_eq_some_iff.mp hc).1
   have hri:st[i]? = some (st[i]'(by omega)):=List.getElem?_eq_getElem (by omega)
   generalize st[i]'(by omega)=r at hri
   have ha:=X5 i a r hc hri
   have s3:=Ze hp (.tup [.int i,.ref a])
   have h3p:upd H2 p (.tup [.int i,.ref a]) p=some (.tup [.int i,.ref a]):=Zb
   generalize upd H2 p (.tup [.int i,.ref a])=H3 at s3 h3p
   have e3:=e2.trans s3
   have hrl:=Zrs r (List.mem_of_getElem? hri)
   have hml:(r.map V.int).length=r.length:=List.length_map ..
   have hb:=Kx r (List.mem_of_getElem? hri)
   unfold Zkn at hb
   rw [Bool.and_eq_true,decide_eq_true_eq] at hb
   refine ⟨p,_,rfl,SqT.of h3p,rfl,_,_,rfl,_,_,rfl,rfl,?_⟩
   refine ⟨_,rfl,a,_,rfl,.inr (SqT.of (e3 _ _ ha)),_,rfl,l,rfl,Xv (by omega),rfl,_,rfl,?_⟩
   refine ifN (by show (!decide (V.int ((r.map V.int).length:Nat)=V.int (l.length:Nat)))=false; rw [hml,hb.1,decide_eq_true rfl]; rfl) ?_
   refine ⟨_,rfl,_,rfl,s',_,rfl,.inr (SqT.of (e3 _ _ hs)),a,r,_,rfl,e3 _ _ ha,hrl,λH4 e4=>⟨_,rfl,?_⟩⟩
   have hll:((ras.map V.ref).length:Int)=(st.length:Int):=by rw [List.length_map,hlen]
   have hrb:allB ((ras.map V.ref).length:Nat) r=true:=by
    show allB ((ras.map V.ref).length:Int) r=true
    rw [hll]
    exact hb.2
   rw [hrb]
   exact Sb ⟨_,_,rfl,e3.trans e4⟩
 ·rintro σ H2 ⟨v2,v3,rfl,e2⟩
  exact kq _ e2
structure Zj6 (l:Str) (b:Int) (es:List Int) (st:List (List Int)):Prop where
 lt:Zlf l.cps.toList=true
 room:1≤st.length∧st.length≤6
 beg:0≤b∧b < (st.length:Int)
 ris:Zg6 es=true
 ends:allB st.length es=true
 rows:∀ r∈st,Zkn l st.length r=true
inductive Bx (vs:List V) (H:Hp) (Q:VK):Prop
 | mk (m:Addr) (l:Str) (b:Int) (es:List Int) (st:List (List Int)) (h1:vs=[.ref m]) (h2:Znf H m l b es st) (h3:Zj6 l b es st) (h4:∀ H',Zo H H'→Q (.bl true) H'):Bx vs H Q
def Dd:Sp:=λvs H Q u3_=>Bx vs H Q
theorem Kp {f:Addr} {fd:FuncData} (F:Fun K "look_machine" "look_machine" X4 f fd) (Z:Blt mg) {uM:Value} (Rn:mg "MOST_ROOMS" = some uM) (r_MOST_ROOMS:RelV (.int 6) uM)
  (Ve:Cal P w K mg base "all_there" 1 ["rooms","count"] K2) (Ua:Cal P w K mg base "rising" 1 ["row"] La) (Ry:Cal P w K mg base "is_letters" 2 ["text"] Qi)
  (Rv:Cal P w K mg base "look_steps" 3 ["letters","steps"] Jr):Yp P w K mg base CX0 4 f fd ["machine"] Dd:=by
 refine F.ok W6 (λvs H Q E h=>?_) (λcdv A outer s H vs Q E hr h=>?_)
 ·obtain ⟨m,l,b,es,st,rfl,_⟩:=h
  rfl
 obtain ⟨m,l,b,es,st,rfl,M,ok,k⟩:=h
 refine ⟨_,(Zd (Zm (i:=1) W6.nd (by rfl) (Or.inl (by rfl)) (Zs (Zw (K:=K)) (pv 0) Zh (λ_ _=>rfl))) 
   (Zd (Zm (i:=2) W6.nd (by rfl) (Or.inl (by rfl)) (Zs (Zw (K:=K)) (pv 0) Zh (λ_ _=>rfl))) 
   (Zd (Zm (i:=3) W6.nd (by rfl) (Or.inl (by rfl)) (Zs (Zw (K:=K)) (pv 0) Zh (λ_ _=>rfl))) 
   (Zd (Xm (Uu (Yy (K:=K) (Yg Ry (hr.mono (by decide)) (Za (pv 1) Zc)) (λ_=>rfl))) 
    (Zi Vk) Yh) 
   (Zd (Xm (Uu (Ae L9 L9 Zh (Zn (Z3 (K:=K)) (by rfl) Z.len Ya (Za (pv 3) Zc)) (Ja (by rfl) Rn r_MOST_ROOMS))) 
    (Zi Vk) Yh) 
   (Zd (Xm (Uu (Ae L9 F5 Zh (Zs (Zw (K:=K)) (pv 0) Zh (λ_ _=>rfl)) (Zn (Z3 (K:=K)) (by rfl) Z.len Ya (Za (pv 3) Zc)))) 
    (Zi Vk) Yh) 
   (Zd (Xm (Uu (PW.pt (Le (Yy (K:=K) (Yg Ua (hr.mono (by decide)) (Za (pv 2) Zc)) (λ_=>rfl)) (P6 (Yy (K:=K) (Yg Ve (hr.mono (by decide)) (Za (pv 2) (Za (Zn (Z3 (K:=K)) (by rfl) Z.len Ya (Za (pv 3) Zc)) Zc))) (λ_=>rfl)))))) 
    (Zi Vk) Yh) 
   (Zd (Xz (Yg Rv (hr.mono (by decide)) (Za (pv 1) (Za (pv 3) Zc)))) 
   (Zi (Z1 Ic)))))))))),?_⟩
 refine (let zz0:TS:=_; let zz1:TS:=Zq _ zz0; let zz2:TS:=Zq _ zz1; let zz3:TS:=Zq _ zz2; let zz4:TS:=Zq _ zz3; let zz5:TS:=Zq _ zz4; let zz6:TS:=Zq _ zz5; let zz7:TS:=Zq _ zz6; (?_:Zq _ zz7 _ _ _))
 obtain ⟨⟨e,s',ras,h1,h2,h3,h4,h5⟩,f1,f2,f3,f4⟩:=M
 have hll:((ras.map V.ref).length:Int)=(st.length:Int):=by rw [List.length_map,h4]
 obtain ⟨hL,hAB,hCD,hR,hE,hS⟩:=ok
 refine ⟨_,rfl,m,_,_,_,rfl,rfl,SqT.of h1,Zl (j:=0) rfl,_,rfl,m,_,_,_,rfl,rfl,SqT.of h1,Zl (j:=2) rfl,_,rfl,m,_,_,_,rfl,rfl,SqT.of h1,Zl (j:=3) rfl,?_⟩
 refine ⟨_,rfl,l,rfl,by omega,λH1 e1=>⟨_,rfl,?_⟩⟩
 rw [hL]
 refine Sb ?_
 have h31:=e1 _ _ h3
 refine ⟨_,rfl,s',_,rfl,.inr (SqT.of h31),_,_,rfl,rfl,_,rfl,?_⟩
 refine ifY (decide_eq_true (show (1:Int)≤((ras.map V.ref).length:Int) by omega)) ⟨_,_,rfl,rfl,_,rfl,?_⟩
 refine ifN (by rw [decide_eq_true (show ((ras.map V.ref).length:Int)≤6 by omega)]; rfl) ?_
 refine ⟨_,rfl,m,_,_,_,rfl,rfl,SqT.of (e1 _ _ h1),Zl (j:=1) rfl,_,_,rfl,rfl,_,rfl,?_⟩
 refine ifY (decide_eq_true hCD.1) ⟨_,rfl,s',_,rfl,.inr (SqT.of h31),_,_,rfl,rfl,_,rfl,?_⟩
 refine ifN (by rw [decide_eq_true (show b < ((ras.map V.ref).length:Int) by omega)]; rfl) ?_
 refine ⟨_,rfl,e,es,rfl,e1 _ _ h2,f2,λH2 e2=>⟨_,rfl,?_⟩⟩
 have e02:=e1.trans e2
 rw [hR]
 refine Mo ⟨_,rfl,_,rfl,s',_,rfl,.inr (SqT.of (e02 _ _ h3)),e,es,_,rfl,e02 _ _ h2,f2,λH3 e3=>⟨_,rfl,?_⟩⟩
 have e03:=e02.trans e3
 have hal:allB ((ras.map V.ref).length:Nat) es=true:=by show allB ((ras.map V.ref).length:Int) es=_; rw [hll]; exact hE
 rw [hal]
 exact Sb ⟨_,rfl,_,rfl,l,s',ras,st,rfl,e03 _ _ h3,h4,λi a r q1 q2=>e03 _ _ (h5 i a r q1 q2),f1,f3,f4,hS,λH4 e4=>k H4 (e03.trans e4)⟩
abbrev S (w:List Nat):Str:=⟨w.toArray⟩
theorem Zte:Str.ofString "" = S []:=by decide +kernel
theorem Za0 (w:List Nat):(S w).length=w.length:=by simp [Str.length]
theorem Zp8 (w:List Nat) (c:Nat):S w ++ (⟨#[c]⟩:Str)=S (w ++ [c]):=by
 show (⟨(S w).cps ++ #[c]⟩:Str)=_
 simp [S]
theorem Zfw {α β:Type} {f:α→List β} {l:List α} {i:Nat} {x:α} (h:l[i]? = some x):(l.take (i+1)).flatMap f=(l.take i).flatMap f ++ f x:=by
 rw [List.take_add_one,h,List.flatMap_append]
 simp
theorem Hu {α β:Type} {f:α→List β} {n:Nat} (h:∀ x,(f x).length≤n):∀ l:List α,(l.flatMap f).length≤l.length * n
 | []=>by simp
 | x :: l=>by
  rw [List.flatMap_cons,List.length_append,List.length_cons,Nat.succ_mul]
  have:=h x
  have:=Hu h l
  omega
def Tx (ws:List (List Nat)):List V:=ws.map λu=>.str (S u)
theorem Vi (us:List (List Nat)):(Tx us).length=us.length:=by unfold Tx; rw [List.length_map]
theorem K1 {us:List (List Nat)} {i:Nat} {x:V} (h:(Tx us)[i]? = some x):∃ u,us[i]? = some u∧x=.str (S u):=by
 unfold Tx at h
 rw [List.getElem?_map] at h
 cases e:us[i]? with
 | none=>rw [e] at h; cases h
 | some u=>rw [e] at h; exact ⟨u,rfl,(Option.some.inj h).symm⟩
def aw (L:List Nat):Nat→List (List Nat)
 | 0=>[[]]
 | i+1=>(aw L i).flatMap λu=>L.map λc=>u ++ [c]
theorem Gj {L:List Nat}:∀ (i:Nat) (u:List Nat),u∈aw L i↔u.length=i∧∀ c∈u,c∈L
 | 0,u=>by
  show u∈[[]]↔_
  rw [List.mem_singleton]
  constructor
  ·rintro rfl
   exact ⟨rfl,λc hc=>by cases hc⟩
  ·exact λh=>List.eq_nil_of_length_eq_zero h.1
 | i+1,u=>by
  show u∈(aw L i).flatMap _↔_
  rw [List.mem_flatMap]
  constructor
  ·rintro ⟨v,hv,h⟩
   obtain ⟨c,hc,rfl⟩:=List.mem_map.mp h
   obtain ⟨h1,h2⟩:=(Gj i v).mp hv
   refine ⟨by rw [List.length_append,h1]; rfl,λd hd=>?_⟩
   rcases List.mem_append.mp hd with z | z
   ·exact h2 d z
   ·rw [List.mem_singleton.mp z]
    exact hc
  ·rintro ⟨h1,h2⟩
   have hne:u≠[]:=λe=>by rw [e] at h1; cases h1
   have hd:=List.dropLast_concat_getLast hne
   refine ⟨u.dropLast,(Gj i _).mpr ⟨by rw [List.length_dropLast,h1]; rfl,λc hc=>h2 c (List.dropLast_subset _ hc)⟩,List.mem_map.mpr ⟨u.getLast hne,h2 _ (List.getLast_mem hne),hd⟩⟩
def awl (L:List Nat) (n:Nat):List (List Nat):=(List.range (n+1)).flatMap (aw L)
theorem Zax (L:List Nat) (n:Nat):awl L (n+1)=awl L n ++ aw L (n+1):=by
 unfold awl
 rw [List.range_succ,List.flatMap_append]
 simp
theorem Zeu {L:List Nat} {n:Nat} {u:List Nat}:u∈awl L n↔u.length≤n∧∀ c∈u,c∈L:=by
 unfold awl
 rw [List.mem_flatMap]
 constructor
 ·rintro ⟨i,hi,h⟩
  obtain ⟨h1,h2⟩:=(Gj i u).mp h
  exact ⟨by have:=List.mem_range.mp hi; omega,h2⟩
 ·exact λh=>⟨u.length,List.mem_range.mpr (by omega),(Gj _ _).mpr ⟨rfl,h.2⟩⟩
theorem C9 {L:List Nat} {m:Nat} (hm:L.length≤m):∀ i,(aw L i).length≤m ^ i
 | 0=>Nat.le_refl _
 | i+1=>by
  have h:=Hu (f:=λu:List Nat=>L.map λc=>u ++ [c]) (n:=m) (λu=>by rw [List.length_map]; exact hm) (aw L i)
  show ((aw L i).flatMap _).length≤_
  rw [Nat.pow_succ]
  exact Nat.le_trans h (Nat.mul_le_mul_right _ (C9 hm i))
theorem C8 {L:List Nat} (hm:L.length≤3):∀ n,n≤5→(awl L n).length≤400:=λn hn=>by
 have h:=C9 hm
 have h0:=h 0
 have h1:=h 1
 have h2:=h 2
 have h3:=h 3
 have h4:=h 4
 have h5:=h 5
 have e0:(awl L 0).length=(aw L 0).length:=by simp [awl]
 have st:∀ j,(awl L (j+1)).length=(awl L j).length+(aw L (j+1)).length:=λj=>by rw [Zax,List.length_append]
 have s0:=st 0
 have s1:=st 1
 have s2:=st 2
 have s3:=st 3
 have s4:=st 4
 simp only [Nat.reduceAdd,Nat.reducePow] at *
 match n,hn with
 | 0,_=>omega
 | 1,_=>omega
 | 2,_=>omega
 | 3,_=>omega
 | 4,_=>omega
 | 5,_=>omega
def pw (r:List Nat × Nat):List V:=[.str (S r.1),.str ⟨#[r.2]⟩]
inductive Bt (vs:List V) (H:Hp) (Q:VK):Prop
 | mk (wp:Addr) (us:List (List Nat)) (l:Str) (h1:vs=[.ref wp,.str l]) (h2:H wp=some (.lst (Tx us))) (h3:us.length≤300) (h4:l.length≤3) (h5:∀ p ys H',H p=none→Zo H H'→H' p=some (.lst ys)→TR pw H' ys (us.flatMap λu=>l.cps.toList.map λc=>(u,c))→Q (.ref p) H'):Bt vs H Q
def E7:Sp:=λvs H Q u3_=>Bt vs H Q
theorem Dx {f:Addr} {fd:FuncData} (F:Fun K "_law_pairs" "_law_pairs" Wn f fd) (Z:Blt mg):Yp P w K mg base CX0 1 f fd ["_law_words","_law_letters_here"] E7:=by
 refine F.ok S3 (λvs H Q E h=>?_) (λcdv A outer s H vs Q E hr h=>?_)
 ·obtain ⟨wp,us,l,rfl,_⟩:=h
  rfl
 obtain ⟨wp,us,l,rfl,hwp,hus,hl,k⟩:=h
 refine ⟨_,(Zd (Zm (i:=2) S3.nd (by rfl) (Or.inl (by rfl)) (X9 Zc)) 
   (Zd (Xx PassesOwn.never (by rfl) (Yv (K:=K) (pv 0)) (Zk (i:=3) S3.nd (by rfl) (Or.inr (by rfl))) 
    (Zi (Xz (Xd (K:=K) PySem.F.plainAttrs_list PySem.F.slot_list_extend PySem.F.type_list_extend Lo (pv 2) (Za (Yc (sc:=Zf Wn) (Nm:=["_law_words","_law_letters_here","_law_found","_law_word"]) (own:=["_law_letter"]) (fr:=[3]) ⟨rfl,by decide +kernel,by decide +kernel,by decide +kernel,by decide +kernel⟩ (by rfl) (Z2 (by decide)) (Ra (pv 1)) (λd=>(Zk (i:=0) Ij (by rfl) (Or.inl (by rfl)))) (λd=>Yb) (λd=>(Vl (Za (pv 1) (Za (pv 0) Zc))))) Zc))))) 
   (Zi (Z1 (pv 2))))),?_⟩
 refine (let zz0:TS:=_; let zz1:TS:=Zq _ zz0; (?_:Zq _ zz1 _ _ _))
 have hll:=len_list l
 refine ⟨(by show 0≤sizeLine; decide),λp hp=>?_⟩
 refine ⟨_,rfl,wp,rfl,⟨_,SqL.of (Ze hp _ _ _ hwp)⟩,?_⟩
 refine Q7 (K:=K) (a:=wp) (xs:=Tx us) (λi σ H2=>∃ (ys:List V) (v3:Option V),σ=[some (.ref wp),some (.str l),some (.ref p),v3]∧H2 p=some (.lst ys)∧Zo H H2∧TR pw H2 ys ((us.take i).flatMap λu=>l.cps.toList.map λc=>(u,c)))
  ⟨[],none,rfl,Zb,Ze hp _,.nil⟩ (λi σ H2 _ h=>?_) ?_ ?_
 ·obtain ⟨ys,v3,rfl,h1,h2,h3⟩:=h
  exact SqL.of (h2 _ _ hwp)
 ·rintro i x σ H2 hx ⟨ys,v3,rfl,h2p,e2,R2⟩
  obtain ⟨u,hu,rfl⟩:=K1 hx
  refine ⟨_,rfl,.inl ⟨rfl,_,SqL.of h2p⟩,_,rfl,l,rfl,?_⟩
  refine Q9 (cs:=l.cps.toList) (λj acc H3=>Zo H2 H3∧TR pw H3 acc ((l.cps.toList.take j).map λc=>(u,c))) (Zt (by omega)) ⟨Zo.refl _,.nil⟩ (λj acc H3 q=>by rw [q.2.len,List.length_map,List.length_take]; exact Nat.min_le_left _ _)
   (λj acc H3 c hc q=>?_) (λacc H3 q y hy=>?_)
  ·obtain ⟨e3,R3⟩:=q
   refine Vg ⟨_,rfl,_,rfl,(by show 2≤sizeLine; decide),λt ht=>⟨e3.trans (Ze ht _),?_⟩⟩
   rw [map_take hc]
   exact (R3.keep (Tk.same (Ze ht _))).snoc Zb
  ·obtain ⟨e3,R3⟩:=q
   rw [List.take_length] at R3
   have s4:=Ze hy (.lst acc)
   have e24:=e3.trans s4
   have h4p:=e24 _ _ h2p
   have ln:=Hu (f:=λu:List Nat=>l.cps.toList.map λc=>(u,c)) (n:=3) (λu=>by rw [List.length_map]; omega) (us.take i)
   have lt:(us.take i).length * 3≤300 * 3:=Nat.mul_le_mul_right _ (by rw [List.length_take]; omega)
   have l1:=R2.len
   have l2:=R3.len
   rw [List.length_map] at l2
   refine ⟨p,y,_,_,rfl,rfl,h4p,Zb,(by rw [sizeLine_eq]; omega),?_⟩
   refine ⟨_,_,rfl,Zb,Yq (e2.trans e24) hp _,?_⟩
   rw [Zfw hu]
   have K6:=Tk.lst h4p (.lst (ys ++ acc))
   exact ((R3.keep (Tk.same s4)).keep K6).app ((R2.keep (Tk.same e24)).keep K6)
 ·rintro σ H2 ⟨ys,v3,rfl,h2p,e2,R2⟩
  refine ⟨_,rfl,k p ys H2 hp e2 h2p ?_⟩
  rw [Vi,List.take_length] at R2
  exact R2
inductive Zdn (vs:List V) (H:Hp) (Q:VK):Prop
 | mk (l:Str) (k:Nat) (h1:vs=[.str l,nI k]) (h2:l.length≤3) (h3:k≤5) (h4:∀ p H',H p=none→Zo H H'→H' p=some (.lst (Tx (awl l.cps.toList k)))→Q (.ref p) H'):Zdn vs H Q
def Dg:Sp:=λvs H Q u3_=>Zdn vs H Q
theorem Lh {f:Addr} {fd:FuncData} (F:Fun K "_law_all_words" "_law_all_words" Xc f fd) (Z:Blt mg) (Px:Cal P w K mg base "_law_pairs" 1 ["_law_words","_law_letters_here"] E7):Yp P w K mg base CX0 2 f fd ["_law_letters_here","_law_most"] Dg:=by
 refine F.ok X1 (λvs H Q E h=>?_) (λcdv A outer s H vs Q E hr h=>?_)
 ·obtain ⟨l,k,rfl,_⟩:=h
  rfl
 obtain ⟨l,kn,rfl,hl,hk,k⟩:=h
 refine ⟨_,(Zd (Zm (i:=2) X1.nd (by rfl) (Or.inl (by rfl)) (X9 (Za Y6 Zc))) 
   (Zd (Zm (i:=3) X1.nd (by rfl) (Or.inl (by rfl)) (X9 (Za Y6 Zc))) 
   (Zd (Xx PassesOwn.never (by rfl) (Yz (by rfl) Z.range (Za (pv 1) Zc)) (Zk (i:=4) X1.nd (by rfl) (Or.inl (by rfl))) 
    (Zd (Ob (i:=3) X1.nd (by rfl) (by rfl) (sc:=Zf Xc) (Nm:=["_law_letters_here","_law_most","_law_found","_law_here","_law_turn"]) (own:=["_law_word","_law_letter"]) (fr:=[]) ⟨rfl,by decide +kernel,by decide +kernel,by decide +kernel,by decide +kernel⟩ (by rfl) (Je (Vd (by decide) (Vd (by decide) Mq))) (Yv (K:=K) (Yg Px (hr.mono (by decide)) (Za (pv 3) (Za (pv 0) Zc)))) (λd=>(V5 (K:=K) (n:=2) (by rfl) (Yd (Zk (i:=0) Ux (by rfl) (Or.inl (by rfl))) (Yd (Zk (i:=1) Ux (by rfl) (Or.inl (by rfl))) V4)))) (λd=>Yb) (λd=>(Yj Rf (pv 0) (pv 1)))) 
    (Zi (Xz (Xd (K:=K) PySem.F.plainAttrs_list PySem.F.slot_list_extend PySem.F.type_list_extend Lo (pv 2) (Za (pv 3) Zc)))))) 
   (Zi (Z1 (pv 2)))))),?_⟩
 refine (let zz0:TS:=_; let zz1:TS:=_; let zz2:TS:=Zq _ zz1; let zz3:TS:=Zq (Jn _ _ zz2) zz0; let zz4:TS:=Zq _ zz3; (?_:Zq _ zz4 _ _ _))
 have hll:=len_list l
 refine ⟨(by show 1≤sizeLine; decide),λp hp=>⟨(by show 1≤sizeLine; decide),λq hq=>?_⟩⟩
 rw [Zte]
 have e2:=(Ze hp (.lst [.str (S [])])).trans (Ze hq (.lst [.str (S [])]))
 have h2p:=Ze hq (.lst [.str (S [])]) _ _ (Zb (H:=H) (a:=p) (o:=.lst [.str (S [])]))
 have npq:p≠q:=Zg Zb hq
 refine ⟨_,rfl,_,rfl,by omega,by omega,?_⟩
 refine Ul (lo:=0) (n:=((kn:Nat):Int).toNat) (λi σ H4=>∃ (q:Addr) (v4:Option V),σ=[some (.str l),some (nI kn),some (.ref p),some (.ref q),v4]∧H4 p=some (.lst (Tx (awl l.cps.toList i)))∧H4 q=some (.lst (Tx (aw l.cps.toList i)))∧p≠q∧Zo H H4)
  ⟨q,none,rfl,h2p,Zb,npq,e2⟩ ?_ ?_
 ·rintro i σ H4 hi ⟨q,v4,rfl,h4p,h4q,npq,e4⟩
  have hi':i < kn:=by omega
  have la:=C9 (m:=3) (L:=l.cps.toList) (by omega) i
  have lb:=C9 (m:=3) (L:=l.cps.toList) (by omega) (i+1)
  have pa:3 ^ i≤3 ^ 5:=Nat.pow_le_pow_right (by decide) (by omega)
  have pb:3 ^ (i+1)≤3 ^ 5:=Nat.pow_le_pow_right (by decide) (by omega)
  refine ⟨_,rfl,_,rfl,q,aw l.cps.toList i,l,rfl,h4q,by omega,hl,λr ys H5 hr5 e5 h5 R5=>?_⟩
  have hyl:=R5.len
  have hfl:((aw l.cps.toList i).flatMap λu=>l.cps.toList.map λc=>(u,c)).map (λr=>V.str (S (r.1 ++ [r.2])))=Tx (aw l.cps.toList (i+1)):=by
   show _=((aw l.cps.toList i).flatMap λu=>l.cps.toList.map λc=>u ++ [c]).map λu=>V.str (S u)
   rw [List.map_flatMap,List.map_flatMap]
   congr 1
   funext u
   rw [List.map_map,List.map_map]
   rfl
  have hfn:((aw l.cps.toList i).flatMap λu=>l.cps.toList.map λc=>(u,c)).length=(aw l.cps.toList (i+1)).length:=by
   have:=congrArg List.length hfl
   rw [List.length_map,Vi] at this
   exact this
  refine ⟨r,rfl,⟨_,SqL.of h5⟩,?_⟩
  refine Xi (K:=K) (a:=r) (xs:=ys) (λj acc H6=>acc=(((aw l.cps.toList i).flatMap λu=>l.cps.toList.map λc=>(u,c)).take j).map (λr=>V.str (S (r.1 ++ [r.2])))∧Zo H5 H6) (by rw [hyl,hfn]; exact Zt (by omega)) ⟨rfl,Zo.refl _⟩ (λj acc H6 z=>by rw [z.1,List.length_map,List.length_take]; exact Nat.min_le_left _ _)
   (λj acc H6 z=>SqL.of (z.2 _ _ h5)) (λj acc H6 x hx z=>?_) (λacc H6 z y hy=>?_)
  ·obtain ⟨rfl,e6⟩:=z
   obtain ⟨ra,r',rfl,hr',hra⟩:=(R5.keep (Tk.same e6)).at_ hx
   have hb:r'.1.length≤100:=by
    obtain ⟨u,hu,hm⟩:=List.mem_flatMap.mp (List.mem_of_getElem? hr')
    obtain ⟨c,_,rfl⟩:=List.mem_map.mp hm
    have:=((Gj _ _).mp hu).1
    show u.length≤100
    omega
   refine Zjj rfl (SqT.of hra) ⟨_,rfl,_,rfl,_,_,rfl,rfl,Xv (by rw [Za0]; show r'.1.length+1≤1000; omega),?_,e6⟩
   rw [map_take hr',Zp8]
  ·obtain ⟨rfl,e6⟩:=z
   rw [hyl,List.take_length,hfl]
   have s7:=Ze hy (.lst (Tx (aw l.cps.toList (i+1))))
   have e47:=(e5.trans e6).trans s7
   have h7p:=e47 _ _ h4p
   have wl:=C8 (L:=l.cps.toList) (by omega) i (by omega)
   have npy:p≠y:=Zg (e6 _ _ (e5 _ _ h4p)) hy
   refine ⟨_,rfl,.inl ⟨rfl,_,SqL.of h7p⟩,_,rfl,p,y,_,_,rfl,rfl,h7p,Zb,(by rw [Vi,Vi]; exact Xv (by omega)),?_⟩
   refine ⟨y,_,rfl,?_,(Zj npy.symm).trans Zb,npy,Yq (e4.trans e47) hp _⟩
   rw [Zb,Zax]
   unfold Tx
   rw [List.map_append]
 ·rintro σ H4 ⟨q,v4,rfl,h4p,h4q,npq,e4⟩
  exact ⟨_,rfl,k p H4 hp e4 h4p⟩
inductive Bw (vs:List V) (H:Hp) (Q:VK):Prop
 | mk (z:Str) (h1:vs=[.str z]) (h2:z.length≤1000) (h3:∀ q H',Zo H H'→H' q=some (.tup [.int (z.length:Int),.str z])→Q (.ref q) H'):Bw vs H Q
def Dc:Sp:=λvs H Q u3_=>Bw vs H Q
theorem Dy {f:Addr} {fd:FuncData} (F:Fun K "_law_order" "_law_order" Vc f fd) (Z:Blt mg):Yp P w K mg base CX0 1 f fd ["_law_word"] Dc:=by
 refine F.ok Dj (λvs H Q E h=>?_) (λcdv A outer s H vs Q E hr h=>?_)
 ·obtain ⟨z,rfl,_⟩:=h
  rfl
 obtain ⟨z,rfl,hz,k⟩:=h
 refine ⟨_,(Zi (Z1 (Vl (Za (Zn Wa (by rfl) Z.len Ya (Za (pv 0) Zc)) (Za (pv 0) Zc))))),?_⟩
 exact ⟨_,rfl,z,rfl,Xv hz,_,rfl,(by show 2≤sizeLine; decide),λq hq=>k q _ (Ze hq _) Zb⟩
theorem U9 (u:List Nat):(S u).cps.toList=u:=by simp [S]
theorem Zsc {l:Str} (nd:l.cps.toList.Nodup) {j c:Nat} (hc:l.cps.toList[j]? = some c):fx l c=j:=by
 have e:stp l [List.range l.length] 0 c=stN [List.range l.length] 0 j:=Zgv nd hc
 have hl:=len_list l
 have hj:=(List.getElem?_eq_some_iff.mp hc).1
 have h1:fx l c < l.length:=(Jg (List.mem_of_getElem? hc)).2
 have g:∀ i,i < l.length→(List.range l.length).getD i 0=i:=λi hi=>by rw [List.getD_eq_getElem?_getD,List.getElem?_range hi]; rfl
 have e2:(List.range l.length).getD (fx l c) 0=(List.range l.length).getD j 0:=e
 rwa [g _ h1,g _ (by omega)] at e2
theorem Zdd {l:Str} (nd:l.cps.toList.Nodup):∀ cs:List Nat,(∀ c∈cs,c < l.length)→∃ t:List Nat,(∀ c∈t,c∈l.cps.toList)∧t.map (fx l)=cs
 | [],_=>⟨[],(λc hc=>by cases hc),rfl⟩
 | c :: cs,h=>by
  obtain ⟨t,h1,h2⟩:=Zdd nd cs λd hd=>h d (List.mem_cons_of_mem _ hd)
  have hl:=len_list l
  have hc:=h c List.mem_cons_self
  have hg:l.cps.toList[c]? = some (l.cps.toList[c]'(by omega)):=List.getElem?_eq_getElem (by omega)
  refine ⟨l.cps.toList[c]'(by omega) :: t,λd hd=>?_,?_⟩
  ·rcases List.mem_cons.mp hd with z | z
   ·rw [z]; exact List.getElem_mem _
   ·exact h1 d z
  ·rw [List.map_cons,h2,Zsc nd hg]
def nsB (r1 r2:List Nat):Bool:=r1.length==r2.length && (List.range r1.length).all λj=>(((r1.getD j 0:Nat):Int)==((r2.getD j 0:Nat):Int))
theorem Zel {α:Type} (d:α):∀ {r1 r2:List α},r1.length=r2.length→(∀ j,j < r1.length→r1.getD j d=r2.getD j d)→r1=r2:=λ{r1 r2} hl h=>List.ext_getElem hl λi h1 h2=>by
 have:=h i h1
 rwa [List.getD_eq_getElem?_getD,List.getD_eq_getElem?_getD,List.getElem?_eq_getElem h1,List.getElem?_eq_getElem h2] at this
theorem D5 {r1 r2:List Nat}:nsB r1 r2=true↔r1=r2:=by
 unfold nsB
 rw [Bool.and_eq_true,beq_iff_eq,List.all_eq_true]
 constructor
 ·rintro ⟨h1,h2⟩
  exact Zel 0 h1 λj hj=>by have:=beq_iff_eq.mp (h2 j (List.mem_range.mpr hj)); omega
 ·rintro rfl
  exact ⟨rfl,λj _=>beq_self_eq_true _⟩
def rwB (s1 s2:List (List Nat)):Bool:=s1.length==s2.length && (List.range s1.length).all λj=>nsB (s1.getD j []) (s2.getD j [])
theorem Zkm {r1 r2:List (List Nat)}:rwB r1 r2=true↔r1=r2:=by
 unfold rwB
 rw [Bool.and_eq_true,beq_iff_eq,List.all_eq_true]
 constructor
 ·rintro ⟨h1,h2⟩
  exact Zel [] h1 λj hj=>D5.mp (h2 j (List.mem_range.mpr hj))
 ·rintro rfl
  exact ⟨rfl,λj _=>D5.mpr rfl⟩
theorem Zjo {H:Hp} {a b:Addr} {r1 r2:List Nat} {n:Nat} (ha:H a=some (.tup (r1.map nI))) (hb:H b=some (.tup (r2.map nI))):Cmp H (n+1) (.ref a) (.ref b) (nsB r1 r2):=by
 have:=Cmp.tup (n:=n) (λj=>(((r1.getD j 0:Nat):Int)==((r2.getD j 0:Nat):Int))) ha hb λj x y h1 h2=>by
  rw [List.getElem?_map] at h1 h2
  cases c1:r1[j]? with
  | none=>rw [c1] at h1; cases h1
  | some u=>
   cases c2:r2[j]? with
   | none=>rw [c2] at h2; cases h2
   | some v=>
    rw [c1] at h1
    rw [c2] at h2
    cases h1
    cases h2
    have e1:r1.getD j 0=u:=by rw [List.getD_eq_getElem?_getD,c1]; rfl
    have e2:r2.getD j 0=v:=by rw [List.getD_eq_getElem?_getD,c2]; rfl
    show Cmp H n (.int (u:Int)) (.int (v:Int)) (((r1.getD j 0:Nat):Int)==((r2.getD j 0:Nat):Int))
    rw [e1,e2]
    exact .int n _ _
 rw [List.length_map,List.length_map] at this
 exact this
theorem Zjn {H:Hp} {a b:Addr} {ra rb:List Addr} {s1 s2:List (List Nat)} {n:Nat} (ha:H a=some (.tup (ra.map V.ref))) (hb:H b=some (.tup (rb.map V.ref))) (l1:ra.length=s1.length) (l2:rb.length=s2.length)
  (k1:∀ (i:Nat) a r,ra[i]? = some a→s1[i]? = some r→H a=some (.tup (r.map nI))) (k2:∀ (i:Nat) a r,rb[i]? = some a→s2[i]? = some r→H a=some (.tup (r.map nI))):Cmp H (n+2) (.ref a) (.ref b) (rwB s1 s2):=by
 have:=Cmp.tup (n:=n+1) (λj=>nsB (s1.getD j []) (s2.getD j [])) ha hb λj x y h1 h2=>by
  rw [List.getElem?_map] at h1 h2
  cases c1:ra[j]? with
  | none=>rw [c1] at h1; cases h1
  | some u=>
   cases c2:rb[j]? with
   | none=>rw [c2] at h2; cases h2
   | some v=>
    rw [c1] at h1
    rw [c2] at h2
    cases h1
    cases h2
    have j1:=(List.getElem?_eq_some_iff.mp c1).1
    have j2:=(List.getElem?_eq_some_iff.mp c2).1
    exact Zjo (k1 j u _ c1 (getD_mem (d:=[]) (by omega)).2) (k2 j v _ c2 (getD_mem (d:=[]) (by omega)).2)
 rw [List.length_map,List.length_map,l1,l2] at this
 exact this
theorem Zlt {H:Hp} {x y:Addr} {l:Str} {P P':List Nat→Prop} {s1 s2:List (List Nat)} {e1 e2:List Nat} {Q:VK} (nd:l.cps.toList.Nodup) (D1:LM l P s1 e1) (D2:LM l P' s2 e2) (h1:Pe H x l 0 e1 s1) (h2:Pe H y l 0 e2 s2) (k:∀ v:Bool,(v=true↔∀ cs,(∀ c∈cs,c < l.length)→(P cs↔P' cs))→Q (.bl v) H):Zq1 (.ref x) (.ref y) H Q:=by
 obtain ⟨a1,a2,ra,g1,g2,g3,g4,g5⟩:=h1
 obtain ⟨b1,b2,rb,p1,p2,p3,p4,p5⟩:=h2
 refine ⟨x,y,_,_,λj=>match j with | 0=>l==l | 1=>(0:Int)==0 | 2=>nsB e1 e2 | _=>rwB s1 s2,rfl,rfl,g1,p1,λj u v q1 q2=>?_,k _ ?_⟩
 ·match j,q1,q2 with
  | 0,q1,q2=>cases q1; cases q2; exact .str _ _ _
  | 1,q1,q2=>cases q1; cases q2; exact .int _ 0 0
  | 2,q1,q2=>cases q1; cases q2; exact Zjo g2 p2
  | 3,q1,q2=>cases q1; cases q2; exact Zjn g3 p3 g4 p4 g5 p5
  | j+4,q1,q2=>cases q1
 ·have hz:((4==4 && (List.range 4).all λj=>match j with | 0=>l==l | 1=>(0:Int)==0 | 2=>nsB e1 e2 | _=>rwB s1 s2)=true)↔(nsB e1 e2=true∧rwB s1 s2=true):=by
   rw [show List.range 4=[0,1,2,3] from rfl]
   simp
  refine Iff.trans hz ?_
  rw [D5,Zkm]
  constructor
  ·rintro ⟨rfl,rfl⟩ cs hc
   exact (D1.lg cs hc).symm.trans (D2.lg cs hc)
  ·intro h
   have:=D1.uniq nd D2 h
   exact ⟨this.2,this.1⟩
inductive Br (vs:List V) (H:Hp) (Q:VK):Prop
 | mk (m1 m2:Addr) (l:Str) (b1 b2:Nat) (es1 es2:List Nat) (st1 st2:List (List Nat)) (t:Str) (h1:vs=[.ref m1,.ref m2,.str t]) (h2:Z6 H m1 l b1 es1 st1) (h3:Z6 H m2 l b2 es2 st2) (h4:(∀ c∈t.cps.toList,c∈l.cps.toList)) (h5:∀ v:Bool,(v=true↔Parts l b1 es1 st1 b2 es2 st2 t.cps.toList)→Q (.bl v) H):Br vs H Q
def K4:Sp:=λvs H Q u3_=>Br vs H Q
theorem Dw {f:Addr} {fd:FuncData} (F:Fun K "_law_parts" "_law_parts" Vb f fd) (Z:Blt mg) (Jh:Cal P w K mg base "takes" 2 ["machine","text"] E2):Yp P w K mg base CX0 3 f fd ["_law_one","_law_other","_law_text"] K4:=by
 refine F.ok Di (λvs H Q E h=>?_) (λcdv A outer s H vs Q E hr h=>?_)
 ·obtain ⟨m1,m2,l,b1,b2,es1,es2,st1,st2,t,rfl,_⟩:=h
  rfl
 obtain ⟨m1,m2,l,b1,b2,es1,es2,st1,st2,t,rfl,M1,M2,ht,k⟩:=h
 refine ⟨_,(Zi (Z1 (Xu Qt (Yg Jh (hr.mono (by decide)) (Za (pv 0) (Za (pv 2) Zc))) (Yg Jh (hr.mono (by decide)) (Za (pv 1) (Za (pv 2) Zc))) (Z8 _)))),?_⟩
 refine ⟨_,rfl,_,rfl,m1,l,b1,es1,st1,t,rfl,M1,ht,?_⟩
 refine ⟨_,rfl,_,rfl,m2,l,b2,es2,st2,t,rfl,M2,ht,rfl,k _ ?_⟩
 have i1:inV (nI (way l st1 b1 t.cps.toList)) (es1.map nI)=decide (way l st1 b1 t.cps.toList∈es1):=Rm _ es1
 have i2:inV (nI (way l st2 b2 t.cps.toList)) (es2.map nI)=decide (way l st2 b2 t.cps.toList∈es2):=Rm _ es2
 rw [i1,i2]
 unfold Parts
 by_cases c1:way l st1 b1 t.cps.toList∈es1 <;> by_cases c2:way l st2 b2 t.cps.toList∈es2 <;> simp [c1,c2]
theorem Lw.nlt {x y:List Nat} (h:Lw x y):¬ y < x:=by
 induction h with
 | hd h=>
  intro z
  cases z with
  | rel z=>omega
  | cons z=>omega
 | tl _ ih=>
  intro z
  cases z with
  | rel z=>exact Nat.lt_irrefl _ z
  | cons z=>exact ih z
theorem Zrh {u t:List Nat} (h:Cd ((u.length:Nat):Int) ((t.length:Nat):Int) (S u) (S t)=true) (q:Sl t u):False:=by
 unfold Cd at h
 rw [U9,U9] at h
 rcases q with rfl | q | ⟨q1,q2⟩
 ·rw [if_pos rfl,decide_eq_true_eq] at h
  exact List.lt_irrefl _ h
 ·rw [if_neg (by omega),decide_eq_true_eq] at h
  omega
 ·rw [if_pos (by omega),decide_eq_true_eq] at h
  exact q2.nlt h
theorem Zjz {bs:List Bool} (h:∀ b∈bs,b=false):bs.any id=false:=by
 rw [List.any_eq_false]
 intro b hb
 rw [h b hb]
 decide
inductive Fz (vs:List V) (H:Hp) (Q:VK):Prop
 | mk (m1 m2:Addr) (l:Str) (b1 b2:Nat) (es1 es2:List Nat) (st1 st2:List (List Nat)) (t:List Nat) (h1:vs=[.ref m1,.ref m2,.str (S t)]) (h2:Z6 H m1 l b1 es1 st1) (h3:Z6 H m2 l b2 es2 st2) (h4:(∀ c∈t,c∈l.cps.toList)) (h5:t.length≤216) (h6:Parts l b1 es1 st1 b2 es2 st2 t) (h7:(∀ w:List Nat,(∀ c∈w,c∈l.cps.toList)→Parts l b1 es1 st1 b2 es2 st2 w→Sl t w)) (h8:∀ H',Zo H H'→Q (.bl true) H'):Fz vs H Q
def J1:Sp:=λvs H Q u3_=>Fz vs H Q
theorem O7 {f:Addr} {fd:FuncData} (F:Fun K "_law_first_right" "_law_first_right" Yn f fd) (Z:Blt mg) (Wx:Cal P w K mg base "_law_parts" 3 ["_law_one","_law_other","_law_text"] K4) (Xp:Cal P w K mg base "_law_all_words" 2 ["_law_letters_here","_law_most"] Dg) (Tw:Cal P w K mg base "_law_order" 1 ["_law_word"] Dc):Yp P w K mg base CX0 4 f fd ["_law_one","_law_other","_law_text"] J1:=by
 refine F.ok Uq (λvs H Q E h=>?_) (λcdv A outer s H vs Q E hr h=>?_)
 ·obtain ⟨m1,m2,l,b1,b2,es1,es2,st1,st2,t,rfl,_⟩:=h
  rfl
 obtain ⟨m1,m2,l,b1,b2,es1,es2,st1,st2,t,rfl,M1,M2,ht,htl,hP,hF,k⟩:=h
 refine ⟨_,(Zd (Xm (PW.pt (F3 (Uu (Yy (K:=K) (Zn (Zju (K:=K)) (by rfl) Z.isinstance Fd (Za (pv 2) (Za (Zkz (v:=V.ty "str") (by rfl) Z.str Zjv rfl) Zc))) (λ_=>rfl))) (Ld (Uu (Yy (K:=K) (Yg Wx (hr.mono (by decide)) (Za (pv 0) (Za (pv 1) (Za (pv 2) Zc)))) (λ_=>rfl)))))) 
    (Zi (Z1 Ic)) Yh) 
   (Zd (Ob (i:=3) Uq.nd (by rfl) (by rfl) (sc:=Zf Yn) (Nm:=["_law_one","_law_other","_law_text","_law_ahead_of"]) (own:=["_law_word"]) (fr:=[2]) ⟨rfl,by decide +kernel,by decide +kernel,by decide +kernel,by decide +kernel⟩ (by rfl) (Z2 (by decide)) (Yv (K:=K) (Yg Xp (hr.mono (by decide)) (Za (Zs (Zw (K:=K)) (pv 0) Zh (λ_ _=>rfl)) (Za (Zn (Zf6 (by rfl)) (by rfl) Z.min Zpz (Za Zh (Za (Zn Wa (by rfl) Z.len Ya (Za (pv 2) Zc)) Zc))) Zc)))) (λd=>(Zk (i:=0) Qy (by rfl) (Or.inl (by rfl)))) (λd=>(Oa (Z7 (Zk2 (K:=K) (Zrr hr)) (Yg Tw (hr.mono (by decide)) (Za (pv 0) Zc)) (Yg Tw (hr.mono (by decide)) (Za (pv 1) Zc)) (Z8 _)))) (λd=>(pv 0))) 
   (Zi (Z1 (Zhq (Zn (Eo (K:=K)) (by rfl) Z.any Zjw (Za (Yc (sc:=Zf Yn) (Nm:=["_law_one","_law_other","_law_text","_law_ahead_of"]) (own:=["_law_word"]) (fr:=[0,1]) ⟨rfl,by decide +kernel,by decide +kernel,by decide +kernel,by decide +kernel⟩ (by rfl) (Z2 (by decide)) (Yv (K:=K) (pv 3)) (λd=>(Zk (i:=0) Qx (by rfl) (Or.inl (by rfl)))) (λd=>Yb) (λd=>(Yg Wx (hr.mono (by decide)) (Za (pv 1) (Za (pv 2) (Za (pv 0) Zc)))))) Zc))))))),?_⟩
 refine (let zz0:TS:=_; let zz1:TS:=Zq _ zz0; (?_:Zq _ zz1 _ _ _))
 have hts:=U9 t
 have hln:=Za0 t
 have hk:W.kitOne K (.type "str") (.type "str")=some true:=by kernel_rfl
 refine ⟨_,rfl,_,_,_,true,rfl,.str _,hk,_,rfl,?_⟩
 refine Sb ?_
 refine ⟨_,rfl,_,rfl,_,rfl,m1,m2,l,b1,b2,es1,es2,st1,st2,S t,rfl,M1,M2,by rw [hts]; exact ht,λv hv=>⟨_,rfl,?_⟩⟩
 have hv1:v=true:=hv.mpr (by rw [hts]; exact hP)
 rw [hv1]
 refine Sb ?_
 obtain ⟨eA,sA,rA,g1,g2,g3,g4,g5⟩:=M1.lay
 have hl3:=M1.few.2.1
 have hll:=len_list l
 have hmn:∃ kk:Nat,kk≤5∧V.int (if ((t.length:Nat):Int) < 5 then ((t.length:Nat):Int) else 5)=nI kk:=by
  by_cases z:((t.length:Nat):Int) < 5
  ·exact ⟨t.length,by omega,by rw [if_pos z]; rfl⟩
  ·exact ⟨5,by omega,by rw [if_neg z]; rfl⟩
 obtain ⟨kk,hk5,hkk⟩:=hmn
 refine ⟨_,rfl,m1,_,_,_,rfl,rfl,SqT.of g1,Zl (j:=0) rfl,_,rfl,S t,rfl,Xv (by omega),_,_,rfl,?_⟩
 rw [show (S t).length=t.length from hln,hkk]
 refine ⟨l,kk,rfl,hl3,hk5,λp H1 hp e1 h1=>⟨p,rfl,⟨_,SqL.of h1⟩,?_⟩⟩
 have hwl:=C8 (L:=l.cps.toList) (by omega) kk hk5
 refine Xi (K:=K) (a:=p) (xs:=Tx (awl l.cps.toList kk)) (λj acc H2=>Zo H1 H2∧∃ us:List (List Nat),acc=Tx us∧us.length≤j∧∀ u∈us,(∀ c∈u,c∈l.cps.toList)∧¬ Sl t u) (by rw [Vi]; exact Zt (by omega)) ⟨Zo.refl _,[],rfl,Nat.le_refl _,λu hu=>nomatch hu⟩ (λj acc H2 z=>by obtain ⟨_,us,rfl,h,_⟩:=z; rw [Vi]; exact h)
  (λj acc H2 z=>SqL.of (z.1 _ _ h1)) (λj acc H2 x hx z=>?_) (λacc H2 z y hy=>?_)
 ·obtain ⟨e2,us,rfl,hj,hus⟩:=z
  obtain ⟨u,hu,rfl⟩:=K1 hx
  have hum:=Zeu.mp (List.mem_of_getElem? hu)
  refine ⟨_,rfl,S u,rfl,by rw [Za0]; omega,λq1 H3 e3 h3=>?_⟩
  refine ⟨_,rfl,S t,rfl,by rw [hln]; omega,λq2 H4 e4 h4=>?_⟩
  refine ⟨q1,q2,_,_,_,_,rfl,rfl,SqT.of (e4 _ _ h3),SqT.of h4,_,rfl,?_⟩
  refine V9 (λc=>⟨_,rfl,(e2.trans e3).trans e4,us ++ [u],?_,by rw [List.length_append]; show us.length+1≤j+1; omega,λv hv=>?_⟩) (λc=>⟨(e2.trans e3).trans e4,us,rfl,by omega,hus⟩)
  ·unfold Tx
   rw [List.map_append]
   rfl
  ·rcases List.mem_append.mp hv with z | z
   ·exact hus v z
   ·rw [List.mem_singleton.mp z]
    rw [Za0,Za0] at c
    exact ⟨hum.2,λq=>Zrh c q⟩
 ·obtain ⟨e2,us,rfl,hj,hus⟩:=z
  rw [Vi] at hj
  have s3:=Ze hy (.lst (Tx us))
  have h3:upd H2 y (.lst (Tx us)) y=some (.lst (Tx us)):=Zb
  generalize upd H2 y (.lst (Tx us))=H3 at s3 h3
  have e03:=(e1.trans e2).trans s3
  refine ⟨_,rfl,y,rfl,⟨_,SqL.of h3⟩,?_⟩
  refine Xi (K:=K) (a:=y) (xs:=Tx us) (λj acc H4=>Zo H3 H4∧∃ bs:List Bool,acc=bs.map V.bl∧bs.length≤j∧∀ b∈bs,b=false) (by rw [Vi]; exact Zt (by omega)) ⟨Zo.refl _,[],rfl,Nat.le_refl _,λu hu=>nomatch hu⟩ (λj acc H4 z=>by obtain ⟨_,us,rfl,h,_⟩:=z; rw [List.length_map]; exact h)
   (λj acc H4 z=>SqL.of (z.1 _ _ h3)) (λj acc H4 x hx z=>?_) (λacc H4 z y2 hy2=>?_)
  ·obtain ⟨e4,bs,rfl,hb,hbs⟩:=z
   obtain ⟨u,hu,rfl⟩:=K1 hx
   have hq:=hus u (List.mem_of_getElem? hu)
   have e04:=e03.trans e4
   refine Vg ⟨_,rfl,_,rfl,_,rfl,m1,m2,l,b1,b2,es1,es2,st1,st2,S u,rfl,M1.same e04,M2.same e04,by rw [U9]; exact hq.1,λv hv=>⟨e4,bs ++ [v],?_,by rw [List.length_append]; show bs.length+1≤j+1; omega,λb hb=>?_⟩⟩
   ·rw [List.map_append]
    rfl
   ·rcases List.mem_append.mp hb with z | z
    ·exact hbs b z
    ·rw [List.mem_singleton.mp z]
     refine eq_false_of_ne_true λq=>hq.2 (hF u hq.1 ?_)
     have:=hv.mp q
     rwa [U9] at this
  ·obtain ⟨e4,bs,rfl,hb,hbs⟩:=z
   refine ⟨y2,bs,rfl,SqL.of Zb,?_⟩
   rw [Zjz hbs]
   exact ⟨_,rfl,k _ ((e03.trans e4).trans (Ze hy2 _))⟩
def iL (r:List Nat):List Int:=r.map λn:Nat=>(n:Int)
theorem Zim (r:List Nat):(iL r).map V.int=r.map nI:=by
 unfold iL
 rw [List.map_map]
 rfl
theorem Cn (r:List Nat):(iL r).length=r.length:=by unfold iL; rw [List.length_map]
theorem Zee {r:List Nat} (i:Nat):(iL r).getD i 0=((r.getD i 0:Nat):Int):=by
 unfold iL
 rw [List.getD_eq_getElem?_getD,List.getD_eq_getElem?_getD,List.getElem?_map]
 cases r[i]? <;> rfl
theorem Zn8 {H:Hp} {m:Addr} {l:Str} {b:Nat} {es:List Nat} {st:List (List Nat)} (h:Pe H m l b es st) (f:l.length≤100∧es.length≤100∧st.length≤100∧∀ r∈st,r.length≤100):Znf H m l (b:Int) (iL es) (st.map iL):=by
 obtain ⟨e,s,ras,h1,h2,h3,h4,h5⟩:=h
 refine ⟨⟨e,s,ras,h1,by rw [Zim]; exact h2,h3,by rw [List.length_map]; exact h4,λi a r q1 q2=>?_⟩,f.1,by rw [Cn]; exact f.2.1,by rw [List.length_map]; exact f.2.2.1,λr hr=>?_⟩
 ·rw [List.getElem?_map] at q2
  cases c:st[i]? with
  | none=>rw [c] at q2; cases q2
  | some r0=>
   rw [c] at q2
   cases q2
   rw [Zim]
   exact h5 i a r0 q1 c
 ·obtain ⟨r0,h0,rfl⟩:=List.mem_map.mp hr
  rw [Cn]
  exact f.2.2.2 r0 h0
theorem Zay {n:Nat} {r:List Nat} (h:∀ x∈r,x < n):allB ((n:Nat):Int) (iL r)=true:=by
 unfold allB iL
 rw [List.all_eq_true]
 intro b hb
 obtain ⟨x,hx,rfl⟩:=List.mem_map.mp hb
 obtain ⟨y,hy,rfl⟩:=List.mem_map.mp hx
 have:=h y hy
 unfold thB
 simp
 omega
theorem Zkp {r:List Nat} (h:r.Pairwise (· < ·)):Zg6 (iL r)=true:=by
 unfold Zg6
 rw [List.all_eq_true]
 intro b hb
 obtain ⟨i,hi,rfl⟩:=List.mem_map.mp hb
 rw [List.mem_range,Cn] at hi
 unfold rI
 rw [Zee,Zee]
 have h1:i+1 < r.length:=by omega
 have:=List.pairwise_iff_getElem.mp h i (i+1) (by omega) h1 (by omega)
 have e1:r.getD i 0=r[i]:=by rw [List.getD_eq_getElem?_getD,List.getElem?_eq_getElem (by omega)]; rfl
 have e2:r.getD (i+1) 0=r[i+1]:=by rw [List.getD_eq_getElem?_getD,List.getElem?_eq_getElem h1]; rfl
 rw [e1,e2]
 simp
 omega
theorem Zjb (o:List Nat) (e:Nat→Bool):(Ws o e).Pairwise (· < ·):=by
 unfold Ws
 exact List.Pairwise.filter _ List.pairwise_lt_range
theorem Zld {l:Str} {P:List Nat→Prop} {st:List (List Nat)} {es:List Nat} (D:LM l P st es) (hL:X6 l l.length) (hl:0 < l.length∧l.length≤3) (hs:st.length≤6):Zj6 l ((0:Nat):Int) (iL es) (st.map iL):=by
 have hn:(st.map iL).length=st.length:=List.length_map ..
 have hp:=D.pos
 refine ⟨?_,by omega,by omega,?_,by rw [hn]; exact Zay D.ends.2,λr hr=>?_⟩
 ·obtain ⟨h1,h2⟩:=A6 hL
  unfold Zlf
  rw [h1,h2,hL.1]
  simp
  omega
 ·obtain ⟨_,_,_,_,_,p⟩:=D.is
  rw [← p.ends]
  exact Zkp (Zjb _ _)
 ·obtain ⟨r0,h0,rfl⟩:=List.mem_map.mp hr
  unfold Zkn
  rw [hn,Cn,(D.Vf r0 h0).1,decide_eq_true rfl,Bool.true_and]
  exact Zay (D.Vf r0 h0).2
theorem Zrg {H:Hp} {m:Addr} {l:Str} {b:Nat} {es:List Nat} {st:List (List Nat)} (h:Pe H m l b es st):MT H m l b es st:=by
 obtain ⟨e,s,ras,h1,h2,h3,h4,h5⟩:=h
 refine ⟨e,s,_,h1,h2,h3,?_⟩
 clear h1 h3
 induction ras generalizing st with
 | nil=>
  cases st with
  | nil=>exact .nil
  | cons=>simp at h4
 | cons a ras ih=>
  cases st with
  | nil=>simp at h4
  | cons r st=>exact .cons (h5 0 a r rfl rfl) (ih (by simpa using h4) λi a r q1 q2=>h5 (i+1) a r (by simpa using q1) (by simpa using q2))
theorem Zlb {H:Hp} {m:Addr} {l:Str} {b:Nat} {es:List Nat} {st:List (List Nat)} (h:MT H m l b es st):Pe H m l b es st:=by
 obtain ⟨e,s,xs,h1,h2,h3,h4⟩:=h
 have:∃ ras:List Addr,xs=ras.map V.ref∧ras.length=st.length∧∀ (i:Nat) a r,ras[i]? = some a→st[i]? = some r→H a=some (.tup (r.map nI)):=by
  clear h1 h3
  induction h4 with
  | nil=>exact ⟨[],rfl,rfl,λi a r q=>by simp at q⟩
  | cons h t ih=>
   obtain ⟨ras,rfl,e2,e3⟩:=ih
   refine ⟨_ :: ras,rfl,by rw [List.length_cons,List.length_cons,e2],λi a r q1 q2=>?_⟩
   cases i with
   | zero=>cases q1; cases q2; exact h
   | succ i=>exact e3 i a r (by simpa using q1) (by simpa using q2)
 obtain ⟨ras,rfl,e2,e3⟩:=this
 exact ⟨e,s,ras,h1,h2,h3,e2,e3⟩
theorem Zh0 {l:Str} {P:List Nat→Prop} {st:List (List Nat)} {es:List Nat} (D:LM l P st es) (hL:X6 l l.length) (hl:0 < l.length∧l.length≤3) (hs:st.length≤6):OkM l 0 es st:=by
 have h1:=D.ends.1
 have hp:=D.pos
 exact ⟨⟨l.length,hL,by omega,by omega⟩,by omega,⟨by omega,λx hx=>by have:=D.ends.2 x hx; omega⟩,by omega,λr hr=>⟨(D.Vf r hr).1,λx hx=>by have:=(D.Vf r hr).2 x hx; omega⟩⟩
inductive Fv (Pl:Addr) (vs:List V) (H:Hp) (Q:VK):Prop
 | mk (m:Addr) (l:Str) (b:Nat) (es:List Nat) (st:List (List Nat)) (h1:vs=[.ref m]) (h2:Z6 H m l b es st) (h3:es.length≤100) (h4:st.length≤6) (h5:X6 l l.length) (h6:Tb Pl Xr H) (h7:∀ H',Vu Pl H H'→Tb Pl Xr H'→Q (.bl true) H'):Fv Pl vs H Q
def Jy (Pl:Addr):Sp:=λvs H Q u3_=>Fv Pl vs H Q
theorem O6 {f:Addr} {fd:FuncData} {Pl:Addr} (F:Fun K "_law_least_right" "_law_least_right" Yu f fd) (Z:Blt mg) (Rx:Cal P w K mg base "least" 5 ["machine"] (N3 Pl)) (Ts:Cal P w K mg base "look_machine" 4 ["machine"] Dd) (To:Cal P w K mg base "show_machine" 2 ["machine"] E3) (Tp:Cal P w K mg base "read_machine" 4 ["text"] E4)
  (Wx:Cal P w K mg base "_law_parts" 3 ["_law_one","_law_other","_law_text"] K4) (Xp:Cal P w K mg base "_law_all_words" 2 ["_law_letters_here","_law_most"] Dg):Yp P w K mg base CX0 6 f fd ["_law_machine_here"] (Jy Pl):=by
 refine F.ok Up (λvs H Q E h=>?_) (λcdv A outer s H vs Q E hr h=>?_)
 ·obtain ⟨m,l,b,es,st,rfl,_⟩:=h
  rfl
 obtain ⟨m,l,b,es,st,rfl,M,hes,hst,hL,T,k⟩:=h
 refine ⟨_,(Zd (Zm (i:=1) Up.nd (by rfl) (Or.inr (by rfl)) (Yg Rx (hr.mono (by decide)) (Za (pv 0) Zc))) 
   (Zd (Xm (PW.pt (F3 (Z7 Zk1 (Yg Ts (hr.mono (by decide)) (Za (pv 1) Zc)) Ic (Z8 _)) (Ld (Z7 (Zoj (Zm6 hr)) (Yg Tp (hr.mono (by decide)) (Za (Yg To (hr.mono (by decide)) (Za (pv 1) Zc)) Zc)) (pv 1) (Z8 _))))) 
    (Zi (Z1 Ic)) Yh) 
   (Zi (Z1 (Zhq (Zn (Eo (K:=K)) (by rfl) Z.any Zjw (Za (Yc (sc:=Zf Yu) (Nm:=["_law_machine_here","_law_found"]) (own:=["_law_word"]) (fr:=[0,1]) ⟨rfl,by decide +kernel,by decide +kernel,by decide +kernel,by decide +kernel⟩ (by rfl) (Z2 (by decide)) (Yv (K:=K) (Yg Xp (hr.mono (by decide)) (Za (Zs (Zw (K:=K)) (pv 0) Zh (λ_ _=>rfl)) (Za Zh Zc)))) (λd=>(Zk (i:=0) Qu (by rfl) (Or.inl (by rfl)))) (λd=>Yb) (λd=>(Yg Wx (hr.mono (by decide)) (Za (pv 1) (Za (pv 2) (Za (pv 0) Zc)))))) Zc))))))),?_⟩
 refine (let zz0:TS:=_; let zz1:TS:=Zq _ zz0; (?_:Zq _ zz1 _ _ _))
 have nd:l.cps.toList.Nodup:=Hi hL
 have hl:0 < l.length∧l.length≤3:=⟨M.few.1,M.few.2.1⟩
 refine ⟨_,rfl,m,l,b,es,st,rfl,M,by omega,nd,T,λx stD esD H1 e1 T1 D hs hM=>?_⟩
 have k1:=Tk.t e1 T
 have M1:=M.keep k1
 have hs6:stD.length≤6:=by omega
 have hed:=D.ends.1
 refine ⟨_,rfl,x,l,_,_,_,rfl,Zn8 hM ⟨by omega,by omega,by omega,λr hr=>by have:=(D.Vf r hr).1; omega⟩,Zld D hL hl hs6,λH2 e2=>⟨_,_,rfl,rfl,_,rfl,?_⟩⟩
 refine Sb ?_
 have hM2:=hM.keep (Tk.same e2)
 refine ⟨_,rfl,x,l,0,esD,stD,rfl,Zrg hM2,Zh0 D hL hl hs6,λH3 e3=>?_⟩
 refine ⟨l,0,esD,stD,rfl,Zh0 D hL hl hs6,λy H4 e4 hy=>?_⟩
 have e14:=(e2.trans e3).trans e4
 have hM4:=hM.keep (Tk.same e14)
 refine ⟨_,rfl,_,by have:=Zf4 l 0 esD stD; unfold Zak at this; omega,D.den hl.2 (by omega) (Zlb hy),D.den hl.2 (by omega) hM4,?_⟩
 refine ⟨_,rfl,Sb ?_⟩
 have M4:=M1.same e14
 have MD4:Z6 H4 x l 0 esD stD:=D.mach hl (by omega) hM4
 obtain ⟨eA,sA,rA,g1,g2,g3,g4,g5⟩:=M4.lay
 have hll:=len_list l
 refine ⟨_,rfl,m,_,_,_,rfl,rfl,SqT.of g1,Zl (j:=0) rfl,l,4,rfl,hl.2,by decide,λp H5 hp e5 h5=>⟨p,rfl,⟨_,SqL.of h5⟩,?_⟩⟩
 have hwl:=C8 (L:=l.cps.toList) (by omega) 4 (by decide)
 refine Xi (K:=K) (a:=p) (xs:=Tx (awl l.cps.toList 4)) (λj acc H6=>Zo H5 H6∧∃ bs:List Bool,acc=bs.map V.bl∧bs.length≤j∧∀ b∈bs,b=false) (by rw [Vi]; exact Zt (by omega)) ⟨Zo.refl _,[],rfl,Nat.le_refl _,λu hu=>nomatch hu⟩ (λj acc H4 z=>by obtain ⟨_,us,rfl,h,_⟩:=z; rw [List.length_map]; exact h)
   (λj acc H6 z=>SqL.of (z.1 _ _ h5)) (λj acc H6 v hx z=>?_) (λacc H6 z y2 hy2=>?_)
 ·obtain ⟨e6,bs,rfl,hb,hbs⟩:=z
  obtain ⟨u,hu,rfl⟩:=K1 hx
  have hum:=Zeu.mp (List.mem_of_getElem? hu)
  have e46:=e5.trans e6
  refine Vg ⟨_,rfl,_,rfl,_,rfl,m,x,l,b,0,es,esD,st,stD,S u,rfl,M4.same e46,MD4.same e46,by rw [U9]; exact hum.2,λv hv=>⟨e6,bs ++ [v],?_,by rw [List.length_append]; show bs.length+1≤j+1; omega,λb hb=>?_⟩⟩
  ·rw [List.map_append]
   rfl
  ·rcases List.mem_append.mp hb with z | z
   ·exact hbs b z
   ·rw [List.mem_singleton.mp z]
    refine eq_false_of_ne_true λq=>?_
    have h:=hv.mp q
    rw [U9] at h
    unfold Parts at h
    rw [Ji,Ji] at h
    exact h (D.lg _ (Zi2 hum.2)).symm
 ·obtain ⟨e6,bs,rfl,hb,hbs⟩:=z
  refine ⟨y2,bs,rfl,SqL.of Zb,?_⟩
  rw [Zjz hbs]
  have e:=(e14.trans (e5.trans e6)).trans (Ze hy2 (.lst (bs.map V.bl)))
  exact ⟨_,rfl,k _ (e1.trans e.t) (T1.same e)⟩
theorem Zko {L:List Nat} (h:L.Pairwise (· < ·)):Zgd L:=λn n' c c' hn h1 h2=>by
 obtain ⟨a1,rfl⟩:=List.getElem?_eq_some_iff.mp h1
 obtain ⟨a2,rfl⟩:=List.getElem?_eq_some_iff.mp h2
 exact List.pairwise_iff_getElem.mp h n n' a1 a2 hn
theorem Tb.drew {Pt p sc:Addr} {L:List (Pos × Str)} {H H':Hp} (t:Tb Pt L H) (F:Yf H p sc) (d:Ym H H' p):Tb Pt L H':=by
 obtain ⟨ps,h1,h2,h3⟩:=t
 obtain ⟨xs,hp,_⟩:=F.here
 refine ⟨ps,d _ _ h1 (Wb h1 hp λz=>nomatch z),h2,λx hx=>(h3 x hx).imp id λ⟨c,a,b⟩=>⟨c,a,d _ _ b (Wb b hp λz=>nomatch z)⟩⟩
theorem Cu {Pt p sc:Addr} {L:List (Pos × Str)} {H H':Hp} (F:Yf H p sc) (t:Tb Pt L H) (e:Vu Pt H H'):Yf H' p sc:=by
 obtain ⟨qs,hb,_⟩:=t
 obtain ⟨xs,hp,hx⟩:=F.here
 obtain ⟨ns,hc⟩:=F.cells
 exact ⟨⟨xs,e _ _ (Wb hp hb λz=>nomatch z) hp,hx⟩,ns,e _ _ (Wb hc hb λz=>nomatch z) hc⟩
inductive Zdl (K:W.Frag) (tabs:List (Addr × Addr)) (vs:List V) (H:Hp) (Q:VK):Prop
 | mk (a:Addr) (ns:List Int) (h1:vs=[.ref a]) (h2:SqL K H a (ns.map V.int)) (h3:ns.length≤63) (h4:(∀ q∈tabs,H q.2=some (.tbl #[]))) (h5:∀ H',Q (.bl true) H'):Zdl K tabs vs H Q
def Df (K:W.Frag) (tabs:List (Addr × Addr)):Sp:=λvs H Q u3_=>Zdl K tabs vs H Q
theorem Zom {f:Addr} {fd:FuncData} {cl cp Pl Pp:Addr} (nlp:Pl≠Pp) (F:Fun K "law" "law" N7 f fd) (Z:Blt mg) (Nv:Cal P w K mg base "_law_flow" 1 ["_law_script"] (Zbg K)) (Nr:Cal P w K mg base "_law_some" 3 ["_law_flow_here"] Zbd) (Nu:Cal P w K mg base "_law_near" 3 ["_law_flow_here","_law_machine_here"] Zbe)
  (Rx:Cal P w K mg base "least" 5 ["machine"] (N3 Pl)) (Tr:Cal P w K mg base "parting_text" 5 ["one","other"] (E6 Pp)) (Vr:Cal P w K mg base "_law_first_right" 4 ["_law_one","_law_other","_law_text"] J1) (Wj:Cal P w K mg base "_law_least_right" 6 ["_law_machine_here"] (Jy Pl)):Yp P w K mg base CX0 7 f fd ["_law_script"] (Df K [(cl,Pl),(cp,Pp)]):=by
 refine F.ok Lc (λvs H Q E h=>?_) (λcdv A outer s H vs Q E hr h=>?_)
 ·obtain ⟨a,ns,rfl,_⟩:=h
  rfl
 obtain ⟨a,ns,rfl,hS,h63,hT0,k⟩:=h
 have hTl:H Pl=some (.tbl #[]):=hT0 (cl,Pl) List.mem_cons_self
 have hTp:H Pp=some (.tbl #[]):=hT0 (cp,Pp) (List.mem_cons_of_mem _ List.mem_cons_self)
 refine ⟨_,(Zd (Zm (i:=1) Lc.nd (by rfl) (Or.inl (by rfl)) (Yg Nv (hr.mono (by decide)) (Za (pv 0) Zc))) 
   (Zd (Zm (i:=2) Lc.nd (by rfl) (Or.inl (by rfl)) (Yg Nr (hr.mono (by decide)) (Za (pv 1) Zc))) 
   (Zd (Xx PassesOwn.never (by rfl) (Yz (by rfl) Z.range (Za Zh Zc)) (Zk (i:=3) Lc.nd (by rfl) (Or.inl (by rfl))) 
    (Zd (Zm (i:=4) Lc.nd (by rfl) (Or.inl (by rfl)) (Yg Nu (hr.mono (by decide)) (Za (pv 1) (Za (pv 2) Zc)))) 
    (Zd (Zm (i:=5) Lc.nd (by rfl) (Or.inl (by rfl)) (Yg Tr (hr.mono (by decide)) (Za (pv 2) (Za (pv 4) Zc)))) 
    (Zd (Xm (Z7 Qt (Xu Zok (pv 5) Zbp (Z8 _)) (Xu (Zol (Zm6 hr)) (Yg Rx (hr.mono (by decide)) (Za (pv 2) Zc)) (Yg Rx (hr.mono (by decide)) (Za (pv 4) Zc)) (Z8 _)) (Z8 _)) 
     (Zi (Z1 Ic)) Yh) 
    (Zd (Xm (PW.pt (Le (Z7 Zk0 (pv 5) Zbp (Z8 _)) (P6 (Uu (Yy (K:=K) (Yg Vr (hr.mono (by decide)) (Za (pv 2) (Za (pv 4) (Za (pv 5) Zc)))) (λ_=>rfl)))))) 
     (Zi (Z1 Ic)) Yh) 
    (Zi (Xm (Uu (Yy (K:=K) (Yg Wj (hr.mono (by decide)) (Za (pv 4) Zc)) (λ_=>rfl))) 
     (Zi (Z1 Ic)) Yh))))))) 
   (Zi (Z1 (Yg Wj (hr.mono (by decide)) (Za (pv 2) Zc))))))),?_⟩
 refine (let zz0:TS:=_; let zz1:TS:=_; let zz2:TS:=Zq _ zz1; let zz3:TS:=Zq _ zz2; let zz4:TS:=Zq _ zz3; let zz5:TS:=Zq _ zz4; let zz6:TS:=Zq (Jn _ _ zz5) zz0; let zz7:TS:=Zq _ zz6; (?_:Zq _ zz7 _ _ _))
 refine ⟨_,rfl,a,ns,rfl,hS,λp sc H1 hp e1 FA=>?_⟩
 have T1:Tb Pl Xr H1:=Tb.start (e1 _ _ hTl)
 have TP1:Tb Pp S2 H1:=Tb.start (e1 _ _ hTp)
 refine ⟨_,rfl,p,sc,rfl,FA,λm1 l b1 es1 st1 H2 M1 eo hL d2 FA2=>?_⟩
 have T2:=Tb.drew T1 FA d2
 have TP2:=Tb.drew TP1 FA d2
 have nd:l.cps.toList.Nodup:=Hi hL
 have hl:0 < l.length∧l.length≤3:=⟨M1.few.1,M1.few.2.1⟩
 refine ⟨_,rfl,by omega,by omega,?_⟩
 refine Ul (lo:=0) (n:=(2:Int).toNat) (λi σ Hj=>∃ v3 v4 v5,σ=[some (.ref a),some (.ref p),some (.ref m1),v3,v4,v5]∧Z6 Hj m1 l b1 es1 st1∧Tb Pl Xr Hj∧Tb Pp S2 Hj∧Yf Hj p sc) ⟨none,none,none,rfl,M1,T2,TP2,FA2⟩ ?_ ?_
 ·rintro i σ Hj hi ⟨v3,v4,v5,rfl,M1,Tj,TPj,FAj⟩
  refine ⟨_,rfl,_,rfl,p,sc,m1,l,b1,es1,st1,rfl,M1,eo,FAj,λm2 b2 es2 st2 H3 M2 he2 hs2 d3 FA3=>?_⟩
  have T3:=Tb.drew Tj FAj d3
  have TP3:=Tb.drew TPj FAj d3
  have M1:=M1.keep (Tk.drew FAj d3)
  have hmul:st1.length * st2.length≤216:=Nat.le_trans (Nat.mul_le_mul eo.2.2 hs2) (by decide)
  refine ⟨_,rfl,_,rfl,m1,m2,l,b1,b2,es1,es2,st1,st2,rfl,M1,M2,hmul,Zko hL.2.1,TP3,λv H4 e4 TP4 FT=>?_⟩
  have k4:=Tk.t e4 TP3
  have T4:=Tb.Zdo T3 TP3 nlp e4
  have FA4:=Cu FA3 TP3 e4
  have M14:=M1.keep k4
  have M24:=M2.keep k4
  refine ⟨_,rfl,?_⟩
  refine ⟨rfl,?_⟩
  refine ⟨_,rfl,m1,l,b1,es1,st1,rfl,M14,by have:=eo.1; omega,nd,T4,λx1 s1 n1 H5 e5 T5 D1 z1 hM1=>?_⟩
  have k5:=Tk.t e5 T4
  refine ⟨_,rfl,m2,l,b2,es2,st2,rfl,M24.keep k5,by omega,nd,T5,λx2 s2 n2 H6 e6 T6 D2 z2 hM2=>?_⟩
  have k6:=Tk.t e6 T5
  refine Zlt nd D1 D2 (hM1.keep k6) hM2 λq hq=>?_
  have k46:=k5.trans k6
  have e46:=e5.trans e6
  have TP6:=Tb.Zdo TP4 T4 nlp.symm e46
  have FA6:=Cu FA4 T4 e46
  have M16:=M14.keep k46
  have M26:=M24.keep k46
  have hq':q=true↔∀ t:List Nat,(∀ c∈t,c∈l.cps.toList)→¬ Parts l b1 es1 st1 b2 es2 st2 t:=by
   rw [hq]
   constructor
   ·intro h t ht z
    unfold Parts at z
    rw [Ji,Ji] at z
    exact z (h _ (Zi2 ht))
   ·intro h cs hc
    obtain ⟨t,ht,rfl⟩:=Zdd nd cs hc
    have:=h t ht
    unfold Parts at this
    rw [Ji,Ji] at this
    exact Classical.byContradiction this
  rcases FT with ⟨rfl,hno⟩ | ⟨t,rfl,htc,htl,hP,hF⟩
  ·rw [hq'.mpr hno]
   refine ⟨rfl,_,rfl,ifN (by simp) ?_⟩
   refine ⟨_,rfl,rfl,_,rfl,ifN (by simp) ?_⟩
   refine ⟨_,rfl,m2,l,b2,es2,st2,rfl,M26,he2,hs2,hL,T6,λH7 e7 T7=>⟨_,rfl,Sb ?_⟩⟩
   exact ⟨_,_,_,rfl,M16.keep (Tk.t e7 T6),T7,Tb.Zdo TP6 T6 nlp.symm e7,Cu FA6 T6 e7⟩
  ·rw [show q=false from eq_false_of_ne_true λz=>hq'.mp z t htc hP]
   refine ⟨rfl,_,rfl,ifN (by simp) ?_⟩
   refine ⟨_,rfl,rfl,_,rfl,ifY (by simp) ?_⟩
   refine ⟨_,rfl,_,rfl,_,rfl,m1,m2,l,b1,b2,es1,es2,st1,st2,t,rfl,M16,M26,htc,htl,hP,hF,λH7 e7=>⟨_,rfl,Sb ?_⟩⟩
   refine ⟨_,rfl,m2,l,b2,es2,st2,rfl,M26.same e7,he2,hs2,hL,T6.same e7,λH8 e8 T8=>⟨_,rfl,Sb ?_⟩⟩
   have T7:=T6.same e7
   exact ⟨_,_,_,rfl,(M16.same e7).keep (Tk.t e8 T7),T8,Tb.Zdo (TP6.same e7) T7 nlp.symm e8,Cu (FA6.same e7) T7 e8⟩
 ·rintro σ Hj ⟨v3,v4,v5,rfl,M1,Tj,TPj,FAj⟩
  exact ⟨_,rfl,m1,l,b1,es1,st1,rfl,M1,by have:=eo.1; omega,eo.2.2,hL,Tj,λH' _ _=>k H'⟩
end
theorem all_mk {l:W.OpenLaw} {w:World} {K:W.Frag} {h:Heap} {mg:Str→Option Value} {fa:Addr} (X:K.In h) (G:h.Ns mainGlobals mg) (hfa:mg "law" = some (.ref fa)) {qp:Program} (TT:Zc7 qp K h)
  {f1:Addr} {od1 an1:Option Addr} {sl1:Array (Option Value)} {oc1 kV1 dc1 pm1 cd1 ct1:Value}
  (a1:W.nsIn K mainGlobals "rising" = some (some (.ref f1))) (l1:K.lookup f1=some ⟨oc1,od1,.func (W.fnOf "rising" "rising" (Zy Vj) (Zx Vj) (Zf Vj) .none kV1 dc1 pm1 an1 cd1 ct1),sl1⟩) (c1:W.codeIn K cd1 "rising" = true) (k1:W.keepIn K (.ref f1)=true)
  {f2:Addr} {od2 an2:Option Addr} {sl2:Array (Option Value)} {oc2 kV2 dc2 pm2 cd2 ct2:Value}
  (a2:W.nsIn K mainGlobals "is_word" = some (some (.ref f2))) (l2:K.lookup f2=some ⟨oc2,od2,.func (W.fnOf "is_word" "is_word" (Zy V1) (Zx V1) (Zf V1) .none kV2 dc2 pm2 an2 cd2 ct2),sl2⟩) (c2:W.codeIn K cd2 "is_word" = true) (k2:W.keepIn K (.ref f2)=true)
  {f3:Addr} {od3 an3:Option Addr} {sl3:Array (Option Value)} {oc3 kV3 dc3 pm3 cd3 ct3:Value}
  (a3:W.nsIn K mainGlobals "is_letters" = some (some (.ref f3))) (l3:K.lookup f3=some ⟨oc3,od3,.func (W.fnOf "is_letters" "is_letters" (Zy Wz) (Zx Wz) (Zf Wz) .none kV3 dc3 pm3 an3 cd3 ct3),sl3⟩) (c3:W.codeIn K cd3 "is_letters" = true) (k3:W.keepIn K (.ref f3)=true)
  {f4:Addr} {od4 an4:Option Addr} {sl4:Array (Option Value)} {oc4 kV4 dc4 pm4 cd4 ct4:Value}
  (a4:W.nsIn K mainGlobals "all_there" = some (some (.ref f4))) (l4:K.lookup f4=some ⟨oc4,od4,.func (W.fnOf "all_there" "all_there" (Zy Wq) (Zx Wq) (Zf Wq) .none kV4 dc4 pm4 an4 cd4 ct4),sl4⟩) (c4:W.codeIn K cd4 "all_there" = true) (k4:W.keepIn K (.ref f4)=true)
  {f5:Addr} {od5 an5:Option Addr} {sl5:Array (Option Value)} {oc5 kV5 dc5 pm5 cd5 ct5:Value}
  (a5:W.nsIn K mainGlobals "look_steps" = some (some (.ref f5))) (l5:K.lookup f5=some ⟨oc5,od5,.func (W.fnOf "look_steps" "look_steps" (Zy Wy) (Zx Wy) (Zf Wy) .none kV5 dc5 pm5 an5 cd5 ct5),sl5⟩) (c5:W.codeIn K cd5 "look_steps" = true) (k5:W.keepIn K (.ref f5)=true)
  {f6:Addr} {od6 an6:Option Addr} {sl6:Array (Option Value)} {oc6 kV6 dc6 pm6 cd6 ct6:Value}
  (a6:W.nsIn K mainGlobals "look_machine" = some (some (.ref f6))) (l6:K.lookup f6=some ⟨oc6,od6,.func (W.fnOf "look_machine" "look_machine" (Zy X4) (Zx X4) (Zf X4) .none kV6 dc6 pm6 an6 cd6 ct6),sl6⟩) (c6:W.codeIn K cd6 "look_machine" = true) (k6:W.keepIn K (.ref f6)=true)
  {f7:Addr} {od7 an7:Option Addr} {sl7:Array (Option Value)} {oc7 kV7 dc7 pm7 cd7 ct7:Value}
  (a7:W.nsIn K mainGlobals "room_behind" = some (some (.ref f7))) (l7:K.lookup f7=some ⟨oc7,od7,.func (W.fnOf "room_behind" "room_behind" (Zy Wc) (Zx Wc) (Zf Wc) .none kV7 dc7 pm7 an7 cd7 ct7),sl7⟩) (c7:W.codeIn K cd7 "room_behind" = true) (k7:W.keepIn K (.ref f7)=true)
  {f8:Addr} {od8 an8:Option Addr} {sl8:Array (Option Value)} {oc8 kV8 dc8 pm8 cd8 ct8:Value}
  (a8:W.nsIn K mainGlobals "takes" = some (some (.ref f8))) (l8:K.lookup f8=some ⟨oc8,od8,.func (W.fnOf "takes" "takes" (Zy P1) (Zx P1) (Zf P1) .none kV8 dc8 pm8 an8 cd8 ct8),sl8⟩) (c8:W.codeIn K cd8 "takes" = true) (k8:W.keepIn K (.ref f8)=true)
  {f9:Addr} {od9 an9:Option Addr} {sl9:Array (Option Value)} {oc9 kV9 dc9 pm9 cd9 ct9:Value}
  (a9:W.nsIn K mainGlobals "look_fit" = some (some (.ref f9))) (l9:K.lookup f9=some ⟨oc9,od9,.func (W.fnOf "look_fit" "look_fit" (Zy Vx) (Zx Vx) (Zf Vx) .none kV9 dc9 pm9 an9 cd9 ct9),sl9⟩) (c9:W.codeIn K cd9 "look_fit" = true) (k9:W.keepIn K (.ref f9)=true)
  {f10:Addr} {od10 an10:Option Addr} {sl10:Array (Option Value)} {oc10 kV10 dc10 pm10 Ztb ct10:Value}
  (a10:W.nsIn K mainGlobals "pair_behind" = some (some (.ref f10))) (l10:K.lookup f10=some ⟨oc10,od10,.func (W.fnOf "pair_behind" "pair_behind" (Zy Wd) (Zx Wd) (Zf Wd) .none kV10 dc10 pm10 an10 Ztb ct10),sl10⟩) (c10:W.codeIn K Ztb "pair_behind" = true) (k10:W.keepIn K (.ref f10)=true)
  {f11:Addr} {od11 an11:Option Addr} {sl11:Array (Option Value)} {oc11 kV11 dc11 pm11 Zta ct11:Value}
  (a11:W.nsIn K mainGlobals "walked" = some (some (.ref f11))) (l11:K.lookup f11=some ⟨oc11,od11,.func (W.fnOf "walked" "walked" (Zy Ur) (Zx Ur) (Zf Ur) .none kV11 dc11 pm11 an11 Zta ct11),sl11⟩) (c11:W.codeIn K Zta "walked" = true) (k11:W.keepIn K (.ref f11)=true)
  {f12:Addr} {od12 an12:Option Addr} {sl12:Array (Option Value)} {oc12 kV12 dc12 pm12 Zs9 ct12:Value}
  (a12:W.nsIn K mainGlobals "machine_from" = some (some (.ref f12))) (l12:K.lookup f12=some ⟨oc12,od12,.func (W.fnOf "machine_from" "machine_from" (Zy Y4) (Zx Y4) (Zf Y4) .none kV12 dc12 pm12 an12 Zs9 ct12),sl12⟩) (c12:W.codeIn K Zs9 "machine_from" = true) (k12:W.keepIn K (.ref f12)=true)
  {f13:Addr} {od13 an13:Option Addr} {sl13:Array (Option Value)} {oc13 kV13 dc13 pm13 Zs8 ct13:Value}
  (a13:W.nsIn K mainGlobals "first_like" = some (some (.ref f13))) (l13:K.lookup f13=some ⟨oc13,od13,.func (W.fnOf "first_like" "first_like" (Zy Xt) (Zx Xt) (Zf Xt) .none kV13 dc13 pm13 an13 Zs8 ct13),sl13⟩) (c13:W.codeIn K Zs8 "first_like" = true) (k13:W.keepIn K (.ref f13)=true)
  {f14:Addr} {od14 an14:Option Addr} {sl14:Array (Option Value)} {oc14 kV14 dc14 pm14 Zs7 ct14:Value}
  (a14:W.nsIn K mainGlobals "like_rooms" = some (some (.ref f14))) (l14:K.lookup f14=some ⟨oc14,od14,.func (W.fnOf "like_rooms" "like_rooms" (Zy Xs) (Zx Xs) (Zf Xs) .none kV14 dc14 pm14 an14 Zs7 ct14),sl14⟩) (c14:W.codeIn K Zs7 "like_rooms" = true) (k14:W.keepIn K (.ref f14)=true)
  {f15:Addr} {od15 an15:Option Addr} {sl15:Array (Option Value)} {oc15 kV15 dc15 pm15 Zpy ct15:Value}
  (a15:W.nsIn K mainGlobals "least" = some (some (.ref f15))) (l15:K.lookup f15=some ⟨oc15,od15,.func (W.fnOf "least" "least" (Zy V2) (Zx V2) (Zf V2) .none kV15 dc15 pm15 an15 Zpy ct15),sl15⟩) (c15:W.codeIn K Zpy "least" = true) (k15:W.keepIn K (.ref f15)=true)
  {f16:Addr} {od16 an16:Option Addr} {sl16:Array (Option Value)} {oc16 kV16 dc16 pm16 Zpx ct16:Value}
  (a16:W.nsIn K mainGlobals "parting_text" = some (some (.ref f16))) (l16:K.lookup f16=some ⟨oc16,od16,.func (W.fnOf "parting_text" "parting_text" (Zy Y3) (Zx Y3) (Zf Y3) .none kV16 dc16 pm16 an16 Zpx ct16),sl16⟩) (c16:W.codeIn K Zpx "parting_text" = true) (k16:W.keepIn K (.ref f16)=true)
  {f17:Addr} {od17 an17:Option Addr} {sl17:Array (Option Value)} {oc17 kV17 dc17 pm17 Zs6 ct17:Value}
  (a17:W.nsIn K mainGlobals "show_row" = some (some (.ref f17))) (l17:K.lookup f17=some ⟨oc17,od17,.func (W.fnOf "show_row" "show_row" (Zy W9) (Zx W9) (Zf W9) .none kV17 dc17 pm17 an17 Zs6 ct17),sl17⟩) (c17:W.codeIn K Zs6 "show_row" = true) (k17:W.keepIn K (.ref f17)=true)
  {f18:Addr} {od18 an18:Option Addr} {sl18:Array (Option Value)} {oc18 kV18 dc18 pm18 Zs5 ct18:Value}
  (a18:W.nsIn K mainGlobals "show_machine" = some (some (.ref f18))) (l18:K.lookup f18=some ⟨oc18,od18,.func (W.fnOf "show_machine" "show_machine" (Zy Xj) (Zx Xj) (Zf Xj) .none kV18 dc18 pm18 an18 Zs5 ct18),sl18⟩) (c18:W.codeIn K Zs5 "show_machine" = true) (k18:W.keepIn K (.ref f18)=true)
  {f19:Addr} {od19 an19:Option Addr} {sl19:Array (Option Value)} {oc19 kV19 dc19 pm19 Zs4 ct19:Value}
  (a19:W.nsIn K mainGlobals "is_number" = some (some (.ref f19))) (l19:K.lookup f19=some ⟨oc19,od19,.func (W.fnOf "is_number" "is_number" (Zy Wo) (Zx Wo) (Zf Wo) .none kV19 dc19 pm19 an19 Zs4 ct19),sl19⟩) (c19:W.codeIn K Zs4 "is_number" = true) (k19:W.keepIn K (.ref f19)=true)
  {f20:Addr} {od20 an20:Option Addr} {sl20:Array (Option Value)} {oc20 kV20 dc20 pm20 Zs3 ct20:Value}
  (a20:W.nsIn K mainGlobals "read_letters" = some (some (.ref f20))) (l20:K.lookup f20=some ⟨oc20,od20,.func (W.fnOf "read_letters" "read_letters" (Zy X3) (Zx X3) (Zf X3) .none kV20 dc20 pm20 an20 Zs3 ct20),sl20⟩) (c20:W.codeIn K Zs3 "read_letters" = true) (k20:W.keepIn K (.ref f20)=true)
  {f21:Addr} {od21 an21:Option Addr} {sl21:Array (Option Value)} {oc21 kV21 dc21 pm21 Zs2 ct21:Value}
  (a21:W.nsIn K mainGlobals "read_numbers" = some (some (.ref f21))) (l21:K.lookup f21=some ⟨oc21,od21,.func (W.fnOf "read_numbers" "read_numbers" (Zy Y2) (Zx Y2) (Zf Y2) .none kV21 dc21 pm21 an21 Zs2 ct21),sl21⟩) (c21:W.codeIn K Zs2 "read_numbers" = true) (k21:W.keepIn K (.ref f21)=true)
  {f22:Addr} {od22 an22:Option Addr} {sl22:Array (Option Value)} {oc22 kV22 dc22 pm22 Zs1 ct22:Value}
  (a22:W.nsIn K mainGlobals "read_so_many" = some (some (.ref f22))) (l22:K.lookup f22=some ⟨oc22,od22,.func (W.fnOf "read_so_many" "read_so_many" (Zy X2) (Zx X2) (Zf X2) .none kV22 dc22 pm22 an22 Zs1 ct22),sl22⟩) (c22:W.codeIn K Zs1 "read_so_many" = true) (k22:W.keepIn K (.ref f22)=true)
  {f23:Addr} {od23 an23:Option Addr} {sl23:Array (Option Value)} {oc23 kV23 dc23 pm23 Zs0 ct23:Value}
  (a23:W.nsIn K mainGlobals "read_machine" = some (some (.ref f23))) (l23:K.lookup f23=some ⟨oc23,od23,.func (W.fnOf "read_machine" "read_machine" (Zy Xk) (Zx Xk) (Zf Xk) .none kV23 dc23 pm23 an23 Zs0 ct23),sl23⟩) (c23:W.codeIn K Zs0 "read_machine" = true) (k23:W.keepIn K (.ref f23)=true)
  {f24:Addr} {od24 an24:Option Addr} {sl24:Array (Option Value)} {oc24 kV24 dc24 pm24 Zsz ct24:Value}
  (a24:W.nsIn K mainGlobals "_law_flow" = some (some (.ref f24))) (l24:K.lookup f24=some ⟨oc24,od24,.func (W.fnOf "_law_flow" "_law_flow" (Zy V0) (Zx V0) (Zf V0) .none kV24 dc24 pm24 an24 Zsz ct24),sl24⟩) (c24:W.codeIn K Zsz "_law_flow" = true) (k24:W.keepIn K (.ref f24)=true)
  {f25:Addr} {od25 an25:Option Addr} {sl25:Array (Option Value)} {oc25 kV25 dc25 pm25 Zsy ct25:Value}
  (a25:W.nsIn K mainGlobals "_law_pick" = some (some (.ref f25))) (l25:K.lookup f25=some ⟨oc25,od25,.func (W.fnOf "_law_pick" "_law_pick" (Zy Vz) (Zx Vz) (Zf Vz) .none kV25 dc25 pm25 an25 Zsy ct25),sl25⟩) (c25:W.codeIn K Zsy "_law_pick" = true) (k25:W.keepIn K (.ref f25)=true)
  {f26:Addr} {od26 an26:Option Addr} {sl26:Array (Option Value)} {oc26 kV26 dc26 pm26 Zsx ct26:Value}
  (a26:W.nsIn K mainGlobals "_law_letters" = some (some (.ref f26))) (l26:K.lookup f26=some ⟨oc26,od26,.func (W.fnOf "_law_letters" "_law_letters" (Zy Xw) (Zx Xw) (Zf Xw) .none kV26 dc26 pm26 an26 Zsx ct26),sl26⟩) (c26:W.codeIn K Zsx "_law_letters" = true) (k26:W.keepIn K (.ref f26)=true)
  {f27:Addr} {od27 an27:Option Addr} {sl27:Array (Option Value)} {oc27 kV27 dc27 pm27 Zsw ct27:Value}
  (a27:W.nsIn K mainGlobals "_law_order" = some (some (.ref f27))) (l27:K.lookup f27=some ⟨oc27,od27,.func (W.fnOf "_law_order" "_law_order" (Zy Vc) (Zx Vc) (Zf Vc) .none kV27 dc27 pm27 an27 Zsw ct27),sl27⟩) (c27:W.codeIn K Zsw "_law_order" = true) (k27:W.keepIn K (.ref f27)=true)
  {f28:Addr} {od28 an28:Option Addr} {sl28:Array (Option Value)} {oc28 kV28 dc28 pm28 Zsv ct28:Value}
  (a28:W.nsIn K mainGlobals "_law_all_words" = some (some (.ref f28))) (l28:K.lookup f28=some ⟨oc28,od28,.func (W.fnOf "_law_all_words" "_law_all_words" (Zy Xc) (Zx Xc) (Zf Xc) .none kV28 dc28 pm28 an28 Zsv ct28),sl28⟩) (c28:W.codeIn K Zsv "_law_all_words" = true) (k28:W.keepIn K (.ref f28)=true)
  {f29:Addr} {od29 an29:Option Addr} {sl29:Array (Option Value)} {oc29 kV29 dc29 pm29 Zsu ct29:Value}
  (a29:W.nsIn K mainGlobals "_law_pairs" = some (some (.ref f29))) (l29:K.lookup f29=some ⟨oc29,od29,.func (W.fnOf "_law_pairs" "_law_pairs" (Zy Wn) (Zx Wn) (Zf Wn) .none kV29 dc29 pm29 an29 Zsu ct29),sl29⟩) (c29:W.codeIn K Zsu "_law_pairs" = true) (k29:W.keepIn K (.ref f29)=true)
  {f30:Addr} {od30 an30:Option Addr} {sl30:Array (Option Value)} {oc30 kV30 dc30 pm30 Zst ct30:Value}
  (a30:W.nsIn K mainGlobals "_law_machine" = some (some (.ref f30))) (l30:K.lookup f30=some ⟨oc30,od30,.func (W.fnOf "_law_machine" "_law_machine" (Zy Xf) (Zx Xf) (Zf Xf) .none kV30 dc30 pm30 an30 Zst ct30),sl30⟩) (c30:W.codeIn K Zst "_law_machine" = true) (k30:W.keepIn K (.ref f30)=true)
  {f31:Addr} {od31 an31:Option Addr} {sl31:Array (Option Value)} {oc31 kV31 dc31 pm31 Zss ct31:Value}
  (a31:W.nsIn K mainGlobals "_law_rising_machine" = some (some (.ref f31))) (l31:K.lookup f31=some ⟨oc31,od31,.func (W.fnOf "_law_rising_machine" "_law_rising_machine" (Zy Yk) (Zx Yk) (Zf Yk) .none kV31 dc31 pm31 an31 Zss ct31),sl31⟩) (c31:W.codeIn K Zss "_law_rising_machine" = true) (k31:W.keepIn K (.ref f31)=true)
  {f32:Addr} {od32 an32:Option Addr} {sl32:Array (Option Value)} {oc32 kV32 dc32 pm32 Zsr ct32:Value}
  (a32:W.nsIn K mainGlobals "_law_least" = some (some (.ref f32))) (l32:K.lookup f32=some ⟨oc32,od32,.func (W.fnOf "_law_least" "_law_least" (Zy Y5) (Zx Y5) (Zf Y5) .none kV32 dc32 pm32 an32 Zsr ct32),sl32⟩) (c32:W.codeIn K Zsr "_law_least" = true) (k32:W.keepIn K (.ref f32)=true)
  {f33:Addr} {od33 an33:Option Addr} {sl33:Array (Option Value)} {oc33 kV33 dc33 pm33 Zsq ct33:Value}
  (a33:W.nsIn K mainGlobals "_law_same_otherwise" = some (some (.ref f33))) (l33:K.lookup f33=some ⟨oc33,od33,.func (W.fnOf "_law_same_otherwise" "_law_same_otherwise" (Zy Z4) (Zx Z4) (Zf Z4) .none kV33 dc33 pm33 an33 Zsq ct33),sl33⟩) (c33:W.codeIn K Zsq "_law_same_otherwise" = true) (k33:W.keepIn K (.ref f33)=true)
  {f34:Addr} {od34 an34:Option Addr} {sl34:Array (Option Value)} {oc34 kV34 dc34 pm34 Zsp ct34:Value}
  (a34:W.nsIn K mainGlobals "_law_near" = some (some (.ref f34))) (l34:K.lookup f34=some ⟨oc34,od34,.func (W.fnOf "_law_near" "_law_near" (Zy Va) (Zx Va) (Zf Va) .none kV34 dc34 pm34 an34 Zsp ct34),sl34⟩) (c34:W.codeIn K Zsp "_law_near" = true) (k34:W.keepIn K (.ref f34)=true)
  {f35:Addr} {od35 an35:Option Addr} {sl35:Array (Option Value)} {oc35 kV35 dc35 pm35 Zso ct35:Value}
  (a35:W.nsIn K mainGlobals "_law_some" = some (some (.ref f35))) (l35:K.lookup f35=some ⟨oc35,od35,.func (W.fnOf "_law_some" "_law_some" (Zy Vy) (Zx Vy) (Zf Vy) .none kV35 dc35 pm35 an35 Zso ct35),sl35⟩) (c35:W.codeIn K Zso "_law_some" = true) (k35:W.keepIn K (.ref f35)=true)
  {f36:Addr} {od36 an36:Option Addr} {sl36:Array (Option Value)} {oc36 kV36 dc36 pm36 Zsn ct36:Value}
  (a36:W.nsIn K mainGlobals "_law_parts" = some (some (.ref f36))) (l36:K.lookup f36=some ⟨oc36,od36,.func (W.fnOf "_law_parts" "_law_parts" (Zy Vb) (Zx Vb) (Zf Vb) .none kV36 dc36 pm36 an36 Zsn ct36),sl36⟩) (c36:W.codeIn K Zsn "_law_parts" = true) (k36:W.keepIn K (.ref f36)=true)
  {f37:Addr} {od37 an37:Option Addr} {sl37:Array (Option Value)} {oc37 kV37 dc37 pm37 Zsm ct37:Value}
  (a37:W.nsIn K mainGlobals "_law_first_right" = some (some (.ref f37))) (l37:K.lookup f37=some ⟨oc37,od37,.func (W.fnOf "_law_first_right" "_law_first_right" (Zy Yn) (Zx Yn) (Zf Yn) .none kV37 dc37 pm37 an37 Zsm ct37),sl37⟩) (c37:W.codeIn K Zsm "_law_first_right" = true) (k37:W.keepIn K (.ref f37)=true)
  {f38:Addr} {od38 an38:Option Addr} {sl38:Array (Option Value)} {oc38 kV38 dc38 pm38 Zsl ct38:Value}
  (a38:W.nsIn K mainGlobals "_law_least_right" = some (some (.ref f38))) (l38:K.lookup f38=some ⟨oc38,od38,.func (W.fnOf "_law_least_right" "_law_least_right" (Zy Yu) (Zx Yu) (Zf Yu) .none kV38 dc38 pm38 an38 Zsl ct38),sl38⟩) (c38:W.codeIn K Zsl "_law_least_right" = true) (k38:W.keepIn K (.ref f38)=true)
  {f39:Addr} {od39 Ztd:Option Addr} {sl39:Array (Option Value)} {oc39 Zrk Zsh Zq6 Zpw Zsj:Value}
  (a39:W.nsIn K mainGlobals "law" = some (some (.ref f39))) (l39:K.lookup f39=some ⟨oc39,od39,.func (W.fnOf "law" "law" (Zy N7) (Zx N7) (Zf N7) .none Zrk Zsh Zq6 Ztd Zpw Zsj),sl39⟩) (c39:W.codeIn K Zpw "law" = true) (k39:W.keepIn K (.ref f39)=true)
  (z_all:W.nsIn K mainGlobals "all" = some none)
  (z_any:W.nsIn K mainGlobals "any" = some none)
  (z_enumerate:W.nsIn K mainGlobals "enumerate" = some none)
  (z_int:W.nsIn K mainGlobals "int" = some none)
  (z_isinstance:W.nsIn K mainGlobals "isinstance" = some none)
  (z_len:W.nsIn K mainGlobals "len" = some none)
  (z_list:W.nsIn K mainGlobals "list" = some none)
  (z_max:W.nsIn K mainGlobals "max" = some none)
  (z_min:W.nsIn K mainGlobals "min" = some none)
  (z_range:W.nsIn K mainGlobals "range" = some none)
  (z_set:W.nsIn K mainGlobals "set" = some none)
  (z_sorted:W.nsIn K mainGlobals "sorted" = some none)
  (z_str:W.nsIn K mainGlobals "str" = some none)
  (z_tuple:W.nsIn K mainGlobals "tuple" = some none)
  {Nz:Value} (q_MOST_ROOMS:W.nsIn K mainGlobals "MOST_ROOMS" = some (some Nz)) (r_MOST_ROOMS:RelV (.int 6) Nz)
  {Wl:Value} (q_MOST_FIGURES:W.nsIn K mainGlobals "MOST_FIGURES" = some (some Wl)) (r_MOST_FIGURES:RelV (V.int 3) Wl)
  {Vh:Value} (q_ROWS_AHEAD:W.nsIn K mainGlobals "ROWS_AHEAD" = some (some Vh)) (r_ROWS_AHEAD:RelV (V.int 3) Vh)
  (n0:W.noTabs K=true)
  {C2 Oq:Addr} {Zlx:DefRec} {Zh4:Value} {Zh3:Option Addr} {Zg1:Array (Option Value)} {Bg:Array Value} (y_least:Zpy=.ref C2) (v_least:K.lookup C2=some ⟨Zh4,Zh3,.fields Bg,Zg1⟩) (u_least:Bg[11]? = some (.ref Oq)) (w_least:(recsOf qp).find? (λe=>e.name==Str.ofString "least")=some Zlx)
  {U6 Vn:Addr} {Hv:DefRec} {Kr:Value} {Kq:Option Addr} {Kg:Array (Option Value)} {Rz:Array Value} (y_parting_text:Zpx=.ref U6) (v_parting_text:K.lookup U6=some ⟨Kr,Kq,.fields Rz,Kg⟩) (u_parting_text:Rz[11]? = some (.ref Vn)) (w_parting_text:(recsOf qp).find? (λe=>e.name==Str.ofString "parting_text")=some Hv)
  (x_least_parting_text:Oq≠Vn)
  : W.noTabs K=true∧∃ (fd:FuncData) (tabs:List (Addr × Addr)),W.TabsAt tabs h∧(∀ (s:Shared) (v:Value),BindsTo s fd ⟨[v],[]⟩ [("_law_script",v)])∧∀ base:Heap,K.In base→base.Ns mainGlobals mg→Nw mg base→Yp l.prog w K mg base CX0 7 fa fd ["_law_script"] (Df K tabs):=by
 have e:=hfa.symm.trans (W.mg_of X G a39)
 cases e
 have Ph:=Ye (st:=Vj) l1 c1 k1
 have Zaq:=Ph.binds (ps:=["row"]) λ_ _ _ _ _ _ us hl=>match us,hl with | [_],_=>rfl
 have Aw:=W.mg_of X G a1
 have L5:=Ye (st:=V1) l2 c2 k2
 have Zf9:=L5.binds (ps:=["text"]) λ_ _ _ _ _ _ us hl=>match us,hl with | [_],_=>rfl
 have Zfk:=W.mg_of X G a2
 have Rt:=Ye (st:=Wz) l3 c3 k3
 have C6:=Rt.binds (ps:=["text"]) λ_ _ _ _ _ _ us hl=>match us,hl with | [_],_=>rfl
 have Cb:=W.mg_of X G a3
 have Pq:=Ye (st:=Wq) l4 c4 k4
 have Zaw:=Pq.binds (ps:=["rooms","count"]) λ_ _ _ _ _ _ us hl=>match us,hl with | [_,_],_=>rfl
 have A2:=W.mg_of X G a4
 have Rq:=Ye (st:=Wy) l5 c5 k5
 have C4:=Rq.binds (ps:=["letters","steps"]) λ_ _ _ _ _ _ us hl=>match us,hl with | [_,_],_=>rfl
 have D9:=W.mg_of X G a5
 have Ti:=Ye (st:=X4) l6 c6 k6
 have Gi:=Ti.binds (ps:=["machine"]) λ_ _ _ _ _ _ us hl=>match us,hl with | [_],_=>rfl
 have Hg:=W.mg_of X G a6
 have Se:=Ye (st:=Wc) l7 c7 k7
 have Fe:=Se.binds (ps:=["machine","room","text"]) λ_ _ _ _ _ _ us hl=>match us,hl with | [_,_,_],_=>rfl
 have G1:=W.mg_of X G a7
 have Bd:=Ye (st:=P1) l8 c8 k8
 have Zl1:=Bd.binds (ps:=["machine","text"]) λ_ _ _ _ _ _ us hl=>match us,hl with | [_,_],_=>rfl
 have Zlc:=W.mg_of X G a8
 have Nj:=Ye (st:=Vx) l9 c9 k9
 have Zc1:=Nj.binds (ps:=["one","other"]) λ_ _ _ _ _ _ us hl=>match us,hl with | [_,_],_=>rfl
 have Zb4:=W.mg_of X G a9
 have Sf:=Ye (st:=Wd) l10 c10 k10
 have Ff:=Sf.binds (ps:=["one","other","pair","letter"]) λ_ _ _ _ _ _ us hl=>match us,hl with | [_,_,_,_],_=>rfl
 have G2:=W.mg_of X G a10
 have Pf:=Ye (st:=Ur) l11 c11 k11
 have Zap:=Pf.binds (ps:=["letters","begin","step"]) λ_ _ _ _ _ _ us hl=>match us,hl with | [_,_,_],_=>rfl
 have Av:=W.mg_of X G a11
 have Th:=Ye (st:=Y4) l12 c12 k12
 have Gh:=Th.binds (ps:=["letters","begin","step","is_end"]) λ_ _ _ _ _ _ us hl=>match us,hl with | [_,_,_,_],_=>rfl
 have Hf:=W.mg_of X G a12
 have Ru:=Ye (st:=Xt) l13 c13 k13
 have C7:=Ru.binds (ps:=["rows"]) λ_ _ _ _ _ _ us hl=>match us,hl with | [_],_=>rfl
 have Cc:=W.mg_of X G a13
 have Rr:=Ye (st:=Xs) l14 c14 k14
 have C5:=Rr.binds (ps:=["machine"]) λ_ _ _ _ _ _ us hl=>match us,hl with | [_],_=>rfl
 have Ca:=W.mg_of X G a14
 have Be:=Ye (st:=V2) l15 c15 k15
 have Zl2:=Be.binds (ps:=["machine"]) λ_ _ _ _ _ _ us hl=>match us,hl with | [_],_=>rfl
 have Zd7:=W.mg_of X G a15
 have Tg:=Ye (st:=Y3) l16 c16 k16
 have Gg:=Tg.binds (ps:=["one","other"]) λ_ _ _ _ _ _ us hl=>match us,hl with | [_,_],_=>rfl
 have Qz:=W.mg_of X G a16
 have Ni:=Ye (st:=W9) l17 c17 k17
 have Zc0:=Ni.binds (ps:=["name","numbers"]) λ_ _ _ _ _ _ us hl=>match us,hl with | [_,_],_=>rfl
 have Zb3:=W.mg_of X G a17
 have Ta:=Ye (st:=Xj) l18 c18 k18
 have Ga:=Ta.binds (ps:=["machine"]) λ_ _ _ _ _ _ us hl=>match us,hl with | [_],_=>rfl
 have I0:=W.mg_of X G a18
 have Po:=Ye (st:=Wo) l19 c19 k19
 have Zav:=Po.binds (ps:=["word"]) λ_ _ _ _ _ _ us hl=>match us,hl with | [_],_=>rfl
 have A1:=W.mg_of X G a19
 have Tf:=Ye (st:=X3) l20 c20 k20
 have Gf:=Tf.binds (ps:=["row"]) λ_ _ _ _ _ _ us hl=>match us,hl with | [_],_=>rfl
 have He:=W.mg_of X G a20
 have Td:=Ye (st:=Y2) l21 c21 k21
 have Gd:=Td.binds (ps:=["rows","at","name"]) λ_ _ _ _ _ _ us hl=>match us,hl with | [_,_,_],_=>rfl
 have Hb:=W.mg_of X G a21
 have Tc:=Ye (st:=X2) l22 c22 k22
 have Gb:=Tc.binds (ps:=["rows","at","name","count"]) λ_ _ _ _ _ _ us hl=>match us,hl with | [_,_,_,_],_=>rfl
 have Ha:=W.mg_of X G a22
 have Te:=Ye (st:=Xk) l23 c23 k23
 have Ge:=Te.binds (ps:=["text"]) λ_ _ _ _ _ _ us hl=>match us,hl with | [_],_=>rfl
 have Hc:=W.mg_of X G a23
 have Np:=Ye (st:=V0) l24 c24 k24
 have Zc5:=Np.binds (ps:=["_law_script"]) λ_ _ _ _ _ _ us hl=>match us,hl with | [_],_=>rfl
 have Zb8:=W.mg_of X G a24
 have Nl:=Ye (st:=Vz) l25 c25 k25
 have Zc3:=Nl.binds (ps:=["_law_flow_here","_law_many"]) λ_ _ _ _ _ _ us hl=>match us,hl with | [_,_],_=>rfl
 have Zb6:=W.mg_of X G a25
 have Sh:=Ye (st:=Xw) l26 c26 k26
 have Fh:=Sh.binds (ps:=["_law_flow_here","_law_many"]) λ_ _ _ _ _ _ us hl=>match us,hl with | [_,_],_=>rfl
 have G4:=W.mg_of X G a26
 have Pm:=Ye (st:=Vc) l27 c27 k27
 have Zat:=Pm.binds (ps:=["_law_word"]) λ_ _ _ _ _ _ us hl=>match us,hl with | [_],_=>rfl
 have Az:=W.mg_of X G a27
 have Ud:=Ye (st:=Xc) l28 c28 k28
 have Kz:=Ud.binds (ps:=["_law_letters_here","_law_most"]) λ_ _ _ _ _ _ us hl=>match us,hl with | [_,_],_=>rfl
 have Ku:=W.mg_of X G a28
 have Pk:=Ye (st:=Wn) l29 c29 k29
 have Zas:=Pk.binds (ps:=["_law_words","_law_letters_here"]) λ_ _ _ _ _ _ us hl=>match us,hl with | [_,_],_=>rfl
 have Ay:=W.mg_of X G a29
 have Sg:=Ye (st:=Xf) l30 c30 k30
 have Fg:=Sg.binds (ps:=["_law_flow_here","_law_letters_here","_law_most"]) λ_ _ _ _ _ _ us hl=>match us,hl with | [_,_,_],_=>rfl
 have G3:=W.mg_of X G a30
 have Wu:=Ye (st:=Yk) l31 c31 k31
 have Pd:=Wu.binds (ps:=["_law_flow_here","_law_letters_here","_law_most"]) λ_ _ _ _ _ _ us hl=>match us,hl with | [_,_,_],_=>rfl
 have Q4:=W.mg_of X G a31
 have Pn:=Ye (st:=Y5) l32 c32 k32
 have Zau:=Pn.binds (ps:=["_law_machine_here"]) λ_ _ _ _ _ _ us hl=>match us,hl with | [_],_=>rfl
 have A0:=W.mg_of X G a32
 have Wt:=Ye (st:=Z4) l33 c33 k33
 have Pc:=Wt.binds (ps:=["_law_flow_here","_law_machine_here","_law_most"]) λ_ _ _ _ _ _ us hl=>match us,hl with | [_,_,_],_=>rfl
 have Q3:=W.mg_of X G a33
 have Nn:=Ye (st:=Va) l34 c34 k34
 have Zc4:=Nn.binds (ps:=["_law_flow_here","_law_machine_here"]) λ_ _ _ _ _ _ us hl=>match us,hl with | [_,_],_=>rfl
 have Zb7:=W.mg_of X G a34
 have Nk:=Ye (st:=Vy) l35 c35 k35
 have Zc2:=Nk.binds (ps:=["_law_flow_here"]) λ_ _ _ _ _ _ us hl=>match us,hl with | [_],_=>rfl
 have Zb5:=W.mg_of X G a35
 have Pj:=Ye (st:=Vb) l36 c36 k36
 have Zar:=Pj.binds (ps:=["_law_one","_law_other","_law_text"]) λ_ _ _ _ _ _ us hl=>match us,hl with | [_,_,_],_=>rfl
 have Ax:=W.mg_of X G a36
 have Vp:=Ye (st:=Yn) l37 c37 k37
 have M0:=Vp.binds (ps:=["_law_one","_law_other","_law_text"]) λ_ _ _ _ _ _ us hl=>match us,hl with | [_,_,_],_=>rfl
 have Ml:=W.mg_of X G a37
 have Vo:=Ye (st:=Yu) l38 c38 k38
 have Mz:=Vo.binds (ps:=["_law_machine_here"]) λ_ _ _ _ _ _ us hl=>match us,hl with | [_],_=>rfl
 have Mk:=W.mg_of X G a38
 have Zng:=Ye (st:=N7) l39 c39 k39
 have b_law:=Zng.binds (ps:=["_law_script"]) λ_ _ _ _ _ _ us hl=>match us,hl with | [_],_=>rfl
 have m_law:=W.mg_of X G a39
 have Rn:=W.mg_of X G q_MOST_ROOMS
 have U7:=W.mg_of X G q_MOST_FIGURES
 have Uj:=W.mg_of X G q_ROWS_AHEAD
 have Z:Blt mg:=⟨W.mg_none_of X G z_all,W.mg_none_of X G z_any,W.mg_none_of X G z_enumerate,W.mg_none_of X G z_int,W.mg_none_of X G z_isinstance,W.mg_none_of X G z_len,W.mg_none_of X G z_list,W.mg_none_of X G z_max,W.mg_none_of X G z_min,W.mg_none_of X G z_range,W.mg_none_of X G z_set,W.mg_none_of X G z_sorted,W.mg_none_of X G z_str,W.mg_none_of X G z_tuple⟩
 have Zde:=Bk a15 l15 y_least v_least u_least
 have Zaz:=TT _ _ _ _ w_least Zde
 have Qe:=Bk a16 l16 y_parting_text v_parting_text u_parting_text
 have R6:=TT _ _ _ _ w_parting_text Qe
 refine ⟨n0,W.fnOf "law" "law" (Zy N7) (Zx N7) (Zf N7) .none Zrk Zsh Zq6 Ztd Zpw Zsj,[(C2,Oq),(U6,Vn)],?_,λs v=>.of_eq rfl,λbase BX BG BM=>?_⟩
 ·exact List.forall_mem_cons.mpr ⟨Zaz,List.forall_mem_cons.mpr ⟨R6,λ_ h=>nomatch h⟩⟩
 have Zj9:=Zei Zaz.1 X BX v_least
 have Zlp:=W.law_code X G Zde Zd7 (X _ _ l15) rfl
 have K0:=Zei R6.1 X BX v_parting_text
 have Hq:=W.law_code X G Qe Qz (X _ _ l16) rfl
 have Zr:Cal l.prog w K mg base "_law_pick" 1 _ Qh:=⟨_,_,Al Nl Z,Zb6,Nl.kp,Zc3⟩
 have Nv:Cal l.prog w K mg base "_law_flow" 1 _ (Zbg K):=⟨_,_,An Np Z,Zb8,Np.kp,Zc5⟩
 have Si:Cal l.prog w K mg base "_law_letters" 2 _ Lb:=⟨_,_,Ii Sh Z Zr,G4,Sh.kp,Fh⟩
 have Wg:Cal l.prog w K mg base "_law_machine" 2 _ Vw:=⟨_,_,Ih Sg Z Zr,G3,Sg.kp,Fg⟩
 have Ww:Cal l.prog w K mg base "_law_rising_machine" 2 _ Vw:=⟨_,_,Qb Wu Z Zr,Q4,Wu.kp,Pd⟩
 have Nr:Cal l.prog w K mg base "_law_some" 3 _ Zbd:=⟨_,_,Ak Nk Z Zr Si Wg Ww,Zb5,Nk.kp,Zc2⟩
 have Py:Cal l.prog w K mg base "_law_least" 1 _ Jz:=⟨_,_,Dz Pn Z,A0,Pn.kp,Zau⟩
 have Wv:Cal l.prog w K mg base "_law_same_otherwise" 2 _ E9:=⟨_,_,Qa Wt Z Zr,Q3,Wt.kp,Pc⟩
 have Nu:Cal l.prog w K mg base "_law_near" 3 _ Zbe:=⟨_,_,Am Nn Z Zr Wg Py Wv,Zb7,Nn.kp,Zc4⟩
 have CR:∀ base,Cal l.prog w K mg base "room_behind" 1 _ Jt:=λbase=>⟨_,_,Ie Se Z,G1,Se.kp,Fe⟩
 have CB:∀ base,Cal l.prog w K mg base "pair_behind" 2 _ E8:=λbase=>⟨_,_,Ig Sf Z (CR base),G2,Sf.kp,Ff⟩
 have Uk:Cal l.prog w K mg base "first_like" 1 _ Zn2:=⟨_,_,Gx Ru Z,Cc,Ru.kp,C7⟩
 have Rw:Cal l.prog w K mg base "like_rooms" 2 _ Zbf:=⟨_,_,Gv Rr Z Uk,Ca,Rr.kp,C5⟩
 have CM:∀ base,Cal l.prog w K mg base "machine_from" 4 _ (Zn1 l.prog w K mg base 2):=λbase=>
  have Pu:Cal l.prog w K mg base "walked" 3 _ (Zn0 l.prog w K mg base 2):=⟨_,_,Zfh Pf Z,Av,Pf.kp,Zap⟩
  ⟨_,_,Ko Th Z Pu,Hf,Th.kp,Gh⟩
 have CW:∀ base,Cal l.prog w K mg base "walked" 4 _ (Zgx l.prog w K mg base 3):=λbase=>⟨_,_,Zbr Pf Z,Av,Pf.kp,Zap⟩
 have M5:Cal l.prog w K mg base "least" 5 _ (De Oq):=⟨_,_,Zh2 Be Z Zlp Zj9 BM Rw CM CR,Zd7,Be.kp,Zl2⟩
 have Rx:Cal l.prog w K mg base "least" 5 _ (N3 Oq):=⟨_,_,M5.ok.imp Zce,M5.at_,M5.kp,M5.b⟩
 have Nq:Cal l.prog w K mg base "look_fit" 1 _ Zg0:=⟨_,_,Aj Nj Z,Zb4,Nj.kp,Zc1⟩
 have Tr:Cal l.prog w K mg base "parting_text" 5 _ (E6 Vn):=⟨_,_,Kn Tg Z Hq K0 BM Nq CW CB,Qz,Tg.kp,Gg⟩
 have Jh:Cal l.prog w K mg base "takes" 2 _ E2:=⟨_,_,Zh1 Bd Z (CR base),Zlc,Bd.kp,Zl1⟩
 have Ua:Cal l.prog w K mg base "rising" 1 _ N0:=⟨_,_,Zfi Ph Z,Aw,Ph.kp,Zaq⟩
 have Uo:Cal l.prog w K mg base "is_word" 1 _ N4:=⟨_,_,Zbt L5 Z,Zfk,L5.kp,Zf9⟩
 have Tn:Cal l.prog w K mg base "show_row" 1 _ M9:=⟨_,_,Ai Ni Z,Zb3,Ni.kp,Zc0⟩
 have To:Cal l.prog w K mg base "show_machine" 2 _ E3:=⟨_,_,Ki Ta Z Tn,I0,Ta.kp,Ga⟩
 have Pz:Cal l.prog w K mg base "is_number" 1 _ O2:=⟨_,_,D3 Po Z U7 r_MOST_FIGURES,A1,Po.kp,Zav⟩
 have Tq:Cal l.prog w K mg base "read_letters" 2 _ E5:=⟨_,_,Km Tf Z Uo Ua,He,Tf.kp,Gf⟩
 have X7:Cal l.prog w K mg base "read_numbers" 2 _ K3:=⟨_,_,Kk Td Z Pz,Hb,Td.kp,Gd⟩
 have Vq:Cal l.prog w K mg base "read_so_many" 3 _ Jv:=⟨_,_,Kj Tc Z X7,Ha,Tc.kp,Gb⟩
 have Tp:Cal l.prog w K mg base "read_machine" 4 _ E4:=⟨_,_,Kl Te Z Uj r_ROWS_AHEAD Tq Vq X7,Hc,Te.kp,Ge⟩
 have Zgg:Cal l.prog w K mg base "rising" 1 _ La:=⟨_,_,Zbs Ph Z,Aw,Ph.kp,Zaq⟩
 have Ry:Cal l.prog w K mg base "is_letters" 2 _ Qi:=⟨_,_,Gw Rt Z Uo Ua,Cb,Rt.kp,C6⟩
 have Ve:Cal l.prog w K mg base "all_there" 1 _ K2:=⟨_,_,D4 Pq Z ,A2,Pq.kp,Zaw⟩
 have Rv:Cal l.prog w K mg base "look_steps" 3 _ Jr:=⟨_,_,Gu Rq Z Ve,D9,Rq.kp,C4⟩
 have Ts:Cal l.prog w K mg base "look_machine" 4 _ Dd:=⟨_,_,Kp Ti Z Rn r_MOST_ROOMS Ve Zgg Ry Rv,Hg,Ti.kp,Gi⟩
 have Px:Cal l.prog w K mg base "_law_pairs" 1 _ E7:=⟨_,_,Dx Pk Z ,Ay,Pk.kp,Zas⟩
 have Xp:Cal l.prog w K mg base "_law_all_words" 2 _ Dg:=⟨_,_,Lh Ud Z Px,Ku,Ud.kp,Kz⟩
 have Tw:Cal l.prog w K mg base "_law_order" 1 _ Dc:=⟨_,_,Dy Pm Z ,Az,Pm.kp,Zat⟩
 have Wx:Cal l.prog w K mg base "_law_parts" 3 _ K4:=⟨_,_,Dw Pj Z Jh,Ax,Pj.kp,Zar⟩
 have Vr:Cal l.prog w K mg base "_law_first_right" 4 _ J1:=⟨_,_,O7 Vp Z Wx Xp Tw,Ml,Vp.kp,M0⟩
 have Wj:Cal l.prog w K mg base "_law_least_right" 6 _ (Jy Oq):=⟨_,_,O6 Vo Z Rx Ts To Tp Wx Xp,Mk,Vo.kp,Mz⟩
 exact Zom x_least_parting_text Zng Z Nv Nr Nu Rx Tr Vr Wj
theorem walk {l:W.OpenLaw} {q:Program} {loose:List Str} {XP:(Str→Option Value)→Heap→Prop} {YP:World→Heap→Prop} {d:DefRec} {K:Params→W.Frag} (hn:l.most=some 63) (hdf:d.params.defaults=[])
  (hY:∀ (w:World) (h:Heap),YP w h→(K w.params).In h)
  (F:∀ (w:World) (mg:Str→Option Value) (fa:Addr) (h:Heap),(K w.params).In h→h.Ns mainGlobals mg→mg d.name=some (.ref fa)→Zc7 q (K w.params) h→
   W.noTabs (K w.params)=true∧∃ (fd:FuncData) (tabs:List (Addr × Addr)),W.TabsAt tabs h∧(∀ (s:Shared) (u:Value),BindsTo s fd ⟨[u],[]⟩ [("_law_script",u)])∧∀ base:Heap,(K w.params).In base→base.Ns mainGlobals mg→Nw mg base→Yp l.prog w (K w.params) mg base CX0 7 fa fd ["_law_script"] (Df (K w.params) tabs)) :
  W.WalkO q loose XP YP l.row.toRowW d [] (λf vs=>PySem.call f vs):=
 L2.Zgk (n:=63) (k:=7) (x:="_law_script") (CX:=λ_=>CX0) (sp:=λw tabs=>Df (K w.params) tabs) hn (by decide) hdf ⟨rfl,by decide,by decide⟩ hY F (λ_ _ _ a ns hl hT hS=>⟨a,ns,rfl,hS,hl,hT,λ_=>rfl⟩) λ_ _ _ _ _ z=>z
end My
open PySem PySem.W PyProof.Rows
def PySem.W.Fast.tw10201077138365671209:Nat:=0
def PySem.W.Fast.tw13794445763110438817:Nat:=0
def PySem.W.Fast.tw14032004583450024413:Nat:=0
def PySem.W.Fast.tw11470794818103533983:Nat:=0
def PySem.W.Fast.tw6157966906995053910:Nat:=0
def PySem.W.Fast.tw1793376188678838589:Nat:=0
def PySem.W.Fast.tw5906859668133684339:Nat:=0
def PySem.W.Fast.tw15597031768840245316:Nat:=0
def PySem.W.Fast.tw7733143359107261340:Nat:=0
def PySem.W.Fast.tw16076786358016846279:Nat:=0
def PySem.W.Fast.tw14381378209187203664:Nat:=0
def PySem.W.Fast.tw17283059279619031682:Nat:=0
def PySem.W.Fast.tw13536468530469198961:Nat:=0
def PySem.W.Fast.tw8309727282041174514:Nat:=0
def PySem.W.Fast.tw1692337065572010601:Nat:=0
def PySem.W.Fast.tw4671882616300923633:Nat:=0
def PySem.W.Fast.tw18280736683487716722:Nat:=0
def PySem.W.Fast.tw9422685645735877678:Nat:=0
def PySem.W.Fast.tw3895897328972620659:Nat:=0
def PySem.W.Fast.tw9670052421133715269:Nat:=0
def PySem.W.Fast.tw12902463850085142149:Nat:=0
def PySem.W.Fast.tw507582395665280098:Nat:=0
def PySem.W.Fast.tw9208630699340940773:Nat:=0
def PySem.W.Fast.tw7207538965710148480:Nat:=0
def PySem.W.Fast.tw8670120192400713860:Nat:=0
def PySem.W.Fast.tw14038037455533723692:Nat:=0
def PySem.W.Fast.tw13330486482095386977:Nat:=0
def PySem.W.Fast.tw9482395139876329597:Nat:=0
def PySem.W.Fast.tw9516698164386296661:Nat:=0
def PySem.W.Fast.tw14259969303546892215:Nat:=0
def PySem.W.Fast.tw18420572896946181308:Nat:=0
def PySem.W.Fast.tw4472680906199634751:Nat:=0
def PySem.W.Fast.tw1728421804283265517:Nat:=0
def PySem.W.Fast.tw13903591346269624576:Nat:=0
def PySem.W.Fast.tw13709298967715137393:Nat:=0
def PySem.W.Fast.tw616649006511630562:Nat:=0
def PySem.W.Fast.tw2003737502931602134:Nat:=0
def PySem.W.Fast.tw4382963140985755520:Nat:=0
def PySem.W.Fast.tw5362458890737977532:Nat:=0
def PySem.W.Fast.tw11511005593613279213:Nat:=0
def PySem.W.Fast.tw5893617087347958479:Nat:=0
def PySem.W.Fast.tw588219477191912398:Nat:=0
def PySem.W.Fast.tw2181683751127817634:Nat:=0
def PySem.W.Fast.tw8152950876496497696:Nat:=0
def PySem.W.Fast.tw3159967478486798356:Nat:=0
set_option maxRecDepth 100000 in
set_option maxHeartbeats 0 in
theorem PySem.Challenge.cw_spreadwords_k22_whole_same_machines_holds : PySem.Challenge.rw_spreadwords_k22_whole_same_machines.Holds := by
 w_on; o_law; k_head; (case hw=>w_witness2)
 k_fill
 refine My.walk (l:=PySem.Challenge.rw_spreadwords_k22_whole_same_machines) rfl rfl (fun w h Y=>PySem.W.km_in_of Y) ?F
 case F=>
  intro w mg fa h KX G hmg TT
  refine' My.all_mk KX G hmg TT ?a1 ?l1 ?c1 ?k1 ?a2 ?l2 ?c2 ?k2 ?a3 ?l3 ?c3 ?k3 ?a4 ?l4 ?c4 ?k4 ?a5 ?l5 ?c5 ?k5 ?a6 ?l6 ?c6 ?k6 ?a7 ?l7 ?c7 ?k7 ?a8 ?l8 ?c8 ?k8 ?a9 ?l9 ?c9 ?k9 ?a10 ?l10 ?c10 ?k10 ?a11 ?l11 ?c11 ?k11 ?a12 ?l12 ?c12 ?k12 ?a13 ?l13 ?c13 ?k13 ?a14 ?l14 ?c14 ?k14 ?a15 ?l15 ?c15 ?k15 ?a16 ?l16 ?c16 ?k16 ?a17 ?l17 ?c17 ?k17 ?a18 ?l18 ?c18 ?k18 ?a19 ?l19 ?c19 ?k19 ?a20 ?l20 ?c20 ?k20 ?a21 ?l21 ?c21 ?k21 ?a22 ?l22 ?c22 ?k22 ?a23 ?l23 ?c23 ?k23 ?a24 ?l24 ?c24 ?k24 ?a25 ?l25 ?c25 ?k25 ?a26 ?l26 ?c26 ?k26 ?a27 ?l27 ?c27 ?k27 ?a28 ?l28 ?c28 ?k28 ?a29 ?l29 ?c29 ?k29 ?a30 ?l30 ?c30 ?k30 ?a31 ?l31 ?c31 ?k31 ?a32 ?l32 ?c32 ?k32 ?a33 ?l33 ?c33 ?k33 ?a34 ?l34 ?c34 ?k34 ?a35 ?l35 ?c35 ?k35 ?a36 ?l36 ?c36 ?k36 ?a37 ?l37 ?c37 ?k37 ?a38 ?l38 ?c38 ?k38 ?a39 ?l39 ?c39 ?k39 ?z_all ?z_any ?z_enumerate ?z_int ?z_isinstance ?z_len ?z_list ?z_max ?z_min ?z_range ?z_set ?z_sorted ?z_str ?z_tuple ?q_MOST_ROOMS ?r_MOST_ROOMS ?q_MOST_FIGURES ?r_MOST_FIGURES ?q_ROWS_AHEAD ?r_ROWS_AHEAD ?n0 ?y_least ?v_least ?u_least ?w_least ?y_parting_text ?v_parting_text ?u_parting_text ?w_parting_text ?x_least_parting_text
  (case a1=>k_is)
  (case l1=>k_is)
  (case c1=>k_is)
  (case k1=>k_is)
  (case a2=>k_is)
  (case l2=>k_is)
  (case c2=>k_is)
  (case k2=>k_is)
  (case a3=>k_is)
  (case l3=>k_is)
  (case c3=>k_is)
  (case k3=>k_is)
  (case a4=>k_is)
  (case l4=>k_is)
  (case c4=>k_is)
  (case k4=>k_is)
  (case a5=>k_is)
  (case l5=>k_is)
  (case c5=>k_is)
  (case k5=>k_is)
  (case a6=>k_is)
  (case l6=>k_is)
  (case c6=>k_is)
  (case k6=>k_is)
  (case a7=>k_is)
  (case l7=>k_is)
  (case c7=>k_is)
  (case k7=>k_is)
  (case a8=>k_is)
  (case l8=>k_is)
  (case c8=>k_is)
  (case k8=>k_is)
  (case a9=>k_is)
  (case l9=>k_is)
  (case c9=>k_is)
  (case k9=>k_is)
  (case a10=>k_is)
  (case l10=>k_is)
  (case c10=>k_is)
  (case k10=>k_is)
  (case a11=>k_is)
  (case l11=>k_is)
  (case c11=>k_is)
  (case k11=>k_is)
  (case a12=>k_is)
  (case l12=>k_is)
  (case c12=>k_is)
  (case k12=>k_is)
  (case a13=>k_is)
  (case l13=>k_is)
  (case c13=>k_is)
  (case k13=>k_is)
  (case a14=>k_is)
  (case l14=>k_is)
  (case c14=>k_is)
  (case k14=>k_is)
  (case a15=>k_is)
  (case l15=>k_is)
  (case c15=>k_is)
  (case k15=>k_is)
  (case a16=>k_is)
  (case l16=>k_is)
  (case c16=>k_is)
  (case k16=>k_is)
  (case a17=>k_is)
  (case l17=>k_is)
  (case c17=>k_is)
  (case k17=>k_is)
  (case a18=>k_is)
  (case l18=>k_is)
  (case c18=>k_is)
  (case k18=>k_is)
  (case a19=>k_is)
  (case l19=>k_is)
  (case c19=>k_is)
  (case k19=>k_is)
  (case a20=>k_is)
  (case l20=>k_is)
  (case c20=>k_is)
  (case k20=>k_is)
  (case a21=>k_is)
  (case l21=>k_is)
  (case c21=>k_is)
  (case k21=>k_is)
  (case a22=>k_is)
  (case l22=>k_is)
  (case c22=>k_is)
  (case k22=>k_is)
  (case a23=>k_is)
  (case l23=>k_is)
  (case c23=>k_is)
  (case k23=>k_is)
  (case a24=>k_is)
  (case l24=>k_is)
  (case c24=>k_is)
  (case k24=>k_is)
  (case a25=>k_is)
  (case l25=>k_is)
  (case c25=>k_is)
  (case k25=>k_is)
  (case a26=>k_is)
  (case l26=>k_is)
  (case c26=>k_is)
  (case k26=>k_is)
  (case a27=>k_is)
  (case l27=>k_is)
  (case c27=>k_is)
  (case k27=>k_is)
  (case a28=>k_is)
  (case l28=>k_is)
  (case c28=>k_is)
  (case k28=>k_is)
  (case a29=>k_is)
  (case l29=>k_is)
  (case c29=>k_is)
  (case k29=>k_is)
  (case a30=>k_is)
  (case l30=>k_is)
  (case c30=>k_is)
  (case k30=>k_is)
  (case a31=>k_is)
  (case l31=>k_is)
  (case c31=>k_is)
  (case k31=>k_is)
  (case a32=>k_is)
  (case l32=>k_is)
  (case c32=>k_is)
  (case k32=>k_is)
  (case a33=>k_is)
  (case l33=>k_is)
  (case c33=>k_is)
  (case k33=>k_is)
  (case a34=>k_is)
  (case l34=>k_is)
  (case c34=>k_is)
  (case k34=>k_is)
  (case a35=>k_is)
  (case l35=>k_is)
  (case c35=>k_is)
  (case k35=>k_is)
  (case a36=>k_is)
  (case l36=>k_is)
  (case c36=>k_is)
  (case k36=>k_is)
  (case a37=>k_is)
  (case l37=>k_is)
  (case c37=>k_is)
  (case k37=>k_is)
  (case a38=>k_is)
  (case l38=>k_is)
  (case c38=>k_is)
  (case k38=>k_is)
  (case a39=>k_is)
  (case l39=>k_is)
  (case c39=>k_is)
  (case k39=>k_is)
  (case z_all=>k_is)
  (case z_any=>k_is)
  (case z_enumerate=>k_is)
  (case z_int=>k_is)
  (case z_isinstance=>k_is)
  (case z_len=>k_is)
  (case z_list=>k_is)
  (case z_max=>k_is)
  (case z_min=>k_is)
  (case z_range=>k_is)
  (case z_set=>k_is)
  (case z_sorted=>k_is)
  (case z_str=>k_is)
  (case z_tuple=>k_is)
  (case q_MOST_ROOMS=>k_is)
  (case r_MOST_ROOMS=>exact ⟨_,rfl⟩)
  (case q_MOST_FIGURES=>k_is)
  (case r_MOST_FIGURES=>exact ⟨_,rfl⟩)
  (case q_ROWS_AHEAD=>k_is)
  (case r_ROWS_AHEAD=>exact ⟨_,rfl⟩)
  (case n0=>kernel_rfl)
  (case y_least=>exact rfl)
  (case v_least=>k_is)
  (case u_least=>exact rfl)
  (case w_least=>exact rfl)
  (case y_parting_text=>exact rfl)
  (case v_parting_text=>k_is)
  (case u_parting_text=>exact rfl)
  (case w_parting_text=>exact rfl)
  (case x_least_parting_text=>decide)
